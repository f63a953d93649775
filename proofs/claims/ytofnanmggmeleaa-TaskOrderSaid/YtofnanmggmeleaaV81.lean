/-
  The parts that the statement needs, 1 of 2.
-/
import Derived.Test.YtofnanmggmeleaaEnv
import Derived.Test.YtofnanmggmeleaaEvY
import Derived.Test.YtofnanmggmeleaaKit
namespace Go.Ev
open Go.Proofs
set_option linter.unusedVariables false
set_option linter.unusedSimpArgs false
set_option maxRecDepth 100000
theorem SH : type_of% (And.intro @lim64 (And.intro @imp_false (And.intro @decide_eq_true_eq (And.intro @decide_eq_false_iff_not (And.intro @Int.toNat_natCast (And.intro @toNat_pred (And.intro @toNat_succ (And.intro @Option.getD_some.{0} (And.intro @Option.getD_none.{0} (And.intro @Bool.not_eq_true' (And.intro @Bool.not_eq_false' (And.intro @Bool.and_eq_true (And.intro @Bool.or_eq_true (And.intro @Bool.and_eq_false_iff (And.intro @Bool.or_eq_false_iff (And.intro @bne_iff_ne.{0} (And.intro @beq_iff_eq.{0} (And.intro @bne_eq_false_iff_eq.{0} (And.intro @beq_eq_false_iff_ne.{0} (And.intro @ne_eq.{1} (And.intro @not_and (And.intro @Int.not_le (And.intro @Int.not_lt (And.intro @ge_iff_le.{0} (And.intro @gt_iff_lt.{0} (And.intro @Nat.not_lt (And.intro @Nat.not_le (And.intro @Bool.not_eq_true (And.intro @Bool.not_eq_false (And.intro @Bool.true_eq_false (And.intro @Bool.false_eq_true (And.intro @not_false_eq_true @not_true_eq_false)))))))))))))))))))))))))))))))) :=
  (And.intro @lim64 (And.intro @imp_false (And.intro @decide_eq_true_eq (And.intro @decide_eq_false_iff_not (And.intro @Int.toNat_natCast (And.intro @toNat_pred (And.intro @toNat_succ (And.intro @Option.getD_some.{0} (And.intro @Option.getD_none.{0} (And.intro @Bool.not_eq_true' (And.intro @Bool.not_eq_false' (And.intro @Bool.and_eq_true (And.intro @Bool.or_eq_true (And.intro @Bool.and_eq_false_iff (And.intro @Bool.or_eq_false_iff (And.intro @bne_iff_ne.{0} (And.intro @beq_iff_eq.{0} (And.intro @bne_eq_false_iff_eq.{0} (And.intro @beq_eq_false_iff_ne.{0} (And.intro @ne_eq.{1} (And.intro @not_and (And.intro @Int.not_le (And.intro @Int.not_lt (And.intro @ge_iff_le.{0} (And.intro @gt_iff_lt.{0} (And.intro @Nat.not_lt (And.intro @Nat.not_le (And.intro @Bool.not_eq_true (And.intro @Bool.not_eq_false (And.intro @Bool.true_eq_false (And.intro @Bool.false_eq_true (And.intro @not_false_eq_true @not_true_eq_false))))))))))))))))))))))))))))))))
abbrev FS (t : Nat → Int) (a : Nat) : Nat → Int := fun j => t (j + a)
abbrev CB (m : Nat) (t : Nat → Int) : Blk := .cols m [.int .i64 t]
abbrev CI (L : List Int) : Blk := .cols L.length [.int .i64 fun j => S.at' L j]
abbrev HB (P : Program) (f : Nat) : Prop := ∃ F, P.funcs[f]? = some F ∧ F.body.isSome = true ∧ (F.name == "runtime.NumGoroutine") = false
abbrev TT := Bool → Prop → Prop → Prop
abbrev NI := Nat → Int
namespace S
def idx (p : Nat → Bool) : Nat → Nat → Int
  | _, 0 => -1
  | i, k + 1 => if p i = true then i else idx p (i + 1) k
def any (p : Nat → Bool) (n : Nat) : Bool := (List.range n).any p
end S
theorem any_iff  {p : Nat → Bool} {n : Nat} : S.any p n = true ↔ ∃ j, j < n ∧ p j = true := by simp [S.any]
theorem idx_ge  {p : Nat → Bool} : ∀ {k i : Nat}, S.idx p i k = -1 ∨ ((i : Int) ≤ S.idx p i k ∧ S.idx p i k < i + k)
  | 0, i => .inl rfl
  | k + 1, i => by
    simp only [S.idx]
    split
    · exact .inr ⟨by omega, by omega⟩
    · rcases idx_ge (p := p) (k := k) (i := i + 1) with h | h
      · exact .inl h
      · exact .inr ⟨by omega, by omega⟩
theorem idx_no  {p : Nat → Bool} : ∀ {k i : Nat}, S.idx p i k = -1 ↔ ∀ j, i ≤ j → j < i + k → p j = false
  | 0, i => ⟨fun _ j h1 h2 => by omega, fun _ => rfl⟩
  | k + 1, i => by
    simp only [S.idx]
    split
    · rename_i h
      exact ⟨fun e => by omega, fun e => by rw [e i (Nat.le_refl _) (by omega)] at h; cases h⟩
    · rename_i h
      rw [idx_no]
      constructor
      · intro e j h1 h2
        by_cases hj : j = i
        · subst hj; simpa using h
        · exact e j (by omega) (by omega)
      · exact fun e j h1 h2 => e j (by omega) (by omega)
theorem idx_any  {p : Nat → Bool} {n : Nat} : decide (S.idx p 0 n ≥ 0) = S.any p n := by
  rw [Bool.eq_iff_iff, decide_eq_true_eq, any_iff]
  constructor
  · intro h
    by_cases hn : S.idx p 0 n = -1
    · omega
    · rw [idx_no] at hn
      simp only [Classical.not_forall] at hn
      obtain ⟨j, _, h2, h3⟩ := hn
      exact ⟨j, by omega, by simpa using h3⟩
  · rintro ⟨j, h1, h2⟩
    rcases idx_ge (p := p) (k := n) (i := 0) with h | h
    · rw [idx_no] at h
      rw [h j (by omega) (by omega)] at h2; cases h2
    · omega
theorem idx_congr  {p q : Nat → Bool} : ∀ {k i : Nat}, (∀ j, i ≤ j → j < i + k → p j = q j) → S.idx p i k = S.idx q i k
  | 0, i, _ => rfl
  | k + 1, i, h => by
    simp only [S.idx, h i (Nat.le_refl _) (by omega)]
    rw [idx_congr fun j h1 h2 => h j (by omega) (by omega)]
theorem nbeq_no  {i j : Nat} (h : j ≠ i) : Nat.beq j i = false := by
  cases hb : Nat.beq j i
  · rfl
  · exact absurd (Nat.eq_of_beq_eq_true hb) h
inductive St66 where
  | h0 (x0 : Int)
abbrev Rt66  := Int
noncomputable def V66 (al nl ml : Nat) (tl : Nat → ByteArray) (vl gl wl : NI) (tr : ByteArray) (vr gr wr : Int) (r : Rt66) : PV := PV.int .i64 r
noncomputable def N66 (al nl ml : Nat) (tl : Nat → ByteArray) (vl gl wl : NI) (tr : ByteArray) (vr gr wr : Int) (r : Rt66) : List Blk := []
noncomputable def I66 (al nl ml : Nat) (tl : Nat → ByteArray) (vl gl wl : NI) (tr : ByteArray) (vr gr wr : Int) : St66 → Hd
  | .h0 x0 => ⟨hd Try.f66 0, [PV.loose (PA.mk (0) (4) al (0)) nl,
 PV.fn (Go.Fn.func (47)) [] [PV.ptr (PA.mk (1) (0) (0) (0))],
 PV.int .i64 (↑nl : Int), PV.int .i64 x0], [[], [(0, (false, .cols ml [.str tl, .int .i64 vl, .int .i64 gl, .int .i64 wl])), (1, (false, .cells [.str tr, .int .i64 vr, .int .i64 gr, .int .i64 wr]))]], 2⟩
noncomputable def q66 (al nl ml : Nat) (tl : Nat → ByteArray) (vl gl wl : NI) (tr : ByteArray) (vr gr wr : Int) : St66 → Option (St66 ⊕ Rt66) | .h0 x0 => bif (decide (x0 < (↑nl : Int))) then (bif (decide ((0 : Int) ≤ x0 ∧ x0 < (↑nl : Int))) then (bif (decide (Int.toNat x0 + al < ml)) then (bif (S.eqS (tl (Int.toNat x0 + al)) tr) then (some (.inr (x0))) else (bif (lim .i64 (x0 + 1)) then (some (.inl (.h0 (x0 + 1)))) else (none))) else (none)) else (none)) else (some (.inr ((-1 : Int))))
noncomputable def p66 (al nl ml : Nat) (tl : Nat → ByteArray) (vl gl wl : NI) (tr : ByteArray) (vr gr wr : Int) : Option (St66 ⊕ Rt66) := some (.inl (.h0 ((0 : Int))))
def Te66 (test : TT) (Kst : KS) (Kret : KR) (al nl ml : Nat) (tl : Nat → ByteArray) (vl gl wl : NI) (tr : ByteArray) (vr gr wr : Int) : Prop := Kst (hd Try.f66 0) ([PV.loose (PA.mk (0) (4) al (0)) nl, PV.fn (Go.Fn.func (47)) [] [PV.ptr (PA.mk (1) (0) (0) (0))], PV.int .i64 (↑nl : Int), PV.int .i64 (0 : Int)]) ([[(1, false, Blk.cells [PV.str tr, PV.int .i64 vr, PV.int .i64 gr, PV.int .i64 wr]), (0, false, Blk.cols ml [Col.str tl, Col.int .i64 vl, Col.int .i64 gl, Col.int .i64 wl])]]) (2)
theorem te66 (test : TT) (Kst : KS) (Kret : KR) (al nl ml : Nat) (tl : Nat → ByteArray) (vl gl wl : NI) (tr : ByteArray) (vr gr wr : Int) : run test Try.env true noX true 400 ⟨66, [.cd (mkFn Try.f66).body], argT 0 [.loose ⟨0, 4, al, 0⟩ nl, .fn (.func 47) [] [.ptr ⟨1, 0, 0, 0⟩]], [[], [(0, (false, .cols ml [.str tl, .int .i64 vl, .int .i64 gl, .int .i64 wl])), (1, (false, .cells [.str tr, .int .i64 vr, .int .i64 gr, .int .i64 wr]))]], 2⟩ (proj 2 [0, 1, 7, 8] Kst Kret) =
  Te66 test Kst Kret al nl ml tl vl gl wl tr vr gr wr := by kernel_rfl
noncomputable abbrev u66_0_0 (ml : Nat) (tl : Nat → ByteArray) (vl gl wl : Nat → Int) (tr : ByteArray) (vr gr wr : Int) := ([[(1, false, Blk.cells [PV.str tr, PV.int IntKind.i64 vr, PV.int IntKind.i64 gr, PV.int IntKind.i64 wr]), (0, false, Blk.cols ml [Col.str tl, Col.int IntKind.i64 vl, Col.int IntKind.i64 gl, Col.int IntKind.i64 wl])]])
def T66_0 (test : TT) (Kst : KS) (Kret : KR) (al nl ml : Nat) (tl : Nat → ByteArray) (vl gl wl : NI) (tr : ByteArray) (vr gr wr x0 : Int) : Prop := test (decide (x0 < (↑nl : Int))) (test (decide ((0 : Int) ≤ x0 ∧ x0 < (↑nl : Int))) (test (decide (Int.toNat x0 + al < ml)) (test (decide (Int.toNat x0 + al < ml)) (test (decide (Int.toNat x0 + al < ml)) (test (decide (Int.toNat x0 + al < ml)) (test (S.eqS (tl (Int.toNat x0 + al)) tr) (Kret (PV.int .i64 x0) (u66_0_0 ml tl vl gl wl tr vr gr wr) (3)) (test (lim .i64 (x0 + 1)) (Kst (hd Try.f66 0) ([PV.loose (PA.mk (0) (4) al (0)) nl, PV.fn (Go.Fn.func (47)) [] [PV.ptr (PA.mk (1) (0) (0) (0))], PV.int .i64 (↑nl : Int), PV.int .i64 (x0 + 1)]) (u66_0_0 ml tl vl gl wl tr vr gr wr) (3)) (False))) (False)) (False)) (False)) (False)) (False)) (Kret (PV.int .i64 (-1 : Int)) (u66_0_0 ml tl vl gl wl tr vr gr wr) (2))
theorem t66_0 (test : TT) (Kst : KS) (Kret : KR) (al nl ml : Nat) (tl : Nat → ByteArray) (vl gl wl : NI) (tr : ByteArray) (vr gr wr x0 : Int) : run test Try.env true noX true 400 ⟨66, hd Try.f66 0, zipT [0, 1, 7, 8] [PV.loose (PA.mk (0) (4) al (0)) nl,
 PV.fn (Go.Fn.func (47)) [] [PV.ptr (PA.mk (1) (0) (0) (0))],
 PV.int .i64 (↑nl : Int), PV.int .i64 x0], [[], [(0, (false, .cols ml [.str tl, .int .i64 vl, .int .i64 gl, .int .i64 wl])), (1, (false, .cells [.str tr, .int .i64 vr, .int .i64 gr, .int .i64 wr]))]], 2⟩ (proj 2 [0, 1, 7, 8] Kst Kret) =
  T66_0 test Kst Kret al nl ml tl vl gl wl tr vr gr wr x0 := by kernel_rfl
noncomputable abbrev J66 (al nl ml : Nat) (tl : Nat → ByteArray) (vl : NI) (gl : NI) (wl : NI) (tr : ByteArray) (vr : Int) (gr : Int) (wr : Int) : Rt66 → Heap := fun r => [newL (2 + 1) ((N66 al nl ml tl vl gl wl tr vr gr wr) r) ++ [(0, (false, .cols ml [.str tl, .int .i64 vl, .int .i64 gl, .int .i64 wl])), (1, (false, .cells [.str tr, .int .i64 vr, .int .i64 gr, .int .i64 wr]))]]
attribute [local irreducible] Int.subNatNat in
theorem be66 (al nl ml : Nat) (tl : Nat → ByteArray) (vl gl wl : NI) (tr : ByteArray) (vr gr wr : Int) (Kst : KS) (Kret : KR) (x : St66 ⊕ Rt66) (hS : HS 2 400 ((I66 al nl ml tl vl gl wl tr vr gr wr)) Kst x) (hR : HR 2 400 ((V66 al nl ml tl vl gl wl tr vr gr wr)) (J66 al nl ml tl vl gl wl tr vr gr wr) Kret x) (h : (some (.inl (.h0 ((0 : Int)))) : Option (St66 ⊕ Rt66)) = some x) : Te66 cond Kst Kret al nl ml tl vl gl wl tr vr gr wr := by
  unfold Te66
  exact stop_at hS _ h (fun n => n) rfl rfl rfl ⟨(rn_loose (use_lo rfl) rfl rfl rfl), ⟨(rn_fn trivial ⟨(rn_ptr (use_lo rfl) rfl rfl), trivial⟩), ⟨(rn_int rfl), ⟨(rn_int rfl), trivial⟩⟩⟩⟩ rfl (entl_bor (use_lo rfl) rfl rfl (entl_borc (use_lo rfl) rfl rfl entl_nil))
attribute [local irreducible] Int.subNatNat in
theorem b66_0 (al nl ml : Nat) (tl : Nat → ByteArray) (vl gl wl : NI) (tr : ByteArray) (vr gr wr : Int) (Kst : KS) (Kret : KR) (x : St66 ⊕ Rt66) (hS : HS 2 400 ((I66 al nl ml tl vl gl wl tr vr gr wr)) Kst x) (hR : HR 2 400 ((V66 al nl ml tl vl gl wl tr vr gr wr)) (J66 al nl ml tl vl gl wl tr vr gr wr) Kret x) (x0 : Int) (h : q66 al nl ml tl vl gl wl tr vr gr wr (.h0 x0) = some x) : T66_0 cond Kst Kret al nl ml tl vl gl wl tr vr gr wr x0 := by
  unfold T66_0
  rw [q66] at h
  exact bif_split h (fun c0 h => bif_split h (fun c1 h => bif_split h (fun c2 h => cond_yes c2 (cond_yes c2 (cond_yes c2 (bif_split h (fun c3 h => ret_at hR _ h (fun n => n) rfl rfl rfl (rn_int rfl) rfl (entl_bor (use_lo rfl) rfl rfl (entl_borc (use_lo rfl) rfl rfl entl_nil))) (fun c3 h => bif_split h (fun c4 h => stop_at hS _ h (fun n => n) rfl rfl rfl ⟨(rn_loose (use_lo rfl) rfl rfl rfl), ⟨(rn_fn trivial ⟨(rn_ptr (use_lo rfl) rfl rfl), trivial⟩), ⟨(rn_int rfl), ⟨(rn_int rfl), trivial⟩⟩⟩⟩ rfl (entl_bor (use_lo rfl) rfl rfl (entl_borc (use_lo rfl) rfl rfl entl_nil))) (fun c4 h => no_some h)))))) (fun c2 h => no_some h)) (fun c1 h => no_some h)) (fun c0 h => ret_at hR _ h (fun n => n) rfl rfl rfl (rn_int rfl) rfl (entl_bor (use_lo rfl) rfl rfl (entl_borc (use_lo rfl) rfl rfl entl_nil)))
theorem a66 (al nl ml : Nat) (tl : Nat → ByteArray) (vl gl wl : NI) (tr : ByteArray) (vr gr wr : Int) {r : Rt66} (h : Goes ((q66 al nl ml tl vl gl wl tr vr gr wr)) ((p66 al nl ml tl vl gl wl tr vr gr wr)) r) : CallR Try.prog 66 [.loose ⟨0, 4, al, 0⟩ nl, .fn (.func 47) [] [.ptr ⟨1, 0, 0, 0⟩]] [[(0, (false, .cols ml [.str tl, .int .i64 vl, .int .i64 gl, .int .i64 wl])), (1, (false, .cells [.str tr, .int .i64 vr, .int .i64 gr, .int .i64 wr]))]] 2 ((V66 al nl ml tl vl gl wl tr vr gr wr) r) ((J66 al nl ml tl vl gl wl tr vr gr wr) r) 400 ∧ ∃ F, Try.prog.funcs[66]? = some F ∧ F.body.isSome = true ∧ (F.name == "runtime.NumGoroutine") = false := by
  refine dec_calls (sy := true) (f := 66) (lo := 2) (hi := 400) (H := [[(0, (false, .cols ml [.str tl, .int .i64 vl, .int .i64 gl, .int .i64 wl])), (1, (false, .cells [.str tr, .int .i64 vr, .int .i64 gr, .int .i64 wr]))]]) (args := [.loose ⟨0, 4, al, 0⟩ nl, .fn (.func 47) [] [.ptr ⟨1, 0, 0, 0⟩]]) Try.envOk Try.mixed noX_ok ((I66 al nl ml tl vl gl wl tr vr gr wr)) ((V66 al nl ml tl vl gl wl tr vr gr wr)) (J66 al nl ml tl vl gl wl tr vr gr wr) (fn := mkFn Try.f66) (ts := [0, 1, 7, 8]) (n := 400) rfl (by decide) (by simp) (names_of rfl) ?_ ?_ ?_ h
  · intro s; cases s <;> exact ⟨hd_ok _ _, by simp [I66], names_of rfl, Nat.le_of_ble_eq_true rfl⟩
  · intro Kst Kret x hS hR h
    exact Holds.eq (te66 cond Kst Kret al nl ml tl vl gl wl tr vr gr wr) (be66 al nl ml tl vl gl wl tr vr gr wr Kst Kret x hS hR h)
  · intro Kst Kret x hS hR s h
    cases s with
    | h0 x0 => exact Holds.eq (t66_0 cond Kst Kret al nl ml tl vl gl wl tr vr gr wr x0) (b66_0 al nl ml tl vl gl wl tr vr gr wr Kst Kret x hS hR x0 h)
noncomputable abbrev w66 {α : Type} (g : Nat → Nat → Nat → (Nat → ByteArray) → (Nat → Int) → (Nat → Int) → (Nat → Int) → ByteArray → Int → Int → Int → α) (x : (Nat × Nat × Nat × (Nat → ByteArray) × (Nat → Int) × (Nat → Int) × (Nat → Int) × Unit) × ((ByteArray × Int × Int × Int × Unit) × Unit) × Unit) : α := g x.1.1 x.1.2.1 x.1.2.2.1 x.1.2.2.2.1 x.1.2.2.2.2.1 x.1.2.2.2.2.2.1 x.1.2.2.2.2.2.2.1 x.2.1.1.1 x.2.1.1.2.1 x.2.1.1.2.2.1 x.2.1.1.2.2.2.1
noncomputable def k66  : Con := ⟨66, [.one (.list [.str, .int .i64, .int .i64, .int .i64]), .fn 47 [.cell [.str, .int .i64, .int .i64, .int .i64]]], w66 (fun al nl ml tl vl gl wl tr vr gr wr => decide (al + nl ≤ ml ∧ nl ≤ 1000000)), w66 (fun al nl ml tl vl gl wl tr vr gr wr => (V66 al nl ml tl vl gl wl tr vr gr wr) (S.idx (fun j => (S.eqS (tl (j + al)) tr)) 0 nl)), w66 (fun al nl ml tl vl gl wl tr vr gr wr => (N66 al nl ml tl vl gl wl tr vr gr wr) (S.idx (fun j => (S.eqS (tl (j + al)) tr)) 0 nl)), fun _ _ => .dead⟩
theorem s66' (al nl ml : Nat) (tl : Nat → ByteArray) (vl gl wl : Nat → Int) (tr : ByteArray) (vr gr wr : Int) (hp : al + nl ≤ ml ∧ nl ≤ 1000000) : ∀ k i : Nat, i + k = nl → Comes (q66 al nl ml tl vl gl wl tr vr gr wr) (.h0 (i : Int)) (S.idx (fun j => (S.eqS (tl (j + al)) tr)) i k) := by
  obtain ⟨hp1, hp2⟩ := hp
  intro k
  induction k with
  | zero =>
    intro i hi
    apply Comes.of
    show Goes _ _ _
    (first | rw [q66] | unfold q66)
    repeat' (first | with_reducible refine goes_if (fun h => ?_) (fun h => ?_) <;> (try simp only [SH] at h) | exact goes_none.mpr (by omega))
    all_goals first | (exfalso; omega) | rfl | (refine Eq.mpr (congrArg (Comes _ _) ?_) True; simp only [S.idx, Bool.and_eq_true, Bool.or_eq_true, decide_eq_true_eq]; (repeat' split) <;> first | rfl | omega | (exfalso; omega) | (exfalso; simp_all; done) | (exfalso; simp_all; omega) | simp_all) | (refine goes_inr.mpr ?_; simp only [S.idx, Bool.and_eq_true, Bool.or_eq_true, decide_eq_true_eq]; (repeat' split) <;> first | rfl | omega | (exfalso; omega) | (exfalso; simp_all; done) | (exfalso; simp_all; omega) | simp_all)
  | succ k ih =>
    intro i hi
    have ih := ih (i + 1) (by omega)
    apply Comes.of
    show Goes _ _ _
    (first | rw [q66] | unfold q66)
    repeat' (first | with_reducible refine goes_if (fun h => ?_) (fun h => ?_) <;> (try simp only [SH] at h) | exact goes_none.mpr (by omega))
    all_goals first | (exfalso; omega) | rfl | (refine Eq.mpr (congrArg (Comes _ _) ?_) ih; simp only [S.idx, Bool.and_eq_true, Bool.or_eq_true, decide_eq_true_eq]; (repeat' split) <;> first | rfl | omega | (exfalso; omega) | (exfalso; simp_all; done) | (exfalso; simp_all; omega) | simp_all) | (refine goes_inr.mpr ?_; simp only [S.idx, Bool.and_eq_true, Bool.or_eq_true, decide_eq_true_eq]; (repeat' split) <;> first | rfl | omega | (exfalso; omega) | (exfalso; simp_all; done) | (exfalso; simp_all; omega) | simp_all)
theorem s66 (al nl ml : Nat) (tl : Nat → ByteArray) (vl gl wl : Nat → Int) (tr : ByteArray) (vr gr wr : Int) (hp : al + nl ≤ ml ∧ nl ≤ 1000000) : Goes ((q66 al nl ml tl vl gl wl tr vr gr wr)) ((p66 al nl ml tl vl gl wl tr vr gr wr)) (S.idx (fun j => (S.eqS (tl (j + al)) tr)) 0 nl) := by
  exact s66' al nl ml tl vl gl wl tr vr gr wr hp nl 0 (by omega)
theorem k66_ok  : k66.ok Try.prog := by
  intro x hx
  obtain ⟨⟨al, nl, ml, tl, vl, gl, wl, _⟩, ⟨⟨tr, vr, gr, wr, _⟩, _⟩, _⟩ := x
  obtain ⟨h1, h2⟩ := a66 al nl ml tl vl gl wl tr vr gr wr (s66 al nl ml tl vl gl wl tr vr gr wr (of_dec hx rfl))
  exact ⟨⟨400, (by decide : 2 + 1 + 0 ≤ 400), h1⟩, h2⟩
noncomputable def xI (test : Bool → Prop → Prop → Prop) : Ext := consX test [k66]
theorem xI_ok  : ExtOk Try.prog (xI cond) := consX_ok ⟨k66_ok, trivial⟩
namespace S
def runN (p : Nat → Bool) : Nat → Nat → Nat
  | _, 0 => 0
  | i, k + 1 => if p i = true then runN p (i + 1) k + 1 else 0
def lowB (c : Int) : Bool := decide (97 ≤ c ∧ c ≤ 122)
def namB (c : Int) : Bool := decide ((97 ≤ c ∧ c ≤ 122) ∨ (48 ≤ c ∧ c ≤ 57) ∨ c = 95)
def isNam (s : ByteArray) : Bool := decide (1 ≤ s.size ∧ s.size ≤ 20) && (lowB (keys s 0) && decide (runN (fun j => namB (keys s j)) 0 s.size = s.size))
end S
theorem runN_le  {p : Nat → Bool} : ∀ {k i : Nat}, S.runN p i k ≤ k
  | 0, _ => Nat.le_refl _
  | k + 1, i => by
    simp only [S.runN]
    split
    · have := runN_le (p := p) (k := k) (i := i + 1); omega
    · omega
theorem runN_all  {p : Nat → Bool} : ∀ {k i : Nat}, S.runN p i k = k ↔ ∀ j, i ≤ j → j < i + k → p j = true
  | 0, i => ⟨fun _ j h1 h2 => by omega, fun _ => rfl⟩
  | k + 1, i => by
    simp only [S.runN]
    have hl := runN_le (p := p) (k := k) (i := i + 1)
    constructor
    · intro h j h1 h2
      split at h
      · rename_i h0
        rcases Nat.lt_or_ge i j with h3 | h3
        · exact (runN_all (k := k) (i := i + 1)).1 (by omega) j h3 (by omega)
        · obtain rfl : j = i := by omega
          exact h0
      · omega
    · intro h
      rw [if_pos (h i (Nat.le_refl _) (by omega)), (runN_all (k := k) (i := i + 1)).2 fun j h1 h2 => h j (by omega) (by omega)]
theorem size_nil  {s : ByteArray} : (s.toList == []) = decide (s.size = 0) := by
  rw [ByteArray.toList_eq, Bool.eq_iff_iff, beq_iff_eq, decide_eq_true_eq]
  have : s.size = s.data.toList.length := rfl
  rw [this, List.length_eq_zero_iff]
inductive St64 where
  | h0 (x0 : Int)
abbrev Rt64  := Int
noncomputable def V64 (ws : ByteArray) (fr : Int) (r : Rt64) : PV := PV.int .i64 r
noncomputable def N64 (ws : ByteArray) (fr : Int) (r : Rt64) : List Blk := []
noncomputable def I64 (ws : ByteArray) (fr : Int) : St64 → Hd
  | .h0 x0 => ⟨hd Try.f64 0, [PV.str ws, PV.int .i64 fr, PV.fn (Go.Fn.func (65)) [] [],
 PV.int .i64 x0], [[], []], 0⟩
noncomputable def q64 (ws : ByteArray) (fr : Int) : St64 → Option (St64 ⊕ Rt64) | .h0 x0 => bif (lim .i64 (fr + x0)) then (bif (decide (fr + x0 < (↑(ByteArray.size ws) : Int))) then (bif (decide ((0 : Int) ≤ fr + x0 ∧ fr + x0 < (↑(ByteArray.size ws) : Int))) then (bif (decide (keys ws (Int.toNat (fr + x0)) ≥ 97)) then (bif (decide (keys ws (Int.toNat (fr + x0)) ≤ 122)) then (bif (lim .i64 (x0 + 1)) then (some (.inl (.h0 (x0 + 1)))) else (none)) else (bif (decide (keys ws (Int.toNat (fr + x0)) ≥ 48)) then (bif (decide (keys ws (Int.toNat (fr + x0)) ≤ 57)) then (bif (lim .i64 (x0 + 1)) then (some (.inl (.h0 (x0 + 1)))) else (none)) else (bif (keys ws (Int.toNat (fr + x0)) == 95) then (bif (lim .i64 (x0 + 1)) then (some (.inl (.h0 (x0 + 1)))) else (none)) else (some (.inr (x0))))) else (bif (keys ws (Int.toNat (fr + x0)) == 95) then (bif (lim .i64 (x0 + 1)) then (some (.inl (.h0 (x0 + 1)))) else (none)) else (some (.inr (x0)))))) else (bif (decide (keys ws (Int.toNat (fr + x0)) ≥ 48)) then (bif (decide (keys ws (Int.toNat (fr + x0)) ≤ 57)) then (bif (lim .i64 (x0 + 1)) then (some (.inl (.h0 (x0 + 1)))) else (none)) else (bif (keys ws (Int.toNat (fr + x0)) == 95) then (bif (lim .i64 (x0 + 1)) then (some (.inl (.h0 (x0 + 1)))) else (none)) else (some (.inr (x0))))) else (bif (keys ws (Int.toNat (fr + x0)) == 95) then (bif (lim .i64 (x0 + 1)) then (some (.inl (.h0 (x0 + 1)))) else (none)) else (some (.inr (x0)))))) else (none)) else (some (.inr (x0)))) else (none)
noncomputable def p64 (ws : ByteArray) (fr : Int) : Option (St64 ⊕ Rt64) := some (.inl (.h0 ((0 : Int))))
def Te64 (test : TT) (Kst : KS) (Kret : KR) (ws : ByteArray) (fr : Int) : Prop := Kst (hd Try.f64 0) ([PV.str ws, PV.int .i64 fr, PV.fn (Go.Fn.func (65)) [] [], PV.int .i64 (0 : Int)]) ([[]]) (0)
theorem te64 (test : TT) (Kst : KS) (Kret : KR) (ws : ByteArray) (fr : Int) : run test Try.env true noX true 400 ⟨64, [.cd (mkFn Try.f64).body], argT 0 [.str ws, .int .i64 fr, .fn (.func 65) [] []], [[], []], 0⟩ (proj 0 [0, 1, 2, 7] Kst Kret) =
  Te64 test Kst Kret ws fr := by kernel_rfl
noncomputable abbrev u64_0_0 (ws : ByteArray) (fr x0 : Int) := ([PV.str ws, PV.int IntKind.i64 fr, PV.fn (Go.Fn.func (65)) [] [], PV.int IntKind.i64 (x0 + (1 : Int))])
def T64_0 (test : TT) (Kst : KS) (Kret : KR) (ws : ByteArray) (fr x0 : Int) : Prop := test (lim .i64 (fr + x0)) (test (decide (fr + x0 < (↑(ByteArray.size ws) : Int))) (test (lim .i64 (fr + x0)) (test (decide ((0 : Int) ≤ fr + x0 ∧ fr + x0 < (↑(ByteArray.size ws) : Int))) (test (decide (keys ws (Int.toNat (fr + x0)) ≥ 97)) (test (decide (keys ws (Int.toNat (fr + x0)) ≤ 122)) (test (lim .i64 (x0 + 1)) (Kst (hd Try.f64 0) (u64_0_0 ws fr x0) ([[]]) (0)) (False)) (test (decide (keys ws (Int.toNat (fr + x0)) ≥ 48)) (test (decide (keys ws (Int.toNat (fr + x0)) ≤ 57)) (test (lim .i64 (x0 + 1)) (Kst (hd Try.f64 0) (u64_0_0 ws fr x0) ([[]]) (0)) (False)) (test (keys ws (Int.toNat (fr + x0)) == 95) (test (lim .i64 (x0 + 1)) (Kst (hd Try.f64 0) (u64_0_0 ws fr x0) ([[]]) (0)) (False)) (Kret (PV.int .i64 x0) ([[]]) (0)))) (test (keys ws (Int.toNat (fr + x0)) == 95) (test (lim .i64 (x0 + 1)) (Kst (hd Try.f64 0) (u64_0_0 ws fr x0) ([[]]) (0)) (False)) (Kret (PV.int .i64 x0) ([[]]) (0))))) (test (decide (keys ws (Int.toNat (fr + x0)) ≥ 48)) (test (decide (keys ws (Int.toNat (fr + x0)) ≤ 57)) (test (lim .i64 (x0 + 1)) (Kst (hd Try.f64 0) (u64_0_0 ws fr x0) ([[]]) (0)) (False)) (test (keys ws (Int.toNat (fr + x0)) == 95) (test (lim .i64 (x0 + 1)) (Kst (hd Try.f64 0) (u64_0_0 ws fr x0) ([[]]) (0)) (False)) (Kret (PV.int .i64 x0) ([[]]) (0)))) (test (keys ws (Int.toNat (fr + x0)) == 95) (test (lim .i64 (x0 + 1)) (Kst (hd Try.f64 0) (u64_0_0 ws fr x0) ([[]]) (0)) (False)) (Kret (PV.int .i64 x0) ([[]]) (0))))) (False)) (False)) (Kret (PV.int .i64 x0) ([[]]) (0))) (False)
theorem t64_0 (test : TT) (Kst : KS) (Kret : KR) (ws : ByteArray) (fr x0 : Int) : run test Try.env true noX true 400 ⟨64, hd Try.f64 0, zipT [0, 1, 2, 7] [PV.str ws, PV.int .i64 fr, PV.fn (Go.Fn.func (65)) [] [],
 PV.int .i64 x0], [[], []], 0⟩ (proj 0 [0, 1, 2, 7] Kst Kret) =
  T64_0 test Kst Kret ws fr x0 := by kernel_rfl
noncomputable abbrev J64 (ws : ByteArray) (fr : Int) : Rt64 → Heap := fun r => [newL (0 + 1) ((N64 ws fr) r) ++ []]
attribute [local irreducible] Int.subNatNat in
theorem be64 (ws : ByteArray) (fr : Int) (Kst : KS) (Kret : KR) (x : St64 ⊕ Rt64) (hS : HS 0 400 ((I64 ws fr)) Kst x) (hR : HR 0 400 ((V64 ws fr)) (J64 ws fr) Kret x) (h : (some (.inl (.h0 ((0 : Int)))) : Option (St64 ⊕ Rt64)) = some x) : Te64 cond Kst Kret ws fr := by
  unfold Te64
  exact stop_at hS _ h (fun n => n) rfl rfl rfl ⟨(rn_str rfl), ⟨(rn_int rfl), ⟨(rn_fn trivial trivial), ⟨(rn_int rfl), trivial⟩⟩⟩⟩ rfl entl_nil
attribute [local irreducible] Int.subNatNat in
theorem b64_0 (ws : ByteArray) (fr : Int) (Kst : KS) (Kret : KR) (x : St64 ⊕ Rt64) (hS : HS 0 400 ((I64 ws fr)) Kst x) (hR : HR 0 400 ((V64 ws fr)) (J64 ws fr) Kret x) (x0 : Int) (h : q64 ws fr (.h0 x0) = some x) : T64_0 cond Kst Kret ws fr x0 := by
  unfold T64_0
  rw [q64] at h
  refine bif_split h (fun c0 h => bif_split h (fun c1 h => cond_yes c0 (bif_split h (fun c2 h => bif_split h (fun c3 h => bif_split h (fun c4 h => bif_split h (fun c5 h => ?_) (fun c5 h => ?_)) (fun c4 h => bif_split h (fun c5 h => bif_split h (fun c6 h => bif_split h (fun c7 h => ?_) (fun c7 h => ?_)) (fun c6 h => bif_split h (fun c7 h => bif_split h (fun c8 h => ?_) (fun c8 h => ?_)) (fun c7 h => ?_))) (fun c5 h => bif_split h (fun c6 h => bif_split h (fun c7 h => ?_) (fun c7 h => ?_)) (fun c6 h => ?_)))) (fun c3 h => bif_split h (fun c4 h => bif_split h (fun c5 h => bif_split h (fun c6 h => ?_) (fun c6 h => ?_)) (fun c5 h => bif_split h (fun c6 h => bif_split h (fun c7 h => ?_) (fun c7 h => ?_)) (fun c6 h => ?_))) (fun c4 h => bif_split h (fun c5 h => bif_split h (fun c6 h => ?_) (fun c6 h => ?_)) (fun c5 h => ?_)))) (fun c2 h => ?_))) (fun c1 h => ?_)) (fun c0 h => ?_)
  all_goals first
    | exact no_some h
    | exact stop_at hS _ h (fun n => n) rfl rfl rfl ⟨(rn_str rfl), ⟨(rn_int rfl), ⟨(rn_fn trivial trivial), ⟨(rn_int rfl), trivial⟩⟩⟩⟩ rfl entl_nil
    | exact ret_at hR _ h (fun n => n) rfl rfl rfl (rn_int rfl) rfl entl_nil
theorem a64 (ws : ByteArray) (fr : Int) {r : Rt64} (h : Goes ((q64 ws fr)) ((p64 ws fr)) r) : CallR Try.prog 64 [.str ws, .int .i64 fr, .fn (.func 65) [] []] [[]] 0 ((V64 ws fr) r) ((J64 ws fr) r) 400 ∧ ∃ F, Try.prog.funcs[64]? = some F ∧ F.body.isSome = true ∧ (F.name == "runtime.NumGoroutine") = false := by
  refine dec_calls (sy := true) (f := 64) (lo := 0) (hi := 400) (H := [[]]) (args := [.str ws, .int .i64 fr, .fn (.func 65) [] []]) Try.envOk Try.mixed noX_ok ((I64 ws fr)) ((V64 ws fr)) (J64 ws fr) (fn := mkFn Try.f64) (ts := [0, 1, 2, 7]) (n := 400) rfl (by decide) (by simp) (names_of rfl) ?_ ?_ ?_ h
  · intro s; cases s <;> exact ⟨hd_ok _ _, by simp [I64], names_of rfl, Nat.le_of_ble_eq_true rfl⟩
  · intro Kst Kret x hS hR h
    exact Holds.eq (te64 cond Kst Kret ws fr) (be64 ws fr Kst Kret x hS hR h)
  · intro Kst Kret x hS hR s h
    cases s with
    | h0 x0 => exact Holds.eq (t64_0 cond Kst Kret ws fr x0) (b64_0 ws fr Kst Kret x hS hR x0 h)
noncomputable abbrev w64 {α : Type} (g : ByteArray → Int → α) (x : ByteArray × Int × (Unit) × Unit) : α := g x.1 x.2.1
noncomputable def k64  : Con := ⟨64, [.one (.plain (.str)), .one (.plain (.int .i64)), .fn 65 []], w64 (fun ws fr => decide (ws.size ≤ 1000 ∧ fr = 0)), w64 (fun ws fr => (V64 ws fr) (((S.runN (fun j => S.namB (keys ws j)) 0 ws.size : Nat) : Int))), w64 (fun ws fr => (N64 ws fr) (((S.runN (fun j => S.namB (keys ws j)) 0 ws.size : Nat) : Int))), fun _ _ => .dead⟩
theorem s64' (ws : ByteArray) (fr : Int) (hp : ws.size ≤ 1000) (hf : fr = 0) : ∀ k i : Nat, i + k = ws.size → Comes (q64 ws fr) (.h0 (i : Int)) (((i + S.runN (fun j => S.namB (keys ws j)) i k : Nat)) : Int) := by
  intro k
  induction k with
  | zero =>
    intro i hi
    apply Comes.of
    show Goes _ _ _
    (first | rw [q64] | unfold q64)
    repeat' (first | with_reducible refine goes_if (fun h => ?_) (fun h => ?_) <;> (try simp only [SH] at h) | exact goes_none.mpr (by omega))
    all_goals first | (exfalso; omega) | rfl
  | succ k ih =>
    intro i hi
    have ih := ih (i + 1) (by omega)
    have e0 : (0 : Int) + (i : Int) = i := Int.zero_add _
    simp only [S.runN]
    by_cases hc : (fun j => S.namB (keys ws j)) i = true
    · rw [if_pos hc]
      rw [show i + 1 + S.runN (fun j => S.namB (keys ws j)) (i + 1) k = i + (S.runN (fun j => S.namB (keys ws j)) (i + 1) k + 1) by omega] at ih
      simp only [S.namB, decide_eq_true_eq] at hc
      subst hf
      apply Comes.of
      show Goes _ _ _
      (first | rw [q64] | unfold q64)
      repeat' (first | with_reducible refine goes_if (fun h => ?_) (fun h => ?_) <;> (try simp only [SH, e0] at h) | exact goes_none.mpr (by omega))
      all_goals first | (exfalso; omega) | exact ih | (exfalso; simp_all; done) | (exfalso; simp_all; omega)
    · rw [if_neg hc]
      simp only [S.namB, decide_eq_true_eq] at hc
      subst hf
      apply Comes.of
      show Goes _ _ _
      (first | rw [q64] | unfold q64)
      repeat' (first | with_reducible refine goes_if (fun h => ?_) (fun h => ?_) <;> (try simp only [SH, e0] at h) | exact goes_none.mpr (by omega))
      all_goals first | (exfalso; omega) | (exact goes_inr.mpr rfl) | (exfalso; simp_all; done) | (exfalso; simp_all; omega)
theorem s64 (ws : ByteArray) (fr : Int) (hp : ws.size ≤ 1000 ∧ fr = 0) : Goes ((q64 ws fr)) ((p64 ws fr)) (((S.runN (fun j => S.namB (keys ws j)) 0 ws.size : Nat) : Int)) := by
  obtain ⟨hp1, hp2⟩ := hp
  have hm := s64' ws fr hp1 hp2 ws.size 0 (by omega)
  rw [Nat.zero_add] at hm
  show Goes _ _ _
  unfold p64
  repeat' (first | with_reducible refine goes_if (fun h => ?_) (fun h => ?_) <;> (try simp only [SH] at h) | exact goes_none.mpr (by omega))
  all_goals first | (exfalso; omega) | exact hm
theorem k64_ok  : k64.ok Try.prog := by
  intro x hx
  obtain ⟨ws, fr, ⟨_⟩, _⟩ := x
  obtain ⟨h1, h2⟩ := a64 ws fr (s64 ws fr (of_dec hx rfl))
  exact ⟨⟨400, (by decide : 0 + 1 + 0 ≤ 400), h1⟩, h2⟩
inductive St67 where
  | h0 (x0 : Int)
abbrev Rt67  := Int
noncomputable def V67 (ws : ByteArray) (r : Rt67) : PV := PV.int .i64 r
noncomputable def N67 (ws : ByteArray) (r : Rt67) : List Blk := []
noncomputable def I67 (ws : ByteArray) : St67 → Hd
  | .h0 x0 => ⟨hd Try.f67 0, [PV.str ws, PV.int .i64 x0], [[], []], 0⟩
noncomputable def q67 (ws : ByteArray) : St67 → Option (St67 ⊕ Rt67) | .h0 x0 => bif (decide (x0 < (↑(ByteArray.size ws) : Int))) then (bif (decide ((0 : Int) ≤ x0 ∧ x0 < (↑(ByteArray.size ws) : Int))) then (bif (decide (keys ws (Int.toNat x0) ≥ 97)) then (bif (decide (keys ws (Int.toNat x0) ≤ 122)) then (bif (lim .i64 (x0 + 1)) then (some (.inl (.h0 (x0 + 1)))) else (none)) else (bif (decide (x0 > 0)) then (bif (decide (keys ws (Int.toNat x0) ≥ 48)) then (bif (decide (keys ws (Int.toNat x0) ≤ 57)) then (bif (lim .i64 (x0 + 1)) then (some (.inl (.h0 (x0 + 1)))) else (none)) else (bif (keys ws (Int.toNat x0) == 95) then (bif (lim .i64 (x0 + 1)) then (some (.inl (.h0 (x0 + 1)))) else (none)) else (some (.inr (x0))))) else (bif (keys ws (Int.toNat x0) == 95) then (bif (lim .i64 (x0 + 1)) then (some (.inl (.h0 (x0 + 1)))) else (none)) else (some (.inr (x0))))) else (some (.inr (x0))))) else (bif (decide (x0 > 0)) then (bif (decide (keys ws (Int.toNat x0) ≥ 48)) then (bif (decide (keys ws (Int.toNat x0) ≤ 57)) then (bif (lim .i64 (x0 + 1)) then (some (.inl (.h0 (x0 + 1)))) else (none)) else (bif (keys ws (Int.toNat x0) == 95) then (bif (lim .i64 (x0 + 1)) then (some (.inl (.h0 (x0 + 1)))) else (none)) else (some (.inr (x0))))) else (bif (keys ws (Int.toNat x0) == 95) then (bif (lim .i64 (x0 + 1)) then (some (.inl (.h0 (x0 + 1)))) else (none)) else (some (.inr (x0))))) else (some (.inr (x0))))) else (none)) else (some (.inr (x0)))
noncomputable def p67 (ws : ByteArray) : Option (St67 ⊕ Rt67) := some (.inl (.h0 ((0 : Int))))
def Te67 (test : TT) (Kst : KS) (Kret : KR) (ws : ByteArray) : Prop := Kst (hd Try.f67 0) ([PV.str ws, PV.int .i64 (0 : Int)]) ([[]]) (0)
theorem te67 (test : TT) (Kst : KS) (Kret : KR) (ws : ByteArray) : run test Try.env true noX true 400 ⟨67, [.cd (mkFn Try.f67).body], argT 0 [.str ws], [[], []], 0⟩ (proj 0 [0, 3] Kst Kret) =
  Te67 test Kst Kret ws := by kernel_rfl
noncomputable abbrev u67_0_0 (ws : ByteArray) (x0 : Int) := decide ((0 : Int) ≤ x0 ∧ x0 < (↑(ByteArray.size ws) : Int))
noncomputable abbrev u67_0_1 (ws : ByteArray) (x0 : Int) := ([PV.str ws, PV.int IntKind.i64 (x0 + (1 : Int))])
def T67_0 (test : TT) (Kst : KS) (Kret : KR) (ws : ByteArray) (x0 : Int) : Prop := test (decide (x0 < (↑(ByteArray.size ws) : Int))) (test (u67_0_0 ws x0) (test (decide (keys ws (Int.toNat x0) ≥ 97)) (test (decide (keys ws (Int.toNat x0) ≤ 122)) (test (lim .i64 (x0 + 1)) (Kst (hd Try.f67 0) (u67_0_1 ws x0) ([[]]) (0)) (False)) (test (decide (x0 > 0)) (test (u67_0_0 ws x0) (test (decide (keys ws (Int.toNat x0) ≥ 48)) (test (decide (keys ws (Int.toNat x0) ≤ 57)) (test (lim .i64 (x0 + 1)) (Kst (hd Try.f67 0) (u67_0_1 ws x0) ([[]]) (0)) (False)) (test (u67_0_0 ws x0) (test (keys ws (Int.toNat x0) == 95) (test (lim .i64 (x0 + 1)) (Kst (hd Try.f67 0) (u67_0_1 ws x0) ([[]]) (0)) (False)) (Kret (PV.int .i64 x0) ([[]]) (0))) (False))) (test (u67_0_0 ws x0) (test (keys ws (Int.toNat x0) == 95) (test (lim .i64 (x0 + 1)) (Kst (hd Try.f67 0) (u67_0_1 ws x0) ([[]]) (0)) (False)) (Kret (PV.int .i64 x0) ([[]]) (0))) (False))) (False)) (Kret (PV.int .i64 x0) ([[]]) (0)))) (test (decide (x0 > 0)) (test (u67_0_0 ws x0) (test (decide (keys ws (Int.toNat x0) ≥ 48)) (test (decide (keys ws (Int.toNat x0) ≤ 57)) (test (lim .i64 (x0 + 1)) (Kst (hd Try.f67 0) (u67_0_1 ws x0) ([[]]) (0)) (False)) (test (u67_0_0 ws x0) (test (keys ws (Int.toNat x0) == 95) (test (lim .i64 (x0 + 1)) (Kst (hd Try.f67 0) (u67_0_1 ws x0) ([[]]) (0)) (False)) (Kret (PV.int .i64 x0) ([[]]) (0))) (False))) (test (u67_0_0 ws x0) (test (keys ws (Int.toNat x0) == 95) (test (lim .i64 (x0 + 1)) (Kst (hd Try.f67 0) (u67_0_1 ws x0) ([[]]) (0)) (False)) (Kret (PV.int .i64 x0) ([[]]) (0))) (False))) (False)) (Kret (PV.int .i64 x0) ([[]]) (0)))) (False)) (Kret (PV.int .i64 x0) ([[]]) (0))
theorem t67_0 (test : TT) (Kst : KS) (Kret : KR) (ws : ByteArray) (x0 : Int) : run test Try.env true noX true 400 ⟨67, hd Try.f67 0, zipT [0, 3] [PV.str ws, PV.int .i64 x0], [[], []], 0⟩ (proj 0 [0, 3] Kst Kret) =
  T67_0 test Kst Kret ws x0 := by kernel_rfl
noncomputable abbrev J67 (ws : ByteArray) : Rt67 → Heap := fun r => [newL (0 + 1) ((N67 ws) r) ++ []]
attribute [local irreducible] Int.subNatNat in
theorem be67 (ws : ByteArray) (Kst : KS) (Kret : KR) (x : St67 ⊕ Rt67) (hS : HS 0 400 ((I67 ws)) Kst x) (hR : HR 0 400 ((V67 ws)) (J67 ws) Kret x) (h : (some (.inl (.h0 ((0 : Int)))) : Option (St67 ⊕ Rt67)) = some x) : Te67 cond Kst Kret ws := by
  unfold Te67
  exact stop_at hS _ h (fun n => n) rfl rfl rfl ⟨(rn_str rfl), ⟨(rn_int rfl), trivial⟩⟩ rfl entl_nil
attribute [local irreducible] Int.subNatNat in
theorem b67_0 (ws : ByteArray) (Kst : KS) (Kret : KR) (x : St67 ⊕ Rt67) (hS : HS 0 400 ((I67 ws)) Kst x) (hR : HR 0 400 ((V67 ws)) (J67 ws) Kret x) (x0 : Int) (h : q67 ws (.h0 x0) = some x) : T67_0 cond Kst Kret ws x0 := by
  unfold T67_0
  rw [q67] at h
  refine bif_split h (fun c0 h => bif_split h (fun c1 h => bif_split h (fun c2 h => bif_split h (fun c3 h => bif_split h (fun c4 h => ?_) (fun c4 h => ?_)) (fun c3 h => bif_split h (fun c4 h => cond_yes c1 (bif_split h (fun c5 h => bif_split h (fun c6 h => bif_split h (fun c7 h => ?_) (fun c7 h => ?_)) (fun c6 h => cond_yes c1 (bif_split h (fun c7 h => bif_split h (fun c8 h => ?_) (fun c8 h => ?_)) (fun c7 h => ?_)))) (fun c5 h => cond_yes c1 (bif_split h (fun c6 h => bif_split h (fun c7 h => ?_) (fun c7 h => ?_)) (fun c6 h => ?_))))) (fun c4 h => ?_))) (fun c2 h => bif_split h (fun c3 h => cond_yes c1 (bif_split h (fun c4 h => bif_split h (fun c5 h => bif_split h (fun c6 h => ?_) (fun c6 h => ?_)) (fun c5 h => cond_yes c1 (bif_split h (fun c6 h => bif_split h (fun c7 h => ?_) (fun c7 h => ?_)) (fun c6 h => ?_)))) (fun c4 h => cond_yes c1 (bif_split h (fun c5 h => bif_split h (fun c6 h => ?_) (fun c6 h => ?_)) (fun c5 h => ?_))))) (fun c3 h => ?_))) (fun c1 h => ?_)) (fun c0 h => ?_)
  all_goals first
    | exact no_some h
    | exact stop_at hS _ h (fun n => n) rfl rfl rfl ⟨(rn_str rfl), ⟨(rn_int rfl), trivial⟩⟩ rfl entl_nil
    | exact ret_at hR _ h (fun n => n) rfl rfl rfl (rn_int rfl) rfl entl_nil
theorem a67 (ws : ByteArray) {r : Rt67} (h : Goes ((q67 ws)) ((p67 ws)) r) : CallR Try.prog 67 [.str ws] [[]] 0 ((V67 ws) r) ((J67 ws) r) 400 ∧ ∃ F, Try.prog.funcs[67]? = some F ∧ F.body.isSome = true ∧ (F.name == "runtime.NumGoroutine") = false := by
  refine dec_calls (sy := true) (f := 67) (lo := 0) (hi := 400) (H := [[]]) (args := [.str ws]) Try.envOk Try.mixed noX_ok ((I67 ws)) ((V67 ws)) (J67 ws) (fn := mkFn Try.f67) (ts := [0, 3]) (n := 400) rfl (by decide) (by simp) (names_of rfl) ?_ ?_ ?_ h
  · intro s; cases s <;> exact ⟨hd_ok _ _, by simp [I67], names_of rfl, Nat.le_of_ble_eq_true rfl⟩
  · intro Kst Kret x hS hR h
    exact Holds.eq (te67 cond Kst Kret ws) (be67 ws Kst Kret x hS hR h)
  · intro Kst Kret x hS hR s h
    cases s with
    | h0 x0 => exact Holds.eq (t67_0 cond Kst Kret ws x0) (b67_0 ws Kst Kret x hS hR x0 h)
noncomputable abbrev w67 {α : Type} (g : ByteArray → α) (x : ByteArray × Unit) : α := g x.1
noncomputable def k67  : Con := ⟨67, [.one (.plain (.str))], w67 (fun ws => decide (ws.size ≤ 1000)), w67 (fun ws => (V67 ws) (((S.runN (fun j => if j = 0 then S.lowB (keys ws j) else S.namB (keys ws j)) 0 ws.size : Nat) : Int))), w67 (fun ws => (N67 ws) (((S.runN (fun j => if j = 0 then S.lowB (keys ws j) else S.namB (keys ws j)) 0 ws.size : Nat) : Int))), fun _ _ => .dead⟩
theorem s67' (ws : ByteArray) (hp : ws.size ≤ 1000) : ∀ k i : Nat, i + k = ws.size → Comes (q67 ws) (.h0 (i : Int)) (((i + S.runN (fun j => if j = 0 then S.lowB (keys ws j) else S.namB (keys ws j)) i k : Nat)) : Int) := by
  intro k
  induction k with
  | zero =>
    intro i hi
    apply Comes.of
    show Goes _ _ _
    (first | rw [q67] | unfold q67)
    repeat' (first | with_reducible refine goes_if (fun h => ?_) (fun h => ?_) <;> (try simp only [SH] at h) | exact goes_none.mpr (by omega))
    all_goals first | (exfalso; omega) | rfl
  | succ k ih =>
    intro i hi
    have ih := ih (i + 1) (by omega)
    have e0 : (0 : Int) + (i : Int) = i := Int.zero_add _
    simp only [S.runN]
    by_cases hc : (fun j => if j = 0 then S.lowB (keys ws j) else S.namB (keys ws j)) i = true
    · rw [if_pos hc]
      rw [show i + 1 + S.runN (fun j => if j = 0 then S.lowB (keys ws j) else S.namB (keys ws j)) (i + 1) k = i + (S.runN (fun j => if j = 0 then S.lowB (keys ws j) else S.namB (keys ws j)) (i + 1) k + 1) by omega] at ih
      by_cases h0 : i = 0
      · subst h0; simp only [if_true, S.lowB, decide_eq_true_eq] at hc
        apply Comes.of
        show Goes _ _ _
        (first | rw [q67] | unfold q67)
        repeat' (first | with_reducible refine goes_if (fun h => ?_) (fun h => ?_) <;> (try simp only [SH] at h) | exact goes_none.mpr (by omega))
        all_goals first | (exfalso; omega) | exact ih | (exact goes_inr.mpr rfl)
      simp only [h0, if_false, S.namB, decide_eq_true_eq] at hc
      apply Comes.of
      show Goes _ _ _
      (first | rw [q67] | unfold q67)
      repeat' (first | with_reducible refine goes_if (fun h => ?_) (fun h => ?_) <;> (try simp only [SH, e0] at h) | exact goes_none.mpr (by omega))
      all_goals first | (exfalso; omega) | exact ih | (exfalso; simp_all; done) | (exfalso; simp_all; omega)
    · rw [if_neg hc]
      by_cases h0 : i = 0
      · subst h0; simp only [if_true, S.lowB, decide_eq_true_eq] at hc
        apply Comes.of
        show Goes _ _ _
        (first | rw [q67] | unfold q67)
        repeat' (first | with_reducible refine goes_if (fun h => ?_) (fun h => ?_) <;> (try simp only [SH] at h) | exact goes_none.mpr (by omega))
        all_goals first | (exfalso; omega) | exact ih | (exact goes_inr.mpr rfl)
      simp only [h0, if_false, S.namB, decide_eq_true_eq] at hc
      apply Comes.of
      show Goes _ _ _
      (first | rw [q67] | unfold q67)
      repeat' (first | with_reducible refine goes_if (fun h => ?_) (fun h => ?_) <;> (try simp only [SH, e0] at h) | exact goes_none.mpr (by omega))
      all_goals first | (exfalso; omega) | (exact goes_inr.mpr rfl) | (exfalso; simp_all; done) | (exfalso; simp_all; omega)
theorem s67 (ws : ByteArray) (hp : ws.size ≤ 1000) : Goes ((q67 ws)) ((p67 ws)) (((S.runN (fun j => if j = 0 then S.lowB (keys ws j) else S.namB (keys ws j)) 0 ws.size : Nat) : Int)) := by
  have hm := s67' ws hp ws.size 0 (by omega)
  rw [Nat.zero_add] at hm
  show Goes _ _ _
  unfold p67
  repeat' (first | with_reducible refine goes_if (fun h => ?_) (fun h => ?_) <;> (try simp only [SH] at h) | exact goes_none.mpr (by omega))
  all_goals first | (exfalso; omega) | exact hm
theorem k67_ok  : k67.ok Try.prog := by
  intro x hx
  obtain ⟨ws, _⟩ := x
  obtain ⟨h1, h2⟩ := a67 ws (s67 ws (of_dec hx rfl))
  exact ⟨⟨400, (by decide : 0 + 1 + 0 ≤ 400), h1⟩, h2⟩
noncomputable def xN0 (test : Bool → Prop → Prop → Prop) : Ext := consX test [k64, k67]
theorem xN0_ok  : ExtOk Try.prog (xN0 cond) := consX_ok ⟨k64_ok, k67_ok, trivial⟩
abbrev St45  := Empty
abbrev Rt45  := Bool
noncomputable def V45 (ws : ByteArray) (r : Rt45) : PV := PV.bool r
noncomputable def N45 (ws : ByteArray) (r : Rt45) : List Blk := []
noncomputable def I45 (ws : ByteArray) : St45 → Hd := fun s => s.elim
noncomputable def q45 (ws : ByteArray) : St45 → Option (St45 ⊕ Rt45) := fun s => s.elim
noncomputable def p45 (ws : ByteArray) : Option (St45 ⊕ Rt45) := bif (!S.eqS ws (ByteArray.mk #[])) then (bif (decide ((↑(ByteArray.size ws) : Int) ≤ 20)) then (bif (decide ((0 : Int) ≤ 0 ∧ (0 : Int) < (↑(ByteArray.size ws) : Int))) then (bif (decide (keys ws (0) ≥ 97)) then (bif (decide (keys ws (0) ≤ 122)) then (bif (decide (ByteArray.size ws ≤ 1000 ∧ (0 : Int) = 0)) then (bif ((↑(S.runN (fun j => S.namB (keys ws j)) (0) (ByteArray.size ws)) : Int) == (↑(ByteArray.size ws) : Int)) then (some (.inr (true))) else (some (.inr (false)))) else (none)) else (some (.inr (false)))) else (some (.inr (false)))) else (none)) else (some (.inr (false)))) else (some (.inr (false)))
def Te45 (test : TT) (Kst : KS) (Kret : KR) (ws : ByteArray) : Prop := test (!S.eqS ws (ByteArray.mk #[])) (test (decide ((↑(ByteArray.size ws) : Int) ≤ 20)) (test (decide ((0 : Int) ≤ 0 ∧ (0 : Int) < (↑(ByteArray.size ws) : Int))) (test (decide (keys ws (0) ≥ 97)) (test (decide (keys ws (0) ≤ 122)) (test (decide (ByteArray.size ws ≤ 1000 ∧ (0 : Int) = 0)) (test ((↑(S.runN (fun j => S.namB (keys ws j)) (0) (ByteArray.size ws)) : Int) == (↑(ByteArray.size ws) : Int)) (Kret (PV.tf true) ([[]]) (1)) (Kret (PV.tf false) ([[]]) (1))) (False)) (Kret (PV.tf false) ([[]]) (0))) (Kret (PV.tf false) ([[]]) (0))) (False)) (Kret (PV.tf false) ([[]]) (0))) (Kret (PV.tf false) ([[]]) (0))
theorem te45 (test : TT) (Kst : KS) (Kret : KR) (ws : ByteArray) : run test Try.env true (xN0 test) true 400 ⟨45, [.cd (mkFn Try.f45).body], argT 0 [.str ws], [[], []], 0⟩ (proj 0 [] Kst Kret) =
  Te45 test Kst Kret ws := by kernel_rfl
attribute [local irreducible] Int.subNatNat in
theorem be45 (ws : ByteArray) (Kst : KS) (Kret : KR) (x : St45 ⊕ Rt45) (hS : HS 0 400 ((I45 ws)) Kst x) (hR : HR 0 400 ((V45 ws)) (fun r => [newL (0 + 1) ((N45 ws) r) ++ []]) Kret x) (h : p45 ws = some x) : Te45 cond Kst Kret ws := by
  unfold Te45
  unfold p45 at h
  refine bif_split h (fun c0 h => bif_split h (fun c1 h => bif_split h (fun c2 h => bif_split h (fun c3 h => bif_split h (fun c4 h => bif_split h (fun c5 h => bif_split h (fun c6 h => ?_) (fun c6 h => ?_)) (fun c5 h => ?_)) (fun c4 h => ?_)) (fun c3 h => ?_)) (fun c2 h => ?_)) (fun c1 h => ?_)) (fun c0 h => ?_)
  all_goals first
    | exact ret_at hR _ h (fun n => n) rfl rfl rfl (rn_bool_tf rfl) rfl entl_nil
    | exact no_some h
theorem a45 (ws : ByteArray) {r : Rt45} (h : Goes ((q45 ws)) ((p45 ws)) r) : CallR Try.prog 45 [.str ws] [[]] 0 ((V45 ws) r) ((fun r => [newL (0 + 1) ((N45 ws) r) ++ []]) r) 400 ∧ ∃ F, Try.prog.funcs[45]? = some F ∧ F.body.isSome = true ∧ (F.name == "runtime.NumGoroutine") = false := by
  refine dec_calls (sy := true) (f := 45) (lo := 0) (hi := 400) (H := [[]]) (args := [.str ws]) Try.envOk Try.mixed xN0_ok ((I45 ws)) ((V45 ws)) (fun r => [newL (0 + 1) ((N45 ws) r) ++ []]) (fn := mkFn Try.f45) (ts := []) (n := 400) rfl (by decide) (by simp) (names_of rfl) ?_ ?_ ?_ h
  · intro s; exact s.elim
  · intro Kst Kret x hS hR h
    exact Holds.eq (te45 cond Kst Kret ws) (be45 ws Kst Kret x hS hR h)
  · intro Kst Kret x hS hR s h; exact s.elim
noncomputable abbrev w45 {α : Type} (g : ByteArray → α) (x : ByteArray × Unit) : α := g x.1
noncomputable def k45  : Con := ⟨45, [.one (.plain (.str))], w45 (fun ws => decide (True)), w45 (fun ws => (V45 ws) (S.isNam ws)), w45 (fun ws => (N45 ws) (S.isNam ws)), fun _ _ => .dead⟩
theorem s45 (ws : ByteArray) (hp : True) : Goes ((q45 ws)) ((p45 ws)) (S.isNam ws) := by
  have hs : S.eqS ws (ByteArray.mk #[]) = decide (ws.size = 0) := by
    show (ws.toList == (ByteArray.mk #[]).toList) = _
    rw [ByteArray.toList_eq (ByteArray.mk #[])]
    exact size_nil
  have hr := runN_le (p := (fun j => S.namB (keys ws j))) (k := ws.size) (i := 0)
  have e : S.isNam ws = (decide (1 ≤ ws.size ∧ ws.size ≤ 20) && (S.lowB (keys ws 0) && decide (S.runN (fun j => S.namB (keys ws j)) 0 ws.size = ws.size))) := rfl
  rw [e]
  unfold p45
  simp only [hs]
  have hk : S.lowB (keys ws 0) = decide (97 ≤ keys ws 0 ∧ keys ws 0 ≤ 122) := rfl
  generalize S.runN (fun j => S.namB (keys ws j)) 0 ws.size = rn at *
  show Goes _ _ _
  repeat' (first | with_reducible refine goes_if (fun h => ?_) (fun h => ?_) <;> (try simp only [SH] at h) | exact goes_none.mpr (by omega))
  all_goals first
    | (exfalso; omega)
    | (refine goes_inr.mpr ?_; simp only [hk, ← Bool.decide_and]; first | exact (decide_eq_true (by omega)).symm | exact (decide_eq_false (by omega)).symm | (rw [Bool.eq_iff_iff]; simp only [decide_eq_true_eq, beq_iff_eq]; omega))
theorem k45_ok  : k45.ok Try.prog := by
  intro x hx
  obtain ⟨ws, _⟩ := x
  obtain ⟨h1, h2⟩ := a45 ws (s45 ws (of_dec hx rfl))
  exact ⟨⟨400, (by decide : 0 + 1 + 0 ≤ 400), h1⟩, h2⟩
abbrev St49  := Empty
abbrev Rt49  := Bool
noncomputable def V49 (ws : ByteArray) (r : Rt49) : PV := PV.bool r
noncomputable def N49 (ws : ByteArray) (r : Rt49) : List Blk := []
noncomputable def I49 (ws : ByteArray) : St49 → Hd := fun s => s.elim
noncomputable def q49 (ws : ByteArray) : St49 → Option (St49 ⊕ Rt49) := fun s => s.elim
noncomputable def p49 (ws : ByteArray) : Option (St49 ⊕ Rt49) := bif (!S.eqS ws (ByteArray.mk #[])) then (bif (decide ((↑(ByteArray.size ws) : Int) ≤ 20)) then (bif (decide (ByteArray.size ws ≤ 1000)) then (bif ((↑(S.runN (fun j => if j = 0 then S.lowB (keys ws j) else S.namB (keys ws j)) (0) (ByteArray.size ws)) : Int) == (↑(ByteArray.size ws) : Int)) then (some (.inr (true))) else (some (.inr (false)))) else (none)) else (some (.inr (false)))) else (some (.inr (false)))
def Te49 (test : TT) (Kst : KS) (Kret : KR) (ws : ByteArray) : Prop := test (!S.eqS ws (ByteArray.mk #[])) (test (decide ((↑(ByteArray.size ws) : Int) ≤ 20)) (test (decide (ByteArray.size ws ≤ 1000)) (test ((↑(S.runN (fun j => if j = 0 then S.lowB (keys ws j) else S.namB (keys ws j)) (0) (ByteArray.size ws)) : Int) == (↑(ByteArray.size ws) : Int)) (Kret (PV.tf true) ([[]]) (1)) (Kret (PV.tf false) ([[]]) (1))) (False)) (Kret (PV.tf false) ([[]]) (0))) (Kret (PV.tf false) ([[]]) (0))
theorem te49 (test : TT) (Kst : KS) (Kret : KR) (ws : ByteArray) : run test Try.env true (xN0 test) true 400 ⟨49, [.cd (mkFn Try.f49).body], argT 0 [.str ws], [[], []], 0⟩ (proj 0 [] Kst Kret) =
  Te49 test Kst Kret ws := by kernel_rfl
attribute [local irreducible] Int.subNatNat in
theorem be49 (ws : ByteArray) (Kst : KS) (Kret : KR) (x : St49 ⊕ Rt49) (hS : HS 0 400 ((I49 ws)) Kst x) (hR : HR 0 400 ((V49 ws)) (fun r => [newL (0 + 1) ((N49 ws) r) ++ []]) Kret x) (h : p49 ws = some x) : Te49 cond Kst Kret ws := by
  unfold Te49
  unfold p49 at h
  exact bif_split h (fun c0 h => bif_split h (fun c1 h => bif_split h (fun c2 h => bif_split h (fun c3 h => ret_at hR _ h (fun n => n) rfl rfl rfl (rn_bool_tf rfl) rfl entl_nil) (fun c3 h => ret_at hR _ h (fun n => n) rfl rfl rfl (rn_bool_tf rfl) rfl entl_nil)) (fun c2 h => no_some h)) (fun c1 h => ret_at hR _ h (fun n => n) rfl rfl rfl (rn_bool_tf rfl) rfl entl_nil)) (fun c0 h => ret_at hR _ h (fun n => n) rfl rfl rfl (rn_bool_tf rfl) rfl entl_nil)
theorem a49 (ws : ByteArray) {r : Rt49} (h : Goes ((q49 ws)) ((p49 ws)) r) : CallR Try.prog 49 [.str ws] [[]] 0 ((V49 ws) r) ((fun r => [newL (0 + 1) ((N49 ws) r) ++ []]) r) 400 ∧ ∃ F, Try.prog.funcs[49]? = some F ∧ F.body.isSome = true ∧ (F.name == "runtime.NumGoroutine") = false := by
  refine dec_calls (sy := true) (f := 49) (lo := 0) (hi := 400) (H := [[]]) (args := [.str ws]) Try.envOk Try.mixed xN0_ok ((I49 ws)) ((V49 ws)) (fun r => [newL (0 + 1) ((N49 ws) r) ++ []]) (fn := mkFn Try.f49) (ts := []) (n := 400) rfl (by decide) (by simp) (names_of rfl) ?_ ?_ ?_ h
  · intro s; exact s.elim
  · intro Kst Kret x hS hR h
    exact Holds.eq (te49 cond Kst Kret ws) (be49 ws Kst Kret x hS hR h)
  · intro Kst Kret x hS hR s h; exact s.elim
noncomputable abbrev w49 {α : Type} (g : ByteArray → α) (x : ByteArray × Unit) : α := g x.1
noncomputable def k49  : Con := ⟨49, [.one (.plain (.str))], w49 (fun ws => decide (True)), w49 (fun ws => (V49 ws) (S.isNam ws)), w49 (fun ws => (N49 ws) (S.isNam ws)), fun _ _ => .dead⟩
theorem s49 (ws : ByteArray) (hp : True) : Goes ((q49 ws)) ((p49 ws)) (S.isNam ws) := by
  have hs : S.eqS ws (ByteArray.mk #[]) = decide (ws.size = 0) := by
    show (ws.toList == (ByteArray.mk #[]).toList) = _
    rw [ByteArray.toList_eq (ByteArray.mk #[])]
    exact size_nil
  have hr := runN_le (p := (fun j => if j = 0 then S.lowB (keys ws j) else S.namB (keys ws j))) (k := ws.size) (i := 0)
  have e : S.isNam ws = (decide (1 ≤ ws.size ∧ ws.size ≤ 20) && decide (S.runN (fun j => if j = 0 then S.lowB (keys ws j) else S.namB (keys ws j)) 0 ws.size = ws.size)) := by
    unfold S.isNam
    by_cases h1 : 1 ≤ ws.size ∧ ws.size ≤ 20
    · congr 1
      rw [Bool.eq_iff_iff, Bool.and_eq_true, decide_eq_true_eq, decide_eq_true_eq, runN_all, runN_all]
      constructor
      · rintro ⟨a, c⟩ j h2 h3
        split
        · rename_i h4; rw [h4]; exact a
        · exact c j h2 h3
      · intro a
        have a0 := a 0 (Nat.le_refl _) (by omega)
        rw [if_pos rfl] at a0
        refine ⟨a0, fun j h2 h3 => ?_⟩
        have aj := a j h2 h3
        split at aj
        · rename_i h4
          rw [h4]
          simp only [S.lowB, S.namB, decide_eq_true_eq] at a0 ⊢
          omega
        · exact aj
    · rw [decide_eq_false h1, Bool.false_and, Bool.false_and]
  rw [e]
  unfold p49
  simp only [hs]
  skip
  generalize S.runN (fun j => if j = 0 then S.lowB (keys ws j) else S.namB (keys ws j)) 0 ws.size = rn at *
  show Goes _ _ _
  repeat' (first | with_reducible refine goes_if (fun h => ?_) (fun h => ?_) <;> (try simp only [SH] at h) | exact goes_none.mpr (by omega))
  all_goals first
    | (exfalso; omega)
    | (refine goes_inr.mpr ?_; simp only [← Bool.decide_and]; first | exact (decide_eq_true (by omega)).symm | exact (decide_eq_false (by omega)).symm | (rw [Bool.eq_iff_iff]; simp only [decide_eq_true_eq, beq_iff_eq]; omega))
theorem k49_ok  : k49.ok Try.prog := by
  intro x hx
  obtain ⟨ws, _⟩ := x
  obtain ⟨h1, h2⟩ := a49 ws (s49 ws (of_dec hx rfl))
  exact ⟨⟨400, (by decide : 0 + 1 + 0 ≤ 400), h1⟩, h2⟩
abbrev St46  := Empty
abbrev Rt46  := Bool
noncomputable def V46 (al nl ml : Nat) (tl : Nat → ByteArray) (vl gl wl : NI) (tr : ByteArray) (vr gr wr : Int) (r : Rt46) : PV := PV.bool r
noncomputable def N46 (al nl ml : Nat) (tl : Nat → ByteArray) (vl gl wl : NI) (tr : ByteArray) (vr gr wr : Int) (r : Rt46) : List Blk := []
noncomputable def I46 (al nl ml : Nat) (tl : Nat → ByteArray) (vl gl wl : NI) (tr : ByteArray) (vr gr wr : Int) : St46 → Hd := fun s => s.elim
noncomputable def q46 (al nl ml : Nat) (tl : Nat → ByteArray) (vl gl wl : NI) (tr : ByteArray) (vr gr wr : Int) : St46 → Option (St46 ⊕ Rt46) := fun s => s.elim
noncomputable def p46 (al nl ml : Nat) (tl : Nat → ByteArray) (vl gl wl : NI) (tr : ByteArray) (vr gr wr : Int) : Option (St46 ⊕ Rt46) := bif (decide (al + nl ≤ ml ∧ nl ≤ 1000000)) then (bif (decide (S.idx (fun j => S.eqS (tl (j + al)) tr) (0) nl ≥ 0)) then (some (.inr (true))) else (some (.inr (false)))) else (none)
def Te46 (test : TT) (Kst : KS) (Kret : KR) (al nl ml : Nat) (tl : Nat → ByteArray) (vl gl wl : NI) (tr : ByteArray) (vr gr wr : Int) : Prop := test (decide (al + nl ≤ ml ∧ nl ≤ 1000000)) (test (decide (S.idx (fun j => S.eqS (tl (j + al)) tr) (0) nl ≥ 0)) (Kret (PV.tf true) ([[(1, false, Blk.cells [PV.str tr, PV.int .i64 vr, PV.int .i64 gr, PV.int .i64 wr]), (0, false, Blk.cols ml [Col.str tl, Col.int .i64 vl, Col.int .i64 gl, Col.int .i64 wl])]]) (3)) (Kret (PV.tf false) ([[(1, false, Blk.cells [PV.str tr, PV.int .i64 vr, PV.int .i64 gr, PV.int .i64 wr]), (0, false, Blk.cols ml [Col.str tl, Col.int .i64 vl, Col.int .i64 gl, Col.int .i64 wl])]]) (3))) (False)
theorem te46 (test : TT) (Kst : KS) (Kret : KR) (al nl ml : Nat) (tl : Nat → ByteArray) (vl gl wl : NI) (tr : ByteArray) (vr gr wr : Int) : run test Try.env true (xI test) true 400 ⟨46, [.cd (mkFn Try.f46).body], argT 0 [.loose ⟨0, 4, al, 0⟩ nl, .fn (.func 47) [] [.ptr ⟨1, 0, 0, 0⟩]], [[], [(0, (false, .cols ml [.str tl, .int .i64 vl, .int .i64 gl, .int .i64 wl])), (1, (false, .cells [.str tr, .int .i64 vr, .int .i64 gr, .int .i64 wr]))]], 2⟩ (proj 2 [] Kst Kret) =
  Te46 test Kst Kret al nl ml tl vl gl wl tr vr gr wr := by kernel_rfl
noncomputable abbrev J46 (al nl ml : Nat) (tl : Nat → ByteArray) (vl : NI) (gl : NI) (wl : NI) (tr : ByteArray) (vr : Int) (gr : Int) (wr : Int) : Rt46 → Heap := fun r => [newL (2 + 1) ((N46 al nl ml tl vl gl wl tr vr gr wr) r) ++ [(0, (false, .cols ml [.str tl, .int .i64 vl, .int .i64 gl, .int .i64 wl])), (1, (false, .cells [.str tr, .int .i64 vr, .int .i64 gr, .int .i64 wr]))]]
attribute [local irreducible] Int.subNatNat in
theorem be46 (al nl ml : Nat) (tl : Nat → ByteArray) (vl gl wl : NI) (tr : ByteArray) (vr gr wr : Int) (Kst : KS) (Kret : KR) (x : St46 ⊕ Rt46) (hS : HS 2 400 ((I46 al nl ml tl vl gl wl tr vr gr wr)) Kst x) (hR : HR 2 400 ((V46 al nl ml tl vl gl wl tr vr gr wr)) (J46 al nl ml tl vl gl wl tr vr gr wr) Kret x) (h : p46 al nl ml tl vl gl wl tr vr gr wr = some x) : Te46 cond Kst Kret al nl ml tl vl gl wl tr vr gr wr := by
  unfold Te46
  unfold p46 at h
  exact bif_split h (fun c0 h => bif_split h (fun c1 h => ret_at hR _ h (fun n => n) rfl rfl rfl (rn_bool_tf rfl) rfl (entl_bor (use_lo rfl) rfl rfl (entl_borc (use_lo rfl) rfl rfl entl_nil))) (fun c1 h => ret_at hR _ h (fun n => n) rfl rfl rfl (rn_bool_tf rfl) rfl (entl_bor (use_lo rfl) rfl rfl (entl_borc (use_lo rfl) rfl rfl entl_nil)))) (fun c0 h => no_some h)
theorem a46 (al nl ml : Nat) (tl : Nat → ByteArray) (vl gl wl : NI) (tr : ByteArray) (vr gr wr : Int) {r : Rt46} (h : Goes ((q46 al nl ml tl vl gl wl tr vr gr wr)) ((p46 al nl ml tl vl gl wl tr vr gr wr)) r) : CallR Try.prog 46 [.loose ⟨0, 4, al, 0⟩ nl, .fn (.func 47) [] [.ptr ⟨1, 0, 0, 0⟩]] [[(0, (false, .cols ml [.str tl, .int .i64 vl, .int .i64 gl, .int .i64 wl])), (1, (false, .cells [.str tr, .int .i64 vr, .int .i64 gr, .int .i64 wr]))]] 2 ((V46 al nl ml tl vl gl wl tr vr gr wr) r) ((J46 al nl ml tl vl gl wl tr vr gr wr) r) 400 ∧ ∃ F, Try.prog.funcs[46]? = some F ∧ F.body.isSome = true ∧ (F.name == "runtime.NumGoroutine") = false := by
  refine dec_calls (sy := true) (f := 46) (lo := 2) (hi := 400) (H := [[(0, (false, .cols ml [.str tl, .int .i64 vl, .int .i64 gl, .int .i64 wl])), (1, (false, .cells [.str tr, .int .i64 vr, .int .i64 gr, .int .i64 wr]))]]) (args := [.loose ⟨0, 4, al, 0⟩ nl, .fn (.func 47) [] [.ptr ⟨1, 0, 0, 0⟩]]) Try.envOk Try.mixed xI_ok ((I46 al nl ml tl vl gl wl tr vr gr wr)) ((V46 al nl ml tl vl gl wl tr vr gr wr)) (J46 al nl ml tl vl gl wl tr vr gr wr) (fn := mkFn Try.f46) (ts := []) (n := 400) rfl (by decide) (by simp) (names_of rfl) ?_ ?_ ?_ h
  · intro s; exact s.elim
  · intro Kst Kret x hS hR h
    exact Holds.eq (te46 cond Kst Kret al nl ml tl vl gl wl tr vr gr wr) (be46 al nl ml tl vl gl wl tr vr gr wr Kst Kret x hS hR h)
  · intro Kst Kret x hS hR s h; exact s.elim
noncomputable abbrev w46 {α : Type} (g : Nat → Nat → Nat → (Nat → ByteArray) → (Nat → Int) → (Nat → Int) → (Nat → Int) → ByteArray → Int → Int → Int → α) (x : (Nat × Nat × Nat × (Nat → ByteArray) × (Nat → Int) × (Nat → Int) × (Nat → Int) × Unit) × ((ByteArray × Int × Int × Int × Unit) × Unit) × Unit) : α := g x.1.1 x.1.2.1 x.1.2.2.1 x.1.2.2.2.1 x.1.2.2.2.2.1 x.1.2.2.2.2.2.1 x.1.2.2.2.2.2.2.1 x.2.1.1.1 x.2.1.1.2.1 x.2.1.1.2.2.1 x.2.1.1.2.2.2.1
noncomputable def k46  : Con := ⟨46, [.one (.list [.str, .int .i64, .int .i64, .int .i64]), .fn 47 [.cell [.str, .int .i64, .int .i64, .int .i64]]], w46 (fun al nl ml tl vl gl wl tr vr gr wr => decide (al + nl ≤ ml ∧ nl ≤ 1000000)), w46 (fun al nl ml tl vl gl wl tr vr gr wr => (V46 al nl ml tl vl gl wl tr vr gr wr) (S.any (fun j => (S.eqS (tl (j + al)) tr)) nl)), w46 (fun al nl ml tl vl gl wl tr vr gr wr => (N46 al nl ml tl vl gl wl tr vr gr wr) (S.any (fun j => (S.eqS (tl (j + al)) tr)) nl)), fun _ _ => .dead⟩
theorem s46 (al nl ml : Nat) (tl : Nat → ByteArray) (vl gl wl : Nat → Int) (tr : ByteArray) (vr gr wr : Int) (hp : al + nl ≤ ml ∧ nl ≤ 1000000) : Goes ((q46 al nl ml tl vl gl wl tr vr gr wr)) ((p46 al nl ml tl vl gl wl tr vr gr wr)) (S.any (fun j => (S.eqS (tl (j + al)) tr)) nl) := by
  have hp' := hp
  obtain ⟨hp1, hp2⟩ := hp
  rw [← idx_any (p := (fun j => (S.eqS (tl (j + al)) tr))) (n := nl)]
  show Goes _ _ _
  unfold p46
  repeat' (first | with_reducible refine goes_if (fun h => ?_) (fun h => ?_) <;> (try simp only [SH] at h) | exact goes_none.mpr (by omega))
  all_goals first | (exfalso; omega) | (exfalso; simp_all; done) | (refine goes_inr.mpr ?_; first | rfl | (symm; simp_all; done) | (symm; simp_all; omega))
theorem k46_ok  : k46.ok Try.prog := by
  intro x hx
  obtain ⟨⟨al, nl, ml, tl, vl, gl, wl, _⟩, ⟨⟨tr, vr, gr, wr, _⟩, _⟩, _⟩ := x
  obtain ⟨h1, h2⟩ := a46 al nl ml tl vl gl wl tr vr gr wr (s46 al nl ml tl vl gl wl tr vr gr wr (of_dec hx rfl))
  exact ⟨⟨400, (by decide : 2 + 1 + 0 ≤ 400), h1⟩, h2⟩
noncomputable abbrev w15 {α : Type} (g : Nat → Nat → Nat → (Nat → ByteArray) → (Nat → Int) → (Nat → Int) → (Nat → Int) → α) (x : (Nat × Nat × Nat × (Nat → ByteArray) × (Nat → Int) × (Nat → Int) × (Nat → Int) × Unit) × Unit) : α := g x.1.1 x.1.2.1 x.1.2.2.1 x.1.2.2.2.1 x.1.2.2.2.2.1 x.1.2.2.2.2.2.1 x.1.2.2.2.2.2.2.1
noncomputable def k15  : Con := ⟨15, [.one (.list [.str, .int .i64, .int .i64, .int .i64])], w15 (fun aa na ma ta va ga wa => decide (aa + na ≤ ma ∧ na ≤ 1000000)), w15 (fun aa na ma ta va ga wa => .own 2 4 na), w15 (fun aa na ma ta va ga wa => [.cols na [.str (fun j => ta (j + aa)), .int .i64 (fun j => va (j + aa)), .int .i64 (fun j => ga (j + aa)), .int .i64 (fun j => wa (j + aa))]]), fun _ _ => .dead⟩
theorem e15s (test : Bool → Prop → Prop → Prop) (Kst : List It → List PV → Heap → Nat → Prop) (Kret : PV → Heap → Nat → Prop) (aa na ma : Nat) (ta : Nat → ByteArray) (va ga wa : Nat → Int) :
  (run test Try.env true noX true 300 ⟨15, [.cd (mkFn Try.f15).body], argT 0 [.sl ⟨0, 4, aa, 0⟩ na], [[], [(0, (false, .cols ma [.str ta, .int .i64 va, .int .i64 ga, .int .i64 wa]))]], 1⟩ (proj 1 [] Kst Kret)) =
  (test (decide (0 + na ≤ 1000000))
  (test true
    (test (decide (aa + na ≤ ma))
      (Kret (PV.own (2) (4) (0 + na))
        [[(0, false,
              Blk.cols ma [Col.str ta, Col.int IntKind.i64 va, Col.int IntKind.i64 ga, Col.int IntKind.i64 wa]),
            (2, true,
              Blk.cols (0 + na)
                [Col.str fun j => ta (j + aa), Col.int IntKind.i64 fun j => va (j + aa),
                  Col.int IntKind.i64 fun j => ga (j + aa), Col.int IntKind.i64 fun j => wa (j + aa)])]]
        (3))
      False)
    False)
  False) := by kernel_rfl
theorem c15s (aa na ma : Nat) (ta : Nat → ByteArray) (va ga wa : NI) (hp : aa + na ≤ ma ∧ na ≤ 1000000) (h0 : 0 < na) : CallR Try.prog 15 [.sl ⟨0, 4, aa, 0⟩ na] [[(0, (false, .cols ma [.str ta, .int .i64 va, .int .i64 ga, .int .i64 wa]))]] 1 (.own 2 4 na) [(2, (true, .cols na [.str (fun j => ta (j + aa)), .int .i64 (fun j => va (j + aa)), .int .i64 (fun j => ga (j + aa)), .int .i64 (fun j => wa (j + aa))])) :: [(0, (false, .cols ma [.str ta, .int .i64 va, .int .i64 ga, .int .i64 wa]))]] 40 ∧ ∃ F, Try.prog.funcs[15]? = some F ∧ F.body.isSome = true ∧ (F.name == "runtime.NumGoroutine") = false := by
  refine @ret_eq _ _ Try.envOk Try.mixed _ noX_ok 15 (mkFn Try.f15) [.sl ⟨0, 4, aa, 0⟩ na] [[(0, (false, .cols ma [.str ta, .int .i64 va, .int .i64 ga, .int .i64 wa]))]] [(2, (true, .cols na [.str (fun j => ta (j + aa)), .int .i64 (fun j => va (j + aa)), .int .i64 (fun j => ga (j + aa)), .int .i64 (fun j => wa (j + aa))])) :: [(0, (false, .cols ma [.str ta, .int .i64 va, .int .i64 ga, .int .i64 wa]))]] 1 40 (.own 2 4 na) true 300 rfl (by decide) (by simp) (names_of rfl) _ (e15s cond _ _ aa na ma ta va ga wa) ?_
  repeat' first
    | with_reducible refine cond_yes rfl ?_
    | with_reducible refine cond_no rfl ?_
    | (with_reducible refine cond_intro (fun h => ?_) (fun h => ?_)) <;> (try simp only [lim64, decide_eq_true_eq, decide_eq_false_iff_not, reduceCtorEq, Int.toNat_natCast, Bool.not_eq_true', Bool.not_eq_false', Bool.and_eq_true, Bool.or_eq_true, Bool.and_eq_false_iff, Bool.or_eq_false_iff, bne_iff_ne, beq_iff_eq, bne_eq_false_iff_eq, beq_eq_false_iff_ne, ne_eq] at h)
  all_goals first
    | with_reducible apply ret_k
    | omega
  repeat' first
    | with_reducible exact rns_nil
    | with_reducible refine rns_cons ?_ ?_
    | with_reducible refine rn_tup ?_
    | with_reducible refine rn_agg ?_
    | with_reducible refine rn_int ?_
    | with_reducible refine rn_tf ?_
    | with_reducible refine rn_bool_tf ?_
    | with_reducible refine rn_bool ?_
    | with_reducible refine rn_str ?_
    | with_reducible exact rn_nils
    | with_reducible refine rn_own_nils ?_
    | with_reducible refine rn_own ?_ ?_ ?_
    | with_reducible refine rn_own_sl ?_ ?_ ?_ ?_ ?_
    | with_reducible refine rn_own_loose ?_ ?_ ?_ ?_
    | with_reducible refine rn_loose ?_ ?_ ?_ ?_
    | with_reducible refine rn_loose_sl ?_ ?_ ?_ ?_
    | exact use_lo rfl
    | exact use_own rfl
    | exact nm_k rfl
    | exact nm_lo rfl
    | ((with_reducible refine (id : pos _ = pos _ → _) ?_); exact rfl)
    | ((with_reducible refine (id : pos _ = 0 → _) ?_); exact rfl)
    | ((with_reducible refine (id : Nat.ble _ _ = true → _) ?_); exact rfl)
    | ((with_reducible refine (id : injL _ _ = true → _) ?_); exact rfl)
    | ((with_reducible refine (id : plainC _ = true → _) ?_); exact rfl)
    | ((with_reducible refine (id : hget _ _ = some _ → _) ?_); exact rfl)
    | with_reducible exact (id : (_ : Bool) = true → _ = true)
    | with_reducible exact entl_nil
    | with_reducible refine entl_bor ?_ ?_ ?_ ?_
    | refine entl_new (use_own rfl) (by rfl) ?_ ?_ ?_
    | refine entl_rows (use_own rfl) (by rfl) rfl ?_ (nthc_all ?_) ?_
    | refine entl_zero (use_own rfl) (by rfl) (by simp) (by omega) ?_
    | with_reducible exact rcs_nil
    | with_reducible refine rcs_int (fun j hj => ?_) ?_
    | with_reducible refine rcs_bool (fun j hj => ?_) ?_
    | with_reducible refine rcs_str (fun j hj => ?_) ?_
    | refine entl_fresh (k := 2) (use_own rfl) (fresh_ok (n := 39) rfl) ?_
    | with_reducible rfl
  all_goals try exact (0 : Nat)
  all_goals try ((with_reducible refine (id : injL _ _ = true → _) ?_); exact rfl)
  all_goals first
    | omega
    | skip
theorem e15z (test : Bool → Prop → Prop → Prop) (Kst : List It → List PV → Heap → Nat → Prop) (Kret : PV → Heap → Nat → Prop) (aa na ma : Nat) (ta : Nat → ByteArray) (va ga wa : Nat → Int) :
  (run test Try.env true noX true 300 ⟨15, [.cd (mkFn Try.f15).body], argT 0 [.zer true], [[], [(0, (false, .cols ma [.str ta, .int .i64 va, .int .i64 ga, .int .i64 wa]))]], 1⟩ (proj 1 [] Kst Kret)) =
  (Kret (PV.own (1) (4) (0))
  [[(0, false,
        Blk.cols ma [Col.str ta, Col.int IntKind.i64 va, Col.int IntKind.i64 ga, Col.int IntKind.i64 wa]),
      (1, true, Blk.cells [])]]
  (2)) := by kernel_rfl
theorem c15z (aa na ma : Nat) (ta : Nat → ByteArray) (va ga wa : NI) (hp : aa + na ≤ ma ∧ na ≤ 1000000) (h0 : na = 0) : CallR Try.prog 15 [.zer true] [[(0, (false, .cols ma [.str ta, .int .i64 va, .int .i64 ga, .int .i64 wa]))]] 1 (.own 2 4 na) [(2, (true, .cols na [.str (fun j => ta (j + aa)), .int .i64 (fun j => va (j + aa)), .int .i64 (fun j => ga (j + aa)), .int .i64 (fun j => wa (j + aa))])) :: [(0, (false, .cols ma [.str ta, .int .i64 va, .int .i64 ga, .int .i64 wa]))]] 40 ∧ ∃ F, Try.prog.funcs[15]? = some F ∧ F.body.isSome = true ∧ (F.name == "runtime.NumGoroutine") = false := by
  refine @ret_eq _ _ Try.envOk Try.mixed _ noX_ok 15 (mkFn Try.f15) [.zer true] [[(0, (false, .cols ma [.str ta, .int .i64 va, .int .i64 ga, .int .i64 wa]))]] [(2, (true, .cols na [.str (fun j => ta (j + aa)), .int .i64 (fun j => va (j + aa)), .int .i64 (fun j => ga (j + aa)), .int .i64 (fun j => wa (j + aa))])) :: [(0, (false, .cols ma [.str ta, .int .i64 va, .int .i64 ga, .int .i64 wa]))]] 1 40 (.own 2 4 na) true 300 rfl (by decide) (by simp) (names_of rfl) _ (e15z cond _ _ aa na ma ta va ga wa) ?_
  repeat' first
    | with_reducible refine cond_yes rfl ?_
    | with_reducible refine cond_no rfl ?_
    | (with_reducible refine cond_intro (fun h => ?_) (fun h => ?_)) <;> (try simp only [lim64, decide_eq_true_eq, decide_eq_false_iff_not, reduceCtorEq, Int.toNat_natCast, Bool.not_eq_true', Bool.not_eq_false', Bool.and_eq_true, Bool.or_eq_true, Bool.and_eq_false_iff, Bool.or_eq_false_iff, bne_iff_ne, beq_iff_eq, bne_eq_false_iff_eq, beq_eq_false_iff_ne, ne_eq] at h)
  all_goals first
    | with_reducible apply ret_k
    | omega
  repeat' first
    | with_reducible exact rns_nil
    | with_reducible refine rns_cons ?_ ?_
    | with_reducible refine rn_tup ?_
    | with_reducible refine rn_agg ?_
    | with_reducible refine rn_int ?_
    | with_reducible refine rn_tf ?_
    | with_reducible refine rn_bool_tf ?_
    | with_reducible refine rn_bool ?_
    | with_reducible refine rn_str ?_
    | with_reducible exact rn_nils
    | with_reducible refine rn_own_nils ?_
    | with_reducible refine rn_own ?_ ?_ ?_
    | with_reducible refine rn_own_sl ?_ ?_ ?_ ?_ ?_
    | with_reducible refine rn_own_loose ?_ ?_ ?_ ?_
    | with_reducible refine rn_loose ?_ ?_ ?_ ?_
    | with_reducible refine rn_loose_sl ?_ ?_ ?_ ?_
    | exact use_lo rfl
    | exact use_own rfl
    | exact nm_k rfl
    | exact nm_lo rfl
    | ((with_reducible refine (id : pos _ = pos _ → _) ?_); exact rfl)
    | ((with_reducible refine (id : pos _ = 0 → _) ?_); exact rfl)
    | ((with_reducible refine (id : Nat.ble _ _ = true → _) ?_); exact rfl)
    | ((with_reducible refine (id : injL _ _ = true → _) ?_); exact rfl)
    | ((with_reducible refine (id : plainC _ = true → _) ?_); exact rfl)
    | ((with_reducible refine (id : hget _ _ = some _ → _) ?_); exact rfl)
    | with_reducible exact (id : (_ : Bool) = true → _ = true)
    | with_reducible exact entl_nil
    | with_reducible refine entl_bor ?_ ?_ ?_ ?_
    | refine entl_new (use_own rfl) (by rfl) ?_ ?_ ?_
    | refine entl_rows (use_own rfl) (by rfl) rfl ?_ (nthc_all ?_) ?_
    | refine entl_zero (use_own rfl) (by rfl) (by simp) (by omega) ?_
    | with_reducible exact rcs_nil
    | with_reducible refine rcs_int (fun j hj => ?_) ?_
    | with_reducible refine rcs_bool (fun j hj => ?_) ?_
    | with_reducible refine rcs_str (fun j hj => ?_) ?_
    | refine entl_fresh (k := 2) (use_own rfl) (fresh_ok (n := 39) rfl) ?_
    | with_reducible rfl
  all_goals try exact (0 : Nat)
  all_goals try ((with_reducible refine (id : injL _ _ = true → _) ?_); exact rfl)
  all_goals first
    | omega
    | skip
theorem e15y (test : Bool → Prop → Prop → Prop) (Kst : List It → List PV → Heap → Nat → Prop) (Kret : PV → Heap → Nat → Prop) (aa na ma : Nat) (ta : Nat → ByteArray) (va ga wa : Nat → Int) :
  (run test Try.env true noX true 300 ⟨15, [.cd (mkFn Try.f15).body], argT 0 [.zer false], [[], [(0, (false, .cols ma [.str ta, .int .i64 va, .int .i64 ga, .int .i64 wa]))]], 1⟩ (proj 1 [] Kst Kret)) =
  (Kret PV.nils
  [[(0, false,
        Blk.cols ma [Col.str ta, Col.int IntKind.i64 va, Col.int IntKind.i64 ga, Col.int IntKind.i64 wa])]]
  (1)) := by kernel_rfl
theorem c15y (aa na ma : Nat) (ta : Nat → ByteArray) (va ga wa : NI) (hp : aa + na ≤ ma ∧ na ≤ 1000000) (h0 : na = 0) : CallR Try.prog 15 [.zer false] [[(0, (false, .cols ma [.str ta, .int .i64 va, .int .i64 ga, .int .i64 wa]))]] 1 (.own 2 4 na) [(2, (true, .cols na [.str (fun j => ta (j + aa)), .int .i64 (fun j => va (j + aa)), .int .i64 (fun j => ga (j + aa)), .int .i64 (fun j => wa (j + aa))])) :: [(0, (false, .cols ma [.str ta, .int .i64 va, .int .i64 ga, .int .i64 wa]))]] 40 ∧ ∃ F, Try.prog.funcs[15]? = some F ∧ F.body.isSome = true ∧ (F.name == "runtime.NumGoroutine") = false := by
  refine @ret_eq _ _ Try.envOk Try.mixed _ noX_ok 15 (mkFn Try.f15) [.zer false] [[(0, (false, .cols ma [.str ta, .int .i64 va, .int .i64 ga, .int .i64 wa]))]] [(2, (true, .cols na [.str (fun j => ta (j + aa)), .int .i64 (fun j => va (j + aa)), .int .i64 (fun j => ga (j + aa)), .int .i64 (fun j => wa (j + aa))])) :: [(0, (false, .cols ma [.str ta, .int .i64 va, .int .i64 ga, .int .i64 wa]))]] 1 40 (.own 2 4 na) true 300 rfl (by decide) (by simp) (names_of rfl) _ (e15y cond _ _ aa na ma ta va ga wa) ?_
  repeat' first
    | with_reducible refine cond_yes rfl ?_
    | with_reducible refine cond_no rfl ?_
    | (with_reducible refine cond_intro (fun h => ?_) (fun h => ?_)) <;> (try simp only [lim64, decide_eq_true_eq, decide_eq_false_iff_not, reduceCtorEq, Int.toNat_natCast, Bool.not_eq_true', Bool.not_eq_false', Bool.and_eq_true, Bool.or_eq_true, Bool.and_eq_false_iff, Bool.or_eq_false_iff, bne_iff_ne, beq_iff_eq, bne_eq_false_iff_eq, beq_eq_false_iff_ne, ne_eq] at h)
  all_goals first
    | with_reducible apply ret_k
    | omega
  repeat' first
    | with_reducible exact rns_nil
    | with_reducible refine rns_cons ?_ ?_
    | with_reducible refine rn_tup ?_
    | with_reducible refine rn_agg ?_
    | with_reducible refine rn_int ?_
    | with_reducible refine rn_tf ?_
    | with_reducible refine rn_bool_tf ?_
    | with_reducible refine rn_bool ?_
    | with_reducible refine rn_str ?_
    | with_reducible exact rn_nils
    | with_reducible refine rn_own_nils ?_
    | with_reducible refine rn_own ?_ ?_ ?_
    | with_reducible refine rn_own_sl ?_ ?_ ?_ ?_ ?_
    | with_reducible refine rn_own_loose ?_ ?_ ?_ ?_
    | with_reducible refine rn_loose ?_ ?_ ?_ ?_
    | with_reducible refine rn_loose_sl ?_ ?_ ?_ ?_
    | exact use_lo rfl
    | exact use_own rfl
    | exact nm_k rfl
    | exact nm_lo rfl
    | ((with_reducible refine (id : pos _ = pos _ → _) ?_); exact rfl)
    | ((with_reducible refine (id : pos _ = 0 → _) ?_); exact rfl)
    | ((with_reducible refine (id : Nat.ble _ _ = true → _) ?_); exact rfl)
    | ((with_reducible refine (id : injL _ _ = true → _) ?_); exact rfl)
    | ((with_reducible refine (id : plainC _ = true → _) ?_); exact rfl)
    | ((with_reducible refine (id : hget _ _ = some _ → _) ?_); exact rfl)
    | with_reducible exact (id : (_ : Bool) = true → _ = true)
    | with_reducible exact entl_nil
    | with_reducible refine entl_bor ?_ ?_ ?_ ?_
    | refine entl_new (use_own rfl) (by rfl) ?_ ?_ ?_
    | refine entl_rows (use_own rfl) (by rfl) rfl ?_ (nthc_all ?_) ?_
    | refine entl_zero (use_own rfl) (by rfl) (by simp) (by omega) ?_
    | with_reducible exact rcs_nil
    | with_reducible refine rcs_int (fun j hj => ?_) ?_
    | with_reducible refine rcs_bool (fun j hj => ?_) ?_
    | with_reducible refine rcs_str (fun j hj => ?_) ?_
    | refine entl_fresh (k := 2) (use_own rfl) (fresh_ok (n := 39) rfl) ?_
    | with_reducible rfl
  all_goals try exact (0 : Nat)
  all_goals try ((with_reducible refine (id : injL _ _ = true → _) ?_); exact rfl)
  all_goals first
    | omega
    | skip
theorem c15 (aa na ma : Nat) (ta : Nat → ByteArray) (va ga wa : NI) (hp : aa + na ≤ ma ∧ na ≤ 1000000) : CallR Try.prog 15 [.loose ⟨0, 4, aa, 0⟩ na] [[(0, (false, .cols ma [.str ta, .int .i64 va, .int .i64 ga, .int .i64 wa]))]] 1 (.own 2 4 na) [(2, (true, .cols na [.str (fun j => ta (j + aa)), .int .i64 (fun j => va (j + aa)), .int .i64 (fun j => ga (j + aa)), .int .i64 (fun j => wa (j + aa))])) :: [(0, (false, .cols ma [.str ta, .int .i64 va, .int .i64 ga, .int .i64 wa]))]] 40 ∧ ∃ F, Try.prog.funcs[15]? = some F ∧ F.body.isSome = true ∧ (F.name == "runtime.NumGoroutine") = false :=
  ⟨loose_cases (fun h => (c15s aa na ma ta va ga wa hp h).1) (fun h b => by cases b; exact (c15y aa na ma ta va ga wa hp h).1; exact (c15z aa na ma ta va ga wa hp h).1), by
    rcases Nat.eq_zero_or_pos na with h | h
    · exact (c15y aa na ma ta va ga wa hp h).2
    · exact (c15s aa na ma ta va ga wa hp h).2⟩
theorem k15_ok  : k15.ok Try.prog := by
  intro x hx
  obtain ⟨⟨aa, na, ma, ta, va, ga, wa, _⟩, _⟩ := x
  have hp : aa + na ≤ ma ∧ na ≤ 1000000 := of_decide_eq_true hx
  obtain ⟨h1, h2⟩ := c15 aa na ma ta va ga wa hp
  exact ⟨⟨40, (by decide : 1 + 1 + 1 ≤ 40), h1⟩, h2⟩
noncomputable def xV (test : Bool → Prop → Prop → Prop) : Ext := consX test [k45, k49, k46]
theorem xV_ok  : ExtOk Try.prog (xV cond) := consX_ok ⟨k45_ok, k49_ok, k46_ok, trivial⟩
namespace S
def tskG (p c d : Int) : Bool := decide (1 ≤ p ∧ p ≤ 1000000 ∧ 1 ≤ c ∧ c ≤ p ∧ c ≤ d ∧ d ≤ p)
def tskE (t : Nat → ByteArray) (p c d : Nat → Int) : Nat → Nat → Int
  | _, 0 => 0
  | i, k + 1 => if isNam (t i) = true then (if any (fun j => eqS (t j) (t i)) i = true then 5 else if tskG (p i) (c i) (d i) = true then tskE t p c d (i + 1) k else 6) else 2
def tskS (n : Nat) (t : Nat → ByteArray) (p c d : Nat → Int) : Int := if n = 0 then 7 else if 8 < n then 3 else tskE t p c d 0 n
def okT (n : Nat) (p c d : Nat → Int) : Bool := decide (n ≤ 8 ∧ ∀ j, j < n → 1 ≤ p j ∧ p j ≤ 1000000 ∧ 1 ≤ c j ∧ c j ≤ p j ∧ c j ≤ d j ∧ d j ≤ p j)
def dsum (p c : Nat → Int) (t : Int) : Nat → Int
  | 0 => 0
  | j + 1 => dsum p c t j + c j * Int.tdiv (t + p j - 1) (p j)
def dem (p c : Nat → Int) (i : Nat) (t : Int) : Int := c i + dsum p c t i
def fixF (f : Int → Int) : Nat → Int → Int × Bool
  | 0, _ => (0, false)
  | k + 1, t => if f t = t then (t, true) else fixF f k (t + 1)
def resT (p c d : Nat → Int) (i : Nat) : Int × Bool := fixF (fun t => dem p c i t) (d i).toNat 1
def misT (n : Nat) (p c d : Nat → Int) : Int := idx (fun i => !(resT p c d i).2) 0 n
end S
theorem any_sc  {p : Nat → Bool} {n : Nat} : S.any p (n + 1) = (S.any p n || p n) := by simp [S.any, List.range_succ]
theorem tskE_ok  {t : Nat → ByteArray} {p c d : Nat → Int} : ∀ {k i : Nat}, S.tskE t p c d i k = 0 → ∀ j, i ≤ j → j < i + k → S.tskG (p j) (c j) (d j) = true
  | 0, i, _, j, h1, h2 => by omega
  | k + 1, i, h, j, h1, h2 => by
    simp only [S.tskE] at h
    split at h
    · split at h
      · cases h
      · split at h
        · rename_i hg
          rcases Nat.lt_or_ge i j with h3 | h3
          · exact tskE_ok h j (by omega) (by omega)
          · obtain rfl : j = i := by omega
            exact hg
        · cases h
    · cases h
theorem tskS_ok  {n : Nat} {t : Nat → ByteArray} {p c d : Nat → Int} (h : S.tskS n t p c d = 0) : 1 ≤ n ∧ S.okT n p c d = true := by
  unfold S.tskS at h
  split at h
  · cases h
  · split at h
    · cases h
    · refine ⟨by omega, decide_eq_true ⟨by omega, fun j hj => of_decide_eq_true (tskE_ok h j (Nat.zero_le _) (by omega))⟩⟩
theorem okT_at  {n : Nat} {p c d : Nat → Int} (h : S.okT n p c d = true) : n ≤ 8 ∧ ∀ j, j < n → 1 ≤ p j ∧ p j ≤ 1000000 ∧ 1 ≤ c j ∧ c j ≤ p j ∧ c j ≤ d j ∧ d j ≤ p j := of_decide_eq_true h
theorem up_b  {t p : Int} (h0 : 0 ≤ t) (h1 : 1 ≤ p) : 0 ≤ Int.tdiv (t + p - 1) p ∧ Int.tdiv (t + p - 1) p ≤ t := by
  rw [Int.tdiv_eq_ediv_of_nonneg (by omega)]
  refine ⟨Int.ediv_nonneg (by omega) (by omega), ?_⟩
  have : (t + p - 1) / p < t + 1 := by
    rw [Int.ediv_lt_iff_lt_mul (by omega)]
    have : (t + 1) * p = t * p + p := by rw [Int.add_mul, Int.one_mul]
    have h2 : t * 1 ≤ t * p := Int.mul_le_mul_of_nonneg_left h1 h0
    omega
  omega
theorem up_mono  {t u p : Int} (h0 : 0 ≤ t) (h1 : 1 ≤ p) (h : t ≤ u) : Int.tdiv (t + p - 1) p ≤ Int.tdiv (u + p - 1) p := by
  rw [Int.tdiv_eq_ediv_of_nonneg (by omega), Int.tdiv_eq_ediv_of_nonneg (by omega)]
  exact Int.ediv_le_ediv (by omega) (by omega)
theorem dsum_b  {p c : Nat → Int} {t : Int} (h0 : 0 ≤ t) (ht : t ≤ 1000000) : ∀ {i : Nat}, (∀ j, j < i → 1 ≤ p j ∧ 0 ≤ c j ∧ c j ≤ 1000000) → 0 ≤ S.dsum p c t i ∧ S.dsum p c t i ≤ 1000000000000 * i
  | 0, _ => ⟨Int.le_refl _, Int.le_refl _⟩
  | i + 1, h => by
    have ih := dsum_b (p := p) (c := c) (t := t) h0 ht (i := i) fun j hj => h j (by omega)
    obtain ⟨a1, a2, a3⟩ := h i (by omega)
    obtain ⟨b1, b2⟩ := up_b (t := t) h0 a1
    simp only [S.dsum]
    generalize Int.tdiv (t + p i - 1) (p i) = q at *
    have c1 : 0 ≤ c i * q := Int.mul_nonneg a2 b1
    have c2 : c i * q ≤ 1000000 * 1000000 := Int.mul_le_mul a3 (by omega) b1 (by omega)
    omega
theorem dsum_mono  {p c : Nat → Int} {t u : Int} (h0 : 0 ≤ t) (hu : t ≤ u) : ∀ {i : Nat}, (∀ j, j < i → 1 ≤ p j ∧ 0 ≤ c j) → S.dsum p c t i ≤ S.dsum p c u i
  | 0, _ => Int.le_refl _
  | i + 1, h => by
    have ih := dsum_mono (p := p) (c := c) h0 hu (i := i) fun j hj => h j (by omega)
    obtain ⟨a1, a2⟩ := h i (by omega)
    have := Int.mul_le_mul_of_nonneg_left (up_mono h0 a1 hu) a2
    simp only [S.dsum]
    omega
theorem dem_b  {n : Nat} {p c d : Nat → Int} (h : S.okT n p c d = true) {i : Nat} (hi : i < n) {t : Int} (h0 : 0 ≤ t) (ht : t ≤ 1000000) : c i ≤ S.dem p c i t ∧ S.dem p c i t ≤ 10000000000000 := by
  obtain ⟨hn, h⟩ := okT_at h
  have := dsum_b (p := p) (c := c) h0 ht (i := i) fun j hj => by have := h j (by omega); omega
  have := h i hi
  unfold S.dem
  omega
theorem dem_mono  {n : Nat} {p c d : Nat → Int} (h : S.okT n p c d = true) {i : Nat} (hi : i < n) {t u : Int} (h0 : 0 ≤ t) (hu : t ≤ u) : S.dem p c i t ≤ S.dem p c i u := by
  obtain ⟨hn, h⟩ := okT_at h
  have := dsum_mono (p := p) (c := c) h0 hu (i := i) fun j hj => by have := h j (by omega); omega
  unfold S.dem
  omega
theorem fixF_skip  {f : Int → Int} : ∀ {k : Nat} {t : Int} (j : Nat), j ≤ k → (∀ u, t ≤ u → u < t + j → f u ≠ u) → S.fixF f k t = S.fixF f (k - j) (t + j)
  | k, t, 0, _, _ => by simp
  | 0, t, j + 1, h, _ => by omega
  | k + 1, t, j + 1, h, hf => by
    simp only [S.fixF]
    rw [if_neg (hf t (Int.le_refl _) (by omega)), fixF_skip (k := k) (t := t + 1) j (by omega) fun u h1 h2 => hf u (by omega) (by omega)]
    rw [show k + 1 - (j + 1) = k - j by omega, show t + 1 + (j : Int) = t + ((j + 1 : Nat) : Int) by omega]
theorem fixF_none  {f : Int → Int} : ∀ {k : Nat} {t : Int}, (∀ u, t ≤ u → u < t + k → f u ≠ u) → S.fixF f k t = (0, false)
  | 0, t, _ => rfl
  | k + 1, t, h => by
    simp only [S.fixF]
    rw [if_neg (h t (Int.le_refl _) (by omega))]
    exact fixF_none fun u h1 h2 => h u (by omega) (by omega)
theorem fix_step  {f : Int → Int} {D t : Int} (hm : ∀ u v, 0 ≤ u → u ≤ v → f u ≤ f v) (ht : 1 ≤ t) (hD : t ≤ D) (hlt : t ≤ f t) (hne : f t ≠ t) : S.fixF f (D - t + 1).toNat t = S.fixF f (D - f t + 1).toNat (f t) := by
  have hno : ∀ u, t ≤ u → u < f t → f u ≠ u := fun u h1 h2 e => by
    have := hm t u (by omega) h1
    omega
  by_cases hb : f t ≤ D
  · rw [fixF_skip (k := (D - t + 1).toNat) (t := t) (f t - t).toNat (by omega) fun u h1 h2 => hno u h1 (by omega)]
    rw [show (D - t + 1).toNat - (f t - t).toNat = (D - f t + 1).toNat by omega, show t + ((f t - t).toNat : Int) = f t by omega]
  · rw [fixF_none fun u h1 h2 => hno u h1 (by omega), show (D - f t + 1).toNat = 0 by omega]
    rfl
inductive St50 where
  | h0 (x0 : Int) (x1 : Int)
abbrev Rt50  := Int
noncomputable def V50 (al nl ml : Nat) (tl : Nat → ByteArray) (vl gl wl : NI) (cn ct : Int) (r : Rt50) : PV := PV.int .i64 r
noncomputable def N50 (al nl ml : Nat) (tl : Nat → ByteArray) (vl gl wl : NI) (cn ct : Int) (r : Rt50) : List Blk := []
noncomputable def I50 (al nl ml : Nat) (tl : Nat → ByteArray) (vl gl wl : NI) (cn ct : Int) : St50 → Hd
  | .h0 x0 x1 => ⟨hd Try.f50 0, [PV.int .i64 ct, PV.int .i64 x0,
 PV.loose (PA.mk (0) (4) (0 + al) (0)) (Int.toNat cn),
 PV.int .i64 (↑(Int.toNat cn) : Int), PV.int .i64 x1], [[], [(0, (false, .cols ml [.str tl, .int .i64 vl, .int .i64 gl, .int .i64 wl]))]], 1⟩
noncomputable def q50 (al nl ml : Nat) (tl : Nat → ByteArray) (vl gl wl : NI) (cn ct : Int) : St50 → Option (St50 ⊕ Rt50) | .h0 x0 x1 => bif (decide (x1 < (↑(Int.toNat cn) : Int))) then (bif (decide ((0 : Int) ≤ x1 ∧ x1 < (↑(Int.toNat cn) : Int))) then (bif (decide (Int.toNat x1 + (0 + al) < ml)) then (bif (lim .i64 (ct + vl (Int.toNat x1 + (0 + al)))) then (bif (lim .i64 (ct + vl (Int.toNat x1 + (0 + al)) - 1)) then (bif (decide (vl (Int.toNat x1 + (0 + al)) = 0)) then (none) else (bif (lim .i64 (Int.tdiv (ct + vl (Int.toNat x1 + (0 + al)) - 1) (vl (Int.toNat x1 + (0 + al))))) then (bif (lim .i64 (gl (Int.toNat x1 + (0 + al)) * Int.tdiv (ct + vl (Int.toNat x1 + (0 + al)) - 1) (vl (Int.toNat x1 + (0 + al))))) then (bif (lim .i64 (x0 + gl (Int.toNat x1 + (0 + al)) * Int.tdiv (ct + vl (Int.toNat x1 + (0 + al)) - 1) (vl (Int.toNat x1 + (0 + al))))) then (bif (lim .i64 (x1 + 1)) then (some (.inl (.h0 (x0 + gl (Int.toNat x1 + (0 + al)) * Int.tdiv (ct + vl (Int.toNat x1 + (0 + al)) - 1) (vl (Int.toNat x1 + (0 + al)))) (x1 + 1)))) else (none)) else (none)) else (none)) else (none))) else (none)) else (none)) else (none)) else (none)) else (some (.inr (x0)))
noncomputable def p50 (al nl ml : Nat) (tl : Nat → ByteArray) (vl gl wl : NI) (cn ct : Int) : Option (St50 ⊕ Rt50) := bif (decide ((0 : Int) ≤ cn ∧ cn < (↑nl : Int))) then (bif (decide (Int.toNat cn + al < ml)) then (bif (decide ((0 : Int) ≤ Option.getD Option.none (0 : Int) ∧ (0 : Int) ≤ cn ∧ cn ≤ (↑nl : Int))) then (some (.inl (.h0 (gl (Int.toNat cn + al)) ((0 : Int))))) else (none)) else (none)) else (none)
def Te50 (test : TT) (Kst : KS) (Kret : KR) (al nl ml : Nat) (tl : Nat → ByteArray) (vl gl wl : NI) (cn ct : Int) : Prop := test (decide ((0 : Int) ≤ cn ∧ cn < (↑nl : Int))) (test (decide (Int.toNat cn + al < ml)) (test (decide ((0 : Int) ≤ Option.getD Option.none (0 : Int) ∧ (0 : Int) ≤ cn ∧ cn ≤ (↑nl : Int))) (Kst (hd Try.f50 0) ([PV.int .i64 ct, PV.int .i64 (gl (Int.toNat cn + al)), PV.loose (PA.mk (0) (4) (0 + al) (0)) (Int.toNat cn), PV.int .i64 (↑(Int.toNat cn) : Int), PV.int .i64 (0 : Int)]) ([[(0, false, Blk.cols ml [Col.str tl, Col.int .i64 vl, Col.int .i64 gl, Col.int .i64 wl])]]) (1)) (False)) (False)) (False)
theorem te50 (test : TT) (Kst : KS) (Kret : KR) (al nl ml : Nat) (tl : Nat → ByteArray) (vl gl wl : NI) (cn ct : Int) : run test Try.env true noX true 400 ⟨50, [.cd (mkFn Try.f50).body], argT 0 [.loose ⟨0, 4, al, 0⟩ nl, .int .i64 cn, .int .i64 ct], [[], [(0, (false, .cols ml [.str tl, .int .i64 vl, .int .i64 gl, .int .i64 wl]))]], 1⟩ (proj 1 [2, 7, 17, 18, 19] Kst Kret) =
  Te50 test Kst Kret al nl ml tl vl gl wl cn ct := by kernel_rfl
def T50_0 (test : TT) (Kst : KS) (Kret : KR) (al nl ml : Nat) (tl : Nat → ByteArray) (vl gl wl : NI) (cn ct x0 x1 : Int) : Prop := test (decide (x1 < (↑(Int.toNat cn) : Int))) (test (decide ((0 : Int) ≤ x1 ∧ x1 < (↑(Int.toNat cn) : Int))) (test (decide (Int.toNat x1 + (0 + al) < ml)) (test (decide (Int.toNat x1 + (0 + al) < ml)) (test (decide (Int.toNat x1 + (0 + al) < ml)) (test (decide (Int.toNat x1 + (0 + al) < ml)) (test (lim .i64 (ct + vl (Int.toNat x1 + (0 + al)))) (test (lim .i64 (ct + vl (Int.toNat x1 + (0 + al)) - 1)) (test (decide (vl (Int.toNat x1 + (0 + al)) = 0)) (False) (test (lim .i64 (Int.tdiv (ct + vl (Int.toNat x1 + (0 + al)) - 1) (vl (Int.toNat x1 + (0 + al))))) (test (lim .i64 (gl (Int.toNat x1 + (0 + al)) * Int.tdiv (ct + vl (Int.toNat x1 + (0 + al)) - 1) (vl (Int.toNat x1 + (0 + al))))) (test (lim .i64 (x0 + gl (Int.toNat x1 + (0 + al)) * Int.tdiv (ct + vl (Int.toNat x1 + (0 + al)) - 1) (vl (Int.toNat x1 + (0 + al))))) (test (lim .i64 (x1 + 1)) (Kst (hd Try.f50 0) ([PV.int .i64 ct, PV.int .i64 (x0 + gl (Int.toNat x1 + (0 + al)) * Int.tdiv (ct + vl (Int.toNat x1 + (0 + al)) - 1) (vl (Int.toNat x1 + (0 + al)))), PV.loose (PA.mk (0) (4) (0 + al) (0)) (Int.toNat cn), PV.int .i64 (↑(Int.toNat cn) : Int), PV.int .i64 (x1 + 1)]) ([[(0, false, Blk.cols ml [Col.str tl, Col.int .i64 vl, Col.int .i64 gl, Col.int .i64 wl])]]) (2)) (False)) (False)) (False)) (False))) (False)) (False)) (False)) (False)) (False)) (False)) (False)) (Kret (PV.int .i64 x0) ([[(0, false, Blk.cols ml [Col.str tl, Col.int .i64 vl, Col.int .i64 gl, Col.int .i64 wl])]]) (1))
theorem t50_0 (test : TT) (Kst : KS) (Kret : KR) (al nl ml : Nat) (tl : Nat → ByteArray) (vl gl wl : NI) (cn ct x0 x1 : Int) : run test Try.env true noX true 400 ⟨50, hd Try.f50 0, zipT [2, 7, 17, 18, 19] [PV.int .i64 ct, PV.int .i64 x0,
 PV.loose (PA.mk (0) (4) (0 + al) (0)) (Int.toNat cn),
 PV.int .i64 (↑(Int.toNat cn) : Int), PV.int .i64 x1], [[], [(0, (false, .cols ml [.str tl, .int .i64 vl, .int .i64 gl, .int .i64 wl]))]], 1⟩ (proj 1 [2, 7, 17, 18, 19] Kst Kret) =
  T50_0 test Kst Kret al nl ml tl vl gl wl cn ct x0 x1 := by kernel_rfl
noncomputable abbrev J50 (al nl ml : Nat) (tl : Nat → ByteArray) (vl : NI) (gl : NI) (wl : NI) (cn : Int) (ct : Int) : Rt50 → Heap := fun r => [newL (1 + 1) ((N50 al nl ml tl vl gl wl cn ct) r) ++ [(0, (false, .cols ml [.str tl, .int .i64 vl, .int .i64 gl, .int .i64 wl]))]]
attribute [local irreducible] Int.subNatNat in
theorem be50 (al nl ml : Nat) (tl : Nat → ByteArray) (vl gl wl : NI) (cn ct : Int) (Kst : KS) (Kret : KR) (x : St50 ⊕ Rt50) (hS : HS 1 400 ((I50 al nl ml tl vl gl wl cn ct)) Kst x) (hR : HR 1 400 ((V50 al nl ml tl vl gl wl cn ct)) (J50 al nl ml tl vl gl wl cn ct) Kret x) (h : p50 al nl ml tl vl gl wl cn ct = some x) : Te50 cond Kst Kret al nl ml tl vl gl wl cn ct := by
  unfold Te50
  unfold p50 at h
  exact bif_split h (fun c0 h => bif_split h (fun c1 h => bif_split h (fun c2 h => stop_at hS _ h (fun n => n) rfl rfl rfl ⟨(rn_int rfl), ⟨(rn_int rfl), ⟨(rn_loose (use_lo rfl) rfl rfl rfl), ⟨(rn_int rfl), ⟨(rn_int rfl), trivial⟩⟩⟩⟩⟩ rfl (entl_bor (use_lo rfl) rfl rfl entl_nil)) (fun c2 h => no_some h)) (fun c1 h => no_some h)) (fun c0 h => no_some h)
attribute [local irreducible] Int.subNatNat in
theorem b50_0 (al nl ml : Nat) (tl : Nat → ByteArray) (vl gl wl : NI) (cn ct : Int) (Kst : KS) (Kret : KR) (x : St50 ⊕ Rt50) (hS : HS 1 400 ((I50 al nl ml tl vl gl wl cn ct)) Kst x) (hR : HR 1 400 ((V50 al nl ml tl vl gl wl cn ct)) (J50 al nl ml tl vl gl wl cn ct) Kret x) (x0 x1 : Int) (h : q50 al nl ml tl vl gl wl cn ct (.h0 x0 x1) = some x) : T50_0 cond Kst Kret al nl ml tl vl gl wl cn ct x0 x1 := by
  unfold T50_0
  rw [q50] at h
  exact bif_split h (fun c0 h => bif_split h (fun c1 h => bif_split h (fun c2 h => cond_yes c2 (cond_yes c2 (cond_yes c2 (bif_split h (fun c3 h => bif_split h (fun c4 h => bif_split h (fun c5 h => no_some h) (fun c5 h => bif_split h (fun c6 h => bif_split h (fun c7 h => bif_split h (fun c8 h => bif_split h (fun c9 h => stop_at hS _ h (fun n => n) rfl rfl rfl ⟨(rn_int rfl), ⟨(rn_int rfl), ⟨(rn_loose (use_lo rfl) rfl rfl rfl), ⟨(rn_int rfl), ⟨(rn_int rfl), trivial⟩⟩⟩⟩⟩ rfl (entl_bor (use_lo rfl) rfl rfl entl_nil)) (fun c9 h => no_some h)) (fun c8 h => no_some h)) (fun c7 h => no_some h)) (fun c6 h => no_some h))) (fun c4 h => no_some h)) (fun c3 h => no_some h))))) (fun c2 h => no_some h)) (fun c1 h => no_some h)) (fun c0 h => ret_at hR _ h (fun n => n) rfl rfl rfl (rn_int rfl) rfl (entl_bor (use_lo rfl) rfl rfl entl_nil))
theorem a50 (al nl ml : Nat) (tl : Nat → ByteArray) (vl gl wl : NI) (cn ct : Int) {r : Rt50} (h : Goes ((q50 al nl ml tl vl gl wl cn ct)) ((p50 al nl ml tl vl gl wl cn ct)) r) : CallR Try.prog 50 [.loose ⟨0, 4, al, 0⟩ nl, .int .i64 cn, .int .i64 ct] [[(0, (false, .cols ml [.str tl, .int .i64 vl, .int .i64 gl, .int .i64 wl]))]] 1 ((V50 al nl ml tl vl gl wl cn ct) r) ((J50 al nl ml tl vl gl wl cn ct) r) 400 ∧ ∃ F, Try.prog.funcs[50]? = some F ∧ F.body.isSome = true ∧ (F.name == "runtime.NumGoroutine") = false := by
  refine dec_calls (sy := true) (f := 50) (lo := 1) (hi := 400) (H := [[(0, (false, .cols ml [.str tl, .int .i64 vl, .int .i64 gl, .int .i64 wl]))]]) (args := [.loose ⟨0, 4, al, 0⟩ nl, .int .i64 cn, .int .i64 ct]) Try.envOk Try.mixed noX_ok ((I50 al nl ml tl vl gl wl cn ct)) ((V50 al nl ml tl vl gl wl cn ct)) (J50 al nl ml tl vl gl wl cn ct) (fn := mkFn Try.f50) (ts := [2, 7, 17, 18, 19]) (n := 400) rfl (by decide) (by simp) (names_of rfl) ?_ ?_ ?_ h
  · intro s; cases s <;> exact ⟨hd_ok _ _, by simp [I50], names_of rfl, Nat.le_of_ble_eq_true rfl⟩
  · intro Kst Kret x hS hR h
    exact Holds.eq (te50 cond Kst Kret al nl ml tl vl gl wl cn ct) (be50 al nl ml tl vl gl wl cn ct Kst Kret x hS hR h)
  · intro Kst Kret x hS hR s h
    cases s with
    | h0 x0 x1 => exact Holds.eq (t50_0 cond Kst Kret al nl ml tl vl gl wl cn ct x0 x1) (b50_0 al nl ml tl vl gl wl cn ct Kst Kret x hS hR x0 x1 h)
noncomputable abbrev w50 {α : Type} (g : Nat → Nat → Nat → (Nat → ByteArray) → (Nat → Int) → (Nat → Int) → (Nat → Int) → Int → Int → α) (x : (Nat × Nat × Nat × (Nat → ByteArray) × (Nat → Int) × (Nat → Int) × (Nat → Int) × Unit) × Int × Int × Unit) : α := g x.1.1 x.1.2.1 x.1.2.2.1 x.1.2.2.2.1 x.1.2.2.2.2.1 x.1.2.2.2.2.2.1 x.1.2.2.2.2.2.2.1 x.2.1 x.2.2.1
noncomputable def k50  : Con := ⟨50, [.one (.list [.str, .int .i64, .int .i64, .int .i64]), .one (.plain (.int .i64)), .one (.plain (.int .i64))], w50 (fun al nl ml tl vl gl wl cn ct => decide (al + nl ≤ ml ∧ (0 ≤ cn ∧ cn < nl) ∧ (0 ≤ ct ∧ ct ≤ 1000000) ∧ S.okT nl (fun j => vl (j + al)) (fun j => gl (j + al)) (fun j => wl (j + al)) = true)), w50 (fun al nl ml tl vl gl wl cn ct => (V50 al nl ml tl vl gl wl cn ct) (S.dem (fun j => vl (j + al)) (fun j => gl (j + al)) cn.toNat ct)), w50 (fun al nl ml tl vl gl wl cn ct => (N50 al nl ml tl vl gl wl cn ct) (S.dem (fun j => vl (j + al)) (fun j => gl (j + al)) cn.toNat ct)), fun _ _ => .dead⟩
theorem s50' (al nl ml : Nat) (tl : Nat → ByteArray) (vl gl wl : Nat → Int) (cn ct : Int) (hp : al + nl ≤ ml ∧ (0 ≤ cn ∧ cn < nl) ∧ (0 ≤ ct ∧ ct ≤ 1000000) ∧ S.okT nl (fun j => vl (j + al)) (fun j => gl (j + al)) (fun j => wl (j + al)) = true) : ∀ (k i : Nat) (x0 : Int), i + k = cn.toNat → Holds (x0 = gl (cn.toNat + al) + S.dsum (fun j => vl (j + al)) (fun j => gl (j + al)) ct i) → Comes (q50 al nl ml tl vl gl wl cn ct) (.h0 x0 (i : Int)) (S.dem (fun j => vl (j + al)) (fun j => gl (j + al)) cn.toNat ct) := by
  obtain ⟨hp1, ⟨hp2, hp3⟩, ⟨hp4, hp5⟩, hT⟩ := hp
  obtain ⟨h8, hA⟩ := okT_at hT
  intro k
  induction k with
  | zero =>
    intro i x0 hi ex
    have e : x0 = S.dem (fun j => vl (j + al)) (fun j => gl (j + al)) cn.toNat ct := by rw [ex.get, show i = cn.toNat by omega]; rfl
    clear ex hT hA
    generalize S.dem (fun j => vl (j + al)) (fun j => gl (j + al)) cn.toNat ct = R at *
    subst e
    apply Comes.of
    show Goes _ _ _
    (first | rw [q50] | unfold q50)
    repeat' (first | with_reducible refine goes_if (fun h => ?_) (fun h => ?_) <;> (try simp only [SH] at h) | exact goes_none.mpr (by omega))
    all_goals first | (exfalso; omega) | rfl
  | succ k ih =>
    intro i x0 hi ex
    have hAi : 1 ≤ vl (i + al) ∧ vl (i + al) ≤ 1000000 ∧ 1 ≤ gl (i + al) ∧ gl (i + al) ≤ vl (i + al) ∧ gl (i + al) ≤ wl (i + al) ∧ wl (i + al) ≤ vl (i + al) := hA i (by omega)
    have hAc : 1 ≤ vl (cn.toNat + al) ∧ vl (cn.toNat + al) ≤ 1000000 ∧ 1 ≤ gl (cn.toNat + al) ∧ gl (cn.toNat + al) ≤ vl (cn.toNat + al) ∧ gl (cn.toNat + al) ≤ wl (cn.toNat + al) ∧ wl (cn.toNat + al) ≤ vl (cn.toNat + al) := hA cn.toNat (by omega)
    have hb := dsum_b (p := (fun j => vl (j + al))) (c := (fun j => gl (j + al))) hp4 hp5 (i := i) fun j hj => by have := hA j (by omega); omega
    have hu := up_b (t := ct) (p := vl (i + al)) hp4 hAi.1
    have ih2 := ih (i + 1) (x0 + gl (i + al) * Int.tdiv (ct + vl (i + al) - 1) (vl (i + al))) (by omega) ⟨by rw [ex.get]; simp only [S.dsum, Int.add_assoc]⟩
    have ex := ex.get
    generalize hD : S.dsum (fun j => vl (j + al)) (fun j => gl (j + al)) ct i = ds at *
    generalize hy : Int.tdiv (ct + vl (i + al) - 1) (vl (i + al)) = y at *
    have c1 : 0 ≤ gl (i + al) * y := Int.mul_nonneg (by omega) hu.1
    have c2 : gl (i + al) * y ≤ 1000000 * 1000000 := Int.mul_le_mul (by omega) (by omega) hu.1 (by omega)
    generalize hz : gl (i + al) * y = z at *
    have hz2 : gl (i + al) * y = z := by rw [← hz]
    clear hA hT hD hz ih
    generalize S.dem (fun j => vl (j + al)) (fun j => gl (j + al)) cn.toNat ct = R at *
    generalize gl (cn.toNat + al) = g0 at *
    apply Comes.of
    rw [q50]
    simp only [Nat.zero_add, Int.toNat_natCast, hy, hz2]
    repeat' (first | with_reducible refine goes_if (fun h => ?_) (fun h => ?_) <;> (try simp only [SH] at h) | exact goes_none.mpr (by omega))
    all_goals first | (exfalso; omega) | exact ih2
theorem s50 (al nl ml : Nat) (tl : Nat → ByteArray) (vl gl wl : Nat → Int) (cn ct : Int) (hp : al + nl ≤ ml ∧ (0 ≤ cn ∧ cn < nl) ∧ (0 ≤ ct ∧ ct ≤ 1000000) ∧ S.okT nl (fun j => vl (j + al)) (fun j => gl (j + al)) (fun j => wl (j + al)) = true) : Goes ((q50 al nl ml tl vl gl wl cn ct)) ((p50 al nl ml tl vl gl wl cn ct)) (S.dem (fun j => vl (j + al)) (fun j => gl (j + al)) cn.toNat ct) := by
  have hm := s50' al nl ml tl vl gl wl cn ct hp cn.toNat 0 (gl (cn.toNat + al)) (Nat.zero_add _) ⟨(Int.add_zero _).symm⟩
  obtain ⟨hp1, ⟨hp2, hp3⟩, ⟨hp4, hp5⟩, hT⟩ := hp
  clear hT
  generalize S.dem (fun j => vl (j + al)) (fun j => gl (j + al)) cn.toNat ct = R at *
  unfold p50
  repeat' (first | with_reducible refine goes_if (fun h => ?_) (fun h => ?_) <;> (try simp only [SH] at h) | exact goes_none.mpr (by omega))
  all_goals first | (exfalso; omega) | exact hm
theorem k50_ok  : k50.ok Try.prog := by
  intro x hx
  obtain ⟨⟨al, nl, ml, tl, vl, gl, wl, _⟩, cn, ct, _⟩ := x
  obtain ⟨h1, h2⟩ := a50 al nl ml tl vl gl wl cn ct (s50 al nl ml tl vl gl wl cn ct (of_dec hx rfl))
  exact ⟨⟨400, (by decide : 1 + 1 + 0 ≤ 400), h1⟩, h2⟩
inductive St53 where
  | h0 (x0 : Int) (x1 : Int)
abbrev Rt53  := Int
noncomputable def V53 (al nl ml : Nat) (tl : Nat → ByteArray) (vl gl wl : NI) (cn ct : Int) (r : Rt53) : PV := PV.int .i64 r
noncomputable def N53 (al nl ml : Nat) (tl : Nat → ByteArray) (vl gl wl : NI) (cn ct : Int) (r : Rt53) : List Blk := []
noncomputable def I53 (al nl ml : Nat) (tl : Nat → ByteArray) (vl gl wl : NI) (cn ct : Int) : St53 → Hd
  | .h0 x0 x1 => ⟨hd Try.f53 0, [PV.loose (PA.mk (0) (4) al (0)) nl, PV.int .i64 cn,
 PV.int .i64 ct, PV.int .i64 x0, PV.int .i64 x1], [[], [(0, (false, .cols ml [.str tl, .int .i64 vl, .int .i64 gl, .int .i64 wl]))]], 1⟩
noncomputable def q53 (al nl ml : Nat) (tl : Nat → ByteArray) (vl gl wl : NI) (cn ct : Int) : St53 → Option (St53 ⊕ Rt53) | .h0 x0 x1 => bif (decide (x1 < cn)) then (bif (decide ((0 : Int) ≤ x1 ∧ x1 < (↑nl : Int))) then (bif (decide (Int.toNat x1 + al < ml)) then (bif (lim .i64 (ct + vl (Int.toNat x1 + al))) then (bif (lim .i64 (ct + vl (Int.toNat x1 + al) - 1)) then (bif (decide (vl (Int.toNat x1 + al) = 0)) then (none) else (bif (lim .i64 (Int.tdiv (ct + vl (Int.toNat x1 + al) - 1) (vl (Int.toNat x1 + al)))) then (bif (lim .i64 (Int.tdiv (ct + vl (Int.toNat x1 + al) - 1) (vl (Int.toNat x1 + al)) * gl (Int.toNat x1 + al))) then (bif (lim .i64 (x0 + Int.tdiv (ct + vl (Int.toNat x1 + al) - 1) (vl (Int.toNat x1 + al)) * gl (Int.toNat x1 + al))) then (bif (lim .i64 (x1 + 1)) then (some (.inl (.h0 (x0 + Int.tdiv (ct + vl (Int.toNat x1 + al) - 1) (vl (Int.toNat x1 + al)) * gl (Int.toNat x1 + al)) (x1 + 1)))) else (none)) else (none)) else (none)) else (none))) else (none)) else (none)) else (none)) else (none)) else (some (.inr (x0)))
noncomputable def p53 (al nl ml : Nat) (tl : Nat → ByteArray) (vl gl wl : NI) (cn ct : Int) : Option (St53 ⊕ Rt53) := bif (decide ((0 : Int) ≤ cn ∧ cn < (↑nl : Int))) then (bif (decide (Int.toNat cn + al < ml)) then (some (.inl (.h0 (gl (Int.toNat cn + al)) ((0 : Int))))) else (none)) else (none)
def Te53 (test : TT) (Kst : KS) (Kret : KR) (al nl ml : Nat) (tl : Nat → ByteArray) (vl gl wl : NI) (cn ct : Int) : Prop := test (decide ((0 : Int) ≤ cn ∧ cn < (↑nl : Int))) (test (decide (Int.toNat cn + al < ml)) (Kst (hd Try.f53 0) ([PV.loose (PA.mk (0) (4) al (0)) nl, PV.int .i64 cn, PV.int .i64 ct, PV.int .i64 (gl (Int.toNat cn + al)), PV.int .i64 (0 : Int)]) ([[(0, false, Blk.cols ml [Col.str tl, Col.int .i64 vl, Col.int .i64 gl, Col.int .i64 wl])]]) (1)) (False)) (False)
theorem te53 (test : TT) (Kst : KS) (Kret : KR) (al nl ml : Nat) (tl : Nat → ByteArray) (vl gl wl : NI) (cn ct : Int) : run test Try.env true noX true 400 ⟨53, [.cd (mkFn Try.f53).body], argT 0 [.loose ⟨0, 4, al, 0⟩ nl, .int .i64 cn, .int .i64 ct], [[], [(0, (false, .cols ml [.str tl, .int .i64 vl, .int .i64 gl, .int .i64 wl]))]], 1⟩ (proj 1 [0, 1, 2, 7, 8] Kst Kret) =
  Te53 test Kst Kret al nl ml tl vl gl wl cn ct := by kernel_rfl
def T53_0 (test : TT) (Kst : KS) (Kret : KR) (al nl ml : Nat) (tl : Nat → ByteArray) (vl gl wl : NI) (cn ct x0 x1 : Int) : Prop := test (decide (x1 < cn)) (test (decide ((0 : Int) ≤ x1 ∧ x1 < (↑nl : Int))) (test (decide (Int.toNat x1 + al < ml)) (test (lim .i64 (ct + vl (Int.toNat x1 + al))) (test (lim .i64 (ct + vl (Int.toNat x1 + al) - 1)) (test (decide ((0 : Int) ≤ x1 ∧ x1 < (↑nl : Int))) (test (decide (Int.toNat x1 + al < ml)) (test (decide (vl (Int.toNat x1 + al) = 0)) (False) (test (lim .i64 (Int.tdiv (ct + vl (Int.toNat x1 + al) - 1) (vl (Int.toNat x1 + al)))) (test (decide ((0 : Int) ≤ x1 ∧ x1 < (↑nl : Int))) (test (decide (Int.toNat x1 + al < ml)) (test (lim .i64 (Int.tdiv (ct + vl (Int.toNat x1 + al) - 1) (vl (Int.toNat x1 + al)) * gl (Int.toNat x1 + al))) (test (lim .i64 (x0 + Int.tdiv (ct + vl (Int.toNat x1 + al) - 1) (vl (Int.toNat x1 + al)) * gl (Int.toNat x1 + al))) (test (lim .i64 (x1 + 1)) (Kst (hd Try.f53 0) ([PV.loose (PA.mk (0) (4) al (0)) nl, PV.int .i64 cn, PV.int .i64 ct, PV.int .i64 (x0 + Int.tdiv (ct + vl (Int.toNat x1 + al) - 1) (vl (Int.toNat x1 + al)) * gl (Int.toNat x1 + al)), PV.int .i64 (x1 + 1)]) ([[(0, false, Blk.cols ml [Col.str tl, Col.int .i64 vl, Col.int .i64 gl, Col.int .i64 wl])]]) (1)) (False)) (False)) (False)) (False)) (False)) (False))) (False)) (False)) (False)) (False)) (False)) (False)) (Kret (PV.int .i64 x0) ([[(0, false, Blk.cols ml [Col.str tl, Col.int .i64 vl, Col.int .i64 gl, Col.int .i64 wl])]]) (1))
theorem t53_0 (test : TT) (Kst : KS) (Kret : KR) (al nl ml : Nat) (tl : Nat → ByteArray) (vl gl wl : NI) (cn ct x0 x1 : Int) : run test Try.env true noX true 400 ⟨53, hd Try.f53 0, zipT [0, 1, 2, 7, 8] [PV.loose (PA.mk (0) (4) al (0)) nl, PV.int .i64 cn,
 PV.int .i64 ct, PV.int .i64 x0, PV.int .i64 x1], [[], [(0, (false, .cols ml [.str tl, .int .i64 vl, .int .i64 gl, .int .i64 wl]))]], 1⟩ (proj 1 [0, 1, 2, 7, 8] Kst Kret) =
  T53_0 test Kst Kret al nl ml tl vl gl wl cn ct x0 x1 := by kernel_rfl
noncomputable abbrev J53 (al nl ml : Nat) (tl : Nat → ByteArray) (vl : NI) (gl : NI) (wl : NI) (cn : Int) (ct : Int) : Rt53 → Heap := fun r => [newL (1 + 1) ((N53 al nl ml tl vl gl wl cn ct) r) ++ [(0, (false, .cols ml [.str tl, .int .i64 vl, .int .i64 gl, .int .i64 wl]))]]
attribute [local irreducible] Int.subNatNat in
theorem be53 (al nl ml : Nat) (tl : Nat → ByteArray) (vl gl wl : NI) (cn ct : Int) (Kst : KS) (Kret : KR) (x : St53 ⊕ Rt53) (hS : HS 1 400 ((I53 al nl ml tl vl gl wl cn ct)) Kst x) (hR : HR 1 400 ((V53 al nl ml tl vl gl wl cn ct)) (J53 al nl ml tl vl gl wl cn ct) Kret x) (h : p53 al nl ml tl vl gl wl cn ct = some x) : Te53 cond Kst Kret al nl ml tl vl gl wl cn ct := by
  unfold Te53
  unfold p53 at h
  exact bif_split h (fun c0 h => bif_split h (fun c1 h => stop_at hS _ h (fun n => n) rfl rfl rfl ⟨(rn_loose (use_lo rfl) rfl rfl rfl), ⟨(rn_int rfl), ⟨(rn_int rfl), ⟨(rn_int rfl), ⟨(rn_int rfl), trivial⟩⟩⟩⟩⟩ rfl (entl_bor (use_lo rfl) rfl rfl entl_nil)) (fun c1 h => no_some h)) (fun c0 h => no_some h)
attribute [local irreducible] Int.subNatNat in
theorem b53_0 (al nl ml : Nat) (tl : Nat → ByteArray) (vl gl wl : NI) (cn ct : Int) (Kst : KS) (Kret : KR) (x : St53 ⊕ Rt53) (hS : HS 1 400 ((I53 al nl ml tl vl gl wl cn ct)) Kst x) (hR : HR 1 400 ((V53 al nl ml tl vl gl wl cn ct)) (J53 al nl ml tl vl gl wl cn ct) Kret x) (x0 x1 : Int) (h : q53 al nl ml tl vl gl wl cn ct (.h0 x0 x1) = some x) : T53_0 cond Kst Kret al nl ml tl vl gl wl cn ct x0 x1 := by
  unfold T53_0
  rw [q53] at h
  exact bif_split h (fun c0 h => bif_split h (fun c1 h => bif_split h (fun c2 h => bif_split h (fun c3 h => bif_split h (fun c4 h => cond_yes c1 (cond_yes c2 (bif_split h (fun c5 h => no_some h) (fun c5 h => bif_split h (fun c6 h => cond_yes c1 (cond_yes c2 (bif_split h (fun c7 h => bif_split h (fun c8 h => bif_split h (fun c9 h => stop_at hS _ h (fun n => n) rfl rfl rfl ⟨(rn_loose (use_lo rfl) rfl rfl rfl), ⟨(rn_int rfl), ⟨(rn_int rfl), ⟨(rn_int rfl), ⟨(rn_int rfl), trivial⟩⟩⟩⟩⟩ rfl (entl_bor (use_lo rfl) rfl rfl entl_nil)) (fun c9 h => no_some h)) (fun c8 h => no_some h)) (fun c7 h => no_some h)))) (fun c6 h => no_some h))))) (fun c4 h => no_some h)) (fun c3 h => no_some h)) (fun c2 h => no_some h)) (fun c1 h => no_some h)) (fun c0 h => ret_at hR _ h (fun n => n) rfl rfl rfl (rn_int rfl) rfl (entl_bor (use_lo rfl) rfl rfl entl_nil))
theorem a53 (al nl ml : Nat) (tl : Nat → ByteArray) (vl gl wl : NI) (cn ct : Int) {r : Rt53} (h : Goes ((q53 al nl ml tl vl gl wl cn ct)) ((p53 al nl ml tl vl gl wl cn ct)) r) : CallR Try.prog 53 [.loose ⟨0, 4, al, 0⟩ nl, .int .i64 cn, .int .i64 ct] [[(0, (false, .cols ml [.str tl, .int .i64 vl, .int .i64 gl, .int .i64 wl]))]] 1 ((V53 al nl ml tl vl gl wl cn ct) r) ((J53 al nl ml tl vl gl wl cn ct) r) 400 ∧ ∃ F, Try.prog.funcs[53]? = some F ∧ F.body.isSome = true ∧ (F.name == "runtime.NumGoroutine") = false := by
  refine dec_calls (sy := true) (f := 53) (lo := 1) (hi := 400) (H := [[(0, (false, .cols ml [.str tl, .int .i64 vl, .int .i64 gl, .int .i64 wl]))]]) (args := [.loose ⟨0, 4, al, 0⟩ nl, .int .i64 cn, .int .i64 ct]) Try.envOk Try.mixed noX_ok ((I53 al nl ml tl vl gl wl cn ct)) ((V53 al nl ml tl vl gl wl cn ct)) (J53 al nl ml tl vl gl wl cn ct) (fn := mkFn Try.f53) (ts := [0, 1, 2, 7, 8]) (n := 400) rfl (by decide) (by simp) (names_of rfl) ?_ ?_ ?_ h
  · intro s; cases s <;> exact ⟨hd_ok _ _, by simp [I53], names_of rfl, Nat.le_of_ble_eq_true rfl⟩
  · intro Kst Kret x hS hR h
    exact Holds.eq (te53 cond Kst Kret al nl ml tl vl gl wl cn ct) (be53 al nl ml tl vl gl wl cn ct Kst Kret x hS hR h)
  · intro Kst Kret x hS hR s h
    cases s with
    | h0 x0 x1 => exact Holds.eq (t53_0 cond Kst Kret al nl ml tl vl gl wl cn ct x0 x1) (b53_0 al nl ml tl vl gl wl cn ct Kst Kret x hS hR x0 x1 h)
noncomputable abbrev w53 {α : Type} (g : Nat → Nat → Nat → (Nat → ByteArray) → (Nat → Int) → (Nat → Int) → (Nat → Int) → Int → Int → α) (x : (Nat × Nat × Nat × (Nat → ByteArray) × (Nat → Int) × (Nat → Int) × (Nat → Int) × Unit) × Int × Int × Unit) : α := g x.1.1 x.1.2.1 x.1.2.2.1 x.1.2.2.2.1 x.1.2.2.2.2.1 x.1.2.2.2.2.2.1 x.1.2.2.2.2.2.2.1 x.2.1 x.2.2.1
noncomputable def k53  : Con := ⟨53, [.one (.list [.str, .int .i64, .int .i64, .int .i64]), .one (.plain (.int .i64)), .one (.plain (.int .i64))], w53 (fun al nl ml tl vl gl wl cn ct => decide (al + nl ≤ ml ∧ (0 ≤ cn ∧ cn < nl) ∧ (0 ≤ ct ∧ ct ≤ 1000000) ∧ S.okT nl (fun j => vl (j + al)) (fun j => gl (j + al)) (fun j => wl (j + al)) = true)), w53 (fun al nl ml tl vl gl wl cn ct => (V53 al nl ml tl vl gl wl cn ct) (S.dem (fun j => vl (j + al)) (fun j => gl (j + al)) cn.toNat ct)), w53 (fun al nl ml tl vl gl wl cn ct => (N53 al nl ml tl vl gl wl cn ct) (S.dem (fun j => vl (j + al)) (fun j => gl (j + al)) cn.toNat ct)), fun _ _ => .dead⟩
theorem s53' (al nl ml : Nat) (tl : Nat → ByteArray) (vl gl wl : Nat → Int) (cn ct : Int) (hp : al + nl ≤ ml ∧ (0 ≤ cn ∧ cn < nl) ∧ (0 ≤ ct ∧ ct ≤ 1000000) ∧ S.okT nl (fun j => vl (j + al)) (fun j => gl (j + al)) (fun j => wl (j + al)) = true) : ∀ (k i : Nat) (x0 : Int), i + k = cn.toNat → Holds (x0 = gl (cn.toNat + al) + S.dsum (fun j => vl (j + al)) (fun j => gl (j + al)) ct i) → Comes (q53 al nl ml tl vl gl wl cn ct) (.h0 x0 (i : Int)) (S.dem (fun j => vl (j + al)) (fun j => gl (j + al)) cn.toNat ct) := by
  obtain ⟨hp1, ⟨hp2, hp3⟩, ⟨hp4, hp5⟩, hT⟩ := hp
  obtain ⟨h8, hA⟩ := okT_at hT
  intro k
  induction k with
  | zero =>
    intro i x0 hi ex
    have e : x0 = S.dem (fun j => vl (j + al)) (fun j => gl (j + al)) cn.toNat ct := by rw [ex.get, show i = cn.toNat by omega]; rfl
    clear ex hT hA
    generalize S.dem (fun j => vl (j + al)) (fun j => gl (j + al)) cn.toNat ct = R at *
    subst e
    apply Comes.of
    show Goes _ _ _
    (first | rw [q53] | unfold q53)
    repeat' (first | with_reducible refine goes_if (fun h => ?_) (fun h => ?_) <;> (try simp only [SH] at h) | exact goes_none.mpr (by omega))
    all_goals first | (exfalso; omega) | rfl
  | succ k ih =>
    intro i x0 hi ex
    have hAi : 1 ≤ vl (i + al) ∧ vl (i + al) ≤ 1000000 ∧ 1 ≤ gl (i + al) ∧ gl (i + al) ≤ vl (i + al) ∧ gl (i + al) ≤ wl (i + al) ∧ wl (i + al) ≤ vl (i + al) := hA i (by omega)
    have hAc : 1 ≤ vl (cn.toNat + al) ∧ vl (cn.toNat + al) ≤ 1000000 ∧ 1 ≤ gl (cn.toNat + al) ∧ gl (cn.toNat + al) ≤ vl (cn.toNat + al) ∧ gl (cn.toNat + al) ≤ wl (cn.toNat + al) ∧ wl (cn.toNat + al) ≤ vl (cn.toNat + al) := hA cn.toNat (by omega)
    have hb := dsum_b (p := (fun j => vl (j + al))) (c := (fun j => gl (j + al))) hp4 hp5 (i := i) fun j hj => by have := hA j (by omega); omega
    have hu := up_b (t := ct) (p := vl (i + al)) hp4 hAi.1
    have ih2 := ih (i + 1) (x0 + gl (i + al) * Int.tdiv (ct + vl (i + al) - 1) (vl (i + al))) (by omega) ⟨by rw [ex.get]; simp only [S.dsum, Int.add_assoc]⟩
    have ex := ex.get
    generalize hD : S.dsum (fun j => vl (j + al)) (fun j => gl (j + al)) ct i = ds at *
    generalize hy : Int.tdiv (ct + vl (i + al) - 1) (vl (i + al)) = y at *
    have c1 : 0 ≤ gl (i + al) * y := Int.mul_nonneg (by omega) hu.1
    have c2 : gl (i + al) * y ≤ 1000000 * 1000000 := Int.mul_le_mul (by omega) (by omega) hu.1 (by omega)
    generalize hz : gl (i + al) * y = z at *
    have hz2 : y * gl (i + al) = z := by rw [← hz, Int.mul_comm]
    clear hA hT hD hz ih
    generalize S.dem (fun j => vl (j + al)) (fun j => gl (j + al)) cn.toNat ct = R at *
    generalize gl (cn.toNat + al) = g0 at *
    apply Comes.of
    rw [q53]
    simp only [Nat.zero_add, Int.toNat_natCast, hy, hz2]
    repeat' (first | with_reducible refine goes_if (fun h => ?_) (fun h => ?_) <;> (try simp only [SH] at h) | exact goes_none.mpr (by omega))
    all_goals first | (exfalso; omega) | exact ih2
theorem s53 (al nl ml : Nat) (tl : Nat → ByteArray) (vl gl wl : Nat → Int) (cn ct : Int) (hp : al + nl ≤ ml ∧ (0 ≤ cn ∧ cn < nl) ∧ (0 ≤ ct ∧ ct ≤ 1000000) ∧ S.okT nl (fun j => vl (j + al)) (fun j => gl (j + al)) (fun j => wl (j + al)) = true) : Goes ((q53 al nl ml tl vl gl wl cn ct)) ((p53 al nl ml tl vl gl wl cn ct)) (S.dem (fun j => vl (j + al)) (fun j => gl (j + al)) cn.toNat ct) := by
  have hm := s53' al nl ml tl vl gl wl cn ct hp cn.toNat 0 (gl (cn.toNat + al)) (Nat.zero_add _) ⟨(Int.add_zero _).symm⟩
  obtain ⟨hp1, ⟨hp2, hp3⟩, ⟨hp4, hp5⟩, hT⟩ := hp
  clear hT
  generalize S.dem (fun j => vl (j + al)) (fun j => gl (j + al)) cn.toNat ct = R at *
  unfold p53
  repeat' (first | with_reducible refine goes_if (fun h => ?_) (fun h => ?_) <;> (try simp only [SH] at h) | exact goes_none.mpr (by omega))
  all_goals first | (exfalso; omega) | exact hm
theorem k53_ok  : k53.ok Try.prog := by
  intro x hx
  obtain ⟨⟨al, nl, ml, tl, vl, gl, wl, _⟩, cn, ct, _⟩ := x
  obtain ⟨h1, h2⟩ := a53 al nl ml tl vl gl wl cn ct (s53 al nl ml tl vl gl wl cn ct (of_dec hx rfl))
  exact ⟨⟨400, (by decide : 1 + 1 + 0 ≤ 400), h1⟩, h2⟩
noncomputable def xD (test : Bool → Prop → Prop → Prop) : Ext := consX test [k50, k53]
theorem xD_ok  : ExtOk Try.prog (xD cond) := consX_ok ⟨k50_ok, k53_ok, trivial⟩
inductive St43 where
  | h0 (x0 : Int)
abbrev Rt43  := Int × Bool
noncomputable def V43 (al nl ml : Nat) (tl : Nat → ByteArray) (vl gl wl : NI) (cn : Int) (r : Rt43) : PV := PV.tup [PV.int .i64 r.1, PV.bool r.2]
noncomputable def N43 (al nl ml : Nat) (tl : Nat → ByteArray) (vl gl wl : NI) (cn : Int) (r : Rt43) : List Blk := []
noncomputable def I43 (al nl ml : Nat) (tl : Nat → ByteArray) (vl gl wl : NI) (cn : Int) : St43 → Hd
  | .h0 x0 => ⟨hd Try.f43 0, [PV.loose (PA.mk (0) (4) al (0)) nl, PV.int .i64 cn,
 PV.int .i64 x0], [[], [(0, (false, .cols ml [.str tl, .int .i64 vl, .int .i64 gl, .int .i64 wl]))]], 1⟩
noncomputable def q43 (al nl ml : Nat) (tl : Nat → ByteArray) (vl gl wl : NI) (cn : Int) : St43 → Option (St43 ⊕ Rt43) | .h0 x0 => bif (decide ((0 : Int) ≤ cn ∧ cn < (↑nl : Int))) then (bif (decide (Int.toNat cn + al < ml)) then (bif (decide (x0 ≤ wl (Int.toNat cn + al))) then (bif (decide (al + nl ≤ ml ∧ ((0 : Int) ≤ cn ∧ cn < (↑nl : Int)) ∧ ((0 : Int) ≤ x0 ∧ x0 ≤ 1000000) ∧ (S.okT nl (fun j => vl (j + al)) (fun j => gl (j + al)) fun j => wl (j + al)) = true)) then (bif (S.dem (fun j => vl (j + al)) (fun j => gl (j + al)) (Int.toNat cn) x0 == x0) then (some (.inr (x0, true))) else (some (.inl (.h0 (S.dem (fun j => vl (j + al)) (fun j => gl (j + al)) (Int.toNat cn) x0))))) else (none)) else (some (.inr ((0 : Int), false)))) else (none)) else (none)
noncomputable def p43 (al nl ml : Nat) (tl : Nat → ByteArray) (vl gl wl : NI) (cn : Int) : Option (St43 ⊕ Rt43) := some (.inl (.h0 ((1 : Int))))
def Te43 (test : TT) (Kst : KS) (Kret : KR) (al nl ml : Nat) (tl : Nat → ByteArray) (vl gl wl : NI) (cn : Int) : Prop := Kst (hd Try.f43 0) ([PV.loose (PA.mk (0) (4) al (0)) nl, PV.int .i64 cn, PV.int .i64 (1 : Int)]) ([[(0, false, Blk.cols ml [Col.str tl, Col.int .i64 vl, Col.int .i64 gl, Col.int .i64 wl])]]) (1)
theorem te43 (test : TT) (Kst : KS) (Kret : KR) (al nl ml : Nat) (tl : Nat → ByteArray) (vl gl wl : NI) (cn : Int) : run test Try.env true (xD test) true 400 ⟨43, [.cd (mkFn Try.f43).body], argT 0 [.loose ⟨0, 4, al, 0⟩ nl, .int .i64 cn], [[], [(0, (false, .cols ml [.str tl, .int .i64 vl, .int .i64 gl, .int .i64 wl]))]], 1⟩ (proj 1 [0, 1, 6] Kst Kret) =
  Te43 test Kst Kret al nl ml tl vl gl wl cn := by kernel_rfl
def T43_0 (test : TT) (Kst : KS) (Kret : KR) (al nl ml : Nat) (tl : Nat → ByteArray) (vl gl wl : NI) (cn x0 : Int) : Prop := test (decide ((0 : Int) ≤ cn ∧ cn < (↑nl : Int))) (test (decide (Int.toNat cn + al < ml)) (test (decide (x0 ≤ wl (Int.toNat cn + al))) (test (decide (al + nl ≤ ml ∧ ((0 : Int) ≤ cn ∧ cn < (↑nl : Int)) ∧ ((0 : Int) ≤ x0 ∧ x0 ≤ 1000000) ∧ (S.okT nl (fun j => vl (j + al)) (fun j => gl (j + al)) fun j => wl (j + al)) = true)) (test (S.dem (fun j => vl (j + al)) (fun j => gl (j + al)) (Int.toNat cn) x0 == x0) (Kret (PV.tup [PV.int .i64 x0, PV.tf true]) ([[(0, false, Blk.cols ml [Col.str tl, Col.int .i64 vl, Col.int .i64 gl, Col.int .i64 wl])]]) (2)) (Kst (hd Try.f43 0) ([PV.loose (PA.mk (0) (4) al (0)) nl, PV.int .i64 cn, PV.int .i64 (S.dem (fun j => vl (j + al)) (fun j => gl (j + al)) (Int.toNat cn) x0)]) ([[(0, false, Blk.cols ml [Col.str tl, Col.int .i64 vl, Col.int .i64 gl, Col.int .i64 wl])]]) (2))) (False)) (Kret (PV.tup [PV.int .i64 (0 : Int), PV.tf false]) ([[(0, false, Blk.cols ml [Col.str tl, Col.int .i64 vl, Col.int .i64 gl, Col.int .i64 wl])]]) (1))) (False)) (False)
theorem t43_0 (test : TT) (Kst : KS) (Kret : KR) (al nl ml : Nat) (tl : Nat → ByteArray) (vl gl wl : NI) (cn x0 : Int) : run test Try.env true (xD test) true 400 ⟨43, hd Try.f43 0, zipT [0, 1, 6] [PV.loose (PA.mk (0) (4) al (0)) nl, PV.int .i64 cn,
 PV.int .i64 x0], [[], [(0, (false, .cols ml [.str tl, .int .i64 vl, .int .i64 gl, .int .i64 wl]))]], 1⟩ (proj 1 [0, 1, 6] Kst Kret) =
  T43_0 test Kst Kret al nl ml tl vl gl wl cn x0 := by kernel_rfl
noncomputable abbrev J43 (al nl ml : Nat) (tl : Nat → ByteArray) (vl : NI) (gl : NI) (wl : NI) (cn : Int) : Rt43 → Heap := fun r => [newL (1 + 1) ((N43 al nl ml tl vl gl wl cn) r) ++ [(0, (false, .cols ml [.str tl, .int .i64 vl, .int .i64 gl, .int .i64 wl]))]]
attribute [local irreducible] Int.subNatNat in
theorem be43 (al nl ml : Nat) (tl : Nat → ByteArray) (vl gl wl : NI) (cn : Int) (Kst : KS) (Kret : KR) (x : St43 ⊕ Rt43) (hS : HS 1 400 ((I43 al nl ml tl vl gl wl cn)) Kst x) (hR : HR 1 400 ((V43 al nl ml tl vl gl wl cn)) (J43 al nl ml tl vl gl wl cn) Kret x) (h : (some (.inl (.h0 ((1 : Int)))) : Option (St43 ⊕ Rt43)) = some x) : Te43 cond Kst Kret al nl ml tl vl gl wl cn := by
  unfold Te43
  exact stop_at hS _ h (fun n => n) rfl rfl rfl ⟨(rn_loose (use_lo rfl) rfl rfl rfl), ⟨(rn_int rfl), ⟨(rn_int rfl), trivial⟩⟩⟩ rfl (entl_bor (use_lo rfl) rfl rfl entl_nil)
attribute [local irreducible] Int.subNatNat in
theorem b43_0 (al nl ml : Nat) (tl : Nat → ByteArray) (vl gl wl : NI) (cn : Int) (Kst : KS) (Kret : KR) (x : St43 ⊕ Rt43) (hS : HS 1 400 ((I43 al nl ml tl vl gl wl cn)) Kst x) (hR : HR 1 400 ((V43 al nl ml tl vl gl wl cn)) (J43 al nl ml tl vl gl wl cn) Kret x) (x0 : Int) (h : q43 al nl ml tl vl gl wl cn (.h0 x0) = some x) : T43_0 cond Kst Kret al nl ml tl vl gl wl cn x0 := by
  unfold T43_0
  rw [q43] at h
  exact bif_split h (fun c0 h => bif_split h (fun c1 h => bif_split h (fun c2 h => bif_split h (fun c3 h => bif_split h (fun c4 h => ret_at hR _ h (fun n => n) rfl rfl rfl (rn_tup ⟨(rn_int rfl), (rn_bool_tf rfl), trivial⟩) rfl (entl_bor (use_lo rfl) rfl rfl entl_nil)) (fun c4 h => stop_at hS _ h (fun n => n) rfl rfl rfl ⟨(rn_loose (use_lo rfl) rfl rfl rfl), ⟨(rn_int rfl), ⟨(rn_int rfl), trivial⟩⟩⟩ rfl (entl_bor (use_lo rfl) rfl rfl entl_nil))) (fun c3 h => no_some h)) (fun c2 h => ret_at hR _ h (fun n => n) rfl rfl rfl (rn_tup ⟨(rn_int rfl), (rn_bool_tf rfl), trivial⟩) rfl (entl_bor (use_lo rfl) rfl rfl entl_nil))) (fun c1 h => no_some h)) (fun c0 h => no_some h)
theorem a43 (al nl ml : Nat) (tl : Nat → ByteArray) (vl gl wl : NI) (cn : Int) {r : Rt43} (h : Goes ((q43 al nl ml tl vl gl wl cn)) ((p43 al nl ml tl vl gl wl cn)) r) : CallR Try.prog 43 [.loose ⟨0, 4, al, 0⟩ nl, .int .i64 cn] [[(0, (false, .cols ml [.str tl, .int .i64 vl, .int .i64 gl, .int .i64 wl]))]] 1 ((V43 al nl ml tl vl gl wl cn) r) ((J43 al nl ml tl vl gl wl cn) r) 400 ∧ ∃ F, Try.prog.funcs[43]? = some F ∧ F.body.isSome = true ∧ (F.name == "runtime.NumGoroutine") = false := by
  refine dec_calls (sy := true) (f := 43) (lo := 1) (hi := 400) (H := [[(0, (false, .cols ml [.str tl, .int .i64 vl, .int .i64 gl, .int .i64 wl]))]]) (args := [.loose ⟨0, 4, al, 0⟩ nl, .int .i64 cn]) Try.envOk Try.mixed xD_ok ((I43 al nl ml tl vl gl wl cn)) ((V43 al nl ml tl vl gl wl cn)) (J43 al nl ml tl vl gl wl cn) (fn := mkFn Try.f43) (ts := [0, 1, 6]) (n := 400) rfl (by decide) (by simp) (names_of rfl) ?_ ?_ ?_ h
  · intro s; cases s <;> exact ⟨hd_ok _ _, by simp [I43], names_of rfl, Nat.le_of_ble_eq_true rfl⟩
  · intro Kst Kret x hS hR h
    exact Holds.eq (te43 cond Kst Kret al nl ml tl vl gl wl cn) (be43 al nl ml tl vl gl wl cn Kst Kret x hS hR h)
  · intro Kst Kret x hS hR s h
    cases s with
    | h0 x0 => exact Holds.eq (t43_0 cond Kst Kret al nl ml tl vl gl wl cn x0) (b43_0 al nl ml tl vl gl wl cn Kst Kret x hS hR x0 h)
noncomputable abbrev w43 {α : Type} (g : Nat → Nat → Nat → (Nat → ByteArray) → (Nat → Int) → (Nat → Int) → (Nat → Int) → Int → α) (x : (Nat × Nat × Nat × (Nat → ByteArray) × (Nat → Int) × (Nat → Int) × (Nat → Int) × Unit) × Int × Unit) : α := g x.1.1 x.1.2.1 x.1.2.2.1 x.1.2.2.2.1 x.1.2.2.2.2.1 x.1.2.2.2.2.2.1 x.1.2.2.2.2.2.2.1 x.2.1
noncomputable def k43  : Con := ⟨43, [.one (.list [.str, .int .i64, .int .i64, .int .i64]), .one (.plain (.int .i64))], w43 (fun al nl ml tl vl gl wl cn => decide (al + nl ≤ ml ∧ (0 ≤ cn ∧ cn < nl) ∧ S.okT nl (fun j => vl (j + al)) (fun j => gl (j + al)) (fun j => wl (j + al)) = true)), w43 (fun al nl ml tl vl gl wl cn => (V43 al nl ml tl vl gl wl cn) (S.resT (fun j => vl (j + al)) (fun j => gl (j + al)) (fun j => wl (j + al)) cn.toNat)), w43 (fun al nl ml tl vl gl wl cn => (N43 al nl ml tl vl gl wl cn) (S.resT (fun j => vl (j + al)) (fun j => gl (j + al)) (fun j => wl (j + al)) cn.toNat)), fun _ _ => .dead⟩
theorem s43' (al nl ml : Nat) (tl : Nat → ByteArray) (vl gl wl : Nat → Int) (cn : Int) (hp : al + nl ≤ ml ∧ (0 ≤ cn ∧ cn < nl) ∧ S.okT nl (fun j => vl (j + al)) (fun j => gl (j + al)) (fun j => wl (j + al)) = true) : ∀ (k : Nat) (x0 : Int), (wl (cn.toNat + al) - x0 + 1).toNat ≤ k → 1 ≤ x0 → x0 ≤ S.dem (fun j => vl (j + al)) (fun j => gl (j + al)) cn.toNat x0 → Comes (q43 al nl ml tl vl gl wl cn) (.h0 x0) (S.fixF (fun t => S.dem (fun j => vl (j + al)) (fun j => gl (j + al)) cn.toNat t) (wl (cn.toNat + al) - x0 + 1).toNat x0) := by
  obtain ⟨hp1, ⟨hp2, hp3⟩, hT⟩ := hp
  obtain ⟨h8, hA⟩ := okT_at hT
  have hAc : 1 ≤ vl (cn.toNat + al) ∧ vl (cn.toNat + al) ≤ 1000000 ∧ 1 ≤ gl (cn.toNat + al) ∧ gl (cn.toNat + al) ≤ vl (cn.toNat + al) ∧ gl (cn.toNat + al) ≤ wl (cn.toNat + al) ∧ wl (cn.toNat + al) ≤ vl (cn.toNat + al) := hA cn.toNat (by omega)
  have hm : ∀ u v : Int, 0 ≤ u → u ≤ v → S.dem (fun j => vl (j + al)) (fun j => gl (j + al)) cn.toNat u ≤ S.dem (fun j => vl (j + al)) (fun j => gl (j + al)) cn.toNat v := fun u v h1 h2 => dem_mono hT (by omega) h1 h2
  intro k
  induction k with
  | zero =>
    intro x0 hk h1 h2
    have e0 : (wl (cn.toNat + al) - x0 + 1).toNat = 0 := by omega
    rw [e0]
    show Comes _ _ (0, false)
    apply Comes.of
    rw [q43]
    refine goes_ok (decide_eq_true (by omega)) (goes_ok (decide_eq_true (by omega)) (goes_no (decide_eq_false (by omega)) rfl))
  | succ k ih =>
    intro x0 hk h1 h2
    by_cases hD : x0 ≤ wl (cn.toNat + al)
    · apply Comes.of
      rw [q43]
      refine goes_ok (decide_eq_true (by omega)) (goes_ok (decide_eq_true (by omega)) (goes_ok (decide_eq_true (by omega)) (goes_ok (decide_eq_true ⟨hp1, ⟨hp2, hp3⟩, ⟨by omega, by omega⟩, hT⟩) ?_)))
      by_cases he : S.dem (fun j => vl (j + al)) (fun j => gl (j + al)) cn.toNat x0 = x0
      · refine goes_ok (by rw [he]; exact beq_self_eq_true _) ?_
        obtain ⟨m, hm'⟩ : ∃ m, (wl (cn.toNat + al) - x0 + 1).toNat = m + 1 := ⟨(wl (cn.toNat + al) - x0).toNat, by omega⟩
        rw [hm']
        simp only [S.fixF]
        rw [if_pos he]
        exact goes_inr.mpr rfl
      · refine goes_no (by simpa using he) ?_
        rw [fix_step (f := (fun t => S.dem (fun j => vl (j + al)) (fun j => gl (j + al)) cn.toNat t)) (D := wl (cn.toNat + al)) hm h1 hD h2 he]
        exact ih _ (by show (wl (cn.toNat + al) - S.dem (fun j => vl (j + al)) (fun j => gl (j + al)) cn.toNat x0 + 1).toNat ≤ k; omega) (by omega) (hm _ _ (by omega) h2)
    · have e0 : (wl (cn.toNat + al) - x0 + 1).toNat = 0 := by omega
      rw [e0]
      show Comes _ _ (0, false)
      apply Comes.of
      rw [q43]
      refine goes_ok (decide_eq_true (by omega)) (goes_ok (decide_eq_true (by omega)) (goes_no (decide_eq_false (by omega)) rfl))
theorem s43 (al nl ml : Nat) (tl : Nat → ByteArray) (vl gl wl : Nat → Int) (cn : Int) (hp : al + nl ≤ ml ∧ (0 ≤ cn ∧ cn < nl) ∧ S.okT nl (fun j => vl (j + al)) (fun j => gl (j + al)) (fun j => wl (j + al)) = true) : Goes ((q43 al nl ml tl vl gl wl cn)) ((p43 al nl ml tl vl gl wl cn)) (S.resT (fun j => vl (j + al)) (fun j => gl (j + al)) (fun j => wl (j + al)) cn.toNat) := by
  obtain ⟨hp1, ⟨hp2, hp3⟩, hT⟩ := hp
  obtain ⟨h8, hA⟩ := okT_at hT
  have hAc : 1 ≤ vl (cn.toNat + al) ∧ vl (cn.toNat + al) ≤ 1000000 ∧ 1 ≤ gl (cn.toNat + al) ∧ gl (cn.toNat + al) ≤ vl (cn.toNat + al) ∧ gl (cn.toNat + al) ≤ wl (cn.toNat + al) ∧ wl (cn.toNat + al) ≤ vl (cn.toNat + al) := hA cn.toNat (by omega)
  have hb : gl (cn.toNat + al) ≤ S.dem (fun j => vl (j + al)) (fun j => gl (j + al)) cn.toNat 1 := (dem_b hT (i := cn.toNat) (by omega) (t := 1) (by omega) (by omega)).1
  have hm := s43' al nl ml tl vl gl wl cn ⟨hp1, ⟨hp2, hp3⟩, hT⟩ _ 1 (Nat.le_refl _) (by omega) (by omega)
  rw [show (wl (cn.toNat + al) - 1 + 1).toNat = (wl (cn.toNat + al)).toNat by omega] at hm
  unfold p43
  exact hm
theorem k43_ok  : k43.ok Try.prog := by
  intro x hx
  obtain ⟨⟨al, nl, ml, tl, vl, gl, wl, _⟩, cn, _⟩ := x
  obtain ⟨h1, h2⟩ := a43 al nl ml tl vl gl wl cn (s43 al nl ml tl vl gl wl cn (of_dec hx rfl))
  exact ⟨⟨400, (by decide : 1 + 1 + 0 ≤ 400), h1⟩, h2⟩
inductive St44 where
  | h0 (x0 : Int)
abbrev Rt44  := Int × Bool
noncomputable def V44 (al nl ml : Nat) (tl : Nat → ByteArray) (vl gl wl : NI) (cn : Int) (r : Rt44) : PV := PV.tup [PV.int .i64 r.1, PV.bool r.2]
noncomputable def N44 (al nl ml : Nat) (tl : Nat → ByteArray) (vl gl wl : NI) (cn : Int) (r : Rt44) : List Blk := []
noncomputable def I44 (al nl ml : Nat) (tl : Nat → ByteArray) (vl gl wl : NI) (cn : Int) : St44 → Hd
  | .h0 x0 => ⟨hd Try.f44 0, [PV.loose (PA.mk (0) (4) al (0)) nl, PV.int .i64 cn,
 PV.int .i64 x0], [[], [(0, (false, .cols ml [.str tl, .int .i64 vl, .int .i64 gl, .int .i64 wl]))]], 1⟩
noncomputable def q44 (al nl ml : Nat) (tl : Nat → ByteArray) (vl gl wl : NI) (cn : Int) : St44 → Option (St44 ⊕ Rt44) | .h0 x0 => bif (decide ((0 : Int) ≤ cn ∧ cn < (↑nl : Int))) then (bif (decide (Int.toNat cn + al < ml)) then (bif (decide (x0 ≤ wl (Int.toNat cn + al))) then (bif (decide (al + nl ≤ ml ∧ ((0 : Int) ≤ cn ∧ cn < (↑nl : Int)) ∧ ((0 : Int) ≤ x0 ∧ x0 ≤ 1000000) ∧ (S.okT nl (fun j => vl (j + al)) (fun j => gl (j + al)) fun j => wl (j + al)) = true)) then (bif (S.dem (fun j => vl (j + al)) (fun j => gl (j + al)) (Int.toNat cn) x0 == x0) then (some (.inr (x0, true))) else (some (.inl (.h0 (S.dem (fun j => vl (j + al)) (fun j => gl (j + al)) (Int.toNat cn) x0))))) else (none)) else (some (.inr ((0 : Int), false)))) else (none)) else (none)
noncomputable def p44 (al nl ml : Nat) (tl : Nat → ByteArray) (vl gl wl : NI) (cn : Int) : Option (St44 ⊕ Rt44) := bif (decide ((0 : Int) ≤ cn ∧ cn < (↑nl : Int))) then (bif (decide (Int.toNat cn + al < ml)) then (some (.inl (.h0 (gl (Int.toNat cn + al))))) else (none)) else (none)
def Te44 (test : TT) (Kst : KS) (Kret : KR) (al nl ml : Nat) (tl : Nat → ByteArray) (vl gl wl : NI) (cn : Int) : Prop := test (decide ((0 : Int) ≤ cn ∧ cn < (↑nl : Int))) (test (decide (Int.toNat cn + al < ml)) (Kst (hd Try.f44 0) ([PV.loose (PA.mk (0) (4) al (0)) nl, PV.int .i64 cn, PV.int .i64 (gl (Int.toNat cn + al))]) ([[(0, false, Blk.cols ml [Col.str tl, Col.int .i64 vl, Col.int .i64 gl, Col.int .i64 wl])]]) (1)) (False)) (False)
theorem te44 (test : TT) (Kst : KS) (Kret : KR) (al nl ml : Nat) (tl : Nat → ByteArray) (vl gl wl : NI) (cn : Int) : run test Try.env true (xD test) true 400 ⟨44, [.cd (mkFn Try.f44).body], argT 0 [.loose ⟨0, 4, al, 0⟩ nl, .int .i64 cn], [[], [(0, (false, .cols ml [.str tl, .int .i64 vl, .int .i64 gl, .int .i64 wl]))]], 1⟩ (proj 1 [0, 1, 6] Kst Kret) =
  Te44 test Kst Kret al nl ml tl vl gl wl cn := by kernel_rfl
def T44_0 (test : TT) (Kst : KS) (Kret : KR) (al nl ml : Nat) (tl : Nat → ByteArray) (vl gl wl : NI) (cn x0 : Int) : Prop := test (decide ((0 : Int) ≤ cn ∧ cn < (↑nl : Int))) (test (decide (Int.toNat cn + al < ml)) (test (decide (x0 ≤ wl (Int.toNat cn + al))) (test (decide (al + nl ≤ ml ∧ ((0 : Int) ≤ cn ∧ cn < (↑nl : Int)) ∧ ((0 : Int) ≤ x0 ∧ x0 ≤ 1000000) ∧ (S.okT nl (fun j => vl (j + al)) (fun j => gl (j + al)) fun j => wl (j + al)) = true)) (test (S.dem (fun j => vl (j + al)) (fun j => gl (j + al)) (Int.toNat cn) x0 == x0) (Kret (PV.tup [PV.int .i64 x0, PV.tf true]) ([[(0, false, Blk.cols ml [Col.str tl, Col.int .i64 vl, Col.int .i64 gl, Col.int .i64 wl])]]) (2)) (Kst (hd Try.f44 0) ([PV.loose (PA.mk (0) (4) al (0)) nl, PV.int .i64 cn, PV.int .i64 (S.dem (fun j => vl (j + al)) (fun j => gl (j + al)) (Int.toNat cn) x0)]) ([[(0, false, Blk.cols ml [Col.str tl, Col.int .i64 vl, Col.int .i64 gl, Col.int .i64 wl])]]) (2))) (False)) (Kret (PV.tup [PV.int .i64 (0 : Int), PV.tf false]) ([[(0, false, Blk.cols ml [Col.str tl, Col.int .i64 vl, Col.int .i64 gl, Col.int .i64 wl])]]) (1))) (False)) (False)
theorem t44_0 (test : TT) (Kst : KS) (Kret : KR) (al nl ml : Nat) (tl : Nat → ByteArray) (vl gl wl : NI) (cn x0 : Int) : run test Try.env true (xD test) true 400 ⟨44, hd Try.f44 0, zipT [0, 1, 6] [PV.loose (PA.mk (0) (4) al (0)) nl, PV.int .i64 cn,
 PV.int .i64 x0], [[], [(0, (false, .cols ml [.str tl, .int .i64 vl, .int .i64 gl, .int .i64 wl]))]], 1⟩ (proj 1 [0, 1, 6] Kst Kret) =
  T44_0 test Kst Kret al nl ml tl vl gl wl cn x0 := by kernel_rfl
noncomputable abbrev J44 (al nl ml : Nat) (tl : Nat → ByteArray) (vl : NI) (gl : NI) (wl : NI) (cn : Int) : Rt44 → Heap := fun r => [newL (1 + 1) ((N44 al nl ml tl vl gl wl cn) r) ++ [(0, (false, .cols ml [.str tl, .int .i64 vl, .int .i64 gl, .int .i64 wl]))]]
attribute [local irreducible] Int.subNatNat in
theorem be44 (al nl ml : Nat) (tl : Nat → ByteArray) (vl gl wl : NI) (cn : Int) (Kst : KS) (Kret : KR) (x : St44 ⊕ Rt44) (hS : HS 1 400 ((I44 al nl ml tl vl gl wl cn)) Kst x) (hR : HR 1 400 ((V44 al nl ml tl vl gl wl cn)) (J44 al nl ml tl vl gl wl cn) Kret x) (h : p44 al nl ml tl vl gl wl cn = some x) : Te44 cond Kst Kret al nl ml tl vl gl wl cn := by
  unfold Te44
  unfold p44 at h
  exact bif_split h (fun c0 h => bif_split h (fun c1 h => stop_at hS _ h (fun n => n) rfl rfl rfl ⟨(rn_loose (use_lo rfl) rfl rfl rfl), ⟨(rn_int rfl), ⟨(rn_int rfl), trivial⟩⟩⟩ rfl (entl_bor (use_lo rfl) rfl rfl entl_nil)) (fun c1 h => no_some h)) (fun c0 h => no_some h)
attribute [local irreducible] Int.subNatNat in
theorem b44_0 (al nl ml : Nat) (tl : Nat → ByteArray) (vl gl wl : NI) (cn : Int) (Kst : KS) (Kret : KR) (x : St44 ⊕ Rt44) (hS : HS 1 400 ((I44 al nl ml tl vl gl wl cn)) Kst x) (hR : HR 1 400 ((V44 al nl ml tl vl gl wl cn)) (J44 al nl ml tl vl gl wl cn) Kret x) (x0 : Int) (h : q44 al nl ml tl vl gl wl cn (.h0 x0) = some x) : T44_0 cond Kst Kret al nl ml tl vl gl wl cn x0 := by
  unfold T44_0
  rw [q44] at h
  exact bif_split h (fun c0 h => bif_split h (fun c1 h => bif_split h (fun c2 h => bif_split h (fun c3 h => bif_split h (fun c4 h => ret_at hR _ h (fun n => n) rfl rfl rfl (rn_tup ⟨(rn_int rfl), (rn_bool_tf rfl), trivial⟩) rfl (entl_bor (use_lo rfl) rfl rfl entl_nil)) (fun c4 h => stop_at hS _ h (fun n => n) rfl rfl rfl ⟨(rn_loose (use_lo rfl) rfl rfl rfl), ⟨(rn_int rfl), ⟨(rn_int rfl), trivial⟩⟩⟩ rfl (entl_bor (use_lo rfl) rfl rfl entl_nil))) (fun c3 h => no_some h)) (fun c2 h => ret_at hR _ h (fun n => n) rfl rfl rfl (rn_tup ⟨(rn_int rfl), (rn_bool_tf rfl), trivial⟩) rfl (entl_bor (use_lo rfl) rfl rfl entl_nil))) (fun c1 h => no_some h)) (fun c0 h => no_some h)
theorem a44 (al nl ml : Nat) (tl : Nat → ByteArray) (vl gl wl : NI) (cn : Int) {r : Rt44} (h : Goes ((q44 al nl ml tl vl gl wl cn)) ((p44 al nl ml tl vl gl wl cn)) r) : CallR Try.prog 44 [.loose ⟨0, 4, al, 0⟩ nl, .int .i64 cn] [[(0, (false, .cols ml [.str tl, .int .i64 vl, .int .i64 gl, .int .i64 wl]))]] 1 ((V44 al nl ml tl vl gl wl cn) r) ((J44 al nl ml tl vl gl wl cn) r) 400 ∧ ∃ F, Try.prog.funcs[44]? = some F ∧ F.body.isSome = true ∧ (F.name == "runtime.NumGoroutine") = false := by
  refine dec_calls (sy := true) (f := 44) (lo := 1) (hi := 400) (H := [[(0, (false, .cols ml [.str tl, .int .i64 vl, .int .i64 gl, .int .i64 wl]))]]) (args := [.loose ⟨0, 4, al, 0⟩ nl, .int .i64 cn]) Try.envOk Try.mixed xD_ok ((I44 al nl ml tl vl gl wl cn)) ((V44 al nl ml tl vl gl wl cn)) (J44 al nl ml tl vl gl wl cn) (fn := mkFn Try.f44) (ts := [0, 1, 6]) (n := 400) rfl (by decide) (by simp) (names_of rfl) ?_ ?_ ?_ h
  · intro s; cases s <;> exact ⟨hd_ok _ _, by simp [I44], names_of rfl, Nat.le_of_ble_eq_true rfl⟩
  · intro Kst Kret x hS hR h
    exact Holds.eq (te44 cond Kst Kret al nl ml tl vl gl wl cn) (be44 al nl ml tl vl gl wl cn Kst Kret x hS hR h)
  · intro Kst Kret x hS hR s h
    cases s with
    | h0 x0 => exact Holds.eq (t44_0 cond Kst Kret al nl ml tl vl gl wl cn x0) (b44_0 al nl ml tl vl gl wl cn Kst Kret x hS hR x0 h)
noncomputable abbrev w44 {α : Type} (g : Nat → Nat → Nat → (Nat → ByteArray) → (Nat → Int) → (Nat → Int) → (Nat → Int) → Int → α) (x : (Nat × Nat × Nat × (Nat → ByteArray) × (Nat → Int) × (Nat → Int) × (Nat → Int) × Unit) × Int × Unit) : α := g x.1.1 x.1.2.1 x.1.2.2.1 x.1.2.2.2.1 x.1.2.2.2.2.1 x.1.2.2.2.2.2.1 x.1.2.2.2.2.2.2.1 x.2.1
noncomputable def k44  : Con := ⟨44, [.one (.list [.str, .int .i64, .int .i64, .int .i64]), .one (.plain (.int .i64))], w44 (fun al nl ml tl vl gl wl cn => decide (al + nl ≤ ml ∧ (0 ≤ cn ∧ cn < nl) ∧ S.okT nl (fun j => vl (j + al)) (fun j => gl (j + al)) (fun j => wl (j + al)) = true)), w44 (fun al nl ml tl vl gl wl cn => (V44 al nl ml tl vl gl wl cn) (S.resT (fun j => vl (j + al)) (fun j => gl (j + al)) (fun j => wl (j + al)) cn.toNat)), w44 (fun al nl ml tl vl gl wl cn => (N44 al nl ml tl vl gl wl cn) (S.resT (fun j => vl (j + al)) (fun j => gl (j + al)) (fun j => wl (j + al)) cn.toNat)), fun _ _ => .dead⟩
theorem s44' (al nl ml : Nat) (tl : Nat → ByteArray) (vl gl wl : Nat → Int) (cn : Int) (hp : al + nl ≤ ml ∧ (0 ≤ cn ∧ cn < nl) ∧ S.okT nl (fun j => vl (j + al)) (fun j => gl (j + al)) (fun j => wl (j + al)) = true) : ∀ (k : Nat) (x0 : Int), (wl (cn.toNat + al) - x0 + 1).toNat ≤ k → 1 ≤ x0 → x0 ≤ S.dem (fun j => vl (j + al)) (fun j => gl (j + al)) cn.toNat x0 → Comes (q44 al nl ml tl vl gl wl cn) (.h0 x0) (S.fixF (fun t => S.dem (fun j => vl (j + al)) (fun j => gl (j + al)) cn.toNat t) (wl (cn.toNat + al) - x0 + 1).toNat x0) := by
  obtain ⟨hp1, ⟨hp2, hp3⟩, hT⟩ := hp
  obtain ⟨h8, hA⟩ := okT_at hT
  have hAc : 1 ≤ vl (cn.toNat + al) ∧ vl (cn.toNat + al) ≤ 1000000 ∧ 1 ≤ gl (cn.toNat + al) ∧ gl (cn.toNat + al) ≤ vl (cn.toNat + al) ∧ gl (cn.toNat + al) ≤ wl (cn.toNat + al) ∧ wl (cn.toNat + al) ≤ vl (cn.toNat + al) := hA cn.toNat (by omega)
  have hm : ∀ u v : Int, 0 ≤ u → u ≤ v → S.dem (fun j => vl (j + al)) (fun j => gl (j + al)) cn.toNat u ≤ S.dem (fun j => vl (j + al)) (fun j => gl (j + al)) cn.toNat v := fun u v h1 h2 => dem_mono hT (by omega) h1 h2
  intro k
  induction k with
  | zero =>
    intro x0 hk h1 h2
    have e0 : (wl (cn.toNat + al) - x0 + 1).toNat = 0 := by omega
    rw [e0]
    show Comes _ _ (0, false)
    apply Comes.of
    rw [q44]
    refine goes_ok (decide_eq_true (by omega)) (goes_ok (decide_eq_true (by omega)) (goes_no (decide_eq_false (by omega)) rfl))
  | succ k ih =>
    intro x0 hk h1 h2
    by_cases hD : x0 ≤ wl (cn.toNat + al)
    · apply Comes.of
      rw [q44]
      refine goes_ok (decide_eq_true (by omega)) (goes_ok (decide_eq_true (by omega)) (goes_ok (decide_eq_true (by omega)) (goes_ok (decide_eq_true ⟨hp1, ⟨hp2, hp3⟩, ⟨by omega, by omega⟩, hT⟩) ?_)))
      by_cases he : S.dem (fun j => vl (j + al)) (fun j => gl (j + al)) cn.toNat x0 = x0
      · refine goes_ok (by rw [he]; exact beq_self_eq_true _) ?_
        obtain ⟨m, hm'⟩ : ∃ m, (wl (cn.toNat + al) - x0 + 1).toNat = m + 1 := ⟨(wl (cn.toNat + al) - x0).toNat, by omega⟩
        rw [hm']
        simp only [S.fixF]
        rw [if_pos he]
        exact goes_inr.mpr rfl
      · refine goes_no (by simpa using he) ?_
        rw [fix_step (f := (fun t => S.dem (fun j => vl (j + al)) (fun j => gl (j + al)) cn.toNat t)) (D := wl (cn.toNat + al)) hm h1 hD h2 he]
        exact ih _ (by show (wl (cn.toNat + al) - S.dem (fun j => vl (j + al)) (fun j => gl (j + al)) cn.toNat x0 + 1).toNat ≤ k; omega) (by omega) (hm _ _ (by omega) h2)
    · have e0 : (wl (cn.toNat + al) - x0 + 1).toNat = 0 := by omega
      rw [e0]
      show Comes _ _ (0, false)
      apply Comes.of
      rw [q44]
      refine goes_ok (decide_eq_true (by omega)) (goes_ok (decide_eq_true (by omega)) (goes_no (decide_eq_false (by omega)) rfl))
theorem s44 (al nl ml : Nat) (tl : Nat → ByteArray) (vl gl wl : Nat → Int) (cn : Int) (hp : al + nl ≤ ml ∧ (0 ≤ cn ∧ cn < nl) ∧ S.okT nl (fun j => vl (j + al)) (fun j => gl (j + al)) (fun j => wl (j + al)) = true) : Goes ((q44 al nl ml tl vl gl wl cn)) ((p44 al nl ml tl vl gl wl cn)) (S.resT (fun j => vl (j + al)) (fun j => gl (j + al)) (fun j => wl (j + al)) cn.toNat) := by
  obtain ⟨hp1, ⟨hp2, hp3⟩, hT⟩ := hp
  obtain ⟨h8, hA⟩ := okT_at hT
  have hAc : 1 ≤ vl (cn.toNat + al) ∧ vl (cn.toNat + al) ≤ 1000000 ∧ 1 ≤ gl (cn.toNat + al) ∧ gl (cn.toNat + al) ≤ vl (cn.toNat + al) ∧ gl (cn.toNat + al) ≤ wl (cn.toNat + al) ∧ wl (cn.toNat + al) ≤ vl (cn.toNat + al) := hA cn.toNat (by omega)
  have hb : gl (cn.toNat + al) ≤ S.dem (fun j => vl (j + al)) (fun j => gl (j + al)) cn.toNat (gl (cn.toNat + al)) := (dem_b hT (i := cn.toNat) (by omega) (t := (gl (cn.toNat + al))) (by omega) (by omega)).1
  have hm := s44' al nl ml tl vl gl wl cn ⟨hp1, ⟨hp2, hp3⟩, hT⟩ _ (gl (cn.toNat + al)) (Nat.le_refl _) (by omega) (by omega)
  have hsk := fixF_skip (f := (fun t => S.dem (fun j => vl (j + al)) (fun j => gl (j + al)) cn.toNat t)) (k := (wl (cn.toNat + al)).toNat) (t := 1) (gl (cn.toNat + al) - 1).toNat (by omega) fun u h1 h2 => by
    have := (dem_b hT (i := cn.toNat) (by omega) (t := u) (by omega) (by omega)).1
    have h3 : gl (cn.toNat + al) ≤ S.dem (fun j => vl (j + al)) (fun j => gl (j + al)) cn.toNat u := this
    show S.dem (fun j => vl (j + al)) (fun j => gl (j + al)) cn.toNat u ≠ u
    omega
  rw [show (wl (cn.toNat + al)).toNat - (gl (cn.toNat + al) - 1).toNat = (wl (cn.toNat + al) - gl (cn.toNat + al) + 1).toNat by omega, show (1 : Int) + ((gl (cn.toNat + al) - 1).toNat : Int) = gl (cn.toNat + al) by omega] at hsk
  rw [← hsk] at hm
  unfold p44
  exact goes_ok (decide_eq_true (by omega)) (goes_ok (decide_eq_true (by omega)) hm)
theorem k44_ok  : k44.ok Try.prog := by
  intro x hx
  obtain ⟨⟨al, nl, ml, tl, vl, gl, wl, _⟩, cn, _⟩ := x
  obtain ⟨h1, h2⟩ := a44 al nl ml tl vl gl wl cn (s44 al nl ml tl vl gl wl cn (of_dec hx rfl))
  exact ⟨⟨400, (by decide : 1 + 1 + 0 ≤ 400), h1⟩, h2⟩
noncomputable def xR (test : Bool → Prop → Prop → Prop) : Ext := consX test [k43, k44]
theorem xR_ok  : ExtOk Try.prog (xR cond) := consX_ok ⟨k43_ok, k44_ok, trivial⟩
inductive St17 where
  | h0 (x0 : Int)
abbrev Rt17  := Int
noncomputable def V17 (al nl ml : Nat) (tl : Nat → ByteArray) (vl gl wl : NI) (r : Rt17) : PV := PV.int .i64 r
noncomputable def N17 (al nl ml : Nat) (tl : Nat → ByteArray) (vl gl wl : NI) (r : Rt17) : List Blk := []
noncomputable def I17 (al nl ml : Nat) (tl : Nat → ByteArray) (vl gl wl : NI) : St17 → Hd
  | .h0 x0 => ⟨hd Try.f17 0, [PV.loose (PA.mk (0) (4) al (0)) nl,
 PV.loose (PA.mk (0) (4) al (0)) nl, PV.int .i64 (↑nl : Int),
 PV.int .i64 x0], [[], [(0, (false, .cols ml [.str tl, .int .i64 vl, .int .i64 gl, .int .i64 wl]))]], 1⟩
noncomputable def q17 (al nl ml : Nat) (tl : Nat → ByteArray) (vl gl wl : NI) : St17 → Option (St17 ⊕ Rt17) | .h0 x0 => bif (decide (x0 < (↑nl : Int))) then (bif (decide ((0 : Int) ≤ x0 ∧ x0 < (↑nl : Int))) then (bif (decide (Int.toNat x0 + al < ml)) then (bif (S.isNam (tl (Int.toNat x0 + al))) then (bif (decide ((0 : Int) ≤ Option.getD Option.none (0 : Int) ∧ (0 : Int) ≤ x0 ∧ x0 ≤ (↑nl : Int))) then (bif (decide (0 + al + Int.toNat x0 ≤ ml ∧ Int.toNat x0 ≤ 1000000)) then (bif (S.any (fun j => S.eqS (tl (j + (0 + al))) (tl (Int.toNat x0 + al))) (Int.toNat x0)) then (some (.inr ((5 : Int)))) else (bif (decide (vl (Int.toNat x0 + al) ≥ 1)) then (bif (decide (vl (Int.toNat x0 + al) ≤ 1000000)) then (bif (decide (gl (Int.toNat x0 + al) ≥ 1)) then (bif (decide (gl (Int.toNat x0 + al) ≤ vl (Int.toNat x0 + al))) then (bif (decide (wl (Int.toNat x0 + al) ≥ gl (Int.toNat x0 + al))) then (bif (decide (wl (Int.toNat x0 + al) ≤ vl (Int.toNat x0 + al))) then (bif (lim .i64 (x0 + 1)) then (some (.inl (.h0 (x0 + 1)))) else (none)) else (some (.inr ((6 : Int))))) else (some (.inr ((6 : Int))))) else (some (.inr ((6 : Int))))) else (some (.inr ((6 : Int))))) else (some (.inr ((6 : Int))))) else (some (.inr ((6 : Int)))))) else (none)) else (none)) else (some (.inr ((2 : Int))))) else (none)) else (none)) else (some (.inr ((0 : Int))))
noncomputable def p17 (al nl ml : Nat) (tl : Nat → ByteArray) (vl gl wl : NI) : Option (St17 ⊕ Rt17) := bif ((↑nl : Int) == 0) then (some (.inr ((7 : Int)))) else (bif (decide ((↑nl : Int) > 8)) then (some (.inr ((3 : Int)))) else (some (.inl (.h0 ((0 : Int))))))
def Te17 (test : TT) (Kst : KS) (Kret : KR) (al nl ml : Nat) (tl : Nat → ByteArray) (vl gl wl : NI) : Prop := test ((↑nl : Int) == 0) (Kret (PV.int .i64 (7 : Int)) ([[(0, false, Blk.cols ml [Col.str tl, Col.int .i64 vl, Col.int .i64 gl, Col.int .i64 wl])]]) (1)) (test (decide ((↑nl : Int) > 8)) (Kret (PV.int .i64 (3 : Int)) ([[(0, false, Blk.cols ml [Col.str tl, Col.int .i64 vl, Col.int .i64 gl, Col.int .i64 wl])]]) (1)) (Kst (hd Try.f17 0) ([PV.loose (PA.mk (0) (4) al (0)) nl, PV.loose (PA.mk (0) (4) al (0)) nl, PV.int .i64 (↑nl : Int), PV.int .i64 (0 : Int)]) ([[(0, false, Blk.cols ml [Col.str tl, Col.int .i64 vl, Col.int .i64 gl, Col.int .i64 wl])]]) (1)))
theorem te17 (test : TT) (Kst : KS) (Kret : KR) (al nl ml : Nat) (tl : Nat → ByteArray) (vl gl wl : NI) : run test Try.env true (xV test) true 400 ⟨17, [.cd (mkFn Try.f17).body], argT 0 [.loose ⟨0, 4, al, 0⟩ nl], [[], [(0, (false, .cols ml [.str tl, .int .i64 vl, .int .i64 gl, .int .i64 wl]))]], 1⟩ (proj 1 [0, 11, 12, 13] Kst Kret) =
  Te17 test Kst Kret al nl ml tl vl gl wl := by kernel_rfl
noncomputable abbrev u17_0_0 (ml : Nat) (tl : Nat → ByteArray) (vl gl wl : Nat → Int) := [[(0, false, Blk.cols ml [Col.str tl, Col.int IntKind.i64 vl, Col.int IntKind.i64 gl, Col.int IntKind.i64 wl])]]
def T17_0 (test : TT) (Kst : KS) (Kret : KR) (al nl ml : Nat) (tl : Nat → ByteArray) (vl gl wl : NI) (x0 : Int) : Prop := test (decide (x0 < (↑nl : Int))) (test (decide ((0 : Int) ≤ x0 ∧ x0 < (↑nl : Int))) (test (decide (Int.toNat x0 + al < ml)) (test (decide (Int.toNat x0 + al < ml)) (test (decide (Int.toNat x0 + al < ml)) (test (decide (Int.toNat x0 + al < ml)) (test (true) (test (S.isNam (tl (Int.toNat x0 + al))) (test (decide ((0 : Int) ≤ Option.getD Option.none (0 : Int) ∧ (0 : Int) ≤ x0 ∧ x0 ≤ (↑nl : Int))) (test (decide (0 + al + Int.toNat x0 ≤ ml ∧ Int.toNat x0 ≤ 1000000)) (test (S.any (fun j => S.eqS (tl (j + (0 + al))) (tl (Int.toNat x0 + al))) (Int.toNat x0)) (Kret (PV.int .i64 (5 : Int)) (u17_0_0 ml tl vl gl wl) (4)) (test (decide (vl (Int.toNat x0 + al) ≥ 1)) (test (decide (vl (Int.toNat x0 + al) ≤ 1000000)) (test (decide (gl (Int.toNat x0 + al) ≥ 1)) (test (decide (gl (Int.toNat x0 + al) ≤ vl (Int.toNat x0 + al))) (test (decide (wl (Int.toNat x0 + al) ≥ gl (Int.toNat x0 + al))) (test (decide (wl (Int.toNat x0 + al) ≤ vl (Int.toNat x0 + al))) (test (lim .i64 (x0 + 1)) (Kst (hd Try.f17 0) ([PV.loose (PA.mk (0) (4) al (0)) nl, PV.loose (PA.mk (0) (4) al (0)) nl, PV.int .i64 (↑nl : Int), PV.int .i64 (x0 + 1)]) (u17_0_0 ml tl vl gl wl) (4)) (False)) (Kret (PV.int .i64 (6 : Int)) (u17_0_0 ml tl vl gl wl) (4))) (Kret (PV.int .i64 (6 : Int)) (u17_0_0 ml tl vl gl wl) (4))) (Kret (PV.int .i64 (6 : Int)) (u17_0_0 ml tl vl gl wl) (4))) (Kret (PV.int .i64 (6 : Int)) (u17_0_0 ml tl vl gl wl) (4))) (Kret (PV.int .i64 (6 : Int)) (u17_0_0 ml tl vl gl wl) (4))) (Kret (PV.int .i64 (6 : Int)) (u17_0_0 ml tl vl gl wl) (4)))) (False)) (False)) (Kret (PV.int .i64 (2 : Int)) (u17_0_0 ml tl vl gl wl) (3))) (False)) (False)) (False)) (False)) (False)) (False)) (Kret (PV.int .i64 (0 : Int)) (u17_0_0 ml tl vl gl wl) (1))
theorem t17_0 (test : TT) (Kst : KS) (Kret : KR) (al nl ml : Nat) (tl : Nat → ByteArray) (vl gl wl : NI) (x0 : Int) : run test Try.env true (xV test) true 400 ⟨17, hd Try.f17 0, zipT [0, 11, 12, 13] [PV.loose (PA.mk (0) (4) al (0)) nl,
 PV.loose (PA.mk (0) (4) al (0)) nl, PV.int .i64 (↑nl : Int),
 PV.int .i64 x0], [[], [(0, (false, .cols ml [.str tl, .int .i64 vl, .int .i64 gl, .int .i64 wl]))]], 1⟩ (proj 1 [0, 11, 12, 13] Kst Kret) =
  T17_0 test Kst Kret al nl ml tl vl gl wl x0 := by kernel_rfl
noncomputable abbrev J17 (al nl ml : Nat) (tl : Nat → ByteArray) (vl : NI) (gl : NI) (wl : NI) : Rt17 → Heap := fun r => [newL (1 + 1) ((N17 al nl ml tl vl gl wl) r) ++ [(0, (false, .cols ml [.str tl, .int .i64 vl, .int .i64 gl, .int .i64 wl]))]]
attribute [local irreducible] Int.subNatNat in
theorem be17 (al nl ml : Nat) (tl : Nat → ByteArray) (vl gl wl : NI) (Kst : KS) (Kret : KR) (x : St17 ⊕ Rt17) (hS : HS 1 400 ((I17 al nl ml tl vl gl wl)) Kst x) (hR : HR 1 400 ((V17 al nl ml tl vl gl wl)) (J17 al nl ml tl vl gl wl) Kret x) (h : p17 al nl ml tl vl gl wl = some x) : Te17 cond Kst Kret al nl ml tl vl gl wl := by
  unfold Te17
  unfold p17 at h
  exact bif_split h (fun c0 h => ret_at hR _ h (fun n => n) rfl rfl rfl (rn_int rfl) rfl (entl_bor (use_lo rfl) rfl rfl entl_nil)) (fun c0 h => bif_split h (fun c1 h => ret_at hR _ h (fun n => n) rfl rfl rfl (rn_int rfl) rfl (entl_bor (use_lo rfl) rfl rfl entl_nil)) (fun c1 h => stop_at hS _ h (fun n => n) rfl rfl rfl ⟨(rn_loose (use_lo rfl) rfl rfl rfl), ⟨(rn_loose (use_lo rfl) rfl rfl rfl), ⟨(rn_int rfl), ⟨(rn_int rfl), trivial⟩⟩⟩⟩ rfl (entl_bor (use_lo rfl) rfl rfl entl_nil)))
attribute [local irreducible] Int.subNatNat in
theorem b17_0 (al nl ml : Nat) (tl : Nat → ByteArray) (vl gl wl : NI) (Kst : KS) (Kret : KR) (x : St17 ⊕ Rt17) (hS : HS 1 400 ((I17 al nl ml tl vl gl wl)) Kst x) (hR : HR 1 400 ((V17 al nl ml tl vl gl wl)) (J17 al nl ml tl vl gl wl) Kret x) (x0 : Int) (h : q17 al nl ml tl vl gl wl (.h0 x0) = some x) : T17_0 cond Kst Kret al nl ml tl vl gl wl x0 := by
  unfold T17_0
  rw [q17] at h
  refine bif_split h (fun c0 h => bif_split h (fun c1 h => bif_split h (fun c2 h => cond_yes c2 (cond_yes c2 (cond_yes c2 (cond_yes rfl (bif_split h (fun c3 h => bif_split h (fun c4 h => bif_split h (fun c5 h => bif_split h (fun c6 h => ?_) (fun c6 h => bif_split h (fun c7 h => bif_split h (fun c8 h => bif_split h (fun c9 h => bif_split h (fun c10 h => bif_split h (fun c11 h => bif_split h (fun c12 h => bif_split h (fun c13 h => stop_at hS _ h (fun n => n) rfl rfl rfl ⟨(rn_loose (use_lo rfl) rfl rfl rfl), ⟨(rn_loose (use_lo rfl) rfl rfl rfl), ⟨(rn_int rfl), ⟨(rn_int rfl), trivial⟩⟩⟩⟩ rfl (entl_bor (use_lo rfl) rfl rfl entl_nil)) (fun c13 h => ?_)) (fun c12 h => ?_)) (fun c11 h => ?_)) (fun c10 h => ?_)) (fun c9 h => ?_)) (fun c8 h => ?_)) (fun c7 h => ?_))) (fun c5 h => ?_)) (fun c4 h => ?_)) (fun c3 h => ?_)))))) (fun c2 h => ?_)) (fun c1 h => ?_)) (fun c0 h => ?_)
  all_goals first
    | exact ret_at hR _ h (fun n => n) rfl rfl rfl (rn_int rfl) rfl (entl_bor (use_lo rfl) rfl rfl entl_nil)
    | exact no_some h
theorem a17 (al nl ml : Nat) (tl : Nat → ByteArray) (vl gl wl : NI) {r : Rt17} (h : Goes ((q17 al nl ml tl vl gl wl)) ((p17 al nl ml tl vl gl wl)) r) : CallR Try.prog 17 [.loose ⟨0, 4, al, 0⟩ nl] [[(0, (false, .cols ml [.str tl, .int .i64 vl, .int .i64 gl, .int .i64 wl]))]] 1 ((V17 al nl ml tl vl gl wl) r) ((J17 al nl ml tl vl gl wl) r) 400 ∧ ∃ F, Try.prog.funcs[17]? = some F ∧ F.body.isSome = true ∧ (F.name == "runtime.NumGoroutine") = false := by
  refine dec_calls (sy := true) (f := 17) (lo := 1) (hi := 400) (H := [[(0, (false, .cols ml [.str tl, .int .i64 vl, .int .i64 gl, .int .i64 wl]))]]) (args := [.loose ⟨0, 4, al, 0⟩ nl]) Try.envOk Try.mixed xV_ok ((I17 al nl ml tl vl gl wl)) ((V17 al nl ml tl vl gl wl)) (J17 al nl ml tl vl gl wl) (fn := mkFn Try.f17) (ts := [0, 11, 12, 13]) (n := 400) rfl (by decide) (by simp) (names_of rfl) ?_ ?_ ?_ h
  · intro s; cases s <;> exact ⟨hd_ok _ _, by simp [I17], names_of rfl, Nat.le_of_ble_eq_true rfl⟩
  · intro Kst Kret x hS hR h
    exact Holds.eq (te17 cond Kst Kret al nl ml tl vl gl wl) (be17 al nl ml tl vl gl wl Kst Kret x hS hR h)
  · intro Kst Kret x hS hR s h
    cases s with
    | h0 x0 => exact Holds.eq (t17_0 cond Kst Kret al nl ml tl vl gl wl x0) (b17_0 al nl ml tl vl gl wl Kst Kret x hS hR x0 h)
noncomputable abbrev w17 {α : Type} (g : Nat → Nat → Nat → (Nat → ByteArray) → (Nat → Int) → (Nat → Int) → (Nat → Int) → α) (x : (Nat × Nat × Nat × (Nat → ByteArray) × (Nat → Int) × (Nat → Int) × (Nat → Int) × Unit) × Unit) : α := g x.1.1 x.1.2.1 x.1.2.2.1 x.1.2.2.2.1 x.1.2.2.2.2.1 x.1.2.2.2.2.2.1 x.1.2.2.2.2.2.2.1
noncomputable def k17  : Con := ⟨17, [.one (.list [.str, .int .i64, .int .i64, .int .i64])], w17 (fun al nl ml tl vl gl wl => decide (al + nl ≤ ml)), w17 (fun al nl ml tl vl gl wl => (V17 al nl ml tl vl gl wl) (S.tskS nl (fun j => tl (j + al)) (fun j => vl (j + al)) (fun j => gl (j + al)) (fun j => wl (j + al)))), w17 (fun al nl ml tl vl gl wl => (N17 al nl ml tl vl gl wl) (S.tskS nl (fun j => tl (j + al)) (fun j => vl (j + al)) (fun j => gl (j + al)) (fun j => wl (j + al)))), fun _ _ => .dead⟩
theorem s17' (al nl ml : Nat) (tl : Nat → ByteArray) (vl gl wl : Nat → Int) (hp : al + nl ≤ ml) (h8 : nl ≤ 8) : ∀ (k i : Nat), i + k = nl → Comes (q17 al nl ml tl vl gl wl) (.h0 (i : Int)) (S.tskE (fun j => tl (j + al)) (fun j => vl (j + al)) (fun j => gl (j + al)) (fun j => wl (j + al)) i k) := by
  intro k
  induction k with
  | zero =>
    intro i hi
    apply Comes.of
    show Goes _ _ _
    (first | rw [q17] | unfold q17)
    repeat' (first | with_reducible refine goes_if (fun h => ?_) (fun h => ?_) <;> (try simp only [SH] at h) | exact goes_none.mpr (by omega))
    all_goals first | (exfalso; omega) | rfl
  | succ k ih =>
    intro i hi
    have ih := ih (i + 1) (by omega)
    simp only [S.tskE]
    cases h2 : S.isNam (tl (i + al))
    · rw [if_neg Bool.false_ne_true]
      apply Comes.of
      rw [q17]
      simp only [Nat.zero_add, Int.toNat_natCast, h2]
      repeat' (first | with_reducible refine goes_if (fun h => ?_) (fun h => ?_) <;> (try simp only [SH] at h) | exact goes_none.mpr (by omega))
      all_goals first | (exfalso; omega) | rfl
    · rw [if_pos rfl]
      cases ha : S.any (fun j => S.eqS (tl (j + al)) (tl (i + al))) i
      · rw [if_neg Bool.false_ne_true]
        by_cases hr : 1 ≤ vl (i + al) ∧ vl (i + al) ≤ 1000000 ∧ 1 ≤ gl (i + al) ∧ gl (i + al) ≤ vl (i + al) ∧ gl (i + al) ≤ wl (i + al) ∧ wl (i + al) ≤ vl (i + al)
        · rw [if_pos (show S.tskG (vl (i + al)) (gl (i + al)) (wl (i + al)) = true from decide_eq_true hr)]
          apply Comes.of
          rw [q17]
          simp only [Nat.zero_add, Int.toNat_natCast, h2, ha]
          repeat' (first | with_reducible refine goes_if (fun h => ?_) (fun h => ?_) <;> (try simp only [SH] at h) | exact goes_none.mpr (by omega))
          all_goals first | (exfalso; omega) | exact ih
        · rw [if_neg (fun h : S.tskG (vl (i + al)) (gl (i + al)) (wl (i + al)) = true => hr (of_decide_eq_true h))]
          apply Comes.of
          rw [q17]
          simp only [Nat.zero_add, Int.toNat_natCast, h2, ha]
          repeat' (first | with_reducible refine goes_if (fun h => ?_) (fun h => ?_) <;> (try simp only [SH] at h) | exact goes_none.mpr (by omega))
          all_goals first | (exfalso; omega) | rfl
      · rw [if_pos rfl]
        apply Comes.of
        rw [q17]
        simp only [Nat.zero_add, Int.toNat_natCast, h2, ha]
        repeat' (first | with_reducible refine goes_if (fun h => ?_) (fun h => ?_) <;> (try simp only [SH] at h) | exact goes_none.mpr (by omega))
        all_goals first | (exfalso; omega) | rfl
theorem s17 (al nl ml : Nat) (tl : Nat → ByteArray) (vl gl wl : Nat → Int) (hp : al + nl ≤ ml) : Goes ((q17 al nl ml tl vl gl wl)) ((p17 al nl ml tl vl gl wl)) (S.tskS nl (fun j => tl (j + al)) (fun j => vl (j + al)) (fun j => gl (j + al)) (fun j => wl (j + al))) := by
  unfold S.tskS
  unfold p17
  by_cases h0 : nl = 0
  · rw [if_pos h0]
    exact goes_ok (by subst h0; rfl) rfl
  · rw [if_neg h0]
    have hd : ((nl : Int) == 0) = false := by simp; omega
    refine goes_no hd ?_
    by_cases h1 : 8 < nl
    · rw [if_pos h1]
      exact goes_ok (decide_eq_true (by omega)) rfl
    · rw [if_neg h1]
      exact goes_no (decide_eq_false (by omega)) (s17' al nl ml tl vl gl wl hp (by omega) nl 0 (Nat.zero_add _))
theorem k17_ok  : k17.ok Try.prog := by
  intro x hx
  obtain ⟨⟨al, nl, ml, tl, vl, gl, wl, _⟩, _⟩ := x
  obtain ⟨h1, h2⟩ := a17 al nl ml tl vl gl wl (s17 al nl ml tl vl gl wl (of_dec hx rfl))
  exact ⟨⟨400, (by decide : 1 + 1 + 0 ≤ 400), h1⟩, h2⟩
inductive St18 where
  | h0 (x0 : Int)
  | h1 (x0 : Int) (x1 : Int) (x2 : ByteArray) (x3 : Int) (x4 : Int) (x5 : Int)
abbrev Rt18  := Int
noncomputable def V18 (al nl ml : Nat) (tl : Nat → ByteArray) (vl gl wl : NI) (r : Rt18) : PV := PV.int .i64 r
noncomputable def N18 (al nl ml : Nat) (tl : Nat → ByteArray) (vl gl wl : NI) (r : Rt18) : List Blk := []
noncomputable def I18 (al nl ml : Nat) (tl : Nat → ByteArray) (vl gl wl : NI) : St18 → Hd
  | .h0 x0 => ⟨hd Try.f18 0, [PV.loose (PA.mk (0) (4) al (0)) nl, PV.int .i64 x0, PV.unk,
 PV.unk], [[], [(0, (false, .cols ml [.str tl, .int .i64 vl, .int .i64 gl, .int .i64 wl]))]], 1⟩
  | .h1 x0 x1 x2 x3 x4 x5 => ⟨hd Try.f18 1, [PV.loose (PA.mk (0) (4) al (0)) nl, PV.int .i64 x0,
 PV.ptr (PA.mk (1) (0) (0) (0)), PV.int .i64 x1], [[(1, (true, Blk.cells
 [PV.str x2, PV.int .i64 x3, PV.int .i64 x4, PV.int .i64 x5]))], [(0, (false, .cols ml [.str tl, .int .i64 vl, .int .i64 gl, .int .i64 wl]))]], 2⟩
noncomputable def q18 (al nl ml : Nat) (tl : Nat → ByteArray) (vl gl wl : NI) : St18 → Option (St18 ⊕ Rt18) | .h0 x0 => bif (decide (x0 < (↑nl : Int))) then (bif (decide ((0 : Int) ≤ x0 ∧ x0 < (↑nl : Int))) then (bif (decide (Int.toNat x0 + al < ml)) then (bif (S.isNam (tl (Int.toNat x0 + al))) then (some (.inl (.h1 (x0) ((0 : Int)) (tl (Int.toNat x0 + al)) (vl (Int.toNat x0 + al)) (gl (Int.toNat x0 + al)) (wl (Int.toNat x0 + al))))) else (some (.inr ((2 : Int))))) else (none)) else (none)) else (some (.inr ((0 : Int)))) | .h1 x0 x1 x2 x3 x4 x5 => bif (decide (x1 < x0)) then (bif (decide ((0 : Int) ≤ x1 ∧ x1 < (↑nl : Int))) then (bif (decide (Int.toNat x1 + al < ml)) then (bif (S.eqS (tl (Int.toNat x1 + al)) x2) then (some (.inr ((5 : Int)))) else (bif (lim .i64 (x1 + 1)) then (some (.inl (.h1 (x0) (x1 + 1) (x2) (x3) (x4) (x5)))) else (none))) else (none)) else (none)) else (bif (decide (x3 < 1)) then (some (.inr ((6 : Int)))) else (bif (decide (x3 > 1000000)) then (some (.inr ((6 : Int)))) else (bif (decide (x4 < 1)) then (some (.inr ((6 : Int)))) else (bif (decide (x4 > x3)) then (some (.inr ((6 : Int)))) else (bif (decide (x5 < x4)) then (some (.inr ((6 : Int)))) else (bif (decide (x5 > x3)) then (some (.inr ((6 : Int)))) else (bif (lim .i64 (x0 + 1)) then (some (.inl (.h0 (x0 + 1)))) else (none))))))))
noncomputable def p18 (al nl ml : Nat) (tl : Nat → ByteArray) (vl gl wl : NI) : Option (St18 ⊕ Rt18) := bif ((↑nl : Int) == 0) then (some (.inr ((7 : Int)))) else (bif (decide ((↑nl : Int) > 8)) then (some (.inr ((3 : Int)))) else (some (.inl (.h0 ((0 : Int))))))
def Te18 (test : TT) (Kst : KS) (Kret : KR) (al nl ml : Nat) (tl : Nat → ByteArray) (vl gl wl : NI) : Prop := test ((↑nl : Int) == 0) (Kret (PV.int .i64 (7 : Int)) ([[(0, false, Blk.cols ml [Col.str tl, Col.int .i64 vl, Col.int .i64 gl, Col.int .i64 wl])]]) (1)) (test (decide ((↑nl : Int) > 8)) (Kret (PV.int .i64 (3 : Int)) ([[(0, false, Blk.cols ml [Col.str tl, Col.int .i64 vl, Col.int .i64 gl, Col.int .i64 wl])]]) (1)) (Kst (hd Try.f18 0) ([PV.loose (PA.mk (0) (4) al (0)) nl, PV.int .i64 (0 : Int), PV.unk, PV.unk]) ([[(0, false, Blk.cols ml [Col.str tl, Col.int .i64 vl, Col.int .i64 gl, Col.int .i64 wl])]]) (1)))
theorem te18 (test : TT) (Kst : KS) (Kret : KR) (al nl ml : Nat) (tl : Nat → ByteArray) (vl gl wl : NI) : run test Try.env true (xV test) true 400 ⟨18, [.cd (mkFn Try.f18).body], argT 0 [.loose ⟨0, 4, al, 0⟩ nl], [[], [(0, (false, .cols ml [.str tl, .int .i64 vl, .int .i64 gl, .int .i64 wl]))]], 1⟩ (proj 1 [0, 3, 4, 5] Kst Kret) =
  Te18 test Kst Kret al nl ml tl vl gl wl := by kernel_rfl
def T18_0 (test : TT) (Kst : KS) (Kret : KR) (al nl ml : Nat) (tl : Nat → ByteArray) (vl gl wl : NI) (x0 : Int) : Prop := test (decide (x0 < (↑nl : Int))) (test (decide ((0 : Int) ≤ x0 ∧ x0 < (↑nl : Int))) (test (decide (Int.toNat x0 + al < ml)) (test (decide (Int.toNat x0 + al < ml)) (test (decide (Int.toNat x0 + al < ml)) (test (decide (Int.toNat x0 + al < ml)) (test (true) (test (S.isNam (tl (Int.toNat x0 + al))) (Kst (hd Try.f18 1) ([PV.loose (PA.mk (0) (4) al (0)) nl, PV.int .i64 x0, PV.ptr (PA.mk (1) (0) (0) (0)), PV.int .i64 (0 : Int)]) ([[(0, false, Blk.cols ml [Col.str tl, Col.int .i64 vl, Col.int .i64 gl, Col.int .i64 wl]), (1, true, Blk.cells [PV.str (tl (Int.toNat x0 + al)), PV.int .i64 (vl (Int.toNat x0 + al)), PV.int .i64 (gl (Int.toNat x0 + al)), PV.int .i64 (wl (Int.toNat x0 + al))])]]) (3)) (Kret (PV.int .i64 (2 : Int)) ([[(0, false, Blk.cols ml [Col.str tl, Col.int .i64 vl, Col.int .i64 gl, Col.int .i64 wl])]]) (3))) (False)) (False)) (False)) (False)) (False)) (False)) (Kret (PV.int .i64 (0 : Int)) ([[(0, false, Blk.cols ml [Col.str tl, Col.int .i64 vl, Col.int .i64 gl, Col.int .i64 wl])]]) (1))
theorem t18_0 (test : TT) (Kst : KS) (Kret : KR) (al nl ml : Nat) (tl : Nat → ByteArray) (vl gl wl : NI) (x0 : Int) : run test Try.env true (xV test) true 400 ⟨18, hd Try.f18 0, zipT [0, 3, 4, 5] [PV.loose (PA.mk (0) (4) al (0)) nl, PV.int .i64 x0, PV.unk,
 PV.unk], [[], [(0, (false, .cols ml [.str tl, .int .i64 vl, .int .i64 gl, .int .i64 wl]))]], 1⟩ (proj 1 [0, 3, 4, 5] Kst Kret) =
  T18_0 test Kst Kret al nl ml tl vl gl wl x0 := by kernel_rfl
noncomputable abbrev u18_1_0 (ml : Nat) (tl : Nat → ByteArray) (vl gl wl : Nat → Int) := (0, false, Blk.cols ml [Col.str tl, Col.int IntKind.i64 vl, Col.int IntKind.i64 gl, Col.int IntKind.i64 wl])
def T18_1 (test : TT) (Kst : KS) (Kret : KR) (al nl ml : Nat) (tl : Nat → ByteArray) (vl gl wl : NI) (x0 x1 : Int) (x2 : ByteArray) (x3 x4 x5 : Int) : Prop := test (decide (x1 < x0)) (test (decide ((0 : Int) ≤ x1 ∧ x1 < (↑nl : Int))) (test (decide (Int.toNat x1 + al < ml)) (test (S.eqS (tl (Int.toNat x1 + al)) x2) (Kret (PV.int .i64 (5 : Int)) ([[(u18_1_0 ml tl vl gl wl)]]) (2)) (test (lim .i64 (x1 + 1)) (Kst (hd Try.f18 1) ([PV.loose (PA.mk (0) (4) al (0)) nl, PV.int .i64 x0, PV.ptr (PA.mk (1) (0) (0) (0)), PV.int .i64 (x1 + 1)]) ([[(u18_1_0 ml tl vl gl wl), (1, true, Blk.cells [PV.str x2, PV.int .i64 x3, PV.int .i64 x4, PV.int .i64 x5])]]) (2)) (False))) (False)) (False)) (test (decide (x3 < 1)) (Kret (PV.int .i64 (6 : Int)) ([[(u18_1_0 ml tl vl gl wl)]]) (2)) (test (decide (x3 > 1000000)) (Kret (PV.int .i64 (6 : Int)) ([[(u18_1_0 ml tl vl gl wl)]]) (2)) (test (decide (x4 < 1)) (Kret (PV.int .i64 (6 : Int)) ([[(u18_1_0 ml tl vl gl wl)]]) (2)) (test (decide (x4 > x3)) (Kret (PV.int .i64 (6 : Int)) ([[(u18_1_0 ml tl vl gl wl)]]) (2)) (test (decide (x5 < x4)) (Kret (PV.int .i64 (6 : Int)) ([[(u18_1_0 ml tl vl gl wl)]]) (2)) (test (decide (x5 > x3)) (Kret (PV.int .i64 (6 : Int)) ([[(u18_1_0 ml tl vl gl wl)]]) (2)) (test (lim .i64 (x0 + 1)) (Kst (hd Try.f18 0) ([PV.loose (PA.mk (0) (4) al (0)) nl, PV.int .i64 (x0 + 1), PV.ptr (PA.mk (1) (0) (0) (0)), PV.int .i64 x1]) ([[(u18_1_0 ml tl vl gl wl), (1, true, Blk.cells [PV.str x2, PV.int .i64 x3, PV.int .i64 x4, PV.int .i64 x5])]]) (2)) (False))))))))
theorem t18_1 (test : TT) (Kst : KS) (Kret : KR) (al nl ml : Nat) (tl : Nat → ByteArray) (vl gl wl : NI) (x0 x1 : Int) (x2 : ByteArray) (x3 x4 x5 : Int) : run test Try.env true (xV test) true 400 ⟨18, hd Try.f18 1, zipT [0, 3, 4, 5] [PV.loose (PA.mk (0) (4) al (0)) nl, PV.int .i64 x0,
 PV.ptr (PA.mk (1) (0) (0) (0)), PV.int .i64 x1], [[(1, (true, Blk.cells
 [PV.str x2, PV.int .i64 x3, PV.int .i64 x4, PV.int .i64 x5]))], [(0, (false, .cols ml [.str tl, .int .i64 vl, .int .i64 gl, .int .i64 wl]))]], 2⟩ (proj 1 [0, 3, 4, 5] Kst Kret) =
  T18_1 test Kst Kret al nl ml tl vl gl wl x0 x1 x2 x3 x4 x5 := by kernel_rfl
noncomputable abbrev J18 (al nl ml : Nat) (tl : Nat → ByteArray) (vl : NI) (gl : NI) (wl : NI) : Rt18 → Heap := fun r => [newL (1 + 1) ((N18 al nl ml tl vl gl wl) r) ++ [(0, (false, .cols ml [.str tl, .int .i64 vl, .int .i64 gl, .int .i64 wl]))]]
attribute [local irreducible] Int.subNatNat in
theorem be18 (al nl ml : Nat) (tl : Nat → ByteArray) (vl gl wl : NI) (Kst : KS) (Kret : KR) (x : St18 ⊕ Rt18) (hS : HS 1 400 ((I18 al nl ml tl vl gl wl)) Kst x) (hR : HR 1 400 ((V18 al nl ml tl vl gl wl)) (J18 al nl ml tl vl gl wl) Kret x) (h : p18 al nl ml tl vl gl wl = some x) : Te18 cond Kst Kret al nl ml tl vl gl wl := by
  unfold Te18
  unfold p18 at h
  exact bif_split h (fun c0 h => ret_at hR _ h (fun n => n) rfl rfl rfl (rn_int rfl) rfl (entl_bor (use_lo rfl) rfl rfl entl_nil)) (fun c0 h => bif_split h (fun c1 h => ret_at hR _ h (fun n => n) rfl rfl rfl (rn_int rfl) rfl (entl_bor (use_lo rfl) rfl rfl entl_nil)) (fun c1 h => stop_at hS _ h (fun n => n) rfl rfl rfl ⟨(rn_loose (use_lo rfl) rfl rfl rfl), ⟨(rn_int rfl), ⟨(rn_unk _), ⟨(rn_unk _), trivial⟩⟩⟩⟩ rfl (entl_bor (use_lo rfl) rfl rfl entl_nil)))
attribute [local irreducible] Int.subNatNat in
theorem b18_0 (al nl ml : Nat) (tl : Nat → ByteArray) (vl gl wl : NI) (Kst : KS) (Kret : KR) (x : St18 ⊕ Rt18) (hS : HS 1 400 ((I18 al nl ml tl vl gl wl)) Kst x) (hR : HR 1 400 ((V18 al nl ml tl vl gl wl)) (J18 al nl ml tl vl gl wl) Kret x) (x0 : Int) (h : q18 al nl ml tl vl gl wl (.h0 x0) = some x) : T18_0 cond Kst Kret al nl ml tl vl gl wl x0 := by
  unfold T18_0
  rw [q18] at h
  exact bif_split h (fun c0 h => bif_split h (fun c1 h => bif_split h (fun c2 h => cond_yes c2 (cond_yes c2 (cond_yes c2 (cond_yes rfl (bif_split h (fun c3 h => stop_at hS _ h (fun n => bif Nat.beq n 1 then 1 else n) rfl rfl rfl ⟨(rn_loose (use_lo rfl) rfl rfl rfl), ⟨(rn_int rfl), ⟨(rn_ptr (use_own rfl) rfl rfl), ⟨(rn_int rfl), trivial⟩⟩⟩⟩ rfl (entl_b (use_own rfl) rfl (by simp) (rb_cells ⟨(rn_str rfl), (rn_int rfl), (rn_int rfl), (rn_int rfl), trivial⟩) (entl_bor (use_lo rfl) rfl rfl entl_nil))) (fun c3 h => ret_at hR _ h (fun n => n) rfl rfl rfl (rn_int rfl) rfl (entl_bor (use_lo rfl) rfl rfl entl_nil))))))) (fun c2 h => no_some h)) (fun c1 h => no_some h)) (fun c0 h => ret_at hR _ h (fun n => n) rfl rfl rfl (rn_int rfl) rfl (entl_bor (use_lo rfl) rfl rfl entl_nil))
attribute [local irreducible] Int.subNatNat in
theorem b18_1 (al nl ml : Nat) (tl : Nat → ByteArray) (vl gl wl : NI) (Kst : KS) (Kret : KR) (x : St18 ⊕ Rt18) (hS : HS 1 400 ((I18 al nl ml tl vl gl wl)) Kst x) (hR : HR 1 400 ((V18 al nl ml tl vl gl wl)) (J18 al nl ml tl vl gl wl) Kret x) (x0 x1 : Int) (x2 : ByteArray) (x3 x4 x5 : Int) (h : q18 al nl ml tl vl gl wl (.h1 x0 x1 x2 x3 x4 x5) = some x) : T18_1 cond Kst Kret al nl ml tl vl gl wl x0 x1 x2 x3 x4 x5 := by
  unfold T18_1
  rw [q18] at h
  refine bif_split h (fun c0 h => bif_split h (fun c1 h => bif_split h (fun c2 h => bif_split h (fun c3 h => ?_) (fun c3 h => bif_split h (fun c4 h => stop_at hS _ h (fun n => bif Nat.beq n 1 then 1 else n) rfl rfl rfl ⟨(rn_loose (use_lo rfl) rfl rfl rfl), ⟨(rn_int rfl), ⟨(rn_ptr (use_own rfl) rfl rfl), ⟨(rn_int rfl), trivial⟩⟩⟩⟩ rfl (entl_b (use_own rfl) rfl (by simp) (rb_cells ⟨(rn_str rfl), (rn_int rfl), (rn_int rfl), (rn_int rfl), trivial⟩) (entl_bor (use_lo rfl) rfl rfl entl_nil))) (fun c4 h => ?_))) (fun c2 h => ?_)) (fun c1 h => ?_)) (fun c0 h => bif_split h (fun c1 h => ?_) (fun c1 h => bif_split h (fun c2 h => ?_) (fun c2 h => bif_split h (fun c3 h => ?_) (fun c3 h => bif_split h (fun c4 h => ?_) (fun c4 h => bif_split h (fun c5 h => ?_) (fun c5 h => bif_split h (fun c6 h => ?_) (fun c6 h => bif_split h (fun c7 h => stop_at hS _ h (fun n => n) rfl rfl rfl ⟨(rn_loose (use_lo rfl) rfl rfl rfl), ⟨(rn_int rfl), ⟨(rn_unk _), ⟨(rn_unk _), trivial⟩⟩⟩⟩ rfl (entl_bor (use_lo rfl) rfl rfl entl_nil)) (fun c7 h => ?_))))))))
  all_goals first
    | exact ret_at hR _ h (fun n => n) rfl rfl rfl (rn_int rfl) rfl (entl_bor (use_lo rfl) rfl rfl entl_nil)
    | exact no_some h
theorem a18 (al nl ml : Nat) (tl : Nat → ByteArray) (vl gl wl : NI) {r : Rt18} (h : Goes ((q18 al nl ml tl vl gl wl)) ((p18 al nl ml tl vl gl wl)) r) : CallR Try.prog 18 [.loose ⟨0, 4, al, 0⟩ nl] [[(0, (false, .cols ml [.str tl, .int .i64 vl, .int .i64 gl, .int .i64 wl]))]] 1 ((V18 al nl ml tl vl gl wl) r) ((J18 al nl ml tl vl gl wl) r) 400 ∧ ∃ F, Try.prog.funcs[18]? = some F ∧ F.body.isSome = true ∧ (F.name == "runtime.NumGoroutine") = false := by
  refine dec_calls (sy := true) (f := 18) (lo := 1) (hi := 400) (H := [[(0, (false, .cols ml [.str tl, .int .i64 vl, .int .i64 gl, .int .i64 wl]))]]) (args := [.loose ⟨0, 4, al, 0⟩ nl]) Try.envOk Try.mixed xV_ok ((I18 al nl ml tl vl gl wl)) ((V18 al nl ml tl vl gl wl)) (J18 al nl ml tl vl gl wl) (fn := mkFn Try.f18) (ts := [0, 3, 4, 5]) (n := 400) rfl (by decide) (by simp) (names_of rfl) ?_ ?_ ?_ h
  · intro s; cases s <;> exact ⟨hd_ok _ _, by simp [I18], names_of rfl, Nat.le_of_ble_eq_true rfl⟩
  · intro Kst Kret x hS hR h
    exact Holds.eq (te18 cond Kst Kret al nl ml tl vl gl wl) (be18 al nl ml tl vl gl wl Kst Kret x hS hR h)
  · intro Kst Kret x hS hR s h
    cases s with
    | h0 x0 => exact Holds.eq (t18_0 cond Kst Kret al nl ml tl vl gl wl x0) (b18_0 al nl ml tl vl gl wl Kst Kret x hS hR x0 h)
    | h1 x0 x1 x2 x3 x4 x5 => exact Holds.eq (t18_1 cond Kst Kret al nl ml tl vl gl wl x0 x1 x2 x3 x4 x5) (b18_1 al nl ml tl vl gl wl Kst Kret x hS hR x0 x1 x2 x3 x4 x5 h)
noncomputable abbrev w18 {α : Type} (g : Nat → Nat → Nat → (Nat → ByteArray) → (Nat → Int) → (Nat → Int) → (Nat → Int) → α) (x : (Nat × Nat × Nat × (Nat → ByteArray) × (Nat → Int) × (Nat → Int) × (Nat → Int) × Unit) × Unit) : α := g x.1.1 x.1.2.1 x.1.2.2.1 x.1.2.2.2.1 x.1.2.2.2.2.1 x.1.2.2.2.2.2.1 x.1.2.2.2.2.2.2.1
noncomputable def k18  : Con := ⟨18, [.one (.list [.str, .int .i64, .int .i64, .int .i64])], w18 (fun al nl ml tl vl gl wl => decide (al + nl ≤ ml)), w18 (fun al nl ml tl vl gl wl => (V18 al nl ml tl vl gl wl) (S.tskS nl (fun j => tl (j + al)) (fun j => vl (j + al)) (fun j => gl (j + al)) (fun j => wl (j + al)))), w18 (fun al nl ml tl vl gl wl => (N18 al nl ml tl vl gl wl) (S.tskS nl (fun j => tl (j + al)) (fun j => vl (j + al)) (fun j => gl (j + al)) (fun j => wl (j + al)))), fun _ _ => .dead⟩
theorem s18i (al nl ml : Nat) (tl : Nat → ByteArray) (vl gl wl : Nat → Int) (hp : al + nl ≤ ml) (h8 : nl ≤ 8) (i : Nat) (hi : i < nl) (R : Int) (hN : S.any (fun j => S.eqS (tl (j + al)) (tl (i + al))) i = false → S.tskG (vl (i + al)) (gl (i + al)) (wl (i + al)) = true → Comes (q18 al nl ml tl vl gl wl) (.h0 ((i : Int) + 1)) R) (hE5 : S.any (fun j => S.eqS (tl (j + al)) (tl (i + al))) i = true → 5 = R) (hE6 : S.any (fun j => S.eqS (tl (j + al)) (tl (i + al))) i = false → ¬ S.tskG (vl (i + al)) (gl (i + al)) (wl (i + al)) = true → 6 = R) : ∀ d j : Nat, j + d = i → S.any (fun j => S.eqS (tl (j + al)) (tl (i + al))) j = false → Comes (q18 al nl ml tl vl gl wl) (.h1 (i : Int) (j : Int) (tl (i + al)) (vl (i + al)) (gl (i + al)) (wl (i + al))) R := by
  intro d
  induction d with
  | zero =>
    intro j hj ha
    obtain rfl : j = i := by omega
    unfold S.tskG at hN hE6
    by_cases hr : 1 ≤ vl (j + al) ∧ vl (j + al) ≤ 1000000 ∧ 1 ≤ gl (j + al) ∧ gl (j + al) ≤ vl (j + al) ∧ gl (j + al) ≤ wl (j + al) ∧ wl (j + al) ≤ vl (j + al)
    · have hN := hN ha (decide_eq_true hr)
      clear hE5 hE6
      apply Comes.of
      show Goes _ _ _
      (first | rw [q18] | unfold q18)
      repeat' (first | with_reducible refine goes_if (fun h => ?_) (fun h => ?_) <;> (try simp only [SH] at h) | exact goes_none.mpr (by omega))
      all_goals first | (exfalso; omega) | exact hN
    · have hE6 := hE6 ha (fun h => hr (of_decide_eq_true h))
      clear hE5 hN
      apply Comes.of
      show Goes _ _ _
      (first | rw [q18] | unfold q18)
      repeat' (first | with_reducible refine goes_if (fun h => ?_) (fun h => ?_) <;> (try simp only [SH] at h) | exact goes_none.mpr (by omega))
      all_goals first | (exfalso; omega) | exact hE6
  | succ d ih =>
    intro j hj ha
    cases hq : S.eqS (tl (j + al)) (tl (i + al))
    · have ih := ih (j + 1) (by omega) (by rw [any_sc, ha]; exact hq)
      clear hN hE5 hE6
      apply Comes.of
      rw [q18]
      simp only [Int.toNat_natCast, hq]
      repeat' (first | with_reducible refine goes_if (fun h => ?_) (fun h => ?_) <;> (try simp only [SH] at h) | exact goes_none.mpr (by omega))
      all_goals first | (exfalso; omega) | exact ih
    · have hE5 := hE5 (any_iff.mpr ⟨j, by omega, hq⟩)
      clear hN hE6 ih
      apply Comes.of
      rw [q18]
      simp only [Int.toNat_natCast, hq]
      repeat' (first | with_reducible refine goes_if (fun h => ?_) (fun h => ?_) <;> (try simp only [SH] at h) | exact goes_none.mpr (by omega))
      all_goals first | (exfalso; omega) | exact hE5
theorem s18o (al nl ml : Nat) (tl : Nat → ByteArray) (vl gl wl : Nat → Int) (hp : al + nl ≤ ml) (h8 : nl ≤ 8) : ∀ k i : Nat, i + k = nl → Comes (q18 al nl ml tl vl gl wl) (.h0 (i : Int)) (S.tskE (fun j => tl (j + al)) (fun j => vl (j + al)) (fun j => gl (j + al)) (fun j => wl (j + al)) i k) := by
  intro k
  induction k with
  | zero =>
    intro i hi
    apply Comes.of
    show Goes _ _ _
    (first | rw [q18] | unfold q18)
    repeat' (first | with_reducible refine goes_if (fun h => ?_) (fun h => ?_) <;> (try simp only [SH] at h) | exact goes_none.mpr (by omega))
    all_goals first | (exfalso; omega) | rfl
  | succ k ih =>
    intro i hi
    have ih := ih (i + 1) (by omega)
    have hin := fun R h1 h2 h3 => s18i al nl ml tl vl gl wl hp h8 i (by omega) R h1 h2 h3 i 0 (Nat.zero_add _) rfl
    simp only [S.tskE]
    cases h2 : S.isNam (tl (i + al))
    · rw [if_neg Bool.false_ne_true]
      clear hin ih
      apply Comes.of
      rw [q18]
      simp only [Int.toNat_natCast, h2]
      repeat' (first | with_reducible refine goes_if (fun h => ?_) (fun h => ?_) <;> (try simp only [SH] at h) | exact goes_none.mpr (by omega))
      all_goals first | (exfalso; omega) | rfl
    · rw [if_pos rfl]
      apply Comes.of
      rw [q18]
      simp only [Int.toNat_natCast, h2]
      repeat' (first | with_reducible refine goes_if (fun h => ?_) (fun h => ?_) <;> (try simp only [SH] at h) | exact goes_none.mpr (by omega))
      all_goals first | (exfalso; omega) | skip
      refine hin _ (fun ha hr => ?_) (fun ha => ?_) (fun ha hr => ?_)
      · rw [if_neg (by rw [ha]; exact Bool.false_ne_true), if_pos hr]; exact ih
      · rw [if_pos ha]
      · rw [if_neg (by rw [ha]; exact Bool.false_ne_true), if_neg hr]
theorem s18 (al nl ml : Nat) (tl : Nat → ByteArray) (vl gl wl : Nat → Int) (hp : al + nl ≤ ml) : Goes ((q18 al nl ml tl vl gl wl)) ((p18 al nl ml tl vl gl wl)) (S.tskS nl (fun j => tl (j + al)) (fun j => vl (j + al)) (fun j => gl (j + al)) (fun j => wl (j + al))) := by
  unfold S.tskS
  unfold p18
  by_cases h0 : nl = 0
  · rw [if_pos h0]
    exact goes_ok (by subst h0; rfl) rfl
  · rw [if_neg h0]
    have hd : ((nl : Int) == 0) = false := by simp; omega
    refine goes_no hd ?_
    by_cases h1 : 8 < nl
    · rw [if_pos h1]
      exact goes_ok (decide_eq_true (by omega)) rfl
    · rw [if_neg h1]
      exact goes_no (decide_eq_false (by omega)) (s18o al nl ml tl vl gl wl hp (by omega) nl 0 (Nat.zero_add _))
theorem k18_ok  : k18.ok Try.prog := by
  intro x hx
  obtain ⟨⟨al, nl, ml, tl, vl, gl, wl, _⟩, _⟩ := x
  obtain ⟨h1, h2⟩ := a18 al nl ml tl vl gl wl (s18 al nl ml tl vl gl wl (of_dec hx rfl))
  exact ⟨⟨400, (by decide : 1 + 1 + 0 ≤ 400), h1⟩, h2⟩
inductive St51 where
  | h0 (x0 : Int)
abbrev Rt51  := Int
noncomputable def V51 (al nl ml : Nat) (tl : Nat → ByteArray) (vl gl wl : NI) (r : Rt51) : PV := PV.int .i64 r
noncomputable def N51 (al nl ml : Nat) (tl : Nat → ByteArray) (vl gl wl : NI) (r : Rt51) : List Blk := []
noncomputable def I51 (al nl ml : Nat) (tl : Nat → ByteArray) (vl gl wl : NI) : St51 → Hd
  | .h0 x0 => ⟨hd Try.f51 0, [PV.loose (PA.mk (0) (4) al (0)) nl, PV.int .i64 (↑nl : Int),
 PV.int .i64 x0], [[], [(0, (false, .cols ml [.str tl, .int .i64 vl, .int .i64 gl, .int .i64 wl]))]], 1⟩
noncomputable def q51 (al nl ml : Nat) (tl : Nat → ByteArray) (vl gl wl : NI) : St51 → Option (St51 ⊕ Rt51) | .h0 x0 => bif (decide (x0 < (↑nl : Int))) then (bif (decide (al + nl ≤ ml ∧ ((0 : Int) ≤ x0 ∧ x0 < (↑nl : Int)) ∧ (S.okT nl (fun j => vl (j + al)) (fun j => gl (j + al)) fun j => wl (j + al)) = true)) then (bif (Prod.snd (S.resT (fun j => vl (j + al)) (fun j => gl (j + al)) (fun j => wl (j + al)) (Int.toNat x0))) then (bif (lim .i64 (x0 + 1)) then (some (.inl (.h0 (x0 + 1)))) else (none)) else (some (.inr (x0)))) else (none)) else (some (.inr ((-1 : Int))))
noncomputable def p51 (al nl ml : Nat) (tl : Nat → ByteArray) (vl gl wl : NI) : Option (St51 ⊕ Rt51) := some (.inl (.h0 ((0 : Int))))
def Te51 (test : TT) (Kst : KS) (Kret : KR) (al nl ml : Nat) (tl : Nat → ByteArray) (vl gl wl : NI) : Prop := Kst (hd Try.f51 0) ([PV.loose (PA.mk (0) (4) al (0)) nl, PV.int .i64 (↑nl : Int), PV.int .i64 (0 : Int)]) ([[(0, false, Blk.cols ml [Col.str tl, Col.int .i64 vl, Col.int .i64 gl, Col.int .i64 wl])]]) (1)
theorem te51 (test : TT) (Kst : KS) (Kret : KR) (al nl ml : Nat) (tl : Nat → ByteArray) (vl gl wl : NI) : run test Try.env true (xR test) true 400 ⟨51, [.cd (mkFn Try.f51).body], argT 0 [.loose ⟨0, 4, al, 0⟩ nl], [[], [(0, (false, .cols ml [.str tl, .int .i64 vl, .int .i64 gl, .int .i64 wl]))]], 1⟩ (proj 1 [0, 7, 8] Kst Kret) =
  Te51 test Kst Kret al nl ml tl vl gl wl := by kernel_rfl
def T51_0 (test : TT) (Kst : KS) (Kret : KR) (al nl ml : Nat) (tl : Nat → ByteArray) (vl gl wl : NI) (x0 : Int) : Prop := test (decide (x0 < (↑nl : Int))) (test (decide (al + nl ≤ ml ∧ ((0 : Int) ≤ x0 ∧ x0 < (↑nl : Int)) ∧ (S.okT nl (fun j => vl (j + al)) (fun j => gl (j + al)) fun j => wl (j + al)) = true)) (test (S.resT (fun j => vl (j + al)) (fun j => gl (j + al)) (fun j => wl (j + al)) (Int.toNat x0)).2 (test (lim .i64 (x0 + 1)) (Kst (hd Try.f51 0) ([PV.loose (PA.mk (0) (4) al (0)) nl, PV.int .i64 (↑nl : Int), PV.int .i64 (x0 + 1)]) ([[(0, false, Blk.cols ml [Col.str tl, Col.int .i64 vl, Col.int .i64 gl, Col.int .i64 wl])]]) (2)) (False)) (Kret (PV.int .i64 x0) ([[(0, false, Blk.cols ml [Col.str tl, Col.int .i64 vl, Col.int .i64 gl, Col.int .i64 wl])]]) (2))) (False)) (Kret (PV.int .i64 (-1 : Int)) ([[(0, false, Blk.cols ml [Col.str tl, Col.int .i64 vl, Col.int .i64 gl, Col.int .i64 wl])]]) (1))
theorem t51_0 (test : TT) (Kst : KS) (Kret : KR) (al nl ml : Nat) (tl : Nat → ByteArray) (vl gl wl : NI) (x0 : Int) : run test Try.env true (xR test) true 400 ⟨51, hd Try.f51 0, zipT [0, 7, 8] [PV.loose (PA.mk (0) (4) al (0)) nl, PV.int .i64 (↑nl : Int),
 PV.int .i64 x0], [[], [(0, (false, .cols ml [.str tl, .int .i64 vl, .int .i64 gl, .int .i64 wl]))]], 1⟩ (proj 1 [0, 7, 8] Kst Kret) =
  T51_0 test Kst Kret al nl ml tl vl gl wl x0 := by kernel_rfl
noncomputable abbrev J51 (al nl ml : Nat) (tl : Nat → ByteArray) (vl : NI) (gl : NI) (wl : NI) : Rt51 → Heap := fun r => [newL (1 + 1) ((N51 al nl ml tl vl gl wl) r) ++ [(0, (false, .cols ml [.str tl, .int .i64 vl, .int .i64 gl, .int .i64 wl]))]]
attribute [local irreducible] Int.subNatNat in
theorem be51 (al nl ml : Nat) (tl : Nat → ByteArray) (vl gl wl : NI) (Kst : KS) (Kret : KR) (x : St51 ⊕ Rt51) (hS : HS 1 400 ((I51 al nl ml tl vl gl wl)) Kst x) (hR : HR 1 400 ((V51 al nl ml tl vl gl wl)) (J51 al nl ml tl vl gl wl) Kret x) (h : (some (.inl (.h0 ((0 : Int)))) : Option (St51 ⊕ Rt51)) = some x) : Te51 cond Kst Kret al nl ml tl vl gl wl := by
  unfold Te51
  exact stop_at hS _ h (fun n => n) rfl rfl rfl ⟨(rn_loose (use_lo rfl) rfl rfl rfl), ⟨(rn_int rfl), ⟨(rn_int rfl), trivial⟩⟩⟩ rfl (entl_bor (use_lo rfl) rfl rfl entl_nil)
attribute [local irreducible] Int.subNatNat in
theorem b51_0 (al nl ml : Nat) (tl : Nat → ByteArray) (vl gl wl : NI) (Kst : KS) (Kret : KR) (x : St51 ⊕ Rt51) (hS : HS 1 400 ((I51 al nl ml tl vl gl wl)) Kst x) (hR : HR 1 400 ((V51 al nl ml tl vl gl wl)) (J51 al nl ml tl vl gl wl) Kret x) (x0 : Int) (h : q51 al nl ml tl vl gl wl (.h0 x0) = some x) : T51_0 cond Kst Kret al nl ml tl vl gl wl x0 := by
  unfold T51_0
  rw [q51] at h
  exact bif_split h (fun c0 h => bif_split h (fun c1 h => bif_split h (fun c2 h => bif_split h (fun c3 h => stop_at hS _ h (fun n => n) rfl rfl rfl ⟨(rn_loose (use_lo rfl) rfl rfl rfl), ⟨(rn_int rfl), ⟨(rn_int rfl), trivial⟩⟩⟩ rfl (entl_bor (use_lo rfl) rfl rfl entl_nil)) (fun c3 h => no_some h)) (fun c2 h => ret_at hR _ h (fun n => n) rfl rfl rfl (rn_int rfl) rfl (entl_bor (use_lo rfl) rfl rfl entl_nil))) (fun c1 h => no_some h)) (fun c0 h => ret_at hR _ h (fun n => n) rfl rfl rfl (rn_int rfl) rfl (entl_bor (use_lo rfl) rfl rfl entl_nil))
theorem a51 (al nl ml : Nat) (tl : Nat → ByteArray) (vl gl wl : NI) {r : Rt51} (h : Goes ((q51 al nl ml tl vl gl wl)) ((p51 al nl ml tl vl gl wl)) r) : CallR Try.prog 51 [.loose ⟨0, 4, al, 0⟩ nl] [[(0, (false, .cols ml [.str tl, .int .i64 vl, .int .i64 gl, .int .i64 wl]))]] 1 ((V51 al nl ml tl vl gl wl) r) ((J51 al nl ml tl vl gl wl) r) 400 ∧ ∃ F, Try.prog.funcs[51]? = some F ∧ F.body.isSome = true ∧ (F.name == "runtime.NumGoroutine") = false := by
  refine dec_calls (sy := true) (f := 51) (lo := 1) (hi := 400) (H := [[(0, (false, .cols ml [.str tl, .int .i64 vl, .int .i64 gl, .int .i64 wl]))]]) (args := [.loose ⟨0, 4, al, 0⟩ nl]) Try.envOk Try.mixed xR_ok ((I51 al nl ml tl vl gl wl)) ((V51 al nl ml tl vl gl wl)) (J51 al nl ml tl vl gl wl) (fn := mkFn Try.f51) (ts := [0, 7, 8]) (n := 400) rfl (by decide) (by simp) (names_of rfl) ?_ ?_ ?_ h
  · intro s; cases s <;> exact ⟨hd_ok _ _, by simp [I51], names_of rfl, Nat.le_of_ble_eq_true rfl⟩
  · intro Kst Kret x hS hR h
    exact Holds.eq (te51 cond Kst Kret al nl ml tl vl gl wl) (be51 al nl ml tl vl gl wl Kst Kret x hS hR h)
  · intro Kst Kret x hS hR s h
    cases s with
    | h0 x0 => exact Holds.eq (t51_0 cond Kst Kret al nl ml tl vl gl wl x0) (b51_0 al nl ml tl vl gl wl Kst Kret x hS hR x0 h)
noncomputable abbrev w51 {α : Type} (g : Nat → Nat → Nat → (Nat → ByteArray) → (Nat → Int) → (Nat → Int) → (Nat → Int) → α) (x : (Nat × Nat × Nat × (Nat → ByteArray) × (Nat → Int) × (Nat → Int) × (Nat → Int) × Unit) × Unit) : α := g x.1.1 x.1.2.1 x.1.2.2.1 x.1.2.2.2.1 x.1.2.2.2.2.1 x.1.2.2.2.2.2.1 x.1.2.2.2.2.2.2.1
noncomputable def k51  : Con := ⟨51, [.one (.list [.str, .int .i64, .int .i64, .int .i64])], w51 (fun al nl ml tl vl gl wl => decide (al + nl ≤ ml ∧ S.okT nl (fun j => vl (j + al)) (fun j => gl (j + al)) (fun j => wl (j + al)) = true)), w51 (fun al nl ml tl vl gl wl => (V51 al nl ml tl vl gl wl) (S.misT nl (fun j => vl (j + al)) (fun j => gl (j + al)) (fun j => wl (j + al)))), w51 (fun al nl ml tl vl gl wl => (N51 al nl ml tl vl gl wl) (S.misT nl (fun j => vl (j + al)) (fun j => gl (j + al)) (fun j => wl (j + al)))), fun _ _ => .dead⟩
theorem s51' (al nl ml : Nat) (tl : Nat → ByteArray) (vl gl wl : Nat → Int) (hp : al + nl ≤ ml ∧ S.okT nl (fun j => vl (j + al)) (fun j => gl (j + al)) (fun j => wl (j + al)) = true) : ∀ (k i : Nat), i + k = nl → Comes (q51 al nl ml tl vl gl wl) (.h0 (i : Int)) (S.idx (fun i => !(S.resT (fun j => vl (j + al)) (fun j => gl (j + al)) (fun j => wl (j + al)) i).2) i k) := by
  have hp' := hp
  obtain ⟨hp1, hT⟩ := hp
  have h8 := (okT_at hT).1
  intro k
  induction k with
  | zero =>
    intro i hi
    clear hT
    apply Comes.of
    show Goes _ _ _
    (first | rw [q51] | unfold q51)
    repeat' (first | with_reducible refine goes_if (fun h => ?_) (fun h => ?_) <;> (try simp only [SH] at h) | exact goes_none.mpr (by omega))
    all_goals first | (exfalso; omega) | rfl
  | succ k ih =>
    intro i hi
    have ih2 := ih (i + 1) (by omega)
    have hpr : decide (al + nl ≤ ml ∧ (0 ≤ (i : Int) ∧ (i : Int) < nl) ∧ S.okT nl (fun j => vl (j + al)) (fun j => gl (j + al)) (fun j => wl (j + al)) = true) = true := decide_eq_true ⟨hp1, ⟨by omega, by omega⟩, hT⟩
    clear ih
    by_cases hq : (S.resT (fun j => vl (j + al)) (fun j => gl (j + al)) (fun j => wl (j + al)) i).2 = true
    · have e : S.idx (fun i => !(S.resT (fun j => vl (j + al)) (fun j => gl (j + al)) (fun j => wl (j + al)) i).2) i (k + 1) = S.idx (fun i => !(S.resT (fun j => vl (j + al)) (fun j => gl (j + al)) (fun j => wl (j + al)) i).2) (i + 1) k := if_neg (by show ¬ ((!(S.resT (fun j => vl (j + al)) (fun j => gl (j + al)) (fun j => wl (j + al)) i).2) = true); rw [hq]; exact Bool.false_ne_true)
      rw [e]
      apply Comes.of
      rw [q51]
      simp only [Int.toNat_natCast, hpr, hq]
      clear hpr hT hp'
      repeat' (first | with_reducible refine goes_if (fun h => ?_) (fun h => ?_) <;> (try simp only [SH] at h) | exact goes_none.mpr (by omega))
      all_goals first | (exfalso; omega) | exact ih2
    · have hq := Bool.eq_false_iff.mpr hq
      have e : S.idx (fun i => !(S.resT (fun j => vl (j + al)) (fun j => gl (j + al)) (fun j => wl (j + al)) i).2) i (k + 1) = i := if_pos (by show (!(S.resT (fun j => vl (j + al)) (fun j => gl (j + al)) (fun j => wl (j + al)) i).2) = true; rw [hq]; rfl)
      rw [e]
      apply Comes.of
      rw [q51]
      simp only [Int.toNat_natCast, hpr, hq]
      clear hpr hT ih2
      repeat' (first | with_reducible refine goes_if (fun h => ?_) (fun h => ?_) <;> (try simp only [SH] at h) | exact goes_none.mpr (by omega))
      all_goals first | (exfalso; omega) | rfl
theorem s51 (al nl ml : Nat) (tl : Nat → ByteArray) (vl gl wl : Nat → Int) (hp : al + nl ≤ ml ∧ S.okT nl (fun j => vl (j + al)) (fun j => gl (j + al)) (fun j => wl (j + al)) = true) : Goes ((q51 al nl ml tl vl gl wl)) ((p51 al nl ml tl vl gl wl)) (S.misT nl (fun j => vl (j + al)) (fun j => gl (j + al)) (fun j => wl (j + al))) := by
  exact s51' al nl ml tl vl gl wl hp nl 0 (Nat.zero_add _)
theorem k51_ok  : k51.ok Try.prog := by
  intro x hx
  obtain ⟨⟨al, nl, ml, tl, vl, gl, wl, _⟩, _⟩ := x
  obtain ⟨h1, h2⟩ := a51 al nl ml tl vl gl wl (s51 al nl ml tl vl gl wl (of_dec hx rfl))
  exact ⟨⟨400, (by decide : 1 + 1 + 0 ≤ 400), h1⟩, h2⟩
inductive St52 where
  | h0 (x0 : Int)
abbrev Rt52  := Int
noncomputable def V52 (al nl ml : Nat) (tl : Nat → ByteArray) (vl gl wl : NI) (r : Rt52) : PV := PV.int .i64 r
noncomputable def N52 (al nl ml : Nat) (tl : Nat → ByteArray) (vl gl wl : NI) (r : Rt52) : List Blk := []
noncomputable def I52 (al nl ml : Nat) (tl : Nat → ByteArray) (vl gl wl : NI) : St52 → Hd
  | .h0 x0 => ⟨hd Try.f52 0, [PV.loose (PA.mk (0) (4) al (0)) nl, PV.int .i64 x0], [[], [(0, (false, .cols ml [.str tl, .int .i64 vl, .int .i64 gl, .int .i64 wl]))]], 1⟩
noncomputable def q52 (al nl ml : Nat) (tl : Nat → ByteArray) (vl gl wl : NI) : St52 → Option (St52 ⊕ Rt52) | .h0 x0 => bif (decide (x0 < (↑nl : Int))) then (bif (decide (al + nl ≤ ml ∧ ((0 : Int) ≤ x0 ∧ x0 < (↑nl : Int)) ∧ (S.okT nl (fun j => vl (j + al)) (fun j => gl (j + al)) fun j => wl (j + al)) = true)) then (bif (Prod.snd (S.resT (fun j => vl (j + al)) (fun j => gl (j + al)) (fun j => wl (j + al)) (Int.toNat x0))) then (bif (lim .i64 (x0 + 1)) then (some (.inl (.h0 (x0 + 1)))) else (none)) else (some (.inr (x0)))) else (none)) else (some (.inr ((-1 : Int))))
noncomputable def p52 (al nl ml : Nat) (tl : Nat → ByteArray) (vl gl wl : NI) : Option (St52 ⊕ Rt52) := some (.inl (.h0 ((0 : Int))))
def Te52 (test : TT) (Kst : KS) (Kret : KR) (al nl ml : Nat) (tl : Nat → ByteArray) (vl gl wl : NI) : Prop := Kst (hd Try.f52 0) ([PV.loose (PA.mk (0) (4) al (0)) nl, PV.int .i64 (0 : Int)]) ([[(0, false, Blk.cols ml [Col.str tl, Col.int .i64 vl, Col.int .i64 gl, Col.int .i64 wl])]]) (1)
theorem te52 (test : TT) (Kst : KS) (Kret : KR) (al nl ml : Nat) (tl : Nat → ByteArray) (vl gl wl : NI) : run test Try.env true (xR test) true 400 ⟨52, [.cd (mkFn Try.f52).body], argT 0 [.loose ⟨0, 4, al, 0⟩ nl], [[], [(0, (false, .cols ml [.str tl, .int .i64 vl, .int .i64 gl, .int .i64 wl]))]], 1⟩ (proj 1 [0, 3] Kst Kret) =
  Te52 test Kst Kret al nl ml tl vl gl wl := by kernel_rfl
def T52_0 (test : TT) (Kst : KS) (Kret : KR) (al nl ml : Nat) (tl : Nat → ByteArray) (vl gl wl : NI) (x0 : Int) : Prop := test (decide (x0 < (↑nl : Int))) (test (decide (al + nl ≤ ml ∧ ((0 : Int) ≤ x0 ∧ x0 < (↑nl : Int)) ∧ (S.okT nl (fun j => vl (j + al)) (fun j => gl (j + al)) fun j => wl (j + al)) = true)) (test (S.resT (fun j => vl (j + al)) (fun j => gl (j + al)) (fun j => wl (j + al)) (Int.toNat x0)).2 (test (lim .i64 (x0 + 1)) (Kst (hd Try.f52 0) ([PV.loose (PA.mk (0) (4) al (0)) nl, PV.int .i64 (x0 + 1)]) ([[(0, false, Blk.cols ml [Col.str tl, Col.int .i64 vl, Col.int .i64 gl, Col.int .i64 wl])]]) (2)) (False)) (Kret (PV.int .i64 x0) ([[(0, false, Blk.cols ml [Col.str tl, Col.int .i64 vl, Col.int .i64 gl, Col.int .i64 wl])]]) (2))) (False)) (Kret (PV.int .i64 (-1 : Int)) ([[(0, false, Blk.cols ml [Col.str tl, Col.int .i64 vl, Col.int .i64 gl, Col.int .i64 wl])]]) (1))
theorem t52_0 (test : TT) (Kst : KS) (Kret : KR) (al nl ml : Nat) (tl : Nat → ByteArray) (vl gl wl : NI) (x0 : Int) : run test Try.env true (xR test) true 400 ⟨52, hd Try.f52 0, zipT [0, 3] [PV.loose (PA.mk (0) (4) al (0)) nl, PV.int .i64 x0], [[], [(0, (false, .cols ml [.str tl, .int .i64 vl, .int .i64 gl, .int .i64 wl]))]], 1⟩ (proj 1 [0, 3] Kst Kret) =
  T52_0 test Kst Kret al nl ml tl vl gl wl x0 := by kernel_rfl
noncomputable abbrev J52 (al nl ml : Nat) (tl : Nat → ByteArray) (vl : NI) (gl : NI) (wl : NI) : Rt52 → Heap := fun r => [newL (1 + 1) ((N52 al nl ml tl vl gl wl) r) ++ [(0, (false, .cols ml [.str tl, .int .i64 vl, .int .i64 gl, .int .i64 wl]))]]
attribute [local irreducible] Int.subNatNat in
theorem be52 (al nl ml : Nat) (tl : Nat → ByteArray) (vl gl wl : NI) (Kst : KS) (Kret : KR) (x : St52 ⊕ Rt52) (hS : HS 1 400 ((I52 al nl ml tl vl gl wl)) Kst x) (hR : HR 1 400 ((V52 al nl ml tl vl gl wl)) (J52 al nl ml tl vl gl wl) Kret x) (h : (some (.inl (.h0 ((0 : Int)))) : Option (St52 ⊕ Rt52)) = some x) : Te52 cond Kst Kret al nl ml tl vl gl wl := by
  unfold Te52
  exact stop_at hS _ h (fun n => n) rfl rfl rfl ⟨(rn_loose (use_lo rfl) rfl rfl rfl), ⟨(rn_int rfl), trivial⟩⟩ rfl (entl_bor (use_lo rfl) rfl rfl entl_nil)
attribute [local irreducible] Int.subNatNat in
theorem b52_0 (al nl ml : Nat) (tl : Nat → ByteArray) (vl gl wl : NI) (Kst : KS) (Kret : KR) (x : St52 ⊕ Rt52) (hS : HS 1 400 ((I52 al nl ml tl vl gl wl)) Kst x) (hR : HR 1 400 ((V52 al nl ml tl vl gl wl)) (J52 al nl ml tl vl gl wl) Kret x) (x0 : Int) (h : q52 al nl ml tl vl gl wl (.h0 x0) = some x) : T52_0 cond Kst Kret al nl ml tl vl gl wl x0 := by
  unfold T52_0
  rw [q52] at h
  exact bif_split h (fun c0 h => bif_split h (fun c1 h => bif_split h (fun c2 h => bif_split h (fun c3 h => stop_at hS _ h (fun n => n) rfl rfl rfl ⟨(rn_loose (use_lo rfl) rfl rfl rfl), ⟨(rn_int rfl), trivial⟩⟩ rfl (entl_bor (use_lo rfl) rfl rfl entl_nil)) (fun c3 h => no_some h)) (fun c2 h => ret_at hR _ h (fun n => n) rfl rfl rfl (rn_int rfl) rfl (entl_bor (use_lo rfl) rfl rfl entl_nil))) (fun c1 h => no_some h)) (fun c0 h => ret_at hR _ h (fun n => n) rfl rfl rfl (rn_int rfl) rfl (entl_bor (use_lo rfl) rfl rfl entl_nil))
theorem a52 (al nl ml : Nat) (tl : Nat → ByteArray) (vl gl wl : NI) {r : Rt52} (h : Goes ((q52 al nl ml tl vl gl wl)) ((p52 al nl ml tl vl gl wl)) r) : CallR Try.prog 52 [.loose ⟨0, 4, al, 0⟩ nl] [[(0, (false, .cols ml [.str tl, .int .i64 vl, .int .i64 gl, .int .i64 wl]))]] 1 ((V52 al nl ml tl vl gl wl) r) ((J52 al nl ml tl vl gl wl) r) 400 ∧ ∃ F, Try.prog.funcs[52]? = some F ∧ F.body.isSome = true ∧ (F.name == "runtime.NumGoroutine") = false := by
  refine dec_calls (sy := true) (f := 52) (lo := 1) (hi := 400) (H := [[(0, (false, .cols ml [.str tl, .int .i64 vl, .int .i64 gl, .int .i64 wl]))]]) (args := [.loose ⟨0, 4, al, 0⟩ nl]) Try.envOk Try.mixed xR_ok ((I52 al nl ml tl vl gl wl)) ((V52 al nl ml tl vl gl wl)) (J52 al nl ml tl vl gl wl) (fn := mkFn Try.f52) (ts := [0, 3]) (n := 400) rfl (by decide) (by simp) (names_of rfl) ?_ ?_ ?_ h
  · intro s; cases s <;> exact ⟨hd_ok _ _, by simp [I52], names_of rfl, Nat.le_of_ble_eq_true rfl⟩
  · intro Kst Kret x hS hR h
    exact Holds.eq (te52 cond Kst Kret al nl ml tl vl gl wl) (be52 al nl ml tl vl gl wl Kst Kret x hS hR h)
  · intro Kst Kret x hS hR s h
    cases s with
    | h0 x0 => exact Holds.eq (t52_0 cond Kst Kret al nl ml tl vl gl wl x0) (b52_0 al nl ml tl vl gl wl Kst Kret x hS hR x0 h)
noncomputable abbrev w52 {α : Type} (g : Nat → Nat → Nat → (Nat → ByteArray) → (Nat → Int) → (Nat → Int) → (Nat → Int) → α) (x : (Nat × Nat × Nat × (Nat → ByteArray) × (Nat → Int) × (Nat → Int) × (Nat → Int) × Unit) × Unit) : α := g x.1.1 x.1.2.1 x.1.2.2.1 x.1.2.2.2.1 x.1.2.2.2.2.1 x.1.2.2.2.2.2.1 x.1.2.2.2.2.2.2.1
noncomputable def k52  : Con := ⟨52, [.one (.list [.str, .int .i64, .int .i64, .int .i64])], w52 (fun al nl ml tl vl gl wl => decide (al + nl ≤ ml ∧ S.okT nl (fun j => vl (j + al)) (fun j => gl (j + al)) (fun j => wl (j + al)) = true)), w52 (fun al nl ml tl vl gl wl => (V52 al nl ml tl vl gl wl) (S.misT nl (fun j => vl (j + al)) (fun j => gl (j + al)) (fun j => wl (j + al)))), w52 (fun al nl ml tl vl gl wl => (N52 al nl ml tl vl gl wl) (S.misT nl (fun j => vl (j + al)) (fun j => gl (j + al)) (fun j => wl (j + al)))), fun _ _ => .dead⟩
theorem s52' (al nl ml : Nat) (tl : Nat → ByteArray) (vl gl wl : Nat → Int) (hp : al + nl ≤ ml ∧ S.okT nl (fun j => vl (j + al)) (fun j => gl (j + al)) (fun j => wl (j + al)) = true) : ∀ (k i : Nat), i + k = nl → Comes (q52 al nl ml tl vl gl wl) (.h0 (i : Int)) (S.idx (fun i => !(S.resT (fun j => vl (j + al)) (fun j => gl (j + al)) (fun j => wl (j + al)) i).2) i k) := by
  have hp' := hp
  obtain ⟨hp1, hT⟩ := hp
  have h8 := (okT_at hT).1
  intro k
  induction k with
  | zero =>
    intro i hi
    clear hT
    apply Comes.of
    show Goes _ _ _
    (first | rw [q52] | unfold q52)
    repeat' (first | with_reducible refine goes_if (fun h => ?_) (fun h => ?_) <;> (try simp only [SH] at h) | exact goes_none.mpr (by omega))
    all_goals first | (exfalso; omega) | rfl
  | succ k ih =>
    intro i hi
    have ih2 := ih (i + 1) (by omega)
    have hpr : decide (al + nl ≤ ml ∧ (0 ≤ (i : Int) ∧ (i : Int) < nl) ∧ S.okT nl (fun j => vl (j + al)) (fun j => gl (j + al)) (fun j => wl (j + al)) = true) = true := decide_eq_true ⟨hp1, ⟨by omega, by omega⟩, hT⟩
    clear ih
    by_cases hq : (S.resT (fun j => vl (j + al)) (fun j => gl (j + al)) (fun j => wl (j + al)) i).2 = true
    · have e : S.idx (fun i => !(S.resT (fun j => vl (j + al)) (fun j => gl (j + al)) (fun j => wl (j + al)) i).2) i (k + 1) = S.idx (fun i => !(S.resT (fun j => vl (j + al)) (fun j => gl (j + al)) (fun j => wl (j + al)) i).2) (i + 1) k := if_neg (by show ¬ ((!(S.resT (fun j => vl (j + al)) (fun j => gl (j + al)) (fun j => wl (j + al)) i).2) = true); rw [hq]; exact Bool.false_ne_true)
      rw [e]
      apply Comes.of
      rw [q52]
      simp only [Int.toNat_natCast, hpr, hq]
      clear hpr hT hp'
      repeat' (first | with_reducible refine goes_if (fun h => ?_) (fun h => ?_) <;> (try simp only [SH] at h) | exact goes_none.mpr (by omega))
      all_goals first | (exfalso; omega) | exact ih2
    · have hq := Bool.eq_false_iff.mpr hq
      have e : S.idx (fun i => !(S.resT (fun j => vl (j + al)) (fun j => gl (j + al)) (fun j => wl (j + al)) i).2) i (k + 1) = i := if_pos (by show (!(S.resT (fun j => vl (j + al)) (fun j => gl (j + al)) (fun j => wl (j + al)) i).2) = true; rw [hq]; rfl)
      rw [e]
      apply Comes.of
      rw [q52]
      simp only [Int.toNat_natCast, hpr, hq]
      clear hpr hT ih2
      repeat' (first | with_reducible refine goes_if (fun h => ?_) (fun h => ?_) <;> (try simp only [SH] at h) | exact goes_none.mpr (by omega))
      all_goals first | (exfalso; omega) | rfl
theorem s52 (al nl ml : Nat) (tl : Nat → ByteArray) (vl gl wl : Nat → Int) (hp : al + nl ≤ ml ∧ S.okT nl (fun j => vl (j + al)) (fun j => gl (j + al)) (fun j => wl (j + al)) = true) : Goes ((q52 al nl ml tl vl gl wl)) ((p52 al nl ml tl vl gl wl)) (S.misT nl (fun j => vl (j + al)) (fun j => gl (j + al)) (fun j => wl (j + al))) := by
  exact s52' al nl ml tl vl gl wl hp nl 0 (Nat.zero_add _)
theorem k52_ok  : k52.ok Try.prog := by
  intro x hx
  obtain ⟨⟨al, nl, ml, tl, vl, gl, wl, _⟩, _⟩ := x
  obtain ⟨h1, h2⟩ := a52 al nl ml tl vl gl wl (s52 al nl ml tl vl gl wl (of_dec hx rfl))
  exact ⟨⟨400, (by decide : 1 + 1 + 0 ≤ 400), h1⟩, h2⟩
theorem dsum_congr  {p p' c c' : Nat → Int} {t : Int} : ∀ {i : Nat}, (∀ j, j < i → p j = p' j) → (∀ j, j < i → c j = c' j) → S.dsum p c t i = S.dsum p' c' t i
  | 0, _, _ => rfl
  | i + 1, h1, h2 => by
    simp only [S.dsum, h1 i (by omega), h2 i (by omega)]
    rw [dsum_congr (fun j hj => h1 j (by omega)) fun j hj => h2 j (by omega)]
theorem resT_congr  {p p' c c' d d' : Nat → Int} {i : Nat} (h2 : ∀ j, j ≤ i → p j = p' j) (h3 : ∀ j, j ≤ i → c j = c' j) (h4 : d i = d' i) : S.resT p c d i = S.resT p' c' d' i := by
  have e : (fun t => S.dem p c i t) = fun t => S.dem p' c' i t := by
    funext t
    unfold S.dem
    rw [h3 i (Nat.le_refl _), dsum_congr (fun j hj => h2 j (by omega)) fun j hj => h3 j (by omega)]
  unfold S.resT
  rw [e, h4]
theorem misT_congr  {p p' c c' d d' : Nat → Int} {n : Nat} (h2 : ∀ j, j < n → p j = p' j) (h3 : ∀ j, j < n → c j = c' j) (h4 : ∀ j, j < n → d j = d' j) : S.misT n p c d = S.misT n p' c' d' := by
  unfold S.misT
  exact idx_congr fun j _ hj => by rw [resT_congr (p := p) (p' := p') (c := c) (c' := c') (d := d) (d' := d') (fun q hq => h2 q (by omega)) (fun q hq => h3 q (by omega)) (h4 j (by omega))]
namespace S
def szW (t : Nat → ByteArray) : Nat → Int
  | 0 => 0
  | i + 1 => if lim .i64 (szW t i + (t i).size) = true then szW t i + (t i).size else wrapI .i64 (szW t i + (t i).size)
def fewT (n : Nat) (t : Nat → ByteArray) : Bool := decide (n ≤ 12 ∧ szW t (min n 20) ≤ 300)
end S
inductive St13 where
  | h0 (x0 : Int) (x1 : Int)
abbrev Rt13  := Bool
noncomputable def V13 (al nl ml : Nat) (tl : Nat → ByteArray) (vl gl wl : NI) (r : Rt13) : PV := PV.bool r
noncomputable def N13 (al nl ml : Nat) (tl : Nat → ByteArray) (vl gl wl : NI) (r : Rt13) : List Blk := []
noncomputable def I13 (al nl ml : Nat) (tl : Nat → ByteArray) (vl gl wl : NI) : St13 → Hd
  | .h0 x0 x1 => ⟨hd Try.f13 0, [PV.loose (PA.mk (0) (4) al (0)) nl, PV.int .i64 x0,
 PV.int .i64 x1], [[], [(0, (false, .cols ml [.str tl, .int .i64 vl, .int .i64 gl, .int .i64 wl]))]], 1⟩
noncomputable def q13 (al nl ml : Nat) (tl : Nat → ByteArray) (vl gl wl : NI) : St13 → Option (St13 ⊕ Rt13) | .h0 x0 x1 => bif (decide (x1 < (↑nl : Int))) then (bif (decide (x1 < 20)) then (bif (decide ((0 : Int) ≤ x1 ∧ x1 < (↑nl : Int))) then (bif (decide (Int.toNat x1 + al < ml)) then (bif (lim .i64 (x0 + (↑(ByteArray.size (tl (Int.toNat x1 + al))) : Int))) then (bif (lim .i64 (x1 + 1)) then (some (.inl (.h0 (x0 + (↑(ByteArray.size (tl (Int.toNat x1 + al))) : Int)) (x1 + 1)))) else (some (.inl (.h0 (x0 + (↑(ByteArray.size (tl (Int.toNat x1 + al))) : Int)) (S.wrapI .i64 (x1 + 1)))))) else (bif (lim .i64 (x1 + 1)) then (some (.inl (.h0 (S.wrapI .i64 (x0 + (↑(ByteArray.size (tl (Int.toNat x1 + al))) : Int))) (x1 + 1)))) else (some (.inl (.h0 (S.wrapI .i64 (x0 + (↑(ByteArray.size (tl (Int.toNat x1 + al))) : Int))) (S.wrapI .i64 (x1 + 1))))))) else (none)) else (none)) else (bif (decide ((↑nl : Int) ≤ 12)) then (bif (decide (x0 ≤ 300)) then (some (.inr (true))) else (some (.inr (false)))) else (some (.inr (false))))) else (bif (decide ((↑nl : Int) ≤ 12)) then (bif (decide (x0 ≤ 300)) then (some (.inr (true))) else (some (.inr (false)))) else (some (.inr (false))))
noncomputable def p13 (al nl ml : Nat) (tl : Nat → ByteArray) (vl gl wl : NI) : Option (St13 ⊕ Rt13) := some (.inl (.h0 ((0 : Int)) ((0 : Int))))
def Te13 (test : TT) (Kst : KS) (Kret : KR) (al nl ml : Nat) (tl : Nat → ByteArray) (vl gl wl : NI) : Prop := Kst (hd Try.f13 0) ([PV.loose (PA.mk (0) (4) al (0)) nl, PV.int .i64 (0 : Int), PV.int .i64 (0 : Int)]) ([[(0, false, Blk.cols ml [Col.str tl, Col.int .i64 vl, Col.int .i64 gl, Col.int .i64 wl])]]) (1)
theorem te13 (test : TT) (Kst : KS) (Kret : KR) (al nl ml : Nat) (tl : Nat → ByteArray) (vl gl wl : NI) : run test Try.env false noX true 400 ⟨13, [.cd (mkFn Try.f13).body], argT 0 [.loose ⟨0, 4, al, 0⟩ nl], [[], [(0, (false, .cols ml [.str tl, .int .i64 vl, .int .i64 gl, .int .i64 wl]))]], 1⟩ (proj 1 [0, 3, 4] Kst Kret) =
  Te13 test Kst Kret al nl ml tl vl gl wl := by kernel_rfl
noncomputable abbrev u13_0_0 (ml : Nat) (tl : Nat → ByteArray) (vl gl wl : Nat → Int) := [[(0, false, Blk.cols ml [Col.str tl, Col.int IntKind.i64 vl, Col.int IntKind.i64 gl, Col.int IntKind.i64 wl])]]
def T13_0 (test : TT) (Kst : KS) (Kret : KR) (al nl ml : Nat) (tl : Nat → ByteArray) (vl gl wl : NI) (x0 x1 : Int) : Prop := test (decide (x1 < (↑nl : Int))) (test (decide (x1 < 20)) (test (decide ((0 : Int) ≤ x1 ∧ x1 < (↑nl : Int))) (test (decide (Int.toNat x1 + al < ml)) (test (lim .i64 (x0 + (↑(ByteArray.size (tl (Int.toNat x1 + al))) : Int))) (test (lim .i64 (x1 + 1)) (Kst (hd Try.f13 0) ([PV.loose (PA.mk (0) (4) al (0)) nl, PV.int .i64 (x0 + (↑(ByteArray.size (tl (Int.toNat x1 + al))) : Int)), PV.int .i64 (x1 + 1)]) (u13_0_0 ml tl vl gl wl) (1)) (Kst (hd Try.f13 0) ([PV.loose (PA.mk (0) (4) al (0)) nl, PV.int .i64 (x0 + (↑(ByteArray.size (tl (Int.toNat x1 + al))) : Int)), PV.int .i64 (S.wrapI .i64 (x1 + 1))]) (u13_0_0 ml tl vl gl wl) (1))) (test (lim .i64 (x1 + 1)) (Kst (hd Try.f13 0) ([PV.loose (PA.mk (0) (4) al (0)) nl, PV.int .i64 (S.wrapI .i64 (x0 + (↑(ByteArray.size (tl (Int.toNat x1 + al))) : Int))), PV.int .i64 (x1 + 1)]) (u13_0_0 ml tl vl gl wl) (1)) (Kst (hd Try.f13 0) ([PV.loose (PA.mk (0) (4) al (0)) nl, PV.int .i64 (S.wrapI .i64 (x0 + (↑(ByteArray.size (tl (Int.toNat x1 + al))) : Int))), PV.int .i64 (S.wrapI .i64 (x1 + 1))]) (u13_0_0 ml tl vl gl wl) (1)))) (False)) (False)) (test (decide ((↑nl : Int) ≤ 12)) (test (decide (x0 ≤ 300)) (Kret (PV.tf true) (u13_0_0 ml tl vl gl wl) (1)) (Kret (PV.tf false) (u13_0_0 ml tl vl gl wl) (1))) (Kret (PV.tf false) (u13_0_0 ml tl vl gl wl) (1)))) (test (decide ((↑nl : Int) ≤ 12)) (test (decide (x0 ≤ 300)) (Kret (PV.tf true) (u13_0_0 ml tl vl gl wl) (1)) (Kret (PV.tf false) (u13_0_0 ml tl vl gl wl) (1))) (Kret (PV.tf false) (u13_0_0 ml tl vl gl wl) (1)))
theorem t13_0 (test : TT) (Kst : KS) (Kret : KR) (al nl ml : Nat) (tl : Nat → ByteArray) (vl gl wl : NI) (x0 x1 : Int) : run test Try.env false noX true 400 ⟨13, hd Try.f13 0, zipT [0, 3, 4] [PV.loose (PA.mk (0) (4) al (0)) nl, PV.int .i64 x0,
 PV.int .i64 x1], [[], [(0, (false, .cols ml [.str tl, .int .i64 vl, .int .i64 gl, .int .i64 wl]))]], 1⟩ (proj 1 [0, 3, 4] Kst Kret) =
  T13_0 test Kst Kret al nl ml tl vl gl wl x0 x1 := by kernel_rfl
noncomputable abbrev J13 (al nl ml : Nat) (tl : Nat → ByteArray) (vl : NI) (gl : NI) (wl : NI) : Rt13 → Heap := fun r => [newL (1 + 1) ((N13 al nl ml tl vl gl wl) r) ++ [(0, (false, .cols ml [.str tl, .int .i64 vl, .int .i64 gl, .int .i64 wl]))]]
attribute [local irreducible] Int.subNatNat in
theorem be13 (al nl ml : Nat) (tl : Nat → ByteArray) (vl gl wl : NI) (Kst : KS) (Kret : KR) (x : St13 ⊕ Rt13) (hS : HS 1 400 ((I13 al nl ml tl vl gl wl)) Kst x) (hR : HR 1 400 ((V13 al nl ml tl vl gl wl)) (J13 al nl ml tl vl gl wl) Kret x) (h : (some (.inl (.h0 ((0 : Int)) ((0 : Int)))) : Option (St13 ⊕ Rt13)) = some x) : Te13 cond Kst Kret al nl ml tl vl gl wl := by
  unfold Te13
  exact stop_at hS _ h (fun n => n) rfl rfl rfl ⟨(rn_loose (use_lo rfl) rfl rfl rfl), ⟨(rn_int rfl), ⟨(rn_int rfl), trivial⟩⟩⟩ rfl (entl_bor (use_lo rfl) rfl rfl entl_nil)
attribute [local irreducible] Int.subNatNat in
theorem b13_0 (al nl ml : Nat) (tl : Nat → ByteArray) (vl gl wl : NI) (Kst : KS) (Kret : KR) (x : St13 ⊕ Rt13) (hS : HS 1 400 ((I13 al nl ml tl vl gl wl)) Kst x) (hR : HR 1 400 ((V13 al nl ml tl vl gl wl)) (J13 al nl ml tl vl gl wl) Kret x) (x0 x1 : Int) (h : q13 al nl ml tl vl gl wl (.h0 x0 x1) = some x) : T13_0 cond Kst Kret al nl ml tl vl gl wl x0 x1 := by
  unfold T13_0
  rw [q13] at h
  refine bif_split h (fun c0 h => bif_split h (fun c1 h => bif_split h (fun c2 h => bif_split h (fun c3 h => bif_split h (fun c4 h => bif_split h (fun c5 h => ?_) (fun c5 h => ?_)) (fun c4 h => bif_split h (fun c5 h => ?_) (fun c5 h => ?_))) (fun c3 h => ?_)) (fun c2 h => ?_)) (fun c1 h => bif_split h (fun c2 h => bif_split h (fun c3 h => ?_) (fun c3 h => ?_)) (fun c2 h => ?_))) (fun c0 h => bif_split h (fun c1 h => bif_split h (fun c2 h => ?_) (fun c2 h => ?_)) (fun c1 h => ?_))
  all_goals first
    | exact ret_at hR _ h (fun n => n) rfl rfl rfl (rn_bool_tf rfl) rfl (entl_bor (use_lo rfl) rfl rfl entl_nil)
    | exact stop_at hS _ h (fun n => n) rfl rfl rfl ⟨(rn_loose (use_lo rfl) rfl rfl rfl), ⟨(rn_int rfl), ⟨(rn_int rfl), trivial⟩⟩⟩ rfl (entl_bor (use_lo rfl) rfl rfl entl_nil)
    | exact no_some h
theorem a13 (al nl ml : Nat) (tl : Nat → ByteArray) (vl gl wl : NI) {r : Rt13} (h : Goes ((q13 al nl ml tl vl gl wl)) ((p13 al nl ml tl vl gl wl)) r) : CallR Try.prog 13 [.loose ⟨0, 4, al, 0⟩ nl] [[(0, (false, .cols ml [.str tl, .int .i64 vl, .int .i64 gl, .int .i64 wl]))]] 1 ((V13 al nl ml tl vl gl wl) r) ((J13 al nl ml tl vl gl wl) r) 400 ∧ ∃ F, Try.prog.funcs[13]? = some F ∧ F.body.isSome = true ∧ (F.name == "runtime.NumGoroutine") = false := by
  refine dec_calls (sy := false) (f := 13) (lo := 1) (hi := 400) (H := [[(0, (false, .cols ml [.str tl, .int .i64 vl, .int .i64 gl, .int .i64 wl]))]]) (args := [.loose ⟨0, 4, al, 0⟩ nl]) Try.envOk Try.mixed noX_ok ((I13 al nl ml tl vl gl wl)) ((V13 al nl ml tl vl gl wl)) (J13 al nl ml tl vl gl wl) (fn := mkFn Try.f13) (ts := [0, 3, 4]) (n := 400) rfl (by decide) (by simp) (names_of rfl) ?_ ?_ ?_ h
  · intro s; cases s <;> exact ⟨hd_ok _ _, by simp [I13], names_of rfl, Nat.le_of_ble_eq_true rfl⟩
  · intro Kst Kret x hS hR h
    exact Holds.eq (te13 cond Kst Kret al nl ml tl vl gl wl) (be13 al nl ml tl vl gl wl Kst Kret x hS hR h)
  · intro Kst Kret x hS hR s h
    cases s with
    | h0 x0 x1 => exact Holds.eq (t13_0 cond Kst Kret al nl ml tl vl gl wl x0 x1) (b13_0 al nl ml tl vl gl wl Kst Kret x hS hR x0 x1 h)
noncomputable abbrev w13 {α : Type} (g : Nat → Nat → Nat → (Nat → ByteArray) → (Nat → Int) → (Nat → Int) → (Nat → Int) → α) (x : (Nat × Nat × Nat × (Nat → ByteArray) × (Nat → Int) × (Nat → Int) × (Nat → Int) × Unit) × Unit) : α := g x.1.1 x.1.2.1 x.1.2.2.1 x.1.2.2.2.1 x.1.2.2.2.2.1 x.1.2.2.2.2.2.1 x.1.2.2.2.2.2.2.1
noncomputable def k13  : Con := ⟨13, [.one (.list [.str, .int .i64, .int .i64, .int .i64])], w13 (fun al nl ml tl vl gl wl => decide (al + nl ≤ ml)), w13 (fun al nl ml tl vl gl wl => (V13 al nl ml tl vl gl wl) (S.fewT nl (fun j => tl (j + al)))), w13 (fun al nl ml tl vl gl wl => (N13 al nl ml tl vl gl wl) (S.fewT nl (fun j => tl (j + al)))), fun _ _ => .dead⟩
theorem s13' (al nl ml : Nat) (tl : Nat → ByteArray) (vl gl wl : Nat → Int) (hp : al + nl ≤ ml) : ∀ (k i : Nat) (x0 : Int), i + k = min nl 20 → Holds (x0 = S.szW (fun j => tl (j + al)) i) → Comes (q13 al nl ml tl vl gl wl) (.h0 x0 (i : Int)) (S.fewT nl (fun j => tl (j + al))) := by
  intro k
  induction k with
  | zero =>
    intro i x0 hi ex
    have e : S.fewT nl (fun j => tl (j + al)) = decide (nl ≤ 12 ∧ x0 ≤ 300) := by rw [ex.get, show i = min nl 20 by omega]; rfl
    rw [e]
    clear ex e
    apply Comes.of
    show Goes _ _ _
    (first | rw [q13] | unfold q13)
    repeat' (first | with_reducible refine goes_if (fun h => ?_) (fun h => ?_) <;> (try simp only [SH] at h) | exact goes_none.mpr (by omega))
    all_goals first | (exfalso; omega) | (refine goes_inr.mpr ?_; first | exact (decide_eq_true (by omega)).symm | exact (decide_eq_false (by omega)).symm)
  | succ k ih =>
    intro i x0 hi ex
    have ex := ex.get
    have hl : lim .i64 ((i : Int) + 1) = true := by rw [lim64]; exact decide_eq_true (by omega)
    have hlt : decide ((i : Int) < 20) = true := decide_eq_true (by omega)
    cases hb : lim .i64 (x0 + ((tl (i + al)).size : Int))
    · have ih2 := ih (i + 1) (S.wrapI .i64 (x0 + ((tl (i + al)).size : Int))) (by omega) ⟨by simp only [S.szW]; rw [← ex, hb]; rfl⟩
      clear ih ex
      apply Comes.of
      rw [q13]
      simp only [Int.toNat_natCast, hb, hl, hlt]
      generalize S.wrapI .i64 (x0 + ((tl (i + al)).size : Int)) = y at *
      clear hb hl
      repeat' (first | with_reducible refine goes_if (fun h => ?_) (fun h => ?_) <;> (try simp only [SH] at h) | exact goes_none.mpr (by omega))
      all_goals first | (exfalso; omega) | exact ih2
    · have ih2 := ih (i + 1) (x0 + ((tl (i + al)).size : Int)) (by omega) ⟨by simp only [S.szW]; rw [← ex, hb]; rfl⟩
      clear ih ex
      apply Comes.of
      rw [q13]
      simp only [Int.toNat_natCast, hb, hl, hlt]
      clear hb hl
      repeat' (first | with_reducible refine goes_if (fun h => ?_) (fun h => ?_) <;> (try simp only [SH] at h) | exact goes_none.mpr (by omega))
      all_goals first | (exfalso; omega) | exact ih2
theorem s13 (al nl ml : Nat) (tl : Nat → ByteArray) (vl gl wl : Nat → Int) (hp : al + nl ≤ ml) : Goes ((q13 al nl ml tl vl gl wl)) ((p13 al nl ml tl vl gl wl)) (S.fewT nl (fun j => tl (j + al))) := by
  exact s13' al nl ml tl vl gl wl hp (min nl 20) 0 0 (Nat.zero_add _) ⟨rfl⟩
theorem k13_ok  : k13.ok Try.prog := by
  intro x hx
  obtain ⟨⟨al, nl, ml, tl, vl, gl, wl, _⟩, _⟩ := x
  obtain ⟨h1, h2⟩ := a13 al nl ml tl vl gl wl (s13 al nl ml tl vl gl wl (of_dec hx rfl))
  exact ⟨⟨400, (by decide : 1 + 1 + 0 ≤ 400), h1⟩, h2⟩
noncomputable def k12  : Con := ⟨12, [], fun _ => true, fun _ => .bool true, fun _ => [], fun _ _ => .dead⟩
theorem te12 (Kst : KS) (Kret : KR) : run cond Try.env false noX false 20000 ⟨12, [.cd (mkFn Try.f12).body], [], [[], []], 0⟩ (proj 0 [] Kst Kret) = Kret (.tf true) [[]] 218 := by kernel_rfl
theorem k12_ok  : k12.ok Try.prog := awake_ok (fn := mkFn Try.f12) (hi := 219) (n := 20000) Try.envOk Try.mixed noX_ok rfl (by decide) (by decide : Nat.ble 218 219 = true) te12
namespace S
def insL (d : Int → Int) (x : Int) : List Int → List Int
  | [] => [x]
  | y :: L => if d y ≤ d x then y :: insL d x L else x :: y :: L
def ordL (d : Int → Int) : Nat → List Int
  | 0 => []
  | k + 1 => insL d k (ordL d k)
def iotL  : Nat → Nat → List Int
  | _, 0 => []
  | i, k + 1 => (i : Int) :: iotL (i + 1) k
def idB (n : Nat) (f : Nat → Int) : Bool := decide (∀ j, j < n → f j = (j : Int))
end S
theorem insL_len  {d : Int → Int} {x : Int} : ∀ {L : List Int}, (S.insL d x L).length = L.length + 1
  | [] => rfl
  | y :: L => by
    simp only [S.insL]
    split
    · simp [insL_len]
    · simp
theorem ordL_len  {d : Int → Int} : ∀ {k : Nat}, (S.ordL d k).length = k
  | 0 => rfl
  | k + 1 => by simp only [S.ordL, insL_len, ordL_len]
theorem insL_mem  {d : Int → Int} {x z : Int} : ∀ {L : List Int}, z ∈ S.insL d x L ↔ z = x ∨ z ∈ L
  | [] => by simp [S.insL]
  | y :: L => by
    simp only [S.insL]
    split
    · simp only [List.mem_cons, insL_mem]
      constructor
      · rintro (h | h | h); exact .inr (.inl h); exact .inl h; exact .inr (.inr h)
      · rintro (h | h | h); exact .inr (.inl h); exact .inl h; exact .inr (.inr h)
    · simp only [List.mem_cons]
theorem ordL_mem  {d : Int → Int} {z : Int} : ∀ {k : Nat}, z ∈ S.ordL d k ↔ 0 ≤ z ∧ z < k
  | 0 => by simp only [S.ordL, List.not_mem_nil, false_iff]; omega
  | k + 1 => by
    simp only [S.ordL, insL_mem, ordL_mem]
    omega
theorem insL_split  {d : Int → Int} {x : Int} : ∀ {A B : List Int}, (∀ y ∈ A, d y ≤ d x) → (∀ y ∈ B, d x < d y) → S.insL d x (A ++ B) = A ++ x :: B
  | [], [], _, _ => rfl
  | [], y :: B, _, h => by
    simp only [List.nil_append, S.insL]
    rw [if_neg (by have := h y (by simp); omega)]
  | y :: A, B, h1, h2 => by
    simp only [List.cons_append, S.insL]
    rw [if_pos (h1 y (by simp)), insL_split (fun z hz => h1 z (by simp [hz])) h2]
theorem insL_asc  {d : Int → Int} {x : Int} : ∀ {L : List Int}, L.Pairwise (fun a b => d a ≤ d b) → (S.insL d x L).Pairwise (fun a b => d a ≤ d b)
  | [], _ => by simp [S.insL]
  | y :: L, h => by
    rw [List.pairwise_cons] at h
    simp only [S.insL]
    split
    · rename_i hc
      rw [List.pairwise_cons]
      refine ⟨fun z hz => ?_, insL_asc h.2⟩
      rcases insL_mem.1 hz with rfl | hz
      · exact hc
      · exact h.1 z hz
    · rename_i hc
      rw [List.pairwise_cons, List.pairwise_cons]
      refine ⟨fun z hz => ?_, h⟩
      rcases List.mem_cons.1 hz with rfl | hz
      · omega
      · have := h.1 z hz; omega
theorem ordL_asc  {d : Int → Int} : ∀ {k : Nat}, (S.ordL d k).Pairwise (fun a b => d a ≤ d b)
  | 0 => List.Pairwise.nil
  | k + 1 => insL_asc ordL_asc
theorem iotL_len  : ∀ {k i : Nat}, (S.iotL i k).length = k
  | 0, _ => rfl
  | k + 1, _ => by simp [S.iotL, iotL_len]
theorem iotL_at  : ∀ {k i j : Nat}, j < k → S.at' (S.iotL i k) j = ((i + j : Nat) : Int)
  | k + 1, i, 0, _ => rfl
  | k + 1, i, j + 1, h => by
    have := iotL_at (k := k) (i := i + 1) (j := j) (by omega)
    simp only [S.iotL, S.at', List.getD_cons_succ] at this ⊢
    rw [this]
    omega
theorem id_iot  {n : Nat} {f : Nat → Int} (h : S.idB n f = true) : (S.mkl n fun j => f j) = S.iotL 0 n := by
  have hj := of_decide_eq_true h
  refine mkl_eq iotL_len.symm fun j hlt => ?_
  rw [hj j hlt, iotL_at hlt, Nat.zero_add]
theorem at_app_lt  {α : Type} [Inhabited α] {A B : List α} {j : Nat} (h : j < A.length) : S.at' (A ++ B) j = S.at' A j := by
  unfold S.at'
  rw [List.getD_eq_getElem?_getD, List.getElem?_append_left h, ← List.getD_eq_getElem?_getD]
theorem at_app_ge  {α : Type} [Inhabited α] {A B : List α} {j : Nat} (h : A.length ≤ j) : S.at' (A ++ B) j = S.at' B (j - A.length) := by
  unfold S.at'
  rw [List.getD_eq_getElem?_getD, List.getElem?_append_right h, ← List.getD_eq_getElem?_getD]
theorem at_mem  {L : List Int} {j : Nat} (h : j < L.length) : S.at' L j ∈ L := by
  rw [at_lt h]; exact List.getElem_mem h
theorem swap_list  {A R : List Int} {x y : Int} {n j : Nat} (hn : n = (A ++ y :: x :: R).length) (hj : j = A.length + 1) : (S.mkl n fun t => bif Nat.beq t (j - 1) then S.at' (A ++ y :: x :: R) j else bif Nat.beq t j then S.at' (A ++ y :: x :: R) (j - 1) else S.at' (A ++ y :: x :: R) t) = A ++ x :: y :: R := by
  subst hn hj
  refine mkl_eq (by simp) fun t ht => ?_
  have h1 : S.at' (A ++ y :: x :: R) (A.length + 1) = x := by rw [at_app_ge (by omega)]; simp [S.at']
  have h2 : S.at' (A ++ y :: x :: R) A.length = y := by rw [at_app_ge (by omega)]; simp [S.at']
  rw [show A.length + 1 - 1 = A.length by omega, h1, h2]
  by_cases e1 : t = A.length
  · subst e1
    rw [Nat.beq_refl, cond_true, at_app_ge (by omega)]; simp [S.at']
  · rw [nbeq_no e1, cond_false]
    by_cases e2 : t = A.length + 1
    · subst e2
      rw [Nat.beq_refl, cond_true, at_app_ge (by omega)]; simp [S.at']
    · rw [nbeq_no e2, cond_false]
      by_cases e3 : t < A.length
      · rw [at_app_lt e3, at_app_lt e3]
      · rw [at_app_ge (by omega), at_app_ge (by omega)]
        obtain ⟨q, hq⟩ : ∃ q, t - A.length = q + 2 := ⟨t - A.length - 2, by omega⟩
        rw [hq]
        simp [S.at']
theorem app_last  {A : List Int} (h : A ≠ []) : ∃ A' y, A = A' ++ [y] := ⟨A.dropLast, A.getLast h, (List.dropLast_concat_getLast h).symm⟩
inductive St74 where
  | h0 (x0 : Int) (x1 : List Int)
  | h1 (x0 : Int) (x1 : Int) (x2 : List Int)
abbrev Rt74  := List Int
noncomputable def V74 (no mo : Nat) (to : NI) (ca cb : Int) (al nl ml : Nat) (tl : Nat → ByteArray) (vl gl wl : NI) (r : Rt74) : PV := PV.tup []
noncomputable def N74 (no mo : Nat) (to : NI) (ca cb : Int) (al nl ml : Nat) (tl : Nat → ByteArray) (vl gl wl : NI) (r : Rt74) : List Blk := []
noncomputable def W74 (no mo : Nat) (to : Nat → Int) (ca cb : Int) (al nl ml : Nat) (tl : Nat → ByteArray) (vl gl wl : Nat → Int) (r : Rt74) : Nat → Blk := fun n => bif Nat.beq n 0 then Blk.cols (List.length r) [Col.int IntKind.i64 fun j => S.at' r j] else .dead
noncomputable def I74 (no mo : Nat) (to : NI) (ca cb : Int) (al nl ml : Nat) (tl : Nat → ByteArray) (vl gl wl : NI) : St74 → Hd
  | .h0 x0 x1 => ⟨hd Try.f74 0, [PV.own (0) (1) (List.length x1), PV.int .i64 ca, PV.int .i64 cb,
 PV.fn (Go.Fn.func (59)) [] [PV.ptr (PA.mk (1) (0) (0) (0))],
 PV.int .i64 x0, PV.unk], [[], [(0, (true, Blk.cols (List.length x1) [Col.int .i64 fun j => S.at' x1 j])), (1, (false, .cells [.loose ⟨2, 4, al, 0⟩ nl])), (2, (false, .cols ml [.str tl, .int .i64 vl, .int .i64 gl, .int .i64 wl]))]], 3⟩
  | .h1 x0 x1 x2 => ⟨hd Try.f74 1, [PV.own (0) (1) (List.length x2), PV.int .i64 ca, PV.int .i64 cb,
 PV.fn (Go.Fn.func (59)) [] [PV.ptr (PA.mk (1) (0) (0) (0))],
 PV.int .i64 x0, PV.int .i64 x1], [[], [(0, (true, Blk.cols (List.length x2) [Col.int .i64 fun j => S.at' x2 j])), (1, (false, .cells [.loose ⟨2, 4, al, 0⟩ nl])), (2, (false, .cols ml [.str tl, .int .i64 vl, .int .i64 gl, .int .i64 wl]))]], 3⟩
noncomputable def q74 (no mo : Nat) (to : NI) (ca cb : Int) (al nl ml : Nat) (tl : Nat → ByteArray) (vl gl wl : NI) : St74 → Option (St74 ⊕ Rt74) | .h0 x0 x1 => bif (decide (x0 < cb)) then (some (.inl (.h1 (x0) (x0) (x1)))) else (some (.inr (x1))) | .h1 x0 x1 x2 => bif (decide (x1 > ca)) then (bif (decide ((0 : Int) ≤ x1 ∧ x1 < (↑(List.length x2) : Int))) then (bif (decide (Int.toNat x1 < List.length x2)) then (bif (lim .i64 (x1 - 1)) then (bif (decide ((0 : Int) ≤ x1 - 1 ∧ x1 - 1 < (↑(List.length x2) : Int))) then (bif (decide (Int.toNat (x1 - 1) < List.length x2)) then (bif (decide ((0 : Int) ≤ S.at' x2 (Int.toNat x1) ∧ S.at' x2 (Int.toNat x1) < (↑nl : Int))) then (bif (decide (Int.toNat (S.at' x2 (Int.toNat x1)) + al < ml)) then (bif (decide ((0 : Int) ≤ S.at' x2 (Int.toNat (x1 - 1)) ∧ S.at' x2 (Int.toNat (x1 - 1)) < (↑nl : Int))) then (bif (decide (Int.toNat (S.at' x2 (Int.toNat (x1 - 1))) + al < ml)) then (bif (lim .i64 (wl (Int.toNat (S.at' x2 (Int.toNat x1)) + al) - wl (Int.toNat (S.at' x2 (Int.toNat (x1 - 1))) + al))) then (bif (decide (wl (Int.toNat (S.at' x2 (Int.toNat x1)) + al) - wl (Int.toNat (S.at' x2 (Int.toNat (x1 - 1))) + al) < 0)) then (some (.inl (.h1 (x0) (x1 - 1) (S.mkl (List.length x2) fun j => bif Nat.beq j (Int.toNat (x1 - 1)) then S.at' x2 (Int.toNat x1) else bif Nat.beq j (Int.toNat x1) then S.at' x2 (Int.toNat (x1 - 1)) else S.at' x2 j)))) else (bif (lim .i64 (x0 + 1)) then (some (.inl (.h0 (x0 + 1) (x2)))) else (none))) else (none)) else (none)) else (none)) else (none)) else (none)) else (none)) else (none)) else (none)) else (none)) else (none)) else (bif (lim .i64 (x0 + 1)) then (some (.inl (.h0 (x0 + 1) (x2)))) else (none))
noncomputable def p74 (no mo : Nat) (to : NI) (ca cb : Int) (al nl ml : Nat) (tl : Nat → ByteArray) (vl gl wl : NI) : Option (St74 ⊕ Rt74) := bif (lim .i64 (ca + 1)) then (some (.inl (.h0 (ca + 1) (S.mkl no fun j => to j)))) else (none)
def Te74 (test : TT) (Kst : KS) (Kret : KR) (no mo : Nat) (to : NI) (ca cb : Int) (al nl ml : Nat) (tl : Nat → ByteArray) (vl gl wl : NI) : Prop := test (lim .i64 (ca + 1)) (Kst (hd Try.f74 0) ([PV.own (0) (1) no, PV.int .i64 ca, PV.int .i64 cb, PV.fn (Go.Fn.func (59)) [] [PV.ptr (PA.mk (1) (0) (0) (0))], PV.int .i64 (ca + 1), PV.unk]) ([[(2, false, Blk.cols ml [Col.str tl, Col.int .i64 vl, Col.int .i64 gl, Col.int .i64 wl]), (1, false, Blk.cells [PV.loose (PA.mk (2) (4) al (0)) nl]), (0, true, Blk.cols no [Col.int .i64 to])]]) (3)) (False)
theorem te74 (test : TT) (Kst : KS) (Kret : KR) (no mo : Nat) (to : NI) (ca cb : Int) (al nl ml : Nat) (tl : Nat → ByteArray) (vl gl wl : NI) : run test Try.env true noX true 400 ⟨74, [.cd (mkFn Try.f74).body], argT 0 [.own 0 1 no, .int .i64 ca, .int .i64 cb, .fn (.func 59) [] [.ptr ⟨1, 0, 0, 0⟩]], [[], [(0, (true, .cols no [.int .i64 to])), (1, (false, .cells [.loose ⟨2, 4, al, 0⟩ nl])), (2, (false, .cols ml [.str tl, .int .i64 vl, .int .i64 gl, .int .i64 wl]))]], 3⟩ (proj 3 [0, 1, 2, 3, 8, 9] Kst Kret) =
  Te74 test Kst Kret no mo to ca cb al nl ml tl vl gl wl := by kernel_rfl
def T74_0 (test : TT) (Kst : KS) (Kret : KR) (no mo : Nat) (to : NI) (ca cb : Int) (al nl ml : Nat) (tl : Nat → ByteArray) (vl gl wl : NI) (x0 : Int) (x1 : List Int) : Prop := test (decide (x0 < cb)) (Kst (hd Try.f74 1) ([PV.own (0) (1) (List.length x1), PV.int .i64 ca, PV.int .i64 cb, PV.fn (Go.Fn.func (59)) [] [PV.ptr (PA.mk (1) (0) (0) (0))], PV.int .i64 x0, PV.int .i64 x0]) ([[(2, false, Blk.cols ml [Col.str tl, Col.int .i64 vl, Col.int .i64 gl, Col.int .i64 wl]), (1, false, Blk.cells [PV.loose (PA.mk (2) (4) al (0)) nl]), (0, true, Blk.cols (List.length x1) [Col.int .i64 fun j => S.at' x1 j])]]) (3)) (Kret (PV.tup []) ([[(2, false, Blk.cols ml [Col.str tl, Col.int .i64 vl, Col.int .i64 gl, Col.int .i64 wl]), (1, false, Blk.cells [PV.loose (PA.mk (2) (4) al (0)) nl]), (0, true, Blk.cols (List.length x1) [Col.int .i64 fun j => S.at' x1 j])]]) (3))
theorem t74_0 (test : TT) (Kst : KS) (Kret : KR) (no mo : Nat) (to : NI) (ca cb : Int) (al nl ml : Nat) (tl : Nat → ByteArray) (vl gl wl : NI) (x0 : Int) (x1 : List Int) : run test Try.env true noX true 400 ⟨74, hd Try.f74 0, zipT [0, 1, 2, 3, 8, 9] [PV.own (0) (1) (List.length x1), PV.int .i64 ca, PV.int .i64 cb,
 PV.fn (Go.Fn.func (59)) [] [PV.ptr (PA.mk (1) (0) (0) (0))],
 PV.int .i64 x0, PV.unk], [[], [(0, (true, Blk.cols (List.length x1) [Col.int .i64 fun j => S.at' x1 j])), (1, (false, .cells [.loose ⟨2, 4, al, 0⟩ nl])), (2, (false, .cols ml [.str tl, .int .i64 vl, .int .i64 gl, .int .i64 wl]))]], 3⟩ (proj 3 [0, 1, 2, 3, 8, 9] Kst Kret) =
  T74_0 test Kst Kret no mo to ca cb al nl ml tl vl gl wl x0 x1 := by kernel_rfl
def T74_1 (test : TT) (Kst : KS) (Kret : KR) (no mo : Nat) (to : NI) (ca cb : Int) (al nl ml : Nat) (tl : Nat → ByteArray) (vl gl wl : NI) (x0 x1 : Int) (x2 : List Int) : Prop := test (decide (x1 > ca)) (test (decide ((0 : Int) ≤ x1 ∧ x1 < (↑(List.length x2) : Int))) (test (decide (Int.toNat x1 < List.length x2)) (test (lim .i64 (x1 - 1)) (test (decide ((0 : Int) ≤ x1 - 1 ∧ x1 - 1 < (↑(List.length x2) : Int))) (test (decide (Int.toNat (x1 - 1) < List.length x2)) (test (decide ((0 : Int) ≤ S.at' x2 (Int.toNat x1) ∧ S.at' x2 (Int.toNat x1) < (↑nl : Int))) (test (decide (Int.toNat (S.at' x2 (Int.toNat x1)) + al < ml)) (test (decide ((0 : Int) ≤ S.at' x2 (Int.toNat (x1 - 1)) ∧ S.at' x2 (Int.toNat (x1 - 1)) < (↑nl : Int))) (test (decide (Int.toNat (S.at' x2 (Int.toNat (x1 - 1))) + al < ml)) (test (lim .i64 (wl (Int.toNat (S.at' x2 (Int.toNat x1)) + al) - wl (Int.toNat (S.at' x2 (Int.toNat (x1 - 1))) + al))) (test (decide (wl (Int.toNat (S.at' x2 (Int.toNat x1)) + al) - wl (Int.toNat (S.at' x2 (Int.toNat (x1 - 1))) + al) < 0)) (test (lim .i64 (x1 - 1)) (test (lim .i64 (x1 - 1)) (test (decide ((0 : Int) ≤ x1 - 1 ∧ x1 - 1 < (↑(List.length x2) : Int))) (test (decide (Int.toNat (x1 - 1) < List.length x2)) (test (decide ((0 : Int) ≤ x1 ∧ x1 < (↑(List.length x2) : Int))) (test (decide (Int.toNat x1 < List.length x2)) (test (decide ((0 : Int) ≤ x1 ∧ x1 < (↑(List.length x2) : Int))) (test (decide (Int.toNat x1 < List.length x2)) (test (decide ((0 : Int) ≤ x1 - 1 ∧ x1 - 1 < (↑(List.length x2) : Int))) (test (decide (Int.toNat (x1 - 1) < List.length x2)) (test (lim .i64 (x1 - 1)) (Kst (hd Try.f74 1) ([PV.own (0) (1) (List.length x2), PV.int .i64 ca, PV.int .i64 cb, PV.fn (Go.Fn.func (59)) [] [PV.ptr (PA.mk (1) (0) (0) (0))], PV.int .i64 x0, PV.int .i64 (x1 - 1)]) ([[(2, false, Blk.cols ml [Col.str tl, Col.int .i64 vl, Col.int .i64 gl, Col.int .i64 wl]), (1, false, Blk.cells [PV.loose (PA.mk (2) (4) al (0)) nl]), (0, true, Blk.cols (List.length x2) [Col.int .i64 fun j => bif Nat.beq j (Int.toNat (x1 - 1)) then S.at' x2 (Int.toNat x1) else bif Nat.beq j (Int.toNat x1) then S.at' x2 (Int.toNat (x1 - 1)) else S.at' x2 j])]]) (3)) (False)) (False)) (False)) (False)) (False)) (False)) (False)) (False)) (False)) (False)) (False)) (test (lim .i64 (x0 + 1)) (Kst (hd Try.f74 0) ([PV.own (0) (1) (List.length x2), PV.int .i64 ca, PV.int .i64 cb, PV.fn (Go.Fn.func (59)) [] [PV.ptr (PA.mk (1) (0) (0) (0))], PV.int .i64 (x0 + 1), PV.int .i64 x1]) ([[(2, false, Blk.cols ml [Col.str tl, Col.int .i64 vl, Col.int .i64 gl, Col.int .i64 wl]), (1, false, Blk.cells [PV.loose (PA.mk (2) (4) al (0)) nl]), (0, true, Blk.cols (List.length x2) [Col.int .i64 fun j => S.at' x2 j])]]) (3)) (False))) (False)) (False)) (False)) (False)) (False)) (False)) (False)) (False)) (False)) (False)) (test (lim .i64 (x0 + 1)) (Kst (hd Try.f74 0) ([PV.own (0) (1) (List.length x2), PV.int .i64 ca, PV.int .i64 cb, PV.fn (Go.Fn.func (59)) [] [PV.ptr (PA.mk (1) (0) (0) (0))], PV.int .i64 (x0 + 1), PV.int .i64 x1]) ([[(2, false, Blk.cols ml [Col.str tl, Col.int .i64 vl, Col.int .i64 gl, Col.int .i64 wl]), (1, false, Blk.cells [PV.loose (PA.mk (2) (4) al (0)) nl]), (0, true, Blk.cols (List.length x2) [Col.int .i64 fun j => S.at' x2 j])]]) (3)) (False))
theorem t74_1 (test : TT) (Kst : KS) (Kret : KR) (no mo : Nat) (to : NI) (ca cb : Int) (al nl ml : Nat) (tl : Nat → ByteArray) (vl gl wl : NI) (x0 x1 : Int) (x2 : List Int) : run test Try.env true noX true 400 ⟨74, hd Try.f74 1, zipT [0, 1, 2, 3, 8, 9] [PV.own (0) (1) (List.length x2), PV.int .i64 ca, PV.int .i64 cb,
 PV.fn (Go.Fn.func (59)) [] [PV.ptr (PA.mk (1) (0) (0) (0))],
 PV.int .i64 x0, PV.int .i64 x1], [[], [(0, (true, Blk.cols (List.length x2) [Col.int .i64 fun j => S.at' x2 j])), (1, (false, .cells [.loose ⟨2, 4, al, 0⟩ nl])), (2, (false, .cols ml [.str tl, .int .i64 vl, .int .i64 gl, .int .i64 wl]))]], 3⟩ (proj 3 [0, 1, 2, 3, 8, 9] Kst Kret) =
  T74_1 test Kst Kret no mo to ca cb al nl ml tl vl gl wl x0 x1 x2 := by kernel_rfl
noncomputable abbrev J74 (no mo : Nat) (to : NI) (ca : Int) (cb : Int) (al nl ml : Nat) (tl : Nat → ByteArray) (vl : NI) (gl : NI) (wl : NI) : Rt74 → Heap := fun r => [newL (3 + 1) ((N74 no mo to ca cb al nl ml tl vl gl wl) r) ++ [(0, (true, ((W74 no mo to ca cb al nl ml tl vl gl wl) r 0))), (1, (false, .cells [.loose ⟨2, 4, al, 0⟩ nl])), (2, (false, .cols ml [.str tl, .int .i64 vl, .int .i64 gl, .int .i64 wl]))]]
attribute [local irreducible] Int.subNatNat in
theorem be74 (no mo : Nat) (to : NI) (ca cb : Int) (al nl ml : Nat) (tl : Nat → ByteArray) (vl gl wl : NI) (Kst : KS) (Kret : KR) (x : St74 ⊕ Rt74) (hS : HS 3 400 ((I74 no mo to ca cb al nl ml tl vl gl wl)) Kst x) (hR : HR 3 400 ((V74 no mo to ca cb al nl ml tl vl gl wl)) (J74 no mo to ca cb al nl ml tl vl gl wl) Kret x) (h : p74 no mo to ca cb al nl ml tl vl gl wl = some x) : Te74 cond Kst Kret no mo to ca cb al nl ml tl vl gl wl := by
  unfold Te74
  unfold p74 at h
  exact bif_split h (fun c0 h => stop_at hS _ h (fun n => n) rfl rfl rfl ⟨(rn_own (use_lo rfl) rfl mkl_len), ⟨(rn_int rfl), ⟨(rn_int rfl), ⟨(rn_fn trivial ⟨(rn_ptr (use_lo rfl) rfl rfl), trivial⟩), ⟨(rn_int rfl), ⟨(rn_unk _), trivial⟩⟩⟩⟩⟩⟩ rfl (entl_new (use_lo rfl) rfl (Nat.le_of_eq mkl_len) (rcs_int (fun _ hj => col_mkl (fun (t : Int) => t) hj) rcs_nil) (entl_blk (use_lo rfl) rfl (by simp) id (rb_cells ⟨rn_loose (use_lo rfl) rfl rfl rfl, trivial⟩) (entl_bor (use_lo rfl) rfl rfl entl_nil)))) (fun c0 h => no_some h)
attribute [local irreducible] Int.subNatNat in
theorem b74_0 (no mo : Nat) (to : NI) (ca cb : Int) (al nl ml : Nat) (tl : Nat → ByteArray) (vl gl wl : NI) (Kst : KS) (Kret : KR) (x : St74 ⊕ Rt74) (hS : HS 3 400 ((I74 no mo to ca cb al nl ml tl vl gl wl)) Kst x) (hR : HR 3 400 ((V74 no mo to ca cb al nl ml tl vl gl wl)) (J74 no mo to ca cb al nl ml tl vl gl wl) Kret x) (x0 : Int) (x1 : List Int) (h : (bif (decide (x0 < cb))
 then (some (.inl (.h1 (x0) (x0) (x1))))
 else (some (.inr (x1))) : Option (St74 ⊕ Rt74)) = some x) : T74_0 cond Kst Kret no mo to ca cb al nl ml tl vl gl wl x0 x1 := by
  unfold T74_0
  exact bif_split h (fun c0 h => stop_at hS _ h (fun n => n) rfl rfl rfl ⟨(rn_own (use_lo rfl) rfl rfl), ⟨(rn_int rfl), ⟨(rn_int rfl), ⟨(rn_fn trivial ⟨(rn_ptr (use_lo rfl) rfl rfl), trivial⟩), ⟨(rn_int rfl), ⟨(rn_int rfl), trivial⟩⟩⟩⟩⟩⟩ rfl (entl_new (use_lo rfl) rfl (Nat.le_of_eq rfl) (rcs_int (fun _ _ => rfl) rcs_nil) (entl_blk (use_lo rfl) rfl (by simp) id (rb_cells ⟨rn_loose (use_lo rfl) rfl rfl rfl, trivial⟩) (entl_bor (use_lo rfl) rfl rfl entl_nil)))) (fun c0 h => ret_at hR _ h (fun n => n) rfl rfl rfl (rn_tup trivial) rfl (entl_new (use_lo rfl) rfl (Nat.le_of_eq rfl) (rcs_int (fun _ _ => rfl) rcs_nil) (entl_blk (use_lo rfl) rfl (by simp) id (rb_cells ⟨rn_loose (use_lo rfl) rfl rfl rfl, trivial⟩) (entl_bor (use_lo rfl) rfl rfl entl_nil))))
attribute [local irreducible] Int.subNatNat in
theorem b74_1 (no mo : Nat) (to : NI) (ca cb : Int) (al nl ml : Nat) (tl : Nat → ByteArray) (vl gl wl : NI) (Kst : KS) (Kret : KR) (x : St74 ⊕ Rt74) (hS : HS 3 400 ((I74 no mo to ca cb al nl ml tl vl gl wl)) Kst x) (hR : HR 3 400 ((V74 no mo to ca cb al nl ml tl vl gl wl)) (J74 no mo to ca cb al nl ml tl vl gl wl) Kret x) (x0 x1 : Int) (x2 : List Int) (h : q74 no mo to ca cb al nl ml tl vl gl wl (.h1 x0 x1 x2) = some x) : T74_1 cond Kst Kret no mo to ca cb al nl ml tl vl gl wl x0 x1 x2 := by
  unfold T74_1
  rw [q74] at h
  refine bif_split h (fun c0 h => bif_split h (fun c1 h => bif_split h (fun c2 h => bif_split h (fun c3 h => bif_split h (fun c4 h => bif_split h (fun c5 h => bif_split h (fun c6 h => bif_split h (fun c7 h => bif_split h (fun c8 h => bif_split h (fun c9 h => bif_split h (fun c10 h => bif_split h (fun c11 h => cond_yes c3 (cond_yes c3 (cond_yes c4 (cond_yes c5 (cond_yes c1 (cond_yes c2 (cond_yes c1 (cond_yes c2 (cond_yes c4 (cond_yes c5 (cond_yes c3 (stop_at hS _ h (fun n => n) rfl rfl rfl ⟨(rn_own (use_lo rfl) rfl mkl_len), ⟨(rn_int rfl), ⟨(rn_int rfl), ⟨(rn_fn trivial ⟨(rn_ptr (use_lo rfl) rfl rfl), trivial⟩), ⟨(rn_int rfl), ⟨(rn_int rfl), trivial⟩⟩⟩⟩⟩⟩ rfl (entl_new (use_lo rfl) rfl (Nat.le_of_eq mkl_len) (rcs_int (fun _ hj => col_mkl (fun (t : Int) => t) hj) rcs_nil) (entl_blk (use_lo rfl) rfl (by simp) id (rb_cells ⟨rn_loose (use_lo rfl) rfl rfl rfl, trivial⟩) (entl_bor (use_lo rfl) rfl rfl entl_nil))))))))))))))) (fun c11 h => bif_split h (fun c12 h => ?_) (fun c12 h => ?_))) (fun c10 h => ?_)) (fun c9 h => ?_)) (fun c8 h => ?_)) (fun c7 h => ?_)) (fun c6 h => ?_)) (fun c5 h => ?_)) (fun c4 h => ?_)) (fun c3 h => ?_)) (fun c2 h => ?_)) (fun c1 h => ?_)) (fun c0 h => bif_split h (fun c1 h => ?_) (fun c1 h => ?_))
  all_goals first
    | exact no_some h
    | exact stop_at hS _ h (fun n => n) rfl rfl rfl ⟨(rn_own (use_lo rfl) rfl rfl), ⟨(rn_int rfl), ⟨(rn_int rfl), ⟨(rn_fn trivial ⟨(rn_ptr (use_lo rfl) rfl rfl), trivial⟩), ⟨(rn_int rfl), ⟨(rn_unk _), trivial⟩⟩⟩⟩⟩⟩ rfl (entl_new (use_lo rfl) rfl (Nat.le_of_eq rfl) (rcs_int (fun _ _ => rfl) rcs_nil) (entl_blk (use_lo rfl) rfl (by simp) id (rb_cells ⟨rn_loose (use_lo rfl) rfl rfl rfl, trivial⟩) (entl_bor (use_lo rfl) rfl rfl entl_nil)))
theorem a74 (no mo : Nat) (to : NI) (ca cb : Int) (al nl ml : Nat) (tl : Nat → ByteArray) (vl gl wl : NI) {r : Rt74} (h : Goes ((q74 no mo to ca cb al nl ml tl vl gl wl)) ((p74 no mo to ca cb al nl ml tl vl gl wl)) r) : CallR Try.prog 74 [.own 0 1 no, .int .i64 ca, .int .i64 cb, .fn (.func 59) [] [.ptr ⟨1, 0, 0, 0⟩]] [[(0, (true, .cols no [.int .i64 to])), (1, (false, .cells [.loose ⟨2, 4, al, 0⟩ nl])), (2, (false, .cols ml [.str tl, .int .i64 vl, .int .i64 gl, .int .i64 wl]))]] 3 ((V74 no mo to ca cb al nl ml tl vl gl wl) r) ((J74 no mo to ca cb al nl ml tl vl gl wl) r) 400 ∧ ∃ F, Try.prog.funcs[74]? = some F ∧ F.body.isSome = true ∧ (F.name == "runtime.NumGoroutine") = false := by
  refine dec_calls (sy := true) (f := 74) (lo := 3) (hi := 400) (H := [[(0, (true, .cols no [.int .i64 to])), (1, (false, .cells [.loose ⟨2, 4, al, 0⟩ nl])), (2, (false, .cols ml [.str tl, .int .i64 vl, .int .i64 gl, .int .i64 wl]))]]) (args := [.own 0 1 no, .int .i64 ca, .int .i64 cb, .fn (.func 59) [] [.ptr ⟨1, 0, 0, 0⟩]]) Try.envOk Try.mixed noX_ok ((I74 no mo to ca cb al nl ml tl vl gl wl)) ((V74 no mo to ca cb al nl ml tl vl gl wl)) (J74 no mo to ca cb al nl ml tl vl gl wl) (fn := mkFn Try.f74) (ts := [0, 1, 2, 3, 8, 9]) (n := 400) rfl (by decide) (by simp) (names_of rfl) ?_ ?_ ?_ h
  · intro s; cases s <;> exact ⟨hd_ok _ _, by simp [I74], names_of rfl, Nat.le_of_ble_eq_true rfl⟩
  · intro Kst Kret x hS hR h
    exact Holds.eq (te74 cond Kst Kret no mo to ca cb al nl ml tl vl gl wl) (be74 no mo to ca cb al nl ml tl vl gl wl Kst Kret x hS hR h)
  · intro Kst Kret x hS hR s h
    cases s with
    | h0 x0 x1 => exact Holds.eq (t74_0 cond Kst Kret no mo to ca cb al nl ml tl vl gl wl x0 x1) (b74_0 no mo to ca cb al nl ml tl vl gl wl Kst Kret x hS hR x0 x1 h)
    | h1 x0 x1 x2 => exact Holds.eq (t74_1 cond Kst Kret no mo to ca cb al nl ml tl vl gl wl x0 x1 x2) (b74_1 no mo to ca cb al nl ml tl vl gl wl Kst Kret x hS hR x0 x1 x2 h)
noncomputable abbrev w74 {α : Type} (g : Nat → Nat → (Nat → Int) → Int → Int → Nat → Nat → Nat → (Nat → ByteArray) → (Nat → Int) → (Nat → Int) → (Nat → Int) → α) (x : (Nat × Nat × (Nat → Int) × Unit) × Int × Int × (((Nat × Nat × Nat × (Nat → ByteArray) × (Nat → Int) × (Nat → Int) × (Nat → Int) × Unit) × Unit) × Unit) × Unit) : α := g x.1.1 x.1.2.1 x.1.2.2.1 x.2.1 x.2.2.1 x.2.2.2.1.1.1.1 x.2.2.2.1.1.1.2.1 x.2.2.2.1.1.1.2.2.1 x.2.2.2.1.1.1.2.2.2.1 x.2.2.2.1.1.1.2.2.2.2.1 x.2.2.2.1.1.1.2.2.2.2.2.1 x.2.2.2.1.1.1.2.2.2.2.2.2.1
noncomputable def k74  : Con := ⟨74, [.one (.own [.int .i64]), .one (.plain (.int .i64)), .one (.plain (.int .i64)), .fnx 59 [(false, [.list [.str, .int .i64, .int .i64, .int .i64]])]], w74 (fun no mo to ca cb al nl ml tl vl gl wl => decide ((al + nl ≤ ml ∧ nl ≤ 8 ∧ no = nl ∧ ca = 0 ∧ cb = no) ∧ S.okT nl (fun j => vl (j + al)) (fun j => gl (j + al)) (fun j => wl (j + al)) = true ∧ S.idB no to = true)), w74 (fun no mo to ca cb al nl ml tl vl gl wl => (V74 no mo to ca cb al nl ml tl vl gl wl) (S.mkl no fun j => S.at' (S.ordL (fun x => wl (x.toNat + al)) no) j)), w74 (fun no mo to ca cb al nl ml tl vl gl wl => (N74 no mo to ca cb al nl ml tl vl gl wl) (S.mkl no fun j => S.at' (S.ordL (fun x => wl (x.toNat + al)) no) j)), w74 (fun no mo to ca cb al nl ml tl vl gl wl => (W74 no mo to ca cb al nl ml tl vl gl wl) (S.mkl no fun j => S.at' (S.ordL (fun x => wl (x.toNat + al)) no) j))⟩
theorem s74i (no mo : Nat) (to : Nat → Int) (ca cb : Int) (al nl ml : Nat) (tl : Nat → ByteArray) (vl gl wl : Nat → Int) (hp : (al + nl ≤ ml ∧ nl ≤ 8 ∧ no = nl ∧ ca = 0 ∧ cb = no) ∧ S.okT nl (fun j => vl (j + al)) (fun j => gl (j + al)) (fun j => wl (j + al)) = true ∧ S.idB no to = true) (i : Nat) (C : List Int) (hC : i + 1 + C.length = no) (hN : Comes (q74 no mo to ca cb al nl ml tl vl gl wl) (.h0 ((i : Int) + 1) (S.ordL (fun x => wl (x.toNat + al)) (i + 1) ++ C)) (S.ordL (fun x => wl (x.toNat + al)) no)) : ∀ (k : Nat) (A B : List Int), A.length = k → A ++ B = S.ordL (fun x => wl (x.toNat + al)) i → (∀ y ∈ B, wl ((i : Int).toNat + al) < wl (y.toNat + al)) → Comes (q74 no mo to ca cb al nl ml tl vl gl wl) (.h1 (i : Int) (k : Int) (A ++ (i : Int) :: (B ++ C))) (S.ordL (fun x => wl (x.toNat + al)) no) := by
  obtain ⟨⟨hp1, hp2, rfl, rfl, rfl⟩, hT, hI⟩ := hp
  obtain ⟨h8, hA⟩ := okT_at hT
  have hD : ∀ z : Nat, z < no → 1 ≤ wl (z + al) ∧ wl (z + al) ≤ 1000000 := fun z hz => by
    have h : 1 ≤ vl (z + al) ∧ vl (z + al) ≤ 1000000 ∧ 1 ≤ gl (z + al) ∧ gl (z + al) ≤ vl (z + al) ∧ gl (z + al) ≤ wl (z + al) ∧ wl (z + al) ≤ vl (z + al) := hA z hz
    omega
  clear hT hI hA
  intro k
  induction k with
  | zero =>
    intro A B hk hAB hB
    have e : A = [] := List.length_eq_zero_iff.1 hk
    subst e
    have e2 : S.ordL (fun x => wl (x.toNat + al)) (i + 1) = (i : Int) :: B := by
      rw [S.ordL, ← hAB]
      exact insL_split (fun y hy => by cases hy) hB
    rw [e2] at hN
    have hgt : decide (((0 : Nat) : Int) > 0) = false := rfl
    apply Comes.of
    rw [q74]
    rw [hgt]
    ((with_reducible refine goes_no ?_ ?_); focus (exact rfl))
    ((with_reducible refine goes_ok ?_ ?_); focus (rw [lim64]; exact decide_eq_true (by omega)))
    exact hN
  | succ k ih =>
    intro A B hk hAB hB
    obtain ⟨A', y, rfl⟩ := app_last (A := A) (fun e => by subst e; cases hk)
    have hk' : A'.length = k := by simp only [List.length_append, List.length_cons, List.length_nil] at hk; omega
    have hlen : (A' ++ [y] ++ B).length = i := by rw [hAB, ordL_len]
    have hki : k + 1 ≤ i := by simp only [List.length_append, List.length_cons, List.length_nil] at hlen; omega
    have hm : y ∈ S.ordL (fun x => wl (x.toNat + al)) i := by rw [← hAB]; exact List.mem_append_left _ (List.mem_append_right _ (List.mem_singleton.2 rfl))
    have hy := ordL_mem.1 hm
    have eL : A' ++ [y] ++ (i : Int) :: (B ++ C) = A' ++ y :: (i : Int) :: (B ++ C) := by rw [List.append_assoc]; rfl
    have hlenL : (A' ++ y :: (i : Int) :: (B ++ C)).length = no := by
      simp only [List.length_append, List.length_cons, List.length_nil] at hlen ⊢; omega
    have h1 : S.at' (A' ++ y :: (i : Int) :: (B ++ C)) (k + 1) = (i : Int) := by rw [at_app_ge (by omega), show k + 1 - A'.length = 1 by omega]; rfl
    have h2 : S.at' (A' ++ y :: (i : Int) :: (B ++ C)) k = y := by rw [at_app_ge (by omega), show k - A'.length = 0 by omega]; rfl
    have hsw := swap_list (A := A') (R := B ++ C) (x := (i : Int)) (y := y) (n := no) (j := k + 1) hlenL.symm (by omega)
    have e3 : (((k + 1 : Nat) : Int) - 1).toNat = k := by omega
    have e4 : ((k + 1 : Nat) : Int) - 1 = (k : Int) := by omega
    have hdy := hD y.toNat (by omega)
    have hdi := hD i (by omega)
    rw [show k + 1 - 1 = k by omega, h1, h2] at hsw
    rw [eL]
    apply Comes.of
    rw [q74]
    rw [e3]
    simp only [Int.toNat_natCast, h1, h2, hlenL]
    rw [hsw]
    ((with_reducible refine goes_ok ?_ ?_); focus (exact decide_eq_true (by omega)))
    ((with_reducible refine goes_ok ?_ ?_); focus (exact decide_eq_true (by omega)))
    ((with_reducible refine goes_ok ?_ ?_); focus (exact decide_eq_true (by omega)))
    ((with_reducible refine goes_ok ?_ ?_); focus (rw [lim64]; exact decide_eq_true (by omega)))
    ((with_reducible refine goes_ok ?_ ?_); focus (exact decide_eq_true (by omega)))
    ((with_reducible refine goes_ok ?_ ?_); focus (exact decide_eq_true (by omega)))
    ((with_reducible refine goes_ok ?_ ?_); focus (exact decide_eq_true (by omega)))
    ((with_reducible refine goes_ok ?_ ?_); focus (exact decide_eq_true (by omega)))
    ((with_reducible refine goes_ok ?_ ?_); focus (exact decide_eq_true (by omega)))
    ((with_reducible refine goes_ok ?_ ?_); focus (exact decide_eq_true (by omega)))
    ((with_reducible refine goes_ok ?_ ?_); focus (rw [lim64]; exact decide_eq_true (by omega)))
    by_cases hc : wl (i + al) < wl (y.toNat + al)
    · ((with_reducible refine goes_ok ?_ ?_); focus (exact decide_eq_true (by omega)))
      have := ih A' (y :: B) hk' (by rw [← hAB, List.append_assoc]; rfl) (fun z hz => by
        rcases List.mem_cons.1 hz with rfl | hz
        · exact hc
        · exact hB z hz)
      rw [e4]
      exact this
    · ((with_reducible refine goes_no ?_ ?_); focus (exact decide_eq_false (by omega)))
      ((with_reducible refine goes_ok ?_ ?_); focus (rw [lim64]; exact decide_eq_true (by omega)))
      have hasc := ordL_asc (d := (fun x => wl (x.toNat + al))) (k := i)
      rw [← hAB] at hasc
      have e2 : S.ordL (fun x => wl (x.toNat + al)) (i + 1) = A' ++ [y] ++ (i : Int) :: B := by
        rw [S.ordL, ← hAB]
        refine insL_split (fun z hz => ?_) hB
        show wl (z.toNat + al) ≤ wl (i + al)
        rcases List.mem_append.1 hz with hz | hz
        · have := (List.pairwise_append.1 (List.pairwise_append.1 hasc).1).2.2 z hz y (by simp)
          have h9 : wl (z.toNat + al) ≤ wl (y.toNat + al) := this
          omega
        · rw [List.mem_singleton.1 hz]; omega
      rw [e2, List.append_assoc, List.append_assoc, List.cons_append] at hN
      exact hN
theorem s74o (no mo : Nat) (to : Nat → Int) (ca cb : Int) (al nl ml : Nat) (tl : Nat → ByteArray) (vl gl wl : Nat → Int) (hp : (al + nl ≤ ml ∧ nl ≤ 8 ∧ no = nl ∧ ca = 0 ∧ cb = no) ∧ S.okT nl (fun j => vl (j + al)) (fun j => gl (j + al)) (fun j => wl (j + al)) = true ∧ S.idB no to = true) : ∀ (k i : Nat), 1 ≤ i → i + k = no → Comes (q74 no mo to ca cb al nl ml tl vl gl wl) (.h0 (i : Int) (S.ordL (fun x => wl (x.toNat + al)) i ++ S.iotL i k)) (S.ordL (fun x => wl (x.toNat + al)) no) := by
  have hp' := hp
  obtain ⟨⟨hp1, hp2, rfl, rfl, rfl⟩, hT, hI⟩ := hp
  intro k
  induction k with
  | zero =>
    intro i h1 hi
    obtain rfl : i = no := by omega
    apply Comes.of
    rw [q74]
    refine goes_no (decide_eq_false (by omega)) ?_
    exact goes_inr.mpr (by simp [S.iotL])
  | succ k ih =>
    intro i h1 hi
    apply Comes.of
    rw [q74]
    refine goes_ok (decide_eq_true (by omega)) ?_
    have hl := ordL_len (d := (fun x => wl (x.toNat + al))) (k := i)
    have := s74i no mo to 0 ↑no al no ml tl vl gl wl hp' i (S.iotL (i + 1) k) (by rw [iotL_len]; omega) (ih (i + 1) (by omega) (by omega)) i (S.ordL (fun x => wl (x.toNat + al)) i) [] hl (List.append_nil _) (fun y hy => by cases hy)
    exact this
theorem s74 (no mo : Nat) (to : Nat → Int) (ca cb : Int) (al nl ml : Nat) (tl : Nat → ByteArray) (vl gl wl : Nat → Int) (hp : (al + nl ≤ ml ∧ nl ≤ 8 ∧ no = nl ∧ ca = 0 ∧ cb = no) ∧ S.okT nl (fun j => vl (j + al)) (fun j => gl (j + al)) (fun j => wl (j + al)) = true ∧ S.idB no to = true) : Goes ((q74 no mo to ca cb al nl ml tl vl gl wl)) ((p74 no mo to ca cb al nl ml tl vl gl wl)) (S.mkl no fun j => S.at' (S.ordL (fun x => wl (x.toNat + al)) no) j) := by
  have hp' := hp
  rw [show (S.mkl no fun j => S.at' (S.ordL (fun x => wl (x.toNat + al)) no) j) = S.ordL (fun x => wl (x.toNat + al)) no from mkl_eq ordL_len.symm fun j hj => rfl]
  have hid := id_iot hp.2.2
  obtain ⟨⟨hp1, hp2, rfl, rfl, rfl⟩, hT, hI⟩ := hp
  unfold p74
  refine goes_ok (by decide) ?_
  rw [hid]
  rcases Nat.eq_zero_or_pos no with h0 | h0
  · subst h0
    apply Comes.of
    rw [q74]
    exact goes_no (decide_eq_false (by omega)) rfl
  · obtain ⟨k, hk⟩ : ∃ k, no = k + 1 := ⟨no - 1, by omega⟩
    have := s74o no mo to 0 ↑no al no ml tl vl gl wl hp' k 1 (Nat.le_refl _) (by omega)
    have e : S.iotL 0 no = S.ordL (fun x => wl (x.toNat + al)) 1 ++ S.iotL 1 k := by rw [hk]; rfl
    rw [e]
    exact this
theorem k74_ok  : k74.ok Try.prog := by
  intro x hx
  obtain ⟨⟨no, mo, to, _⟩, ca, cb, ⟨⟨⟨al, nl, ml, tl, vl, gl, wl, _⟩, _⟩, _⟩, _⟩ := x
  obtain ⟨h1, h2⟩ := a74 no mo to ca cb al nl ml tl vl gl wl (s74 no mo to ca cb al nl ml tl vl gl wl (of_dec hx rfl))
  exact ⟨⟨400, (by decide : 3 + 1 + 0 ≤ 400), h1⟩, h2⟩
noncomputable def k75  : Con := ⟨75, [.one (.own [.int .i64]), .one (.plain (.int .i64)), .one (.plain (.int .i64)), .one (.plain (.int .i64)), .fnx 59 [(false, [.list [.str, .int .i64, .int .i64, .int .i64]])]], fun _ => false, fun _ => .tup [], fun _ => [], fun _ _ => .dead⟩
theorem k75_ok  : k75.ok Try.prog := fun x hx => Bool.noConfusion hx
noncomputable def xI5 (test : Bool → Prop → Prop → Prop) : Ext := consX test [k74, k75]
theorem xI5_ok  : ExtOk Try.prog (xI5 cond) := consX_ok ⟨k74_ok, k75_ok, trivial⟩
theorem idB_mkl  {n : Nat} {f : Nat → Int} (h : S.idB n f = true) : S.idB n (fun j => S.at' (S.mkl n fun j => f j) j) = true := by
  have := of_decide_eq_true h
  exact decide_eq_true fun j hj => (at_mkl hj).trans (this j hj)
inductive St70 where
  | h0 (x0 : Int) (x1 : Int) (x2 : List Int)
  | h1 (x0 : Int) (x1 : List Int)
  | h2 (x0 : Int) (x1 : Int) (x2 : List Int)
abbrev Rt70  := List Int
noncomputable def V70 (no mo : Nat) (to : NI) (cn : Int) (al nl ml : Nat) (tl : Nat → ByteArray) (vl gl wl : NI) (r : Rt70) : PV := PV.tup []
noncomputable def N70 (no mo : Nat) (to : NI) (cn : Int) (al nl ml : Nat) (tl : Nat → ByteArray) (vl gl wl : NI) (r : Rt70) : List Blk := []
noncomputable def W70 (no mo : Nat) (to : Nat → Int) (cn : Int) (al nl ml : Nat) (tl : Nat → ByteArray) (vl gl wl : Nat → Int) (r : Rt70) : Nat → Blk := fun n => bif Nat.beq n 0 then Blk.cols (List.length r) [Col.int IntKind.i64 fun j => S.at' r j] else .dead
noncomputable def I70 (no mo : Nat) (to : NI) (cn : Int) (al nl ml : Nat) (tl : Nat → ByteArray) (vl gl wl : NI) : St70 → Hd
  | .h0 x0 x1 x2 => ⟨hd Try.f70 0, [PV.own (0) (1) (List.length x2), PV.int .i64 cn,
 PV.fn (Go.Fn.func (59)) [] [PV.ptr (PA.mk (1) (0) (0) (0))],
 PV.int .i64 (20 : Int), PV.int .i64 x0, PV.int .i64 x1], [[], [(0, (true, Blk.cols (List.length x2) [Col.int .i64 fun j => S.at' x2 j])), (1, (false, .cells [.loose ⟨2, 4, al, 0⟩ nl])), (2, (false, .cols ml [.str tl, .int .i64 vl, .int .i64 gl, .int .i64 wl]))]], 3⟩
  | .h1 x0 x1 => ⟨hd Try.f70 1, [PV.own (0) (1) (List.length x1), PV.int .i64 cn,
 PV.fn (Go.Fn.func (59)) [] [PV.ptr (PA.mk (1) (0) (0) (0))],
 PV.int .i64 x0, PV.unk, PV.unk], [[], [(0, (true, Blk.cols (List.length x1) [Col.int .i64 fun j => S.at' x1 j])), (1, (false, .cells [.loose ⟨2, 4, al, 0⟩ nl])), (2, (false, .cols ml [.str tl, .int .i64 vl, .int .i64 gl, .int .i64 wl]))]], 3⟩
  | .h2 x0 x1 x2 => ⟨hd Try.f70 2, [PV.own (0) (1) (List.length x2), PV.int .i64 cn,
 PV.fn (Go.Fn.func (59)) [] [PV.ptr (PA.mk (1) (0) (0) (0))],
 PV.int .i64 x0, PV.int .i64 (0 : Int), PV.int .i64 x1], [[], [(0, (true, Blk.cols (List.length x2) [Col.int .i64 fun j => S.at' x2 j])), (1, (false, .cells [.loose ⟨2, 4, al, 0⟩ nl])), (2, (false, .cols ml [.str tl, .int .i64 vl, .int .i64 gl, .int .i64 wl]))]], 3⟩
noncomputable def q70 (no mo : Nat) (to : NI) (cn : Int) (al nl ml : Nat) (tl : Nat → ByteArray) (vl gl wl : NI) : St70 → Option (St70 ⊕ Rt70) | .h0 x0 x1 x2 => bif (decide (x1 ≤ cn)) then (bif (decide (List.length x2 ≤ List.length x2)) then (bif (decide ((al + nl ≤ ml ∧ nl ≤ 8 ∧ List.length x2 = nl ∧ x0 = 0 ∧ x1 = (↑(List.length x2) : Int)) ∧ (S.okT nl (fun j => vl (j + al)) (fun j => gl (j + al)) fun j => wl (j + al)) = true ∧ (S.idB (List.length x2) fun j => S.at' x2 j) = true)) then (bif (lim .i64 (x1 + 20)) then (some (.inl (.h0 (x1) (x1 + 20) (S.mkl (List.length x2) fun j => S.at' (S.mkl (List.length x2) fun j => S.at' (S.ordL (fun (x : Int) => wl (Int.toNat x + al)) (List.length x2)) j) j)))) else (none)) else (none)) else (none)) else (bif (decide (List.length x2 ≤ List.length x2)) then (bif (decide ((al + nl ≤ ml ∧ nl ≤ 8 ∧ List.length x2 = nl ∧ x0 = 0 ∧ cn = (↑(List.length x2) : Int)) ∧ (S.okT nl (fun j => vl (j + al)) (fun j => gl (j + al)) fun j => wl (j + al)) = true ∧ (S.idB (List.length x2) fun j => S.at' x2 j) = true)) then (some (.inl (.h1 ((20 : Int)) (S.mkl (List.length x2) fun j => S.at' (S.mkl (List.length x2) fun j => S.at' (S.ordL (fun (x : Int) => wl (Int.toNat x + al)) (List.length x2)) j) j)))) else (none)) else (none)) | .h1 x0 x1 => bif (decide (x0 < cn)) then (bif (lim .i64 ((2 : Int) * x0)) then (some (.inl (.h2 (x0) ((2 : Int) * x0) (x1)))) else (none)) else (some (.inr (x1))) | .h2 x0 x1 x2 => bif (decide (x1 ≤ cn)) then (bif (lim .i64 ((0 : Int) + x0)) then (bif (decide (List.length x2 ≤ List.length x2)) then (none) else (none)) else (none)) else (bif (lim .i64 ((0 : Int) + x0)) then (bif (decide ((0 : Int) + x0 < cn)) then (bif (decide (List.length x2 ≤ List.length x2)) then (none) else (none)) else (bif (lim .i64 (x0 * 2)) then (some (.inl (.h1 (x0 * 2) (x2)))) else (none))) else (none))
end Go.Ev
