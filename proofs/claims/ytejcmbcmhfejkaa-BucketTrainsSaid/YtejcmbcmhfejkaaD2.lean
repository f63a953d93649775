/-
  Collisions.
-/
import Derived.Test.YtejcmbcmhfejkaaC2
namespace Go.Ev
open Go.Proofs
set_option linter.unusedVariables false
set_option linter.unusedSimpArgs false
set_option maxRecDepth 100000
noncomputable def xW (test : Bool → Prop → Prop → Prop) : Ext := consX test [k24, k25, k43, k45, k46]
theorem xW_ok : ExtOk Try.prog (xW cond) := consX_ok ⟨k24_ok, k25_ok, k43_ok, k45_ok, k46_ok, trivial⟩

end Go.Ev
namespace Go.Ev
open Go.Proofs
set_option linter.unusedVariables false
set_option linter.unusedSimpArgs false
set_option maxRecDepth 100000

namespace S
/-- How often does it hold at the first n places? -/
def cnt (p : Nat → Bool) : Nat → Int
  | 0 => 0
  | i + 1 => if p i = true then cnt p i + 1 else cnt p i
def sumN (f : Nat → Int) : Nat → Int
  | 0 => 0
  | i + 1 => sumN f i + f i
def colB (h o : Int) (B : Nat → Bool) (x : Int) : Bool := B (mdl (o - x) h).toNat
def colS (h : Int) (n : Nat) (t : Nat → Int) (g : Int) (m : Nat) (u : Nat → Int) (o : Int) : Int × Int := if filE h n t = 0 then (if filE g m u = 0 then (if h = g ∧ 0 ≤ o ∧ o < h then (cnt (fun i => inB t n i && colB h o (inB u m) i) h.toNat, 0) else (0, 6)) else (0, filE g m u)) else (0, filE h n t)
end S
theorem cnt_yes {p : Nat → Bool} {n : Nat} (h : p n = true) : S.cnt p (n + 1) = S.cnt p n + 1 := if_pos h
theorem cnt_no {p : Nat → Bool} {n : Nat} (h : p n = false) : S.cnt p (n + 1) = S.cnt p n := if_neg (by rw [h]; exact Bool.false_ne_true)
theorem cnt_congr {p q : Nat → Bool} : ∀ {n : Nat}, (∀ j, j < n → p j = q j) → S.cnt p n = S.cnt q n
  | 0, _ => rfl
  | n + 1, h => by simp only [S.cnt]; rw [h n (Nat.lt_succ_self n), cnt_congr fun j hj => h j (Nat.lt_succ_of_lt hj)]
theorem cnt_bnd {p : Nat → Bool} : ∀ {n : Nat}, 0 ≤ S.cnt p n ∧ S.cnt p n ≤ n
  | 0 => ⟨Int.le_refl _, Int.le_refl _⟩
  | n + 1 => by
    have ih := cnt_bnd (p := p) (n := n)
    simp only [S.cnt]; split <;> omega
theorem cnt_pos {B : Nat → Bool} {G : Int → Bool} : ∀ {n : Nat}, S.cnt (fun q => G (S.at' (S.posP B n) q)) (S.posP B n).length = S.cnt (fun x => B x && G (x : Int)) n
  | 0 => rfl
  | n + 1 => by
    have ih := cnt_pos (B := B) (G := G) (n := n)
    by_cases hB : B n = true
    · have e : S.posP B (n + 1) = S.snoc (S.posP B n) (n : Int) := if_pos hB
      have e2 : S.cnt (fun q => G (S.at' (S.snoc (S.posP B n) (n : Int)) q)) (S.posP B n).length = S.cnt (fun q => G (S.at' (S.posP B n) q)) (S.posP B n).length := cnt_congr fun j hj => by rw [at_snoc_lt hj]
      rw [e, snoc_len]
      by_cases hG : G (n : Int) = true
      · rw [cnt_yes (by show G _ = true; rw [at_snoc_eq]; exact hG), cnt_yes (by show (B n && G (n : Int)) = true; rw [hB, hG]; rfl), e2, ih]
      · rw [Bool.not_eq_true] at hG
        rw [cnt_no (by show G _ = false; rw [at_snoc_eq]; exact hG), cnt_no (by show (B n && G (n : Int)) = false; rw [hB, hG]; rfl), e2, ih]
    · have e : S.posP B (n + 1) = S.posP B n := if_neg hB
      rw [Bool.not_eq_true] at hB
      rw [e, cnt_no (by show (B n && G (n : Int)) = false; rw [hB]; rfl), ih]
theorem cnt_fil {h : Int} {n : Nat} {t : Nat → Int} {G : Int → Bool} (e : S.filE h n t = 0) : S.cnt (fun q => G (t q)) n = S.cnt (fun x => S.inB t n x && G (x : Int)) h.toNat := by
  rw [← cnt_pos, posP_fil e, mkl_len]
  exact cnt_congr fun j hj => by rw [at_mkl hj]
theorem cnt_sum {p : Nat → Bool} : ∀ {n : Nat}, S.cnt p n = S.sumN (fun i => if p i = true then 1 else 0) n
  | 0 => rfl
  | n + 1 => by simp only [S.cnt, S.sumN]; rw [cnt_sum]; split <;> omega
theorem sum_congr {f g : Nat → Int} : ∀ {n : Nat}, (∀ j, j < n → f j = g j) → S.sumN f n = S.sumN g n
  | 0, _ => rfl
  | n + 1, h => by simp only [S.sumN]; rw [h n (Nat.lt_succ_self n), sum_congr fun j hj => h j (Nat.lt_succ_of_lt hj)]
theorem sum_zero {f : Nat → Int} {n : Nat} (h : ∀ j, j < n → f j = 0) : S.sumN f n = 0 := by
  induction n with
  | zero => rfl
  | succ n ih => simp only [S.sumN]; rw [ih fun j hj => h j (Nat.lt_succ_of_lt hj), h n (Nat.lt_succ_self n)]; rfl
theorem sum_add {f g : Nat → Int} : ∀ {n : Nat}, S.sumN (fun i => f i + g i) n = S.sumN f n + S.sumN g n
  | 0 => rfl
  | n + 1 => by simp only [S.sumN]; rw [sum_add]; omega
theorem sum_swap {f : Nat → Nat → Int} {m : Nat} : ∀ {n : Nat}, S.sumN (fun i => S.sumN (f i) m) n = S.sumN (fun j => S.sumN (fun i => f i j) n) m
  | 0 => (sum_zero fun _ _ => rfl).symm
  | n + 1 => by simp only [S.sumN]; rw [sum_swap, ← sum_add]
theorem sum_one {a : Int} {s : Nat} : ∀ {n : Nat}, s < n → S.sumN (fun j => if s = j then a else 0) n = a
  | 0, h => absurd h (Nat.not_lt_zero s)
  | n + 1, h => by
    simp only [S.sumN]
    by_cases hs : s = n
    · subst hs
      rw [sum_zero fun j hj => if_neg (by omega), if_pos rfl]; omega
    · rw [sum_one (by omega), if_neg hs]; omega
/-- Counting over a permutation that is its own inverse. -/
theorem cnt_inv {A B : Nat → Bool} {n : Nat} {σ : Nat → Nat} (h1 : ∀ i, i < n → σ i < n) (h2 : ∀ i, i < n → σ (σ i) = i) : S.cnt (fun i => A i && B (σ i)) n = S.cnt (fun i => B i && A (σ i)) n := by
  have e1 : ∀ X Y : Nat → Bool, S.cnt (fun i => X i && Y (σ i)) n = S.sumN (fun i => S.sumN (fun j => if σ i = j then (if (X i && Y j) = true then 1 else 0) else 0) n) n := by
    intro X Y
    rw [cnt_sum]
    refine sum_congr fun i hi => ?_
    rw [sum_congr (g := fun j => if σ i = j then (if (X i && Y (σ i)) = true then 1 else 0) else 0) fun j hj => ?_, sum_one (h1 i hi)]
    split
    · rename_i e; rw [e]
    · rfl
  rw [e1 A B, e1 B A, sum_swap]
  refine sum_congr fun j hj => sum_congr fun i hi => ?_
  by_cases e : σ i = j
  · have e3 : σ j = i := e ▸ h2 i hi
    rw [if_pos e, if_pos e3, Bool.and_comm]
  · rw [if_neg e, if_neg (fun e2 => e (by rw [← e2]; exact h2 j hj))]
theorem mdl_inv {o x h : Int} (hx : 0 ≤ x ∧ x < h) : S.mdl (o - S.mdl (o - x) h) h = x := by
  rw [mdl_em (by omega), mdl_em (by omega), Int.sub_emod, Int.emod_emod, ← Int.sub_emod, show o - (o - x) = x by omega]
  exact Int.emod_eq_of_lt hx.1 hx.2
theorem mdl_one {o x h : Int} (ho : 0 ≤ o ∧ o < h) (hx : 0 ≤ x ∧ x < h) : S.mdl (o - x) h = Int.tmod (o - x + h) h := by
  rw [mdl_em (by omega), Int.tmod_eq_emod_of_nonneg (by omega), Int.add_emod_right]
/-- Exchanged it is the same. -/
theorem col_symm {h o : Int} {A B : Nat → Bool} (hh : 1 ≤ h) : S.cnt (fun i => A i && S.colB h o B i) h.toNat = S.cnt (fun i => B i && S.colB h o A i) h.toNat := by
  refine cnt_inv (σ := fun i => (S.mdl (o - (i : Int)) h).toNat) (fun i hi => ?_) (fun i hi => ?_)
  · have := mdl_ok (n := o - (i : Int)) (h := h) (by omega)
    show (S.mdl _ _).toNat < _
    omega
  · have h1 := mdl_ok (n := o - (i : Int)) (h := h) (by omega)
    show (S.mdl (o - (((S.mdl (o - (i : Int)) h).toNat : Nat) : Int)) h).toNat = i
    rw [Int.toNat_of_nonneg h1.1, mdl_inv (by omega)]
    exact Int.toNat_natCast i

end Go.Ev
namespace Go.Ev
open Go.Proofs
set_option linter.unusedVariables false
set_option linter.unusedSimpArgs false
set_option maxRecDepth 100000
inductive St33 where
  | h0 (x0 : Int) (x1 : Int) (x2 : List Bool)
abbrev Rt33 := Int × Int
noncomputable def V33 (hr : Int) (al nl ml : Nat) (tl : Nat → Int) (hg : Int) (am nm mm : Nat) (tm : Nat → Int) (o : Int) (r : Rt33) : PV := PV.tup [PV.int IntKind.i64 r.1, PV.int IntKind.i64 r.2]
noncomputable def N33 (hr : Int) (al nl ml : Nat) (tl : Nat → Int) (hg : Int) (am nm mm : Nat) (tm : Nat → Int) (o : Int) (r : Rt33) : List Blk := []
noncomputable def I33 (hr : Int) (al nl ml : Nat) (tl : Nat → Int) (hg : Int) (am nm mm : Nat) (tm : Nat → Int) (o : Int) : St33 → Hd
  | .h0 x0 x1 x2 => ⟨hd Try.f33 0, [PV.int IntKind.i64 o, PV.ptr (PA.mk (2) (0) (0) (0)),
 PV.int IntKind.i64 x0, PV.own (3) (1) (List.length x2),
 PV.loose (PA.mk (0) (1) al (0)) nl, PV.int IntKind.i64 (↑nl : Int),
 PV.int IntKind.i64 x1], [[(2, (true, Blk.cells [PV.int IntKind.i64 hr, PV.loose (PA.mk (0) (1) al (0)) nl])), (3, (true, Blk.cols (List.length x2) [Col.bool fun (j : Nat) => S.at' x2 j]))], [(0, (false, .cols ml [.int .i64 tl])), (1, (false, .cols mm [.int .i64 tm]))]], 4⟩
noncomputable def q33 (hr : Int) (al nl ml : Nat) (tl : Nat → Int) (hg : Int) (am nm mm : Nat) (tm : Nat → Int) (o : Int) : St33 → Option (St33 ⊕ Rt33)
  | .h0 x0 x1 x2 => bif (decide (x1 < (↑nl : Int)))
 then (bif (decide ((0 : Int) ≤ x1 ∧ x1 < (↑nl : Int)))
 then (bif (decide (Int.toNat x1 + al < ml))
 then (bif (lim IntKind.i64 (o - tl (Int.toNat x1 + al)))
 then (bif (decide (hr = (0 : Int)))
 then (none)
 else (bif (lim IntKind.i64 (Int.tmod (o - tl (Int.toNat x1 + al)) hr + hr))
 then (bif (decide
 ((0 : Int) ≤ Int.tmod (Int.tmod (o - tl (Int.toNat x1 + al)) hr + hr) hr ∧
 Int.tmod (Int.tmod (o - tl (Int.toNat x1 + al)) hr + hr) hr < (↑(List.length x2) : Int)))
 then (bif (decide (Int.toNat (Int.tmod (Int.tmod (o - tl (Int.toNat x1 + al)) hr + hr) hr) < List.length x2))
 then (bif (S.at' x2 (Int.toNat (Int.tmod (Int.tmod (o - tl (Int.toNat x1 + al)) hr + hr) hr)))
 then (bif (lim IntKind.i64 (x0 + (1 : Int)))
 then (bif (lim IntKind.i64 (x1 + (1 : Int)))
 then (some (.inl (.h0 (x0 + (1 : Int)) (x1 + (1 : Int)) (x2))))
 else (none))
 else (none))
 else (bif (lim IntKind.i64 (x1 + (1 : Int)))
 then (some (.inl (.h0 (x0) (x1 + (1 : Int)) (x2))))
 else (none)))
 else (none))
 else (none))
 else (none)))
 else (none))
 else (none))
 else (none))
 else (some (.inr (x0, (0 : Int))))
noncomputable def p33 (hr : Int) (al nl ml : Nat) (tl : Nat → Int) (hg : Int) (am nm mm : Nat) (tm : Nat → Int) (o : Int) : Option (St33 ⊕ Rt33) := bif (decide (al + nl ≤ ml ∧ nl ≤ 1000000))
 then (bif ((S.filE hr nl fun (j : Nat) => tl (j + al)) != (0 : Int))
 then (some (.inr ((0 : Int), S.filE hr nl fun (j : Nat) => tl (j + al))))
 else (bif (decide (am + nm ≤ mm ∧ nm ≤ 1000000))
 then (bif ((S.filE hg nm fun (j : Nat) => tm (j + am)) != (0 : Int))
 then (some (.inr ((0 : Int), S.filE hg nm fun (j : Nat) => tm (j + am))))
 else (bif (hr != hg)
 then (some (.inr ((0 : Int), (6 : Int))))
 else (bif (decide (o ≥ (0 : Int)))
 then (bif (decide (o < hr))
 then (bif (decide (am + nm ≤ mm ∧ nm ≤ 1000000 ∧ (S.filE hg nm fun (j : Nat) => tm (j + am)) = (0 : Int)))
 then (some (.inl (.h0 ((0 : Int)) ((0 : Int)) (S.mkl (Int.toNat hg) fun (j : Nat) => S.inB (fun (j : Nat) => tm (j + am)) nm j))))
 else (none))
 else (some (.inr ((0 : Int), (6 : Int)))))
 else (some (.inr ((0 : Int), (6 : Int)))))))
 else (none)))
 else (none)
noncomputable def Te33 (test : Bool → Prop → Prop → Prop) (Kst : KS) (Kret : KR) (hr : Int) (al nl ml : Nat) (tl : Nat → Int) (hg : Int) (am nm mm : Nat) (tm : Nat → Int) (o : Int) : Prop :=
  test (decide (al + nl ≤ ml ∧ nl ≤ 1000000))
 (test ((S.filE hr nl fun (j : Nat) => tl (j + al)) != (0 : Int))
 (Kret (PV.tup
 [PV.int IntKind.i64 (0 : Int), PV.int IntKind.i64 (S.filE hr nl fun (j : Nat) => tl (j + al))]) ([[(1, false, Blk.cols mm [Col.int IntKind.i64 tm]),
 (0, false, Blk.cols ml [Col.int IntKind.i64 tl])]]) (5))
 (test (decide (am + nm ≤ mm ∧ nm ≤ 1000000))
 (test ((S.filE hg nm fun (j : Nat) => tm (j + am)) != (0 : Int))
 (Kret (PV.tup
 [PV.int IntKind.i64 (0 : Int), PV.int IntKind.i64 (S.filE hg nm fun (j : Nat) => tm (j + am))]) ([[(1, false, Blk.cols mm [Col.int IntKind.i64 tm]),
 (0, false, Blk.cols ml [Col.int IntKind.i64 tl])]]) (6))
 (test (hr != hg)
 (Kret (PV.tup [PV.int IntKind.i64 (0 : Int), PV.int IntKind.i64 (6 : Int)]) ([[(1, false, Blk.cols mm [Col.int IntKind.i64 tm]),
 (0, false, Blk.cols ml [Col.int IntKind.i64 tl])]]) (6))
 (test (decide (o ≥ (0 : Int)))
 (test (decide (o < hr))
 (test (decide (am + nm ≤ mm ∧ nm ≤ 1000000 ∧ (S.filE hg nm fun (j : Nat) => tm (j + am)) = (0 : Int)))
 (Kst (hd Try.f33 0) ([PV.int IntKind.i64 o, PV.ptr (PA.mk (2) (0) (0) (0)),
 PV.int IntKind.i64 (0 : Int),
 PV.own (7) (1)
 (List.length (S.mkl (Int.toNat hg) fun (j : Nat) => S.inB (fun (j : Nat) => tm (j + am)) nm j)),
 PV.loose (PA.mk (0) (1) al (0)) nl, PV.int IntKind.i64 (↑nl : Int),
 PV.int IntKind.i64 (0 : Int)]) ([[(1, false, Blk.cols mm [Col.int IntKind.i64 tm]),
 (0, false, Blk.cols ml [Col.int IntKind.i64 tl]),
 (7, true,
 Blk.cols
 (List.length (S.mkl (Int.toNat hg) fun (j : Nat) => S.inB (fun (j : Nat) => tm (j + am)) nm j))
 [Col.bool fun (j : Nat) =>
 S.at' (S.mkl (Int.toNat hg) fun (j : Nat) => S.inB (fun (j : Nat) => tm (j + am)) nm j)
 j]),
 (2, true,
 Blk.cells
 [PV.int IntKind.i64 hr, PV.loose (PA.mk (0) (1) al (0)) nl])]]) (8))
 (False))
 (Kret (PV.tup [PV.int IntKind.i64 (0 : Int), PV.int IntKind.i64 (6 : Int)]) ([[(1, false, Blk.cols mm [Col.int IntKind.i64 tm]),
 (0, false, Blk.cols ml [Col.int IntKind.i64 tl])]]) (6)))
 (Kret (PV.tup [PV.int IntKind.i64 (0 : Int), PV.int IntKind.i64 (6 : Int)]) ([[(1, false, Blk.cols mm [Col.int IntKind.i64 tm]),
 (0, false, Blk.cols ml [Col.int IntKind.i64 tl])]]) (6)))))
 (False)))
 (False)
set_option maxRecDepth 100000 in
theorem te33 (test : Bool → Prop → Prop → Prop) (Kst : KS) (Kret : KR) (hr : Int) (al nl ml : Nat) (tl : Nat → Int) (hg : Int) (am nm mm : Nat) (tm : Nat → Int) (o : Int) : run test Try.env true (xW test) true 400 ⟨33, [.cd (mkFn Try.f33).body], argT 0 [.agg [.int .i64 hr, .loose ⟨0, 1, al, 0⟩ nl], .agg [.int .i64 hg, .loose ⟨1, 1, am, 0⟩ nm], .int .i64 o], [[], [(0, (false, .cols ml [.int .i64 tl])), (1, (false, .cols mm [.int .i64 tm]))]], 2⟩ (proj 2 [2, 3, 10, 11, 39, 40, 41] Kst Kret) =
  Te33 test Kst Kret hr al nl ml tl hg am nm mm tm o := by kernel_rfl
noncomputable def T33_0 (test : Bool → Prop → Prop → Prop) (Kst : KS) (Kret : KR) (hr : Int) (al nl ml : Nat) (tl : Nat → Int) (hg : Int) (am nm mm : Nat) (tm : Nat → Int) (o : Int) (x0 : Int) (x1 : Int) (x2 : List Bool) : Prop :=
  test (decide (x1 < (↑nl : Int)))
 (test (decide ((0 : Int) ≤ x1 ∧ x1 < (↑nl : Int)))
 (test (decide (Int.toNat x1 + al < ml))
 (test (lim IntKind.i64 (o - tl (Int.toNat x1 + al)))
 (test (decide (hr = (0 : Int)))
 (False)
 (test (lim IntKind.i64 (Int.tmod (o - tl (Int.toNat x1 + al)) hr + hr))
 (test (decide (hr = (0 : Int)))
 (False)
 (test (decide
 ((0 : Int) ≤ Int.tmod (Int.tmod (o - tl (Int.toNat x1 + al)) hr + hr) hr ∧
 Int.tmod (Int.tmod (o - tl (Int.toNat x1 + al)) hr + hr) hr < (↑(List.length x2) : Int)))
 (test (decide (Int.toNat (Int.tmod (Int.tmod (o - tl (Int.toNat x1 + al)) hr + hr) hr) < List.length x2))
 (test (S.at' x2 (Int.toNat (Int.tmod (Int.tmod (o - tl (Int.toNat x1 + al)) hr + hr) hr)))
 (test (lim IntKind.i64 (x0 + (1 : Int)))
 (test (lim IntKind.i64 (x1 + (1 : Int)))
 (Kst (hd Try.f33 0) ([PV.int IntKind.i64 o, PV.ptr (PA.mk (2) (0) (0) (0)),
 PV.int IntKind.i64 (x0 + (1 : Int)), PV.own (3) (1) (List.length x2),
 PV.loose (PA.mk (0) (1) al (0)) nl, PV.int IntKind.i64 (↑nl : Int),
 PV.int IntKind.i64 (x1 + (1 : Int))]) ([[(1, false, Blk.cols mm [Col.int IntKind.i64 tm]),
 (0, false, Blk.cols ml [Col.int IntKind.i64 tl]),
 (3, true, Blk.cols (List.length x2) [Col.bool fun (j : Nat) => S.at' x2 j]),
 (2, true,
 Blk.cells
 [PV.int IntKind.i64 hr, PV.loose (PA.mk (0) (1) al (0)) nl])]]) (4))
 (False))
 (False))
 (test (lim IntKind.i64 (x1 + (1 : Int)))
 (Kst (hd Try.f33 0) ([PV.int IntKind.i64 o, PV.ptr (PA.mk (2) (0) (0) (0)),
 PV.int IntKind.i64 x0, PV.own (3) (1) (List.length x2),
 PV.loose (PA.mk (0) (1) al (0)) nl, PV.int IntKind.i64 (↑nl : Int),
 PV.int IntKind.i64 (x1 + (1 : Int))]) ([[(1, false, Blk.cols mm [Col.int IntKind.i64 tm]),
 (0, false, Blk.cols ml [Col.int IntKind.i64 tl]),
 (3, true, Blk.cols (List.length x2) [Col.bool fun (j : Nat) => S.at' x2 j]),
 (2, true,
 Blk.cells
 [PV.int IntKind.i64 hr, PV.loose (PA.mk (0) (1) al (0)) nl])]]) (4))
 (False)))
 (False))
 (False)))
 (False)))
 (False))
 (False))
 (False))
 (Kret (PV.tup [PV.int IntKind.i64 x0, PV.int IntKind.i64 (0 : Int)]) ([[(1, false, Blk.cols mm [Col.int IntKind.i64 tm]),
 (0, false, Blk.cols ml [Col.int IntKind.i64 tl])]]) (4))
set_option maxRecDepth 100000 in
theorem t33_0 (test : Bool → Prop → Prop → Prop) (Kst : KS) (Kret : KR) (hr : Int) (al nl ml : Nat) (tl : Nat → Int) (hg : Int) (am nm mm : Nat) (tm : Nat → Int) (o : Int) (x0 : Int) (x1 : Int) (x2 : List Bool) : run test Try.env true (xW test) true 400 ⟨33, hd Try.f33 0, zipT [2, 3, 10, 11, 39, 40, 41] [PV.int IntKind.i64 o, PV.ptr (PA.mk (2) (0) (0) (0)),
 PV.int IntKind.i64 x0, PV.own (3) (1) (List.length x2),
 PV.loose (PA.mk (0) (1) al (0)) nl, PV.int IntKind.i64 (↑nl : Int),
 PV.int IntKind.i64 x1], [[(2, (true, Blk.cells [PV.int IntKind.i64 hr, PV.loose (PA.mk (0) (1) al (0)) nl])), (3, (true, Blk.cols (List.length x2) [Col.bool fun (j : Nat) => S.at' x2 j]))], [(0, (false, .cols ml [.int .i64 tl])), (1, (false, .cols mm [.int .i64 tm]))]], 4⟩ (proj 2 [2, 3, 10, 11, 39, 40, 41] Kst Kret) =
  T33_0 test Kst Kret hr al nl ml tl hg am nm mm tm o x0 x1 x2 := by kernel_rfl
attribute [local irreducible] Int.subNatNat in
set_option maxRecDepth 100000 in
theorem be33 (hr : Int) (al nl ml : Nat) (tl : Nat → Int) (hg : Int) (am nm mm : Nat) (tm : Nat → Int) (o : Int) (Kst : KS) (Kret : KR) (x : St33 ⊕ Rt33) (hS : HS 2 400 ((I33 hr al nl ml tl hg am nm mm tm o)) Kst x) (hR : HR 2 400 ((V33 hr al nl ml tl hg am nm mm tm o)) (fun r => [newL (2 + 1) ((N33 hr al nl ml tl hg am nm mm tm o) r) ++ [(0, (false, .cols ml [.int .i64 tl])), (1, (false, .cols mm [.int .i64 tm]))]]) Kret x) (h : (bif (decide (al + nl ≤ ml ∧ nl ≤ 1000000))
 then (bif ((S.filE hr nl fun (j : Nat) => tl (j + al)) != (0 : Int))
 then (some (.inr ((0 : Int), S.filE hr nl fun (j : Nat) => tl (j + al))))
 else (bif (decide (am + nm ≤ mm ∧ nm ≤ 1000000))
 then (bif ((S.filE hg nm fun (j : Nat) => tm (j + am)) != (0 : Int))
 then (some (.inr ((0 : Int), S.filE hg nm fun (j : Nat) => tm (j + am))))
 else (bif (hr != hg)
 then (some (.inr ((0 : Int), (6 : Int))))
 else (bif (decide (o ≥ (0 : Int)))
 then (bif (decide (o < hr))
 then (bif (decide (am + nm ≤ mm ∧ nm ≤ 1000000 ∧ (S.filE hg nm fun (j : Nat) => tm (j + am)) = (0 : Int)))
 then (some (.inl (.h0 ((0 : Int)) ((0 : Int)) (S.mkl (Int.toNat hg) fun (j : Nat) => S.inB (fun (j : Nat) => tm (j + am)) nm j))))
 else (none))
 else (some (.inr ((0 : Int), (6 : Int)))))
 else (some (.inr ((0 : Int), (6 : Int)))))))
 else (none)))
 else (none) : Option (St33 ⊕ Rt33)) = some x) : Te33 cond Kst Kret hr al nl ml tl hg am nm mm tm o := by
  unfold Te33
  exact bif_split h
   (fun c0 h => bif_split h
   (fun c1 h => ret_at hR _ h (fun n => n) rfl rfl rfl (rn_tup ⟨(rn_int rfl), (rn_int rfl), trivial⟩) rfl (entl_bor (use_lo rfl) rfl rfl (entl_bor (use_lo rfl) rfl rfl entl_nil)))
   (fun c1 h => bif_split h
   (fun c2 h => bif_split h
   (fun c3 h => ret_at hR _ h (fun n => n) rfl rfl rfl (rn_tup ⟨(rn_int rfl), (rn_int rfl), trivial⟩) rfl (entl_bor (use_lo rfl) rfl rfl (entl_bor (use_lo rfl) rfl rfl entl_nil)))
   (fun c3 h => bif_split h
   (fun c4 h => ret_at hR _ h (fun n => n) rfl rfl rfl (rn_tup ⟨(rn_int rfl), (rn_int rfl), trivial⟩) rfl (entl_bor (use_lo rfl) rfl rfl (entl_bor (use_lo rfl) rfl rfl entl_nil)))
   (fun c4 h => bif_split h
   (fun c5 h => bif_split h
   (fun c6 h => bif_split h
   (fun c7 h => stop_at hS _ h (fun n => bif Nat.beq n 2 then 2 else bif Nat.beq n 3 then 7 else n) rfl rfl rfl ⟨(rn_int rfl), ⟨(rn_ptr (use_own rfl) rfl rfl), ⟨(rn_int rfl), ⟨(rn_own (use_own rfl) rfl rfl), ⟨(rn_loose (use_lo rfl) rfl rfl rfl), ⟨(rn_int rfl), ⟨(rn_int rfl), trivial⟩⟩⟩⟩⟩⟩⟩ rfl (entl_b (use_own rfl) rfl (by simp) (rb_cells ⟨(rn_int rfl), (rn_loose (use_lo rfl) rfl rfl rfl), trivial⟩) (entl_new (use_own rfl) rfl (Nat.le_of_eq rfl) (rcs_bool (fun _ _ => rfl) rcs_nil) (entl_bor (use_lo rfl) rfl rfl (entl_bor (use_lo rfl) rfl rfl entl_nil)))))
   (fun c7 h => no_some h))
   (fun c6 h => ret_at hR _ h (fun n => n) rfl rfl rfl (rn_tup ⟨(rn_int rfl), (rn_int rfl), trivial⟩) rfl (entl_bor (use_lo rfl) rfl rfl (entl_bor (use_lo rfl) rfl rfl entl_nil))))
   (fun c5 h => ret_at hR _ h (fun n => n) rfl rfl rfl (rn_tup ⟨(rn_int rfl), (rn_int rfl), trivial⟩) rfl (entl_bor (use_lo rfl) rfl rfl (entl_bor (use_lo rfl) rfl rfl entl_nil))))))
   (fun c2 h => no_some h)))
   (fun c0 h => no_some h)
attribute [local irreducible] Int.subNatNat in
set_option maxRecDepth 100000 in
theorem b33_0 (hr : Int) (al nl ml : Nat) (tl : Nat → Int) (hg : Int) (am nm mm : Nat) (tm : Nat → Int) (o : Int) (Kst : KS) (Kret : KR) (x : St33 ⊕ Rt33) (hS : HS 2 400 ((I33 hr al nl ml tl hg am nm mm tm o)) Kst x) (hR : HR 2 400 ((V33 hr al nl ml tl hg am nm mm tm o)) (fun r => [newL (2 + 1) ((N33 hr al nl ml tl hg am nm mm tm o) r) ++ [(0, (false, .cols ml [.int .i64 tl])), (1, (false, .cols mm [.int .i64 tm]))]]) Kret x) (x0 : Int) (x1 : Int) (x2 : List Bool) (h : (bif (decide (x1 < (↑nl : Int)))
 then (bif (decide ((0 : Int) ≤ x1 ∧ x1 < (↑nl : Int)))
 then (bif (decide (Int.toNat x1 + al < ml))
 then (bif (lim IntKind.i64 (o - tl (Int.toNat x1 + al)))
 then (bif (decide (hr = (0 : Int)))
 then (none)
 else (bif (lim IntKind.i64 (Int.tmod (o - tl (Int.toNat x1 + al)) hr + hr))
 then (bif (decide
 ((0 : Int) ≤ Int.tmod (Int.tmod (o - tl (Int.toNat x1 + al)) hr + hr) hr ∧
 Int.tmod (Int.tmod (o - tl (Int.toNat x1 + al)) hr + hr) hr < (↑(List.length x2) : Int)))
 then (bif (decide (Int.toNat (Int.tmod (Int.tmod (o - tl (Int.toNat x1 + al)) hr + hr) hr) < List.length x2))
 then (bif (S.at' x2 (Int.toNat (Int.tmod (Int.tmod (o - tl (Int.toNat x1 + al)) hr + hr) hr)))
 then (bif (lim IntKind.i64 (x0 + (1 : Int)))
 then (bif (lim IntKind.i64 (x1 + (1 : Int)))
 then (some (.inl (.h0 (x0 + (1 : Int)) (x1 + (1 : Int)) (x2))))
 else (none))
 else (none))
 else (bif (lim IntKind.i64 (x1 + (1 : Int)))
 then (some (.inl (.h0 (x0) (x1 + (1 : Int)) (x2))))
 else (none)))
 else (none))
 else (none))
 else (none)))
 else (none))
 else (none))
 else (none))
 else (some (.inr (x0, (0 : Int)))) : Option (St33 ⊕ Rt33)) = some x) : T33_0 cond Kst Kret hr al nl ml tl hg am nm mm tm o x0 x1 x2 := by
  unfold T33_0
  exact bif_split h
   (fun c0 h => bif_split h
   (fun c1 h => bif_split h
   (fun c2 h => bif_split h
   (fun c3 h => bif_split h
   (fun c4 h => no_some h)
   (fun c4 h => bif_split h
   (fun c5 h => cond_no c4 (bif_split h
   (fun c6 h => bif_split h
   (fun c7 h => bif_split h
   (fun c8 h => bif_split h
   (fun c9 h => bif_split h
   (fun c10 h => stop_at hS _ h (fun n => bif Nat.beq n 2 then 2 else bif Nat.beq n 3 then 3 else n) rfl rfl rfl ⟨(rn_int rfl), ⟨(rn_ptr (use_own rfl) rfl rfl), ⟨(rn_int rfl), ⟨(rn_own (use_own rfl) rfl rfl), ⟨(rn_loose (use_lo rfl) rfl rfl rfl), ⟨(rn_int rfl), ⟨(rn_int rfl), trivial⟩⟩⟩⟩⟩⟩⟩ rfl (entl_b (use_own rfl) rfl (by simp) (rb_cells ⟨(rn_int rfl), (rn_loose (use_lo rfl) rfl rfl rfl), trivial⟩) (entl_new (use_own rfl) rfl (Nat.le_of_eq rfl) (rcs_bool (fun _ _ => rfl) rcs_nil) (entl_bor (use_lo rfl) rfl rfl (entl_bor (use_lo rfl) rfl rfl entl_nil)))))
   (fun c10 h => no_some h))
   (fun c9 h => no_some h))
   (fun c8 h => bif_split h
   (fun c9 h => stop_at hS _ h (fun n => bif Nat.beq n 2 then 2 else bif Nat.beq n 3 then 3 else n) rfl rfl rfl ⟨(rn_int rfl), ⟨(rn_ptr (use_own rfl) rfl rfl), ⟨(rn_int rfl), ⟨(rn_own (use_own rfl) rfl rfl), ⟨(rn_loose (use_lo rfl) rfl rfl rfl), ⟨(rn_int rfl), ⟨(rn_int rfl), trivial⟩⟩⟩⟩⟩⟩⟩ rfl (entl_b (use_own rfl) rfl (by simp) (rb_cells ⟨(rn_int rfl), (rn_loose (use_lo rfl) rfl rfl rfl), trivial⟩) (entl_new (use_own rfl) rfl (Nat.le_of_eq rfl) (rcs_bool (fun _ _ => rfl) rcs_nil) (entl_bor (use_lo rfl) rfl rfl (entl_bor (use_lo rfl) rfl rfl entl_nil)))))
   (fun c9 h => no_some h)))
   (fun c7 h => no_some h))
   (fun c6 h => no_some h)))
   (fun c5 h => no_some h)))
   (fun c3 h => no_some h))
   (fun c2 h => no_some h))
   (fun c1 h => no_some h))
   (fun c0 h => ret_at hR _ h (fun n => n) rfl rfl rfl (rn_tup ⟨(rn_int rfl), (rn_int rfl), trivial⟩) rfl (entl_bor (use_lo rfl) rfl rfl (entl_bor (use_lo rfl) rfl rfl entl_nil)))
theorem a33 (hr : Int) (al nl ml : Nat) (tl : Nat → Int) (hg : Int) (am nm mm : Nat) (tm : Nat → Int) (o : Int) {r : Rt33} (h : Goes ((q33 hr al nl ml tl hg am nm mm tm o)) ((p33 hr al nl ml tl hg am nm mm tm o)) r) : CallR Try.prog 33 [.agg [.int .i64 hr, .loose ⟨0, 1, al, 0⟩ nl], .agg [.int .i64 hg, .loose ⟨1, 1, am, 0⟩ nm], .int .i64 o] [[(0, (false, .cols ml [.int .i64 tl])), (1, (false, .cols mm [.int .i64 tm]))]] 2 ((V33 hr al nl ml tl hg am nm mm tm o) r) ((fun r => [newL (2 + 1) ((N33 hr al nl ml tl hg am nm mm tm o) r) ++ [(0, (false, .cols ml [.int .i64 tl])), (1, (false, .cols mm [.int .i64 tm]))]]) r) 400 ∧ ∃ F, Try.prog.funcs[33]? = some F ∧ F.body.isSome = true ∧ (F.name == "runtime.NumGoroutine") = false := by
  refine dec_calls (f := 33) (lo := 2) (hi := 400) (H := [[(0, (false, .cols ml [.int .i64 tl])), (1, (false, .cols mm [.int .i64 tm]))]]) (args := [.agg [.int .i64 hr, .loose ⟨0, 1, al, 0⟩ nl], .agg [.int .i64 hg, .loose ⟨1, 1, am, 0⟩ nm], .int .i64 o]) Try.envOk Try.mixed xW_ok ((I33 hr al nl ml tl hg am nm mm tm o)) ((V33 hr al nl ml tl hg am nm mm tm o)) (fun r => [newL (2 + 1) ((N33 hr al nl ml tl hg am nm mm tm o) r) ++ [(0, (false, .cols ml [.int .i64 tl])), (1, (false, .cols mm [.int .i64 tm]))]]) (fn := mkFn Try.f33) (ts := [2, 3, 10, 11, 39, 40, 41]) (n := 400) rfl (by decide) (by simp) (names_of rfl) ?_ ?_ ?_ h
  · intro s; cases s <;> exact ⟨hd_ok _ _, by simp [I33], names_of rfl, Nat.le_of_ble_eq_true rfl⟩
  · intro Kst Kret x hS hR h
    exact Holds.eq (te33 cond Kst Kret hr al nl ml tl hg am nm mm tm o) (be33 hr al nl ml tl hg am nm mm tm o Kst Kret x hS hR h)
  · intro Kst Kret x hS hR s h
    cases s with
    | h0 x0 x1 x2 => exact Holds.eq (t33_0 cond Kst Kret hr al nl ml tl hg am nm mm tm o x0 x1 x2) (b33_0 hr al nl ml tl hg am nm mm tm o Kst Kret x hS hR x0 x1 x2 h)
noncomputable def k33 : Con := ⟨33, [.agg [.plain (.int .i64), .list [.int .i64]], .agg [.plain (.int .i64), .list [.int .i64]], .one (.plain (.int .i64))], fun (x : (Int × (Nat × Nat × Nat × (Nat → Int) × Unit) × Unit) × (Int × (Nat × Nat × Nat × (Nat → Int) × Unit) × Unit) × Int × Unit) => (fun (hr : Int) (al nl ml : Nat) (tl : Nat → Int) (hg : Int) (am nm mm : Nat) (tm : Nat → Int) (o : Int) => decide (al + nl ≤ ml ∧ nl ≤ 1000000 ∧ am + nm ≤ mm ∧ nm ≤ 1000000)) x.1.1 x.1.2.1.1 x.1.2.1.2.1 x.1.2.1.2.2.1 x.1.2.1.2.2.2.1 x.2.1.1 x.2.1.2.1.1 x.2.1.2.1.2.1 x.2.1.2.1.2.2.1 x.2.1.2.1.2.2.2.1 x.2.2.1, fun (x : (Int × (Nat × Nat × Nat × (Nat → Int) × Unit) × Unit) × (Int × (Nat × Nat × Nat × (Nat → Int) × Unit) × Unit) × Int × Unit) => (fun (hr : Int) (al nl ml : Nat) (tl : Nat → Int) (hg : Int) (am nm mm : Nat) (tm : Nat → Int) (o : Int) => (V33 hr al nl ml tl hg am nm mm tm o) (S.colS hr nl (fun j => tl (j + al)) hg nm (fun j => tm (j + am)) o)) x.1.1 x.1.2.1.1 x.1.2.1.2.1 x.1.2.1.2.2.1 x.1.2.1.2.2.2.1 x.2.1.1 x.2.1.2.1.1 x.2.1.2.1.2.1 x.2.1.2.1.2.2.1 x.2.1.2.1.2.2.2.1 x.2.2.1, fun (x : (Int × (Nat × Nat × Nat × (Nat → Int) × Unit) × Unit) × (Int × (Nat × Nat × Nat × (Nat → Int) × Unit) × Unit) × Int × Unit) => (fun (hr : Int) (al nl ml : Nat) (tl : Nat → Int) (hg : Int) (am nm mm : Nat) (tm : Nat → Int) (o : Int) => (N33 hr al nl ml tl hg am nm mm tm o) (S.colS hr nl (fun j => tl (j + al)) hg nm (fun j => tm (j + am)) o)) x.1.1 x.1.2.1.1 x.1.2.1.2.1 x.1.2.1.2.2.1 x.1.2.1.2.2.2.1 x.2.1.1 x.2.1.2.1.1 x.2.1.2.1.2.1 x.2.1.2.1.2.2.1 x.2.1.2.1.2.2.2.1 x.2.2.1, fun _ _ => .dead⟩
theorem s33' (hr : Int) (al nl ml : Nat) (tl : Nat → Int) (hg : Int) (am nm mm : Nat) (tm : Nat → Int) (o : Int) (hp : al + nl ≤ ml ∧ nl ≤ 1000000 ∧ S.filE hr nl (fun j => tl (j + al)) = 0 ∧ S.filE hg nm (fun j => tm (j + am)) = 0 ∧ hr = hg ∧ 0 ≤ o ∧ o < hr) : ∀ (k i : Nat) (c : Int) (M : List Bool), i + k = nl → Holds (c = S.cnt (fun q => S.colB hr o (S.inB (fun j => tm (j + am)) nm) (tl (q + al))) i) → Holds (M = S.mkl hg.toNat fun j => S.inB (fun j => tm (j + am)) nm j) → Comes (q33 hr al nl ml tl hg am nm mm tm o) (.h0 c (i : Int) M) (((S.cnt (fun q => S.colB hr o (S.inB (fun j => tm (j + am)) nm) (tl (q + al))) nl, 0) : Int × Int)) := by
  obtain ⟨hp1, hp2, hp3, hp4, hp5, hp6, hp7⟩ := hp
  obtain ⟨v1, v2, v3, v4⟩ := fil_ok hp3
  intro k
  induction k with
  | zero =>
    intro i c M hi ec eM
    have hM : M.length = hr.toNat := by rw [eM.get, hp5]; exact mkl_len
    have hc := cnt_bnd (p := fun q => S.colB hr o (S.inB (fun j => tm (j + am)) nm) (tl (q + al))) (n := i)
    rw [← ec.get] at hc
    apply Comes.of
    show Goes _ _ _
    (first | rw [q33] | unfold q33)
    repeat' first
      | with_reducible refine goes_if (fun h => ?_) (fun h => ?_) <;> (try simp only [lim64, imp_false, decide_eq_true_eq, decide_eq_false_iff_not, Int.toNat_natCast, toNat_pred, toNat_succ, Option.getD_some, Option.getD_none, Bool.not_eq_true', Bool.not_eq_false', Bool.and_eq_true, Bool.or_eq_true, Bool.and_eq_false_iff, Bool.or_eq_false_iff, bne_iff_ne, beq_iff_eq, bne_eq_false_iff_eq, beq_eq_false_iff_ne, ne_eq, not_and, Int.not_le, Int.not_lt, ge_iff_le, gt_iff_lt, Nat.not_lt, Nat.not_le, Bool.not_eq_true, Bool.not_eq_false, Bool.true_eq_false, Bool.false_eq_true, not_false_eq_true, not_true_eq_false] at h)
      | exact goes_none.mpr (by omega)
    all_goals first | (exfalso; omega) | (obtain rfl : nl = i := (by omega);  (rw [ec.get]; exact goes_inr.mpr rfl))
  | succ k ih =>
    intro i c M hi ec eM
    have hM : M.length = hr.toNat := by rw [eM.get, hp5]; exact mkl_len
    have hc := cnt_bnd (p := fun q => S.colB hr o (S.inB (fun j => tm (j + am)) nm) (tl (q + al))) (n := i)
    rw [← ec.get] at hc
    have b1 := v3 i (by omega)
    have htm := tmod_lt (n := o - tl (i + al)) (h := hr) (by omega)
    have hmd := mdl_ok (n := o - tl (i + al)) (h := hr) (by omega)
    have e1 : S.colB hr o (S.inB (fun j => tm (j + am)) nm) (tl (i + al)) = S.at' M (Int.tmod (Int.tmod (o - tl (i + al)) hr + hr) hr).toNat := by
      unfold S.mdl at hmd
      rw [eM.get, at_mkl (by omega)]; rfl
    unfold S.mdl at hmd
    apply Comes.of
    show Goes _ _ _
    (first | rw [q33] | unfold q33)
    repeat' first
      | with_reducible refine goes_if (fun h => ?_) (fun h => ?_) <;> (try simp only [lim64, imp_false, decide_eq_true_eq, decide_eq_false_iff_not, Int.toNat_natCast, toNat_pred, toNat_succ, Option.getD_some, Option.getD_none, Bool.not_eq_true', Bool.not_eq_false', Bool.and_eq_true, Bool.or_eq_true, Bool.and_eq_false_iff, Bool.or_eq_false_iff, bne_iff_ne, beq_iff_eq, bne_eq_false_iff_eq, beq_eq_false_iff_ne, ne_eq, not_and, Int.not_le, Int.not_lt, ge_iff_le, gt_iff_lt, Nat.not_lt, Nat.not_le, Bool.not_eq_true, Bool.not_eq_false, Bool.true_eq_false, Bool.false_eq_true, not_false_eq_true, not_true_eq_false] at h)
      | exact goes_none.mpr (by omega)
    all_goals first
      | (exfalso; omega)
      | (refine ih (i + 1) _ _ (by omega) ⟨?_⟩ eM; first | (rw [cnt_yes (by simp only [e1]; first | assumption | exact ⟨by assumption, by assumption⟩), ec.get]) | (rw [cnt_no (by simp only [e1]; simp_all only [Bool.and_false, Bool.false_and]), ec.get]))
      | (refine ih (i + 1) _ _ (by omega) ⟨?_⟩ ⟨?_⟩ <;> (skip))
theorem s33 (hr : Int) (al nl ml : Nat) (tl : Nat → Int) (hg : Int) (am nm mm : Nat) (tm : Nat → Int) (o : Int) (hp : al + nl ≤ ml ∧ nl ≤ 1000000 ∧ am + nm ≤ mm ∧ nm ≤ 1000000) : Goes ((q33 hr al nl ml tl hg am nm mm tm o)) ((p33 hr al nl ml tl hg am nm mm tm o)) (S.colS hr nl (fun j => tl (j + al)) hg nm (fun j => tm (j + am)) o) := by
  unfold S.colS
  by_cases h0 : S.filE hr nl (fun j => tl (j + al)) = 0
  · rw [if_pos h0]
    obtain ⟨v1, v2, v3, v4⟩ := fil_ok h0
    by_cases h1 : S.filE hg nm (fun j => tm (j + am)) = 0
    · rw [if_pos h1]
      by_cases hv : hr = hg ∧ 0 ≤ o ∧ o < hr
      · rw [if_pos hv]
        have hm := s33' hr al nl ml tl hg am nm mm tm o ⟨hp.1, hp.2.1, h0, h1, hv⟩ nl 0 0 (S.mkl hg.toNat fun j => S.inB (fun j => tm (j + am)) nm j) (by omega) ⟨rfl⟩ ⟨rfl⟩
        rw [cnt_fil (G := S.colB hr o (S.inB (fun j => tm (j + am)) nm)) h0] at hm
        show Goes _ _ _
        unfold p33
        repeat' first
          | with_reducible refine goes_if (fun h => ?_) (fun h => ?_) <;> (try simp only [lim64, imp_false, decide_eq_true_eq, decide_eq_false_iff_not, Int.toNat_natCast, toNat_pred, toNat_succ, Option.getD_some, Option.getD_none, Bool.not_eq_true', Bool.not_eq_false', Bool.and_eq_true, Bool.or_eq_true, Bool.and_eq_false_iff, Bool.or_eq_false_iff, bne_iff_ne, beq_iff_eq, bne_eq_false_iff_eq, beq_eq_false_iff_ne, ne_eq, not_and, Int.not_le, Int.not_lt, ge_iff_le, gt_iff_lt, Nat.not_lt, Nat.not_le, Bool.not_eq_true, Bool.not_eq_false, Bool.true_eq_false, Bool.false_eq_true, not_false_eq_true, not_true_eq_false] at h)
          | exact goes_none.mpr (by omega)
        all_goals first | (exfalso; omega) | exact hm
      · rw [if_neg hv]
        show Goes _ _ _
        unfold p33
        repeat' first
          | with_reducible refine goes_if (fun h => ?_) (fun h => ?_) <;> (try simp only [lim64, imp_false, decide_eq_true_eq, decide_eq_false_iff_not, Int.toNat_natCast, toNat_pred, toNat_succ, Option.getD_some, Option.getD_none, Bool.not_eq_true', Bool.not_eq_false', Bool.and_eq_true, Bool.or_eq_true, Bool.and_eq_false_iff, Bool.or_eq_false_iff, bne_iff_ne, beq_iff_eq, bne_eq_false_iff_eq, beq_eq_false_iff_ne, ne_eq, not_and, Int.not_le, Int.not_lt, ge_iff_le, gt_iff_lt, Nat.not_lt, Nat.not_le, Bool.not_eq_true, Bool.not_eq_false, Bool.true_eq_false, Bool.false_eq_true, not_false_eq_true, not_true_eq_false] at h)
          | exact goes_none.mpr (by omega)
        all_goals first | (exfalso; omega) | rfl
    · rw [if_neg h1]
      show Goes _ _ _
      unfold p33
      repeat' first
        | with_reducible refine goes_if (fun h => ?_) (fun h => ?_) <;> (try simp only [lim64, imp_false, decide_eq_true_eq, decide_eq_false_iff_not, Int.toNat_natCast, toNat_pred, toNat_succ, Option.getD_some, Option.getD_none, Bool.not_eq_true', Bool.not_eq_false', Bool.and_eq_true, Bool.or_eq_true, Bool.and_eq_false_iff, Bool.or_eq_false_iff, bne_iff_ne, beq_iff_eq, bne_eq_false_iff_eq, beq_eq_false_iff_ne, ne_eq, not_and, Int.not_le, Int.not_lt, ge_iff_le, gt_iff_lt, Nat.not_lt, Nat.not_le, Bool.not_eq_true, Bool.not_eq_false, Bool.true_eq_false, Bool.false_eq_true, not_false_eq_true, not_true_eq_false] at h)
        | exact goes_none.mpr (by omega)
      all_goals first | (exfalso; omega) | rfl
  · rw [if_neg h0]
    show Goes _ _ _
    unfold p33
    repeat' first
      | with_reducible refine goes_if (fun h => ?_) (fun h => ?_) <;> (try simp only [lim64, imp_false, decide_eq_true_eq, decide_eq_false_iff_not, Int.toNat_natCast, toNat_pred, toNat_succ, Option.getD_some, Option.getD_none, Bool.not_eq_true', Bool.not_eq_false', Bool.and_eq_true, Bool.or_eq_true, Bool.and_eq_false_iff, Bool.or_eq_false_iff, bne_iff_ne, beq_iff_eq, bne_eq_false_iff_eq, beq_eq_false_iff_ne, ne_eq, not_and, Int.not_le, Int.not_lt, ge_iff_le, gt_iff_lt, Nat.not_lt, Nat.not_le, Bool.not_eq_true, Bool.not_eq_false, Bool.true_eq_false, Bool.false_eq_true, not_false_eq_true, not_true_eq_false] at h)
      | exact goes_none.mpr (by omega)
    all_goals first | (exfalso; omega) | rfl

theorem k33_ok : k33.ok Try.prog := by
  intro x hx
  obtain ⟨⟨hr, ⟨al, nl, ml, tl, _⟩, _⟩, ⟨hg, ⟨am, nm, mm, tm, _⟩, _⟩, o, _⟩ := x
  obtain ⟨h1, h2⟩ := a33 hr al nl ml tl hg am nm mm tm o (s33 hr al nl ml tl hg am nm mm tm o (of_dec hx rfl))
  exact ⟨⟨400, (by decide : 2 + 1 + 0 ≤ 400), h1⟩, h2⟩
inductive St34 where
  | h0 (x0 : Int) (x1 : Int) (x2 : List Bool) (x3 : List Bool)
abbrev Rt34 := Int × Int
noncomputable def V34 (hr : Int) (al nl ml : Nat) (tl : Nat → Int) (hg : Int) (am nm mm : Nat) (tm : Nat → Int) (o : Int) (r : Rt34) : PV := PV.tup [PV.int IntKind.i64 r.1, PV.int IntKind.i64 r.2]
noncomputable def N34 (hr : Int) (al nl ml : Nat) (tl : Nat → Int) (hg : Int) (am nm mm : Nat) (tm : Nat → Int) (o : Int) (r : Rt34) : List Blk := []
noncomputable def I34 (hr : Int) (al nl ml : Nat) (tl : Nat → Int) (hg : Int) (am nm mm : Nat) (tm : Nat → Int) (o : Int) : St34 → Hd
  | .h0 x0 x1 x2 x3 => ⟨hd Try.f34 0, [PV.int IntKind.i64 o, PV.int IntKind.i64 hr, PV.int IntKind.i64 x0,
 PV.own (2) (1) (List.length x2), PV.own (3) (1) (List.length x3),
 PV.int IntKind.i64 x1], [[(2, (true, Blk.cols (List.length x2) [Col.bool fun (j : Nat) => S.at' x2 j])), (3, (true, Blk.cols (List.length x3) [Col.bool fun (j : Nat) => S.at' x3 j]))], [(0, (false, .cols ml [.int .i64 tl])), (1, (false, .cols mm [.int .i64 tm]))]], 4⟩
noncomputable def q34 (hr : Int) (al nl ml : Nat) (tl : Nat → Int) (hg : Int) (am nm mm : Nat) (tm : Nat → Int) (o : Int) : St34 → Option (St34 ⊕ Rt34)
  | .h0 x0 x1 x2 x3 => bif (decide (x1 < hr))
 then (bif (decide ((0 : Int) ≤ x1 ∧ x1 < (↑(List.length x2) : Int)))
 then (bif (decide (Int.toNat x1 < List.length x2))
 then (bif (S.at' x2 (Int.toNat x1))
 then (bif (lim IntKind.i64 (o - x1))
 then (bif (lim IntKind.i64 (o - x1 + hr))
 then (bif (decide (hr = (0 : Int)))
 then (none)
 else (bif (decide ((0 : Int) ≤ Int.tmod (o - x1 + hr) hr ∧ Int.tmod (o - x1 + hr) hr < (↑(List.length x3) : Int)))
 then (bif (decide (Int.toNat (Int.tmod (o - x1 + hr) hr) < List.length x3))
 then (bif (S.at' x3 (Int.toNat (Int.tmod (o - x1 + hr) hr)))
 then (bif (lim IntKind.i64 (x0 + (1 : Int)))
 then (bif (lim IntKind.i64 (x1 + (1 : Int)))
 then (some (.inl (.h0 (x0 + (1 : Int)) (x1 + (1 : Int)) (x2) (x3))))
 else (none))
 else (none))
 else (bif (lim IntKind.i64 (x1 + (1 : Int)))
 then (some (.inl (.h0 (x0) (x1 + (1 : Int)) (x2) (x3))))
 else (none)))
 else (none))
 else (none)))
 else (none))
 else (none))
 else (bif (lim IntKind.i64 (x1 + (1 : Int)))
 then (some (.inl (.h0 (x0) (x1 + (1 : Int)) (x2) (x3))))
 else (none)))
 else (none))
 else (none))
 else (some (.inr (x0, (0 : Int))))
noncomputable def p34 (hr : Int) (al nl ml : Nat) (tl : Nat → Int) (hg : Int) (am nm mm : Nat) (tm : Nat → Int) (o : Int) : Option (St34 ⊕ Rt34) := bif (decide (al + nl ≤ ml ∧ nl ≤ 1000000))
 then (bif ((S.filE hr nl fun (j : Nat) => tl (j + al)) != (0 : Int))
 then (some (.inr ((0 : Int), S.filE hr nl fun (j : Nat) => tl (j + al))))
 else (bif (decide (am + nm ≤ mm ∧ nm ≤ 1000000))
 then (bif ((S.filE hg nm fun (j : Nat) => tm (j + am)) != (0 : Int))
 then (some (.inr ((0 : Int), S.filE hg nm fun (j : Nat) => tm (j + am))))
 else (bif (hr != hg)
 then (some (.inr ((0 : Int), (6 : Int))))
 else (bif (decide (o < (0 : Int)))
 then (some (.inr ((0 : Int), (6 : Int))))
 else (bif (decide (o ≥ hr))
 then (some (.inr ((0 : Int), (6 : Int))))
 else (bif (decide (al + nl ≤ ml ∧ nl ≤ 1000000 ∧ (S.filE hr nl fun (j : Nat) => tl (j + al)) = (0 : Int)))
 then (bif (decide (am + nm ≤ mm ∧ nm ≤ 1000000 ∧ (S.filE hg nm fun (j : Nat) => tm (j + am)) = (0 : Int)))
 then (some (.inl (.h0 ((0 : Int)) ((0 : Int)) (S.mkl (Int.toNat hr) fun (j : Nat) => S.inB (fun (j : Nat) => tl (j + al)) nl j) (S.mkl (Int.toNat hg) fun (j : Nat) => S.inB (fun (j : Nat) => tm (j + am)) nm j))))
 else (none))
 else (none))))))
 else (none)))
 else (none)
noncomputable def Te34 (test : Bool → Prop → Prop → Prop) (Kst : KS) (Kret : KR) (hr : Int) (al nl ml : Nat) (tl : Nat → Int) (hg : Int) (am nm mm : Nat) (tm : Nat → Int) (o : Int) : Prop :=
  test (decide (al + nl ≤ ml ∧ nl ≤ 1000000))
 (test ((S.filE hr nl fun (j : Nat) => tl (j + al)) != (0 : Int))
 (Kret (PV.tup
 [PV.int IntKind.i64 (0 : Int), PV.int IntKind.i64 (S.filE hr nl fun (j : Nat) => tl (j + al))]) ([[(1, false, Blk.cols mm [Col.int IntKind.i64 tm]),
 (0, false, Blk.cols ml [Col.int IntKind.i64 tl])]]) (5))
 (test (decide (am + nm ≤ mm ∧ nm ≤ 1000000))
 (test ((S.filE hg nm fun (j : Nat) => tm (j + am)) != (0 : Int))
 (Kret (PV.tup
 [PV.int IntKind.i64 (0 : Int), PV.int IntKind.i64 (S.filE hg nm fun (j : Nat) => tm (j + am))]) ([[(1, false, Blk.cols mm [Col.int IntKind.i64 tm]),
 (0, false, Blk.cols ml [Col.int IntKind.i64 tl])]]) (6))
 (test (hr != hg)
 (Kret (PV.tup [PV.int IntKind.i64 (0 : Int), PV.int IntKind.i64 (6 : Int)]) ([[(1, false, Blk.cols mm [Col.int IntKind.i64 tm]),
 (0, false, Blk.cols ml [Col.int IntKind.i64 tl])]]) (6))
 (test (decide (o < (0 : Int)))
 (Kret (PV.tup [PV.int IntKind.i64 (0 : Int), PV.int IntKind.i64 (6 : Int)]) ([[(1, false, Blk.cols mm [Col.int IntKind.i64 tm]),
 (0, false, Blk.cols ml [Col.int IntKind.i64 tl])]]) (6))
 (test (decide (o ≥ hr))
 (Kret (PV.tup [PV.int IntKind.i64 (0 : Int), PV.int IntKind.i64 (6 : Int)]) ([[(1, false, Blk.cols mm [Col.int IntKind.i64 tm]),
 (0, false, Blk.cols ml [Col.int IntKind.i64 tl])]]) (6))
 (test (decide (al + nl ≤ ml ∧ nl ≤ 1000000 ∧ (S.filE hr nl fun (j : Nat) => tl (j + al)) = (0 : Int)))
 (test (decide (am + nm ≤ mm ∧ nm ≤ 1000000 ∧ (S.filE hg nm fun (j : Nat) => tm (j + am)) = (0 : Int)))
 (Kst (hd Try.f34 0) ([PV.int IntKind.i64 o, PV.int IntKind.i64 hr, PV.int IntKind.i64 (0 : Int),
 PV.own (7) (1)
 (List.length (S.mkl (Int.toNat hr) fun (j : Nat) => S.inB (fun (j : Nat) => tl (j + al)) nl j)),
 PV.own (9) (1)
 (List.length (S.mkl (Int.toNat hg) fun (j : Nat) => S.inB (fun (j : Nat) => tm (j + am)) nm j)),
 PV.int IntKind.i64 (0 : Int)]) ([[(1, false, Blk.cols mm [Col.int IntKind.i64 tm]),
 (0, false, Blk.cols ml [Col.int IntKind.i64 tl]),
 (9, true,
 Blk.cols
 (List.length (S.mkl (Int.toNat hg) fun (j : Nat) => S.inB (fun (j : Nat) => tm (j + am)) nm j))
 [Col.bool fun (j : Nat) =>
 S.at' (S.mkl (Int.toNat hg) fun (j : Nat) => S.inB (fun (j : Nat) => tm (j + am)) nm j)
 j]),
 (7, true,
 Blk.cols
 (List.length (S.mkl (Int.toNat hr) fun (j : Nat) => S.inB (fun (j : Nat) => tl (j + al)) nl j))
 [Col.bool fun (j : Nat) =>
 S.at' (S.mkl (Int.toNat hr) fun (j : Nat) => S.inB (fun (j : Nat) => tl (j + al)) nl j)
 j])]]) (10))
 (False))
 (False))))))
 (False)))
 (False)
set_option maxRecDepth 100000 in
theorem te34 (test : Bool → Prop → Prop → Prop) (Kst : KS) (Kret : KR) (hr : Int) (al nl ml : Nat) (tl : Nat → Int) (hg : Int) (am nm mm : Nat) (tm : Nat → Int) (o : Int) : run test Try.env true (xW test) true 400 ⟨34, [.cd (mkFn Try.f34).body], argT 0 [.agg [.int .i64 hr, .loose ⟨0, 1, al, 0⟩ nl], .agg [.int .i64 hg, .loose ⟨1, 1, am, 0⟩ nm], .int .i64 o], [[], [(0, (false, .cols ml [.int .i64 tl])), (1, (false, .cols mm [.int .i64 tm]))]], 2⟩ (proj 2 [2, 10, 11, 12, 13, 14] Kst Kret) =
  Te34 test Kst Kret hr al nl ml tl hg am nm mm tm o := by kernel_rfl
noncomputable def T34_0 (test : Bool → Prop → Prop → Prop) (Kst : KS) (Kret : KR) (hr : Int) (al nl ml : Nat) (tl : Nat → Int) (hg : Int) (am nm mm : Nat) (tm : Nat → Int) (o : Int) (x0 : Int) (x1 : Int) (x2 : List Bool) (x3 : List Bool) : Prop :=
  test (decide (x1 < hr))
 (test (decide ((0 : Int) ≤ x1 ∧ x1 < (↑(List.length x2) : Int)))
 (test (decide (Int.toNat x1 < List.length x2))
 (test (S.at' x2 (Int.toNat x1))
 (test (lim IntKind.i64 (o - x1))
 (test (lim IntKind.i64 (o - x1 + hr))
 (test (decide (hr = (0 : Int)))
 (False)
 (test (decide ((0 : Int) ≤ Int.tmod (o - x1 + hr) hr ∧ Int.tmod (o - x1 + hr) hr < (↑(List.length x3) : Int)))
 (test (decide (Int.toNat (Int.tmod (o - x1 + hr) hr) < List.length x3))
 (test (S.at' x3 (Int.toNat (Int.tmod (o - x1 + hr) hr)))
 (test (lim IntKind.i64 (x0 + (1 : Int)))
 (test (lim IntKind.i64 (x1 + (1 : Int)))
 (Kst (hd Try.f34 0) ([PV.int IntKind.i64 o, PV.int IntKind.i64 hr, PV.int IntKind.i64 (x0 + (1 : Int)),
 PV.own (2) (1) (List.length x2), PV.own (3) (1) (List.length x3),
 PV.int IntKind.i64 (x1 + (1 : Int))]) ([[(1, false, Blk.cols mm [Col.int IntKind.i64 tm]),
 (0, false, Blk.cols ml [Col.int IntKind.i64 tl]),
 (3, true, Blk.cols (List.length x3) [Col.bool fun (j : Nat) => S.at' x3 j]),
 (2, true, Blk.cols (List.length x2) [Col.bool fun (j : Nat) => S.at' x2 j])]]) (4))
 (False))
 (False))
 (test (lim IntKind.i64 (x1 + (1 : Int)))
 (Kst (hd Try.f34 0) ([PV.int IntKind.i64 o, PV.int IntKind.i64 hr, PV.int IntKind.i64 x0,
 PV.own (2) (1) (List.length x2), PV.own (3) (1) (List.length x3),
 PV.int IntKind.i64 (x1 + (1 : Int))]) ([[(1, false, Blk.cols mm [Col.int IntKind.i64 tm]),
 (0, false, Blk.cols ml [Col.int IntKind.i64 tl]),
 (3, true, Blk.cols (List.length x3) [Col.bool fun (j : Nat) => S.at' x3 j]),
 (2, true, Blk.cols (List.length x2) [Col.bool fun (j : Nat) => S.at' x2 j])]]) (4))
 (False)))
 (False))
 (False)))
 (False))
 (False))
 (test (lim IntKind.i64 (x1 + (1 : Int)))
 (Kst (hd Try.f34 0) ([PV.int IntKind.i64 o, PV.int IntKind.i64 hr, PV.int IntKind.i64 x0,
 PV.own (2) (1) (List.length x2), PV.own (3) (1) (List.length x3),
 PV.int IntKind.i64 (x1 + (1 : Int))]) ([[(1, false, Blk.cols mm [Col.int IntKind.i64 tm]),
 (0, false, Blk.cols ml [Col.int IntKind.i64 tl]),
 (3, true, Blk.cols (List.length x3) [Col.bool fun (j : Nat) => S.at' x3 j]),
 (2, true, Blk.cols (List.length x2) [Col.bool fun (j : Nat) => S.at' x2 j])]]) (4))
 (False)))
 (False))
 (False))
 (Kret (PV.tup [PV.int IntKind.i64 x0, PV.int IntKind.i64 (0 : Int)]) ([[(1, false, Blk.cols mm [Col.int IntKind.i64 tm]),
 (0, false, Blk.cols ml [Col.int IntKind.i64 tl])]]) (4))
set_option maxRecDepth 100000 in
theorem t34_0 (test : Bool → Prop → Prop → Prop) (Kst : KS) (Kret : KR) (hr : Int) (al nl ml : Nat) (tl : Nat → Int) (hg : Int) (am nm mm : Nat) (tm : Nat → Int) (o : Int) (x0 : Int) (x1 : Int) (x2 : List Bool) (x3 : List Bool) : run test Try.env true (xW test) true 400 ⟨34, hd Try.f34 0, zipT [2, 10, 11, 12, 13, 14] [PV.int IntKind.i64 o, PV.int IntKind.i64 hr, PV.int IntKind.i64 x0,
 PV.own (2) (1) (List.length x2), PV.own (3) (1) (List.length x3),
 PV.int IntKind.i64 x1], [[(2, (true, Blk.cols (List.length x2) [Col.bool fun (j : Nat) => S.at' x2 j])), (3, (true, Blk.cols (List.length x3) [Col.bool fun (j : Nat) => S.at' x3 j]))], [(0, (false, .cols ml [.int .i64 tl])), (1, (false, .cols mm [.int .i64 tm]))]], 4⟩ (proj 2 [2, 10, 11, 12, 13, 14] Kst Kret) =
  T34_0 test Kst Kret hr al nl ml tl hg am nm mm tm o x0 x1 x2 x3 := by kernel_rfl
attribute [local irreducible] Int.subNatNat in
set_option maxRecDepth 100000 in
theorem be34 (hr : Int) (al nl ml : Nat) (tl : Nat → Int) (hg : Int) (am nm mm : Nat) (tm : Nat → Int) (o : Int) (Kst : KS) (Kret : KR) (x : St34 ⊕ Rt34) (hS : HS 2 400 ((I34 hr al nl ml tl hg am nm mm tm o)) Kst x) (hR : HR 2 400 ((V34 hr al nl ml tl hg am nm mm tm o)) (fun r => [newL (2 + 1) ((N34 hr al nl ml tl hg am nm mm tm o) r) ++ [(0, (false, .cols ml [.int .i64 tl])), (1, (false, .cols mm [.int .i64 tm]))]]) Kret x) (h : (bif (decide (al + nl ≤ ml ∧ nl ≤ 1000000))
 then (bif ((S.filE hr nl fun (j : Nat) => tl (j + al)) != (0 : Int))
 then (some (.inr ((0 : Int), S.filE hr nl fun (j : Nat) => tl (j + al))))
 else (bif (decide (am + nm ≤ mm ∧ nm ≤ 1000000))
 then (bif ((S.filE hg nm fun (j : Nat) => tm (j + am)) != (0 : Int))
 then (some (.inr ((0 : Int), S.filE hg nm fun (j : Nat) => tm (j + am))))
 else (bif (hr != hg)
 then (some (.inr ((0 : Int), (6 : Int))))
 else (bif (decide (o < (0 : Int)))
 then (some (.inr ((0 : Int), (6 : Int))))
 else (bif (decide (o ≥ hr))
 then (some (.inr ((0 : Int), (6 : Int))))
 else (bif (decide (al + nl ≤ ml ∧ nl ≤ 1000000 ∧ (S.filE hr nl fun (j : Nat) => tl (j + al)) = (0 : Int)))
 then (bif (decide (am + nm ≤ mm ∧ nm ≤ 1000000 ∧ (S.filE hg nm fun (j : Nat) => tm (j + am)) = (0 : Int)))
 then (some (.inl (.h0 ((0 : Int)) ((0 : Int)) (S.mkl (Int.toNat hr) fun (j : Nat) => S.inB (fun (j : Nat) => tl (j + al)) nl j) (S.mkl (Int.toNat hg) fun (j : Nat) => S.inB (fun (j : Nat) => tm (j + am)) nm j))))
 else (none))
 else (none))))))
 else (none)))
 else (none) : Option (St34 ⊕ Rt34)) = some x) : Te34 cond Kst Kret hr al nl ml tl hg am nm mm tm o := by
  unfold Te34
  exact bif_split h
   (fun c0 h => bif_split h
   (fun c1 h => ret_at hR _ h (fun n => n) rfl rfl rfl (rn_tup ⟨(rn_int rfl), (rn_int rfl), trivial⟩) rfl (entl_bor (use_lo rfl) rfl rfl (entl_bor (use_lo rfl) rfl rfl entl_nil)))
   (fun c1 h => bif_split h
   (fun c2 h => bif_split h
   (fun c3 h => ret_at hR _ h (fun n => n) rfl rfl rfl (rn_tup ⟨(rn_int rfl), (rn_int rfl), trivial⟩) rfl (entl_bor (use_lo rfl) rfl rfl (entl_bor (use_lo rfl) rfl rfl entl_nil)))
   (fun c3 h => bif_split h
   (fun c4 h => ret_at hR _ h (fun n => n) rfl rfl rfl (rn_tup ⟨(rn_int rfl), (rn_int rfl), trivial⟩) rfl (entl_bor (use_lo rfl) rfl rfl (entl_bor (use_lo rfl) rfl rfl entl_nil)))
   (fun c4 h => bif_split h
   (fun c5 h => ret_at hR _ h (fun n => n) rfl rfl rfl (rn_tup ⟨(rn_int rfl), (rn_int rfl), trivial⟩) rfl (entl_bor (use_lo rfl) rfl rfl (entl_bor (use_lo rfl) rfl rfl entl_nil)))
   (fun c5 h => bif_split h
   (fun c6 h => ret_at hR _ h (fun n => n) rfl rfl rfl (rn_tup ⟨(rn_int rfl), (rn_int rfl), trivial⟩) rfl (entl_bor (use_lo rfl) rfl rfl (entl_bor (use_lo rfl) rfl rfl entl_nil)))
   (fun c6 h => bif_split h
   (fun c7 h => bif_split h
   (fun c8 h => stop_at hS _ h (fun n => bif Nat.beq n 2 then 7 else bif Nat.beq n 3 then 9 else n) rfl rfl rfl ⟨(rn_int rfl), ⟨(rn_int rfl), ⟨(rn_int rfl), ⟨(rn_own (use_own rfl) rfl rfl), ⟨(rn_own (use_own rfl) rfl rfl), ⟨(rn_int rfl), trivial⟩⟩⟩⟩⟩⟩ rfl (entl_new (use_own rfl) rfl (Nat.le_of_eq rfl) (rcs_bool (fun _ _ => rfl) rcs_nil) (entl_new (use_own rfl) rfl (Nat.le_of_eq rfl) (rcs_bool (fun _ _ => rfl) rcs_nil) (entl_bor (use_lo rfl) rfl rfl (entl_bor (use_lo rfl) rfl rfl entl_nil)))))
   (fun c8 h => no_some h))
   (fun c7 h => no_some h))))))
   (fun c2 h => no_some h)))
   (fun c0 h => no_some h)
attribute [local irreducible] Int.subNatNat in
set_option maxRecDepth 100000 in
theorem b34_0 (hr : Int) (al nl ml : Nat) (tl : Nat → Int) (hg : Int) (am nm mm : Nat) (tm : Nat → Int) (o : Int) (Kst : KS) (Kret : KR) (x : St34 ⊕ Rt34) (hS : HS 2 400 ((I34 hr al nl ml tl hg am nm mm tm o)) Kst x) (hR : HR 2 400 ((V34 hr al nl ml tl hg am nm mm tm o)) (fun r => [newL (2 + 1) ((N34 hr al nl ml tl hg am nm mm tm o) r) ++ [(0, (false, .cols ml [.int .i64 tl])), (1, (false, .cols mm [.int .i64 tm]))]]) Kret x) (x0 : Int) (x1 : Int) (x2 : List Bool) (x3 : List Bool) (h : (bif (decide (x1 < hr))
 then (bif (decide ((0 : Int) ≤ x1 ∧ x1 < (↑(List.length x2) : Int)))
 then (bif (decide (Int.toNat x1 < List.length x2))
 then (bif (S.at' x2 (Int.toNat x1))
 then (bif (lim IntKind.i64 (o - x1))
 then (bif (lim IntKind.i64 (o - x1 + hr))
 then (bif (decide (hr = (0 : Int)))
 then (none)
 else (bif (decide ((0 : Int) ≤ Int.tmod (o - x1 + hr) hr ∧ Int.tmod (o - x1 + hr) hr < (↑(List.length x3) : Int)))
 then (bif (decide (Int.toNat (Int.tmod (o - x1 + hr) hr) < List.length x3))
 then (bif (S.at' x3 (Int.toNat (Int.tmod (o - x1 + hr) hr)))
 then (bif (lim IntKind.i64 (x0 + (1 : Int)))
 then (bif (lim IntKind.i64 (x1 + (1 : Int)))
 then (some (.inl (.h0 (x0 + (1 : Int)) (x1 + (1 : Int)) (x2) (x3))))
 else (none))
 else (none))
 else (bif (lim IntKind.i64 (x1 + (1 : Int)))
 then (some (.inl (.h0 (x0) (x1 + (1 : Int)) (x2) (x3))))
 else (none)))
 else (none))
 else (none)))
 else (none))
 else (none))
 else (bif (lim IntKind.i64 (x1 + (1 : Int)))
 then (some (.inl (.h0 (x0) (x1 + (1 : Int)) (x2) (x3))))
 else (none)))
 else (none))
 else (none))
 else (some (.inr (x0, (0 : Int)))) : Option (St34 ⊕ Rt34)) = some x) : T34_0 cond Kst Kret hr al nl ml tl hg am nm mm tm o x0 x1 x2 x3 := by
  unfold T34_0
  exact bif_split h
   (fun c0 h => bif_split h
   (fun c1 h => bif_split h
   (fun c2 h => bif_split h
   (fun c3 h => bif_split h
   (fun c4 h => bif_split h
   (fun c5 h => bif_split h
   (fun c6 h => no_some h)
   (fun c6 h => bif_split h
   (fun c7 h => bif_split h
   (fun c8 h => bif_split h
   (fun c9 h => bif_split h
   (fun c10 h => bif_split h
   (fun c11 h => stop_at hS _ h (fun n => bif Nat.beq n 2 then 2 else bif Nat.beq n 3 then 3 else n) rfl rfl rfl ⟨(rn_int rfl), ⟨(rn_int rfl), ⟨(rn_int rfl), ⟨(rn_own (use_own rfl) rfl rfl), ⟨(rn_own (use_own rfl) rfl rfl), ⟨(rn_int rfl), trivial⟩⟩⟩⟩⟩⟩ rfl (entl_new (use_own rfl) rfl (Nat.le_of_eq rfl) (rcs_bool (fun _ _ => rfl) rcs_nil) (entl_new (use_own rfl) rfl (Nat.le_of_eq rfl) (rcs_bool (fun _ _ => rfl) rcs_nil) (entl_bor (use_lo rfl) rfl rfl (entl_bor (use_lo rfl) rfl rfl entl_nil)))))
   (fun c11 h => no_some h))
   (fun c10 h => no_some h))
   (fun c9 h => bif_split h
   (fun c10 h => stop_at hS _ h (fun n => bif Nat.beq n 2 then 2 else bif Nat.beq n 3 then 3 else n) rfl rfl rfl ⟨(rn_int rfl), ⟨(rn_int rfl), ⟨(rn_int rfl), ⟨(rn_own (use_own rfl) rfl rfl), ⟨(rn_own (use_own rfl) rfl rfl), ⟨(rn_int rfl), trivial⟩⟩⟩⟩⟩⟩ rfl (entl_new (use_own rfl) rfl (Nat.le_of_eq rfl) (rcs_bool (fun _ _ => rfl) rcs_nil) (entl_new (use_own rfl) rfl (Nat.le_of_eq rfl) (rcs_bool (fun _ _ => rfl) rcs_nil) (entl_bor (use_lo rfl) rfl rfl (entl_bor (use_lo rfl) rfl rfl entl_nil)))))
   (fun c10 h => no_some h)))
   (fun c8 h => no_some h))
   (fun c7 h => no_some h)))
   (fun c5 h => no_some h))
   (fun c4 h => no_some h))
   (fun c3 h => bif_split h
   (fun c4 h => stop_at hS _ h (fun n => bif Nat.beq n 2 then 2 else bif Nat.beq n 3 then 3 else n) rfl rfl rfl ⟨(rn_int rfl), ⟨(rn_int rfl), ⟨(rn_int rfl), ⟨(rn_own (use_own rfl) rfl rfl), ⟨(rn_own (use_own rfl) rfl rfl), ⟨(rn_int rfl), trivial⟩⟩⟩⟩⟩⟩ rfl (entl_new (use_own rfl) rfl (Nat.le_of_eq rfl) (rcs_bool (fun _ _ => rfl) rcs_nil) (entl_new (use_own rfl) rfl (Nat.le_of_eq rfl) (rcs_bool (fun _ _ => rfl) rcs_nil) (entl_bor (use_lo rfl) rfl rfl (entl_bor (use_lo rfl) rfl rfl entl_nil)))))
   (fun c4 h => no_some h)))
   (fun c2 h => no_some h))
   (fun c1 h => no_some h))
   (fun c0 h => ret_at hR _ h (fun n => n) rfl rfl rfl (rn_tup ⟨(rn_int rfl), (rn_int rfl), trivial⟩) rfl (entl_bor (use_lo rfl) rfl rfl (entl_bor (use_lo rfl) rfl rfl entl_nil)))
theorem a34 (hr : Int) (al nl ml : Nat) (tl : Nat → Int) (hg : Int) (am nm mm : Nat) (tm : Nat → Int) (o : Int) {r : Rt34} (h : Goes ((q34 hr al nl ml tl hg am nm mm tm o)) ((p34 hr al nl ml tl hg am nm mm tm o)) r) : CallR Try.prog 34 [.agg [.int .i64 hr, .loose ⟨0, 1, al, 0⟩ nl], .agg [.int .i64 hg, .loose ⟨1, 1, am, 0⟩ nm], .int .i64 o] [[(0, (false, .cols ml [.int .i64 tl])), (1, (false, .cols mm [.int .i64 tm]))]] 2 ((V34 hr al nl ml tl hg am nm mm tm o) r) ((fun r => [newL (2 + 1) ((N34 hr al nl ml tl hg am nm mm tm o) r) ++ [(0, (false, .cols ml [.int .i64 tl])), (1, (false, .cols mm [.int .i64 tm]))]]) r) 400 ∧ ∃ F, Try.prog.funcs[34]? = some F ∧ F.body.isSome = true ∧ (F.name == "runtime.NumGoroutine") = false := by
  refine dec_calls (f := 34) (lo := 2) (hi := 400) (H := [[(0, (false, .cols ml [.int .i64 tl])), (1, (false, .cols mm [.int .i64 tm]))]]) (args := [.agg [.int .i64 hr, .loose ⟨0, 1, al, 0⟩ nl], .agg [.int .i64 hg, .loose ⟨1, 1, am, 0⟩ nm], .int .i64 o]) Try.envOk Try.mixed xW_ok ((I34 hr al nl ml tl hg am nm mm tm o)) ((V34 hr al nl ml tl hg am nm mm tm o)) (fun r => [newL (2 + 1) ((N34 hr al nl ml tl hg am nm mm tm o) r) ++ [(0, (false, .cols ml [.int .i64 tl])), (1, (false, .cols mm [.int .i64 tm]))]]) (fn := mkFn Try.f34) (ts := [2, 10, 11, 12, 13, 14]) (n := 400) rfl (by decide) (by simp) (names_of rfl) ?_ ?_ ?_ h
  · intro s; cases s <;> exact ⟨hd_ok _ _, by simp [I34], names_of rfl, Nat.le_of_ble_eq_true rfl⟩
  · intro Kst Kret x hS hR h
    exact Holds.eq (te34 cond Kst Kret hr al nl ml tl hg am nm mm tm o) (be34 hr al nl ml tl hg am nm mm tm o Kst Kret x hS hR h)
  · intro Kst Kret x hS hR s h
    cases s with
    | h0 x0 x1 x2 x3 => exact Holds.eq (t34_0 cond Kst Kret hr al nl ml tl hg am nm mm tm o x0 x1 x2 x3) (b34_0 hr al nl ml tl hg am nm mm tm o Kst Kret x hS hR x0 x1 x2 x3 h)
noncomputable def k34 : Con := ⟨34, [.agg [.plain (.int .i64), .list [.int .i64]], .agg [.plain (.int .i64), .list [.int .i64]], .one (.plain (.int .i64))], fun (x : (Int × (Nat × Nat × Nat × (Nat → Int) × Unit) × Unit) × (Int × (Nat × Nat × Nat × (Nat → Int) × Unit) × Unit) × Int × Unit) => (fun (hr : Int) (al nl ml : Nat) (tl : Nat → Int) (hg : Int) (am nm mm : Nat) (tm : Nat → Int) (o : Int) => decide (al + nl ≤ ml ∧ nl ≤ 1000000 ∧ am + nm ≤ mm ∧ nm ≤ 1000000)) x.1.1 x.1.2.1.1 x.1.2.1.2.1 x.1.2.1.2.2.1 x.1.2.1.2.2.2.1 x.2.1.1 x.2.1.2.1.1 x.2.1.2.1.2.1 x.2.1.2.1.2.2.1 x.2.1.2.1.2.2.2.1 x.2.2.1, fun (x : (Int × (Nat × Nat × Nat × (Nat → Int) × Unit) × Unit) × (Int × (Nat × Nat × Nat × (Nat → Int) × Unit) × Unit) × Int × Unit) => (fun (hr : Int) (al nl ml : Nat) (tl : Nat → Int) (hg : Int) (am nm mm : Nat) (tm : Nat → Int) (o : Int) => (V34 hr al nl ml tl hg am nm mm tm o) (S.colS hr nl (fun j => tl (j + al)) hg nm (fun j => tm (j + am)) o)) x.1.1 x.1.2.1.1 x.1.2.1.2.1 x.1.2.1.2.2.1 x.1.2.1.2.2.2.1 x.2.1.1 x.2.1.2.1.1 x.2.1.2.1.2.1 x.2.1.2.1.2.2.1 x.2.1.2.1.2.2.2.1 x.2.2.1, fun (x : (Int × (Nat × Nat × Nat × (Nat → Int) × Unit) × Unit) × (Int × (Nat × Nat × Nat × (Nat → Int) × Unit) × Unit) × Int × Unit) => (fun (hr : Int) (al nl ml : Nat) (tl : Nat → Int) (hg : Int) (am nm mm : Nat) (tm : Nat → Int) (o : Int) => (N34 hr al nl ml tl hg am nm mm tm o) (S.colS hr nl (fun j => tl (j + al)) hg nm (fun j => tm (j + am)) o)) x.1.1 x.1.2.1.1 x.1.2.1.2.1 x.1.2.1.2.2.1 x.1.2.1.2.2.2.1 x.2.1.1 x.2.1.2.1.1 x.2.1.2.1.2.1 x.2.1.2.1.2.2.1 x.2.1.2.1.2.2.2.1 x.2.2.1, fun _ _ => .dead⟩
theorem s34' (hr : Int) (al nl ml : Nat) (tl : Nat → Int) (hg : Int) (am nm mm : Nat) (tm : Nat → Int) (o : Int) (hp : al + nl ≤ ml ∧ nl ≤ 1000000 ∧ S.filE hr nl (fun j => tl (j + al)) = 0 ∧ S.filE hg nm (fun j => tm (j + am)) = 0 ∧ hr = hg ∧ 0 ≤ o ∧ o < hr) : ∀ (k i : Nat) (c : Int) (L : List Bool) (M : List Bool), i + k = hr.toNat → Holds (c = S.cnt (fun x => S.inB (fun j => tl (j + al)) nl x && S.colB hr o (S.inB (fun j => tm (j + am)) nm) (x : Int)) i) → Holds (L = S.mkl hr.toNat fun j => S.inB (fun j => tl (j + al)) nl j) → Holds (M = S.mkl hg.toNat fun j => S.inB (fun j => tm (j + am)) nm j) → Comes (q34 hr al nl ml tl hg am nm mm tm o) (.h0 c (i : Int) L M) (((S.cnt (fun x => S.inB (fun j => tl (j + al)) nl x && S.colB hr o (S.inB (fun j => tm (j + am)) nm) (x : Int)) hr.toNat, 0) : Int × Int)) := by
  obtain ⟨hp1, hp2, hp3, hp4, hp5, hp6, hp7⟩ := hp
  obtain ⟨v1, v2, v3, v4⟩ := fil_ok hp3
  intro k
  induction k with
  | zero =>
    intro i c L M hi ec eL eM
    have hM : M.length = hr.toNat := by rw [eM.get, hp5]; exact mkl_len
    have hc := cnt_bnd (p := fun x => S.inB (fun j => tl (j + al)) nl x && S.colB hr o (S.inB (fun j => tm (j + am)) nm) (x : Int)) (n := i)
    rw [← ec.get] at hc
    have hL : L.length = hr.toNat := by rw [eL.get]; exact mkl_len
    apply Comes.of
    show Goes _ _ _
    (first | rw [q34] | unfold q34)
    repeat' first
      | with_reducible refine goes_if (fun h => ?_) (fun h => ?_) <;> (try simp only [lim64, imp_false, decide_eq_true_eq, decide_eq_false_iff_not, Int.toNat_natCast, toNat_pred, toNat_succ, Option.getD_some, Option.getD_none, Bool.not_eq_true', Bool.not_eq_false', Bool.and_eq_true, Bool.or_eq_true, Bool.and_eq_false_iff, Bool.or_eq_false_iff, bne_iff_ne, beq_iff_eq, bne_eq_false_iff_eq, beq_eq_false_iff_ne, ne_eq, not_and, Int.not_le, Int.not_lt, ge_iff_le, gt_iff_lt, Nat.not_lt, Nat.not_le, Bool.not_eq_true, Bool.not_eq_false, Bool.true_eq_false, Bool.false_eq_true, not_false_eq_true, not_true_eq_false] at h)
      | exact goes_none.mpr (by omega)
    all_goals first | (exfalso; omega) | (obtain rfl : hr.toNat = i := (by omega);  (rw [ec.get]; exact goes_inr.mpr rfl))
  | succ k ih =>
    intro i c L M hi ec eL eM
    have hM : M.length = hr.toNat := by rw [eM.get, hp5]; exact mkl_len
    have hc := cnt_bnd (p := fun x => S.inB (fun j => tl (j + al)) nl x && S.colB hr o (S.inB (fun j => tm (j + am)) nm) (x : Int)) (n := i)
    rw [← ec.get] at hc
    have hL : L.length = hr.toNat := by rw [eL.get]; exact mkl_len
    have hmd := mdl_ok (n := o - (i : Int)) (h := hr) (by omega)
    rw [mdl_one (by omega) (by omega)] at hmd
    have e1 : S.colB hr o (S.inB (fun j => tm (j + am)) nm) (i : Int) = S.at' M (Int.tmod (o - (i : Int) + hr) hr).toNat := by
      unfold S.colB
      rw [mdl_one (by omega) (by omega), eM.get, at_mkl (by omega)]
    have e2 : S.inB (fun j => tl (j + al)) nl i = S.at' L i := by rw [eL.get, at_mkl (by omega)]
    apply Comes.of
    show Goes _ _ _
    (first | rw [q34] | unfold q34)
    repeat' first
      | with_reducible refine goes_if (fun h => ?_) (fun h => ?_) <;> (try simp only [lim64, imp_false, decide_eq_true_eq, decide_eq_false_iff_not, Int.toNat_natCast, toNat_pred, toNat_succ, Option.getD_some, Option.getD_none, Bool.not_eq_true', Bool.not_eq_false', Bool.and_eq_true, Bool.or_eq_true, Bool.and_eq_false_iff, Bool.or_eq_false_iff, bne_iff_ne, beq_iff_eq, bne_eq_false_iff_eq, beq_eq_false_iff_ne, ne_eq, not_and, Int.not_le, Int.not_lt, ge_iff_le, gt_iff_lt, Nat.not_lt, Nat.not_le, Bool.not_eq_true, Bool.not_eq_false, Bool.true_eq_false, Bool.false_eq_true, not_false_eq_true, not_true_eq_false] at h)
      | exact goes_none.mpr (by omega)
    all_goals first
      | (exfalso; omega)
      | (refine ih (i + 1) _ _ _ (by omega) ⟨?_⟩ eL eM; first | (rw [cnt_yes (by simp only [e1, e2, Bool.and_eq_true]; first | assumption | exact ⟨by assumption, by assumption⟩), ec.get]) | (rw [cnt_no (by simp only [e1, e2]; simp_all only [Bool.and_false, Bool.false_and]), ec.get]))
      | (refine ih (i + 1) _ _ _ (by omega) ⟨?_⟩ ⟨?_⟩ ⟨?_⟩ <;> (skip))
theorem s34 (hr : Int) (al nl ml : Nat) (tl : Nat → Int) (hg : Int) (am nm mm : Nat) (tm : Nat → Int) (o : Int) (hp : al + nl ≤ ml ∧ nl ≤ 1000000 ∧ am + nm ≤ mm ∧ nm ≤ 1000000) : Goes ((q34 hr al nl ml tl hg am nm mm tm o)) ((p34 hr al nl ml tl hg am nm mm tm o)) (S.colS hr nl (fun j => tl (j + al)) hg nm (fun j => tm (j + am)) o) := by
  unfold S.colS
  by_cases h0 : S.filE hr nl (fun j => tl (j + al)) = 0
  · rw [if_pos h0]
    obtain ⟨v1, v2, v3, v4⟩ := fil_ok h0
    by_cases h1 : S.filE hg nm (fun j => tm (j + am)) = 0
    · rw [if_pos h1]
      by_cases hv : hr = hg ∧ 0 ≤ o ∧ o < hr
      · rw [if_pos hv]
        have hm := s34' hr al nl ml tl hg am nm mm tm o ⟨hp.1, hp.2.1, h0, h1, hv⟩ hr.toNat 0 0 (S.mkl hr.toNat fun j => S.inB (fun j => tl (j + al)) nl j) (S.mkl hg.toNat fun j => S.inB (fun j => tm (j + am)) nm j) (by omega) ⟨rfl⟩ ⟨rfl⟩ ⟨rfl⟩
        skip
        show Goes _ _ _
        unfold p34
        repeat' first
          | with_reducible refine goes_if (fun h => ?_) (fun h => ?_) <;> (try simp only [lim64, imp_false, decide_eq_true_eq, decide_eq_false_iff_not, Int.toNat_natCast, toNat_pred, toNat_succ, Option.getD_some, Option.getD_none, Bool.not_eq_true', Bool.not_eq_false', Bool.and_eq_true, Bool.or_eq_true, Bool.and_eq_false_iff, Bool.or_eq_false_iff, bne_iff_ne, beq_iff_eq, bne_eq_false_iff_eq, beq_eq_false_iff_ne, ne_eq, not_and, Int.not_le, Int.not_lt, ge_iff_le, gt_iff_lt, Nat.not_lt, Nat.not_le, Bool.not_eq_true, Bool.not_eq_false, Bool.true_eq_false, Bool.false_eq_true, not_false_eq_true, not_true_eq_false] at h)
          | exact goes_none.mpr (by omega)
        all_goals first | (exfalso; omega) | exact hm
      · rw [if_neg hv]
        show Goes _ _ _
        unfold p34
        repeat' first
          | with_reducible refine goes_if (fun h => ?_) (fun h => ?_) <;> (try simp only [lim64, imp_false, decide_eq_true_eq, decide_eq_false_iff_not, Int.toNat_natCast, toNat_pred, toNat_succ, Option.getD_some, Option.getD_none, Bool.not_eq_true', Bool.not_eq_false', Bool.and_eq_true, Bool.or_eq_true, Bool.and_eq_false_iff, Bool.or_eq_false_iff, bne_iff_ne, beq_iff_eq, bne_eq_false_iff_eq, beq_eq_false_iff_ne, ne_eq, not_and, Int.not_le, Int.not_lt, ge_iff_le, gt_iff_lt, Nat.not_lt, Nat.not_le, Bool.not_eq_true, Bool.not_eq_false, Bool.true_eq_false, Bool.false_eq_true, not_false_eq_true, not_true_eq_false] at h)
          | exact goes_none.mpr (by omega)
        all_goals first | (exfalso; omega) | rfl
    · rw [if_neg h1]
      show Goes _ _ _
      unfold p34
      repeat' first
        | with_reducible refine goes_if (fun h => ?_) (fun h => ?_) <;> (try simp only [lim64, imp_false, decide_eq_true_eq, decide_eq_false_iff_not, Int.toNat_natCast, toNat_pred, toNat_succ, Option.getD_some, Option.getD_none, Bool.not_eq_true', Bool.not_eq_false', Bool.and_eq_true, Bool.or_eq_true, Bool.and_eq_false_iff, Bool.or_eq_false_iff, bne_iff_ne, beq_iff_eq, bne_eq_false_iff_eq, beq_eq_false_iff_ne, ne_eq, not_and, Int.not_le, Int.not_lt, ge_iff_le, gt_iff_lt, Nat.not_lt, Nat.not_le, Bool.not_eq_true, Bool.not_eq_false, Bool.true_eq_false, Bool.false_eq_true, not_false_eq_true, not_true_eq_false] at h)
        | exact goes_none.mpr (by omega)
      all_goals first | (exfalso; omega) | rfl
  · rw [if_neg h0]
    show Goes _ _ _
    unfold p34
    repeat' first
      | with_reducible refine goes_if (fun h => ?_) (fun h => ?_) <;> (try simp only [lim64, imp_false, decide_eq_true_eq, decide_eq_false_iff_not, Int.toNat_natCast, toNat_pred, toNat_succ, Option.getD_some, Option.getD_none, Bool.not_eq_true', Bool.not_eq_false', Bool.and_eq_true, Bool.or_eq_true, Bool.and_eq_false_iff, Bool.or_eq_false_iff, bne_iff_ne, beq_iff_eq, bne_eq_false_iff_eq, beq_eq_false_iff_ne, ne_eq, not_and, Int.not_le, Int.not_lt, ge_iff_le, gt_iff_lt, Nat.not_lt, Nat.not_le, Bool.not_eq_true, Bool.not_eq_false, Bool.true_eq_false, Bool.false_eq_true, not_false_eq_true, not_true_eq_false] at h)
      | exact goes_none.mpr (by omega)
    all_goals first | (exfalso; omega) | rfl

theorem k34_ok : k34.ok Try.prog := by
  intro x hx
  obtain ⟨⟨hr, ⟨al, nl, ml, tl, _⟩, _⟩, ⟨hg, ⟨am, nm, mm, tm, _⟩, _⟩, o, _⟩ := x
  obtain ⟨h1, h2⟩ := a34 hr al nl ml tl hg am nm mm tm o (s34 hr al nl ml tl hg am nm mm tm o (of_dec hx rfl))
  exact ⟨⟨400, (by decide : 2 + 1 + 0 ≤ 400), h1⟩, h2⟩

end Go.Ev
