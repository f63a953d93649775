/-
  The longest gap; the trains.
-/
import Derived.Test.YtejcmbcmhfejkaaR3
import Derived.Test.YtejcmbcmhfejkaaC2
namespace Go.Ev
open Go.Proofs
set_option linter.unusedVariables false
set_option linter.unusedSimpArgs false
set_option maxRecDepth 100000
noncomputable def xG (test : Bool → Prop → Prop → Prop) : Ext := consX test [k24, k25, k45, k42, k44]
theorem xG_ok : ExtOk Try.prog (xG cond) := consX_ok ⟨k24_ok, k25_ok, k45_ok, k42_ok, k44_ok, trivial⟩

end Go.Ev
namespace Go.Ev
open Go.Proofs
set_option linter.unusedVariables false
set_option linter.unusedSimpArgs false
set_option maxRecDepth 100000

namespace S
/-- The longest of the first n runs, the first of these. -/
def bst (L : List (Int × Int)) : Nat → Int × Int
  | 0 => (0, 0)
  | n + 1 => if (at' L n).2 > (bst L n).2 then at' L n else bst L n
def gapS (h : Int) (n : Nat) (t : Nat → Int) : Int × Int × Int := if filE h n t = 0 then (if (n : Int) = h then (0, 0, 10) else ((bst (runsS (fun j => inB t n j) h.toNat false) (runsS (fun j => inB t n j) h.toNat false).length).1, (bst (runsS (fun j => inB t n j) h.toNat false) (runsS (fun j => inB t n j) h.toNat false).length).2, 0)) else (0, 0, filE h n t)
def traS (h : Int) (n : Nat) (t : Nat → Int) : Int × List (Int × Int) := if filE h n t = 0 then (0, runsS (fun j => inB t n j) h.toNat true) else (filE h n t, [])
end S
theorem rns_len {b : Nat → Bool} {H : Nat} {w : Bool} : (S.rns b H w).length ≤ H := by
  have := List.length_filterMap_le (S.rg b H w) (List.range H)
  rwa [List.length_range] at this
theorem runsS_len {b : Nat → Bool} {H : Nat} {w : Bool} : (S.runsS b H w).length ≤ H + 1 := by
  unfold S.runsS
  split
  · have := rns_len (b := b) (H := H) (w := w); omega
  · simp
theorem rns_pos {b : Nat → Bool} {H : Nat} {w : Bool} {x : Int × Int} (h : x ∈ S.rns b H w) : 1 ≤ x.2 := by
  unfold S.rns at h
  rw [List.mem_filterMap] at h
  obtain ⟨i, hi, hx⟩ := h
  rw [List.mem_range] at hi
  unfold S.rg at hx
  split at hx
  · rename_i h0
    cases hx
    show 1 ≤ ((S.rlen b H w i : Nat) : Int)
    unfold S.rst at h0
    simp only [Bool.and_eq_true] at h0
    obtain ⟨H', rfl⟩ : ∃ H', H = H' + 1 := ⟨H - 1, by omega⟩
    unfold S.rlen
    simp only [S.runN]
    rw [if_pos (by rw [Nat.add_zero, Nat.mod_eq_of_lt hi]; exact h0.1)]
    omega
  · cases hx
theorem rns_ne {b : Nat → Bool} {H : Nat} {w : Bool} {f i : Nat} (hf : f < H) (hb : b f ≠ w) (hi : i < H) (hw : b i = w) : S.rns b H w ≠ [] := fun h => by
  have hn : ∀ k, k < H → S.rg b H w k = none := fun k hk => by
    unfold S.rns at h
    rw [List.filterMap_eq_nil_iff] at h
    exact h k (List.mem_range.mpr hk)
  have ha : ∀ t, b ((f + t) % H) ≠ w := by
    intro t
    induction t with
    | zero => rw [Nat.add_zero, Nat.mod_eq_of_lt hf]; exact hb
    | succ t ih =>
      intro h1
      have h2 := hn ((f + (t + 1)) % H) (Nat.mod_lt _ (by omega))
      unfold S.rg S.rst at h2
      rw [pred_mod (by omega) (by omega), h1, show t + 1 - 1 = t by omega] at h2
      rw [if_pos (by simp [ih])] at h2
      cases h2
  have := ha (i + H - f)
  rw [show f + (i + H - f) = i + H by omega, Nat.add_mod_right, Nat.mod_eq_of_lt hi] at this
  exact this hw
theorem posP_all {l : Nat → Bool} : ∀ {n : Nat}, (∀ j, j < n → l j = true) → (S.posP l n).length = n
  | 0, _ => rfl
  | n + 1, h => by
    simp only [S.posP]
    rw [if_pos (h n (by omega)), snoc_len, posP_all fun j hj => h j (by omega)]
/-- Unless as many buckets are filled as there are, one is empty. -/
theorem gap_ex {h : Int} {n : Nat} {t : Nat → Int} (e : S.filE h n t = 0) (hn : (n : Int) ≠ h) : ∃ i, i < h.toNat ∧ S.inB t n i = false := by
  refine Classical.byContradiction fun hc => ?_
  have ha : ∀ j, j < h.toNat → S.inB t n j = true := fun j hj => by
    cases hb : S.inB t n j
    · exact absurd ⟨j, hj, hb⟩ hc
    · rfl
  have h1 := posP_all ha
  rw [posP_fil e, mkl_len] at h1
  have := fil_ok e
  omega
theorem runs_gap {h : Int} {n : Nat} {t : Nat → Int} (e : S.filE h n t = 0) (hn : (n : Int) ≠ h) : S.runsS (fun j => S.inB t n j) h.toNat false ≠ [] ∧ ∀ x ∈ S.runsS (fun j => S.inB t n j) h.toNat false, 1 ≤ x.2 := by
  obtain ⟨v1, v2, _, _⟩ := fil_ok e
  unfold S.runsS
  split
  · rename_i ha
    obtain ⟨f, hf, hb⟩ := any_iff.mp ha
    obtain ⟨i, hi, hw⟩ := gap_ex e hn
    exact ⟨rns_ne hf (by simpa using hb) hi hw, fun x hx => rns_pos hx⟩
  · refine ⟨by simp, fun x hx => ?_⟩
    obtain rfl := List.mem_singleton.mp hx
    show 1 ≤ ((h.toNat : Nat) : Int)
    omega
theorem runs_nil {h : Nat} {t : Nat → Int} : 0 < h → S.runsS (fun j => S.inB t 0 j) h true = [] := fun hh => by
  have hb : ∀ j, S.inB t 0 j = false := fun j => rfl
  have ha : S.any (fun i => S.inB t 0 i == !true) h = true := any_iff.mpr ⟨0, hh, by rw [hb]; rfl⟩
  unfold S.runsS
  rw [if_pos ha]
  unfold S.rns
  rw [List.filterMap_eq_nil_iff]
  intro a _
  exact rg_off (by rw [hb]; exact Bool.false_ne_true)
theorem fm_congr {α β : Type} {f g : α → Option β} : ∀ {L : List α}, (∀ x ∈ L, f x = g x) → L.filterMap f = L.filterMap g
  | [], _ => rfl
  | a :: l, h => by
    simp only [List.filterMap_cons, h a List.mem_cons_self, fm_congr fun x hx => h x (List.mem_cons_of_mem _ hx)]
theorem runsS_congr {b c : Nat → Bool} {H : Nat} {w : Bool} (h : ∀ j, j < H → b j = c j) : S.runsS b H w = S.runsS c H w := by
  have e1 : S.any (fun i => b i == !w) H = S.any (fun i => c i == !w) H := any_congr fun j hj => by rw [h j hj]
  have e2 : S.rns b H w = S.rns c H w := by
    unfold S.rns
    apply fm_congr
    intro i hi
    rw [List.mem_range] at hi
    have hr : ∀ n, b ((i + n) % H) = c ((i + n) % H) := fun n => h _ (Nat.mod_lt _ (by omega))
    have hl : S.rlen b H w i = S.rlen c H w i := by unfold S.rlen; simp only [hr]
    unfold S.rg S.rst
    rw [hl, h i hi, hr]
  unfold S.runsS
  rw [e1, e2]
inductive St19 where
  | h0 (x0 : Int) (x1 : Int) (x2 : Int) (x3 : List (Int × Int))
abbrev Rt19 := Int × Int × Int
noncomputable def V19 (hr : Int) (al nl ml : Nat) (tl : Nat → Int) (r : Rt19) : PV := PV.tup [PV.int IntKind.i64 r.1, PV.int IntKind.i64 r.2.1, PV.int IntKind.i64 r.2.2]
noncomputable def N19 (hr : Int) (al nl ml : Nat) (tl : Nat → Int) (r : Rt19) : List Blk := []
noncomputable def I19 (hr : Int) (al nl ml : Nat) (tl : Nat → Int) : St19 → Hd
  | .h0 x0 x1 x2 x3 => ⟨hd Try.f19 0, [PV.ptr (PA.mk (1) (0) (0) (0)),
 PV.own (2) (2) (List.length x3),
 PV.int IntKind.i64
 (↑(List.length
 (S.runsS (fun (j : Nat) => S.inB (fun (j : Nat) => tl (j + al)) nl j) (Int.toNat hr)
 false)) :
 Int),
 PV.int IntKind.i64 x0], [[(1, (true, Blk.cells [PV.int IntKind.i64 x1, PV.int IntKind.i64 x2])), (2, (true, Blk.cols (List.length x3)
 [Col.int IntKind.i64 fun (j : Nat) => (S.at' x3 j).1,
 Col.int IntKind.i64 fun (j : Nat) => (S.at' x3 j).2]))], [(0, (false, .cols ml [.int .i64 tl]))]], 3⟩
noncomputable def q19 (hr : Int) (al nl ml : Nat) (tl : Nat → Int) : St19 → Option (St19 ⊕ Rt19)
  | .h0 x0 x1 x2 x3 => bif (decide
 (x0 <
 (↑(List.length
 (S.runsS (fun (j : Nat) => S.inB (fun (j : Nat) => tl (j + al)) nl j) (Int.toNat hr)
 false)) :
 Int)))
 then (bif (decide ((0 : Int) ≤ x0 ∧ x0 < (↑(List.length x3) : Int)))
 then (bif (decide (Int.toNat x0 < List.length x3))
 then (bif (decide ((S.at' x3 (Int.toNat x0)).2 > x2))
 then (bif (lim IntKind.i64 (x0 + (1 : Int)))
 then (some (.inl (.h0 (x0 + (1 : Int)) ((S.at' x3 (Int.toNat x0)).1) ((S.at' x3 (Int.toNat x0)).2) (x3))))
 else (none))
 else (bif (lim IntKind.i64 (x0 + (1 : Int)))
 then (some (.inl (.h0 (x0 + (1 : Int)) (x1) (x2) (x3))))
 else (none)))
 else (none))
 else (none))
 else (some (.inr (x1, x2, (0 : Int))))
noncomputable def p19 (hr : Int) (al nl ml : Nat) (tl : Nat → Int) : Option (St19 ⊕ Rt19) := bif (decide (al + nl ≤ ml ∧ nl ≤ 1000000))
 then (bif ((S.filE hr nl fun (j : Nat) => tl (j + al)) != (0 : Int))
 then (some (.inr ((0 : Int), (0 : Int), S.filE hr nl fun (j : Nat) => tl (j + al))))
 else (bif ((↑nl : Int) == hr)
 then (some (.inr ((0 : Int), (0 : Int), (10 : Int))))
 else (bif (decide (al + nl ≤ ml ∧ nl ≤ 1000000 ∧ (S.filE hr nl fun (j : Nat) => tl (j + al)) = (0 : Int)))
 then (some (.inl (.h0 ((0 : Int)) ((0 : Int)) ((0 : Int)) (S.runsS (fun (j : Nat) => S.inB (fun (j : Nat) => tl (j + al)) nl j) (Int.toNat hr) false))))
 else (none))))
 else (none)
noncomputable def Te19 (test : Bool → Prop → Prop → Prop) (Kst : KS) (Kret : KR) (hr : Int) (al nl ml : Nat) (tl : Nat → Int) : Prop :=
  test (decide (al + nl ≤ ml ∧ nl ≤ 1000000))
 (test ((S.filE hr nl fun (j : Nat) => tl (j + al)) != (0 : Int))
 (Kret (PV.tup
 [PV.int IntKind.i64 (0 : Int), PV.int IntKind.i64 (0 : Int),
 PV.int IntKind.i64 (S.filE hr nl fun (j : Nat) => tl (j + al))]) ([[(0, false, Blk.cols ml [Col.int IntKind.i64 tl])]]) (3))
 (test ((↑nl : Int) == hr)
 (Kret (PV.tup
 [PV.int IntKind.i64 (0 : Int), PV.int IntKind.i64 (0 : Int), PV.int IntKind.i64 (10 : Int)]) ([[(0, false, Blk.cols ml [Col.int IntKind.i64 tl])]]) (3))
 (test (decide (al + nl ≤ ml ∧ nl ≤ 1000000 ∧ (S.filE hr nl fun (j : Nat) => tl (j + al)) = (0 : Int)))
 (Kst (hd Try.f19 0) ([PV.ptr (PA.mk (3) (0) (0) (0)),
 PV.own (5) (2)
 (List.length
 (S.runsS (fun (j : Nat) => S.inB (fun (j : Nat) => tl (j + al)) nl j) (Int.toNat hr) false)),
 PV.int IntKind.i64
 (↑(List.length
 (S.runsS (fun (j : Nat) => S.inB (fun (j : Nat) => tl (j + al)) nl j) (Int.toNat hr)
 false)) :
 Int),
 PV.int IntKind.i64 (0 : Int)]) ([[(0, false, Blk.cols ml [Col.int IntKind.i64 tl]),
 (5, true,
 Blk.cols
 (List.length
 (S.runsS (fun (j : Nat) => S.inB (fun (j : Nat) => tl (j + al)) nl j) (Int.toNat hr) false))
 [Col.int IntKind.i64 fun (j : Nat) =>
 Prod.fst
 (S.at'
 (S.runsS (fun (j : Nat) => S.inB (fun (j : Nat) => tl (j + al)) nl j) (Int.toNat hr)
 false)
 j),
 Col.int IntKind.i64 fun (j : Nat) =>
 Prod.snd
 (S.at'
 (S.runsS (fun (j : Nat) => S.inB (fun (j : Nat) => tl (j + al)) nl j) (Int.toNat hr)
 false)
 j)]),
 (3, true,
 Blk.cells [PV.int IntKind.i64 (0 : Int), PV.int IntKind.i64 (0 : Int)])]]) (6))
 (False))))
 (False)
set_option maxRecDepth 100000 in
theorem te19 (test : Bool → Prop → Prop → Prop) (Kst : KS) (Kret : KR) (hr : Int) (al nl ml : Nat) (tl : Nat → Int) : run test Try.env true (xG test) true 400 ⟨19, [.cd (mkFn Try.f19).body], argT 0 [.agg [.int .i64 hr, .loose ⟨0, 1, al, 0⟩ nl]], [[], [(0, (false, .cols ml [.int .i64 tl]))]], 1⟩ (proj 1 [6, 21, 22, 23] Kst Kret) =
  Te19 test Kst Kret hr al nl ml tl := by kernel_rfl
noncomputable def T19_0 (test : Bool → Prop → Prop → Prop) (Kst : KS) (Kret : KR) (hr : Int) (al nl ml : Nat) (tl : Nat → Int) (x0 : Int) (x1 : Int) (x2 : Int) (x3 : List (Int × Int)) : Prop :=
  test (decide
 (x0 <
 (↑(List.length
 (S.runsS (fun (j : Nat) => S.inB (fun (j : Nat) => tl (j + al)) nl j) (Int.toNat hr)
 false)) :
 Int)))
 (test (decide ((0 : Int) ≤ x0 ∧ x0 < (↑(List.length x3) : Int)))
 (test (decide (Int.toNat x0 < List.length x3))
 (test (decide (Int.toNat x0 < List.length x3))
 (test (decide ((S.at' x3 (Int.toNat x0)).2 > x2))
 (test (lim IntKind.i64 (x0 + (1 : Int)))
 (Kst (hd Try.f19 0) ([PV.ptr (PA.mk (1) (0) (0) (0)),
 PV.own (2) (2) (List.length x3),
 PV.int IntKind.i64
 (↑(List.length
 (S.runsS (fun (j : Nat) => S.inB (fun (j : Nat) => tl (j + al)) nl j) (Int.toNat hr)
 false)) :
 Int),
 PV.int IntKind.i64 (x0 + (1 : Int))]) ([[(0, false, Blk.cols ml [Col.int IntKind.i64 tl]),
 (2, true,
 Blk.cols (List.length x3)
 [Col.int IntKind.i64 fun (j : Nat) => (S.at' x3 j).1,
 Col.int IntKind.i64 fun (j : Nat) => (S.at' x3 j).2]),
 (1, true,
 Blk.cells
 [PV.int IntKind.i64 ((S.at' x3 (Int.toNat x0)).1),
 PV.int IntKind.i64 ((S.at' x3 (Int.toNat x0)).2)])]]) (4))
 (False))
 (test (lim IntKind.i64 (x0 + (1 : Int)))
 (Kst (hd Try.f19 0) ([PV.ptr (PA.mk (1) (0) (0) (0)),
 PV.own (2) (2) (List.length x3),
 PV.int IntKind.i64
 (↑(List.length
 (S.runsS (fun (j : Nat) => S.inB (fun (j : Nat) => tl (j + al)) nl j) (Int.toNat hr)
 false)) :
 Int),
 PV.int IntKind.i64 (x0 + (1 : Int))]) ([[(0, false, Blk.cols ml [Col.int IntKind.i64 tl]),
 (2, true,
 Blk.cols (List.length x3)
 [Col.int IntKind.i64 fun (j : Nat) => (S.at' x3 j).1,
 Col.int IntKind.i64 fun (j : Nat) => (S.at' x3 j).2]),
 (1, true, Blk.cells [PV.int IntKind.i64 x1, PV.int IntKind.i64 x2])]]) (4))
 (False)))
 (False))
 (False))
 (False))
 (Kret (PV.tup [PV.int IntKind.i64 x1, PV.int IntKind.i64 x2, PV.int IntKind.i64 (0 : Int)]) ([[(0, false, Blk.cols ml [Col.int IntKind.i64 tl])]]) (3))
set_option maxRecDepth 100000 in
theorem t19_0 (test : Bool → Prop → Prop → Prop) (Kst : KS) (Kret : KR) (hr : Int) (al nl ml : Nat) (tl : Nat → Int) (x0 : Int) (x1 : Int) (x2 : Int) (x3 : List (Int × Int)) : run test Try.env true (xG test) true 400 ⟨19, hd Try.f19 0, zipT [6, 21, 22, 23] [PV.ptr (PA.mk (1) (0) (0) (0)),
 PV.own (2) (2) (List.length x3),
 PV.int IntKind.i64
 (↑(List.length
 (S.runsS (fun (j : Nat) => S.inB (fun (j : Nat) => tl (j + al)) nl j) (Int.toNat hr)
 false)) :
 Int),
 PV.int IntKind.i64 x0], [[(1, (true, Blk.cells [PV.int IntKind.i64 x1, PV.int IntKind.i64 x2])), (2, (true, Blk.cols (List.length x3)
 [Col.int IntKind.i64 fun (j : Nat) => (S.at' x3 j).1,
 Col.int IntKind.i64 fun (j : Nat) => (S.at' x3 j).2]))], [(0, (false, .cols ml [.int .i64 tl]))]], 3⟩ (proj 1 [6, 21, 22, 23] Kst Kret) =
  T19_0 test Kst Kret hr al nl ml tl x0 x1 x2 x3 := by kernel_rfl
attribute [local irreducible] Int.subNatNat in
set_option maxRecDepth 100000 in
theorem be19 (hr : Int) (al nl ml : Nat) (tl : Nat → Int) (Kst : KS) (Kret : KR) (x : St19 ⊕ Rt19) (hS : HS 1 400 ((I19 hr al nl ml tl)) Kst x) (hR : HR 1 400 ((V19 hr al nl ml tl)) (fun r => [newL (1 + 1) ((N19 hr al nl ml tl) r) ++ [(0, (false, .cols ml [.int .i64 tl]))]]) Kret x) (h : (bif (decide (al + nl ≤ ml ∧ nl ≤ 1000000))
 then (bif ((S.filE hr nl fun (j : Nat) => tl (j + al)) != (0 : Int))
 then (some (.inr ((0 : Int), (0 : Int), S.filE hr nl fun (j : Nat) => tl (j + al))))
 else (bif ((↑nl : Int) == hr)
 then (some (.inr ((0 : Int), (0 : Int), (10 : Int))))
 else (bif (decide (al + nl ≤ ml ∧ nl ≤ 1000000 ∧ (S.filE hr nl fun (j : Nat) => tl (j + al)) = (0 : Int)))
 then (some (.inl (.h0 ((0 : Int)) ((0 : Int)) ((0 : Int)) (S.runsS (fun (j : Nat) => S.inB (fun (j : Nat) => tl (j + al)) nl j) (Int.toNat hr) false))))
 else (none))))
 else (none) : Option (St19 ⊕ Rt19)) = some x) : Te19 cond Kst Kret hr al nl ml tl := by
  unfold Te19
  exact bif_split h
   (fun c0 h => bif_split h
   (fun c1 h => ret_at hR _ h (fun n => n) rfl rfl rfl (rn_tup ⟨(rn_int rfl), (rn_int rfl), (rn_int rfl), trivial⟩) rfl (entl_bor (use_lo rfl) rfl rfl entl_nil))
   (fun c1 h => bif_split h
   (fun c2 h => ret_at hR _ h (fun n => n) rfl rfl rfl (rn_tup ⟨(rn_int rfl), (rn_int rfl), (rn_int rfl), trivial⟩) rfl (entl_bor (use_lo rfl) rfl rfl entl_nil))
   (fun c2 h => bif_split h
   (fun c3 h => stop_at hS _ h (fun n => bif Nat.beq n 1 then 3 else bif Nat.beq n 2 then 5 else n) rfl rfl rfl ⟨(rn_ptr (use_own rfl) rfl rfl), ⟨(rn_own (use_own rfl) rfl rfl), ⟨(rn_int rfl), ⟨(rn_int rfl), trivial⟩⟩⟩⟩ rfl (entl_b (use_own rfl) rfl (by simp) (rb_cells ⟨(rn_int rfl), (rn_int rfl), trivial⟩) (entl_new (use_own rfl) rfl (Nat.le_of_eq rfl) (rcs_int (fun _ _ => rfl) (rcs_int (fun _ _ => rfl) rcs_nil)) (entl_bor (use_lo rfl) rfl rfl entl_nil))))
   (fun c3 h => no_some h))))
   (fun c0 h => no_some h)
attribute [local irreducible] Int.subNatNat in
set_option maxRecDepth 100000 in
theorem b19_0 (hr : Int) (al nl ml : Nat) (tl : Nat → Int) (Kst : KS) (Kret : KR) (x : St19 ⊕ Rt19) (hS : HS 1 400 ((I19 hr al nl ml tl)) Kst x) (hR : HR 1 400 ((V19 hr al nl ml tl)) (fun r => [newL (1 + 1) ((N19 hr al nl ml tl) r) ++ [(0, (false, .cols ml [.int .i64 tl]))]]) Kret x) (x0 : Int) (x1 : Int) (x2 : Int) (x3 : List (Int × Int)) (h : (bif (decide
 (x0 <
 (↑(List.length
 (S.runsS (fun (j : Nat) => S.inB (fun (j : Nat) => tl (j + al)) nl j) (Int.toNat hr)
 false)) :
 Int)))
 then (bif (decide ((0 : Int) ≤ x0 ∧ x0 < (↑(List.length x3) : Int)))
 then (bif (decide (Int.toNat x0 < List.length x3))
 then (bif (decide ((S.at' x3 (Int.toNat x0)).2 > x2))
 then (bif (lim IntKind.i64 (x0 + (1 : Int)))
 then (some (.inl (.h0 (x0 + (1 : Int)) ((S.at' x3 (Int.toNat x0)).1) ((S.at' x3 (Int.toNat x0)).2) (x3))))
 else (none))
 else (bif (lim IntKind.i64 (x0 + (1 : Int)))
 then (some (.inl (.h0 (x0 + (1 : Int)) (x1) (x2) (x3))))
 else (none)))
 else (none))
 else (none))
 else (some (.inr (x1, x2, (0 : Int)))) : Option (St19 ⊕ Rt19)) = some x) : T19_0 cond Kst Kret hr al nl ml tl x0 x1 x2 x3 := by
  unfold T19_0
  exact bif_split h
   (fun c0 h => bif_split h
   (fun c1 h => bif_split h
   (fun c2 h => cond_yes c2 (bif_split h
   (fun c3 h => bif_split h
   (fun c4 h => stop_at hS _ h (fun n => bif Nat.beq n 1 then 1 else bif Nat.beq n 2 then 2 else n) rfl rfl rfl ⟨(rn_ptr (use_own rfl) rfl rfl), ⟨(rn_own (use_own rfl) rfl rfl), ⟨(rn_int rfl), ⟨(rn_int rfl), trivial⟩⟩⟩⟩ rfl (entl_b (use_own rfl) rfl (by simp) (rb_cells ⟨(rn_int rfl), (rn_int rfl), trivial⟩) (entl_new (use_own rfl) rfl (Nat.le_of_eq rfl) (rcs_int (fun _ _ => rfl) (rcs_int (fun _ _ => rfl) rcs_nil)) (entl_bor (use_lo rfl) rfl rfl entl_nil))))
   (fun c4 h => no_some h))
   (fun c3 h => bif_split h
   (fun c4 h => stop_at hS _ h (fun n => bif Nat.beq n 1 then 1 else bif Nat.beq n 2 then 2 else n) rfl rfl rfl ⟨(rn_ptr (use_own rfl) rfl rfl), ⟨(rn_own (use_own rfl) rfl rfl), ⟨(rn_int rfl), ⟨(rn_int rfl), trivial⟩⟩⟩⟩ rfl (entl_b (use_own rfl) rfl (by simp) (rb_cells ⟨(rn_int rfl), (rn_int rfl), trivial⟩) (entl_new (use_own rfl) rfl (Nat.le_of_eq rfl) (rcs_int (fun _ _ => rfl) (rcs_int (fun _ _ => rfl) rcs_nil)) (entl_bor (use_lo rfl) rfl rfl entl_nil))))
   (fun c4 h => no_some h))))
   (fun c2 h => no_some h))
   (fun c1 h => no_some h))
   (fun c0 h => ret_at hR _ h (fun n => n) rfl rfl rfl (rn_tup ⟨(rn_int rfl), (rn_int rfl), (rn_int rfl), trivial⟩) rfl (entl_bor (use_lo rfl) rfl rfl entl_nil))
theorem a19 (hr : Int) (al nl ml : Nat) (tl : Nat → Int) {r : Rt19} (h : Goes ((q19 hr al nl ml tl)) ((p19 hr al nl ml tl)) r) : CallR Try.prog 19 [.agg [.int .i64 hr, .loose ⟨0, 1, al, 0⟩ nl]] [[(0, (false, .cols ml [.int .i64 tl]))]] 1 ((V19 hr al nl ml tl) r) ((fun r => [newL (1 + 1) ((N19 hr al nl ml tl) r) ++ [(0, (false, .cols ml [.int .i64 tl]))]]) r) 400 ∧ ∃ F, Try.prog.funcs[19]? = some F ∧ F.body.isSome = true ∧ (F.name == "runtime.NumGoroutine") = false := by
  refine dec_calls (f := 19) (lo := 1) (hi := 400) (H := [[(0, (false, .cols ml [.int .i64 tl]))]]) (args := [.agg [.int .i64 hr, .loose ⟨0, 1, al, 0⟩ nl]]) Try.envOk Try.mixed xG_ok ((I19 hr al nl ml tl)) ((V19 hr al nl ml tl)) (fun r => [newL (1 + 1) ((N19 hr al nl ml tl) r) ++ [(0, (false, .cols ml [.int .i64 tl]))]]) (fn := mkFn Try.f19) (ts := [6, 21, 22, 23]) (n := 400) rfl (by decide) (by simp) (names_of rfl) ?_ ?_ ?_ h
  · intro s; cases s <;> exact ⟨hd_ok _ _, by simp [I19], names_of rfl, Nat.le_of_ble_eq_true rfl⟩
  · intro Kst Kret x hS hR h
    exact Holds.eq (te19 cond Kst Kret hr al nl ml tl) (be19 hr al nl ml tl Kst Kret x hS hR h)
  · intro Kst Kret x hS hR s h
    cases s with
    | h0 x0 x1 x2 x3 => exact Holds.eq (t19_0 cond Kst Kret hr al nl ml tl x0 x1 x2 x3) (b19_0 hr al nl ml tl Kst Kret x hS hR x0 x1 x2 x3 h)
noncomputable def k19 : Con := ⟨19, [.agg [.plain (.int .i64), .list [.int .i64]]], fun (x : (Int × (Nat × Nat × Nat × (Nat → Int) × Unit) × Unit) × Unit) => (fun (hr : Int) (al nl ml : Nat) (tl : Nat → Int) => decide (al + nl ≤ ml ∧ nl ≤ 1000000)) x.1.1 x.1.2.1.1 x.1.2.1.2.1 x.1.2.1.2.2.1 x.1.2.1.2.2.2.1, fun (x : (Int × (Nat × Nat × Nat × (Nat → Int) × Unit) × Unit) × Unit) => (fun (hr : Int) (al nl ml : Nat) (tl : Nat → Int) => (V19 hr al nl ml tl) (S.gapS hr nl (fun j => tl (j + al)))) x.1.1 x.1.2.1.1 x.1.2.1.2.1 x.1.2.1.2.2.1 x.1.2.1.2.2.2.1, fun (x : (Int × (Nat × Nat × Nat × (Nat → Int) × Unit) × Unit) × Unit) => (fun (hr : Int) (al nl ml : Nat) (tl : Nat → Int) => (N19 hr al nl ml tl) (S.gapS hr nl (fun j => tl (j + al)))) x.1.1 x.1.2.1.1 x.1.2.1.2.1 x.1.2.1.2.2.1 x.1.2.1.2.2.2.1, fun _ _ => .dead⟩
theorem s19' (hr : Int) (al nl ml : Nat) (tl : Nat → Int) (L : List (Int × Int)) (hL : L.length ≤ 2001) (hq : (S.runsS (fun j => S.inB (fun j => tl (j + al)) nl j) hr.toNat false) = L) : ∀ (k i : Nat) (x y : Int), i + k = L.length → Holds (x = (S.bst L i).1) → Holds (y = (S.bst L i).2) → Comes (q19 hr al nl ml tl) (.h0 (i : Int) x y L) ((S.bst L L.length).1, (S.bst L L.length).2, 0) := by
  intro k
  induction k with
  | zero =>
    intro i x y hi ex ey
    obtain rfl : i = L.length := by omega
    apply Comes.of
    rw [q19]
    show Goes _ (bif decide ((L.length : Int) < ((S.runsS (fun j => S.inB (fun j => tl (j + al)) nl j) hr.toNat false).length : Int)) then _ else _) _
    rw [hq]
    refine goes_no (decide_eq_false (by omega)) ?_
    exact goes_inr.mpr (by rw [ex.get, ey.get])
  | succ k ih =>
    intro i x y hi ex ey
    have ih := ih (i + 1)
    simp only [S.bst] at ih
    by_cases hc : (S.at' L i).2 > y
    · have ih := ih _ _ (by omega) ⟨by rw [← ey.get, if_pos hc]⟩ ⟨by rw [← ey.get, if_pos hc]⟩
      apply Comes.of
      rw [q19]
      show Goes _ (bif decide ((i : Int) < ((S.runsS (fun j => S.inB (fun j => tl (j + al)) nl j) hr.toNat false).length : Int)) then _ else _) _
      rw [hq]
      repeat' first
        | with_reducible refine goes_if (fun h => ?_) (fun h => ?_) <;> (try simp only [lim64, imp_false, decide_eq_true_eq, decide_eq_false_iff_not, Int.toNat_natCast, toNat_pred, toNat_succ, Option.getD_some, Option.getD_none, Bool.not_eq_true', Bool.not_eq_false', Bool.and_eq_true, Bool.or_eq_true, Bool.and_eq_false_iff, Bool.or_eq_false_iff, bne_iff_ne, beq_iff_eq, bne_eq_false_iff_eq, beq_eq_false_iff_ne, ne_eq, not_and, Int.not_le, Int.not_lt, ge_iff_le, gt_iff_lt, Nat.not_lt, Nat.not_le, Bool.not_eq_true, Bool.not_eq_false, Bool.true_eq_false, Bool.false_eq_true, not_false_eq_true, not_true_eq_false] at h)
        | exact goes_none.mpr (by omega)
      all_goals first | (exfalso; omega) | exact ih
    · have ih := ih x y (by omega) ⟨by rw [← ey.get, if_neg hc]; exact ex.get⟩ ⟨by rw [← ey.get, if_neg hc]; exact ey.get⟩
      apply Comes.of
      rw [q19]
      show Goes _ (bif decide ((i : Int) < ((S.runsS (fun j => S.inB (fun j => tl (j + al)) nl j) hr.toNat false).length : Int)) then _ else _) _
      rw [hq]
      repeat' first
        | with_reducible refine goes_if (fun h => ?_) (fun h => ?_) <;> (try simp only [lim64, imp_false, decide_eq_true_eq, decide_eq_false_iff_not, Int.toNat_natCast, toNat_pred, toNat_succ, Option.getD_some, Option.getD_none, Bool.not_eq_true', Bool.not_eq_false', Bool.and_eq_true, Bool.or_eq_true, Bool.and_eq_false_iff, Bool.or_eq_false_iff, bne_iff_ne, beq_iff_eq, bne_eq_false_iff_eq, beq_eq_false_iff_ne, ne_eq, not_and, Int.not_le, Int.not_lt, ge_iff_le, gt_iff_lt, Nat.not_lt, Nat.not_le, Bool.not_eq_true, Bool.not_eq_false, Bool.true_eq_false, Bool.false_eq_true, not_false_eq_true, not_true_eq_false] at h)
        | exact goes_none.mpr (by omega)
      all_goals first | (exfalso; omega) | exact ih
theorem s19 (hr : Int) (al nl ml : Nat) (tl : Nat → Int) (hp : al + nl ≤ ml ∧ nl ≤ 1000000) : Goes ((q19 hr al nl ml tl)) ((p19 hr al nl ml tl)) (S.gapS hr nl (fun j => tl (j + al))) := by
  have hp' := hp
  obtain ⟨hp1, hp2⟩ := hp
  have e3 : (S.mkl hr.toNat fun j => S.inB (fun j => tl (j + al)) nl j).length = hr.toNat := mkl_len
  have e4 : ∀ w, S.runsS (fun j => S.at' (S.mkl hr.toNat fun j => S.inB (fun j => tl (j + al)) nl j) j) hr.toNat w = S.runsS (fun j => S.inB (fun j => tl (j + al)) nl j) hr.toNat w := fun w => runsS_congr fun j hj => at_mkl hj
  unfold S.gapS
  unfold p19
  refine goes_ok (decide_eq_true hp') ?_
  by_cases h0 : S.filE hr nl (fun j => tl (j + al)) = 0
  · obtain ⟨v1, v2, v3, v4⟩ := fil_ok h0
    rw [if_pos h0]
    refine goes_no (by rw [h0]; rfl) ?_
    by_cases h1 : (nl : Int) = hr
    · rw [if_pos h1]
      exact goes_ok (by rw [h1]; exact beq_self_eq_true _) (goes_inr.mpr rfl)
    · rw [if_neg h1]
      refine goes_no (by simpa using h1) ?_
      refine goes_ok (decide_eq_true ⟨hp1, hp2, h0⟩) ?_
      exact s19' hr al nl ml tl (S.runsS (fun j => S.inB (fun j => tl (j + al)) nl j) hr.toNat false) (by have := runsS_len (b := (fun j => S.inB (fun j => tl (j + al)) nl j)) (H := hr.toNat) (w := false); omega) rfl _ 0 0 0 (Nat.zero_add _) ⟨rfl⟩ ⟨rfl⟩
  · rw [if_neg h0]
    refine goes_ok (by simpa using h0) ?_
    exact goes_inr.mpr rfl

theorem k19_ok : k19.ok Try.prog := by
  intro x hx
  obtain ⟨⟨hr, ⟨al, nl, ml, tl, _⟩, _⟩, _⟩ := x
  obtain ⟨h1, h2⟩ := a19 hr al nl ml tl (s19 hr al nl ml tl (of_dec hx rfl))
  exact ⟨⟨400, (by decide : 1 + 1 + 0 ≤ 400), h1⟩, h2⟩
inductive St21 where
  | h0 (x0 : Int) (x1 : List (Int × Int)) (x2 : Int) (x3 : Int)
abbrev Rt21 := Int × Int × Int
noncomputable def V21 (hr : Int) (al nl ml : Nat) (tl : Nat → Int) (r : Rt21) : PV := PV.tup [PV.int IntKind.i64 r.1, PV.int IntKind.i64 r.2.1, PV.int IntKind.i64 r.2.2]
noncomputable def N21 (hr : Int) (al nl ml : Nat) (tl : Nat → Int) (r : Rt21) : List Blk := []
noncomputable def I21 (hr : Int) (al nl ml : Nat) (tl : Nat → Int) : St21 → Hd
  | .h0 x0 x1 x2 x3 => ⟨hd Try.f21 0, [PV.own (1) (2) (List.length x1),
 PV.ptr (PA.mk (2) (0) (0) (0)), PV.int IntKind.i64 x0], [[(1, (true, Blk.cols (List.length x1)
 [Col.int IntKind.i64 fun (j : Nat) => (S.at' x1 j).1,
 Col.int IntKind.i64 fun (j : Nat) => (S.at' x1 j).2])), (2, (true, Blk.cells [PV.int IntKind.i64 x2, PV.int IntKind.i64 x3]))], [(0, (false, .cols ml [.int .i64 tl]))]], 3⟩
noncomputable def q21 (hr : Int) (al nl ml : Nat) (tl : Nat → Int) : St21 → Option (St21 ⊕ Rt21)
  | .h0 x0 x1 x2 x3 => bif (decide (x0 < (↑(List.length x1) : Int)))
 then (bif (decide ((0 : Int) ≤ x0 ∧ x0 < (↑(List.length x1) : Int)))
 then (bif (decide (Int.toNat x0 < List.length x1))
 then (bif (decide ((S.at' x1 (Int.toNat x0)).2 > x3))
 then (bif (lim IntKind.i64 (x0 + (1 : Int)))
 then (some (.inl (.h0 (x0 + (1 : Int)) (x1) ((S.at' x1 (Int.toNat x0)).1) ((S.at' x1 (Int.toNat x0)).2))))
 else (none))
 else (bif (lim IntKind.i64 (x0 + (1 : Int)))
 then (some (.inl (.h0 (x0 + (1 : Int)) (x1) (x2) (x3))))
 else (none)))
 else (none))
 else (none))
 else (some (.inr (x2, x3, (0 : Int))))
noncomputable def p21 (hr : Int) (al nl ml : Nat) (tl : Nat → Int) : Option (St21 ⊕ Rt21) := bif (decide (al + nl ≤ ml ∧ nl ≤ 1000000))
 then (bif ((S.filE hr nl fun (j : Nat) => tl (j + al)) != (0 : Int))
 then (some (.inr ((0 : Int), (0 : Int), S.filE hr nl fun (j : Nat) => tl (j + al))))
 else (bif ((↑nl : Int) == hr)
 then (some (.inr ((0 : Int), (0 : Int), (10 : Int))))
 else (bif (decide (al + nl ≤ ml ∧ nl ≤ 1000000 ∧ (S.filE hr nl fun (j : Nat) => tl (j + al)) = (0 : Int)))
 then (bif (decide
 (0 +
 List.length (S.mkl (Int.toNat hr) fun (j : Nat) => S.inB (fun (j : Nat) => tl (j + al)) nl j) ≤
 List.length (S.mkl (Int.toNat hr) fun (j : Nat) => S.inB (fun (j : Nat) => tl (j + al)) nl j) ∧
 List.length (S.mkl (Int.toNat hr) fun (j : Nat) => S.inB (fun (j : Nat) => tl (j + al)) nl j) ≤
 2000))
 then (bif (decide
 ((0 : Int) ≤ (0 : Int) ∧
 (0 : Int) <
 (↑(List.length
 (S.runsS
 (fun (j : Nat) =>
 S.at'
 (S.mkl (Int.toNat hr) fun (j : Nat) => S.inB (fun (j : Nat) => tl (j + al)) nl j) j)
 (List.length
 (S.mkl (Int.toNat hr) fun (j : Nat) => S.inB (fun (j : Nat) => tl (j + al)) nl j))
 false)) :
 Int)))
 then (bif (decide
 (0 <
 List.length
 (S.runsS
 (fun (j : Nat) =>
 S.at' (S.mkl (Int.toNat hr) fun (j : Nat) => S.inB (fun (j : Nat) => tl (j + al)) nl j) j)
 (List.length (S.mkl (Int.toNat hr) fun (j : Nat) => S.inB (fun (j : Nat) => tl (j + al)) nl j))
 false)))
 then (some (.inl (.h0 ((1 : Int)) (S.runsS
 (fun (j : Nat) =>
 S.at' (S.mkl (Int.toNat hr) fun (j : Nat) => S.inB (fun (j : Nat) => tl (j + al)) nl j) j)
 (List.length (S.mkl (Int.toNat hr) fun (j : Nat) => S.inB (fun (j : Nat) => tl (j + al)) nl j)) false) (Prod.fst
 (S.at'
 (S.runsS
 (fun (j : Nat) =>
 S.at' (S.mkl (Int.toNat hr) fun (j : Nat) => S.inB (fun (j : Nat) => tl (j + al)) nl j) j)
 (List.length (S.mkl (Int.toNat hr) fun (j : Nat) => S.inB (fun (j : Nat) => tl (j + al)) nl j))
 false)
 (0))) (Prod.snd
 (S.at'
 (S.runsS
 (fun (j : Nat) =>
 S.at' (S.mkl (Int.toNat hr) fun (j : Nat) => S.inB (fun (j : Nat) => tl (j + al)) nl j) j)
 (List.length (S.mkl (Int.toNat hr) fun (j : Nat) => S.inB (fun (j : Nat) => tl (j + al)) nl j))
 false)
 (0))))))
 else (none))
 else (none))
 else (none))
 else (none))))
 else (none)
noncomputable def Te21 (test : Bool → Prop → Prop → Prop) (Kst : KS) (Kret : KR) (hr : Int) (al nl ml : Nat) (tl : Nat → Int) : Prop :=
  test (decide (al + nl ≤ ml ∧ nl ≤ 1000000))
 (test ((S.filE hr nl fun (j : Nat) => tl (j + al)) != (0 : Int))
 (Kret (PV.tup
 [PV.int IntKind.i64 (0 : Int), PV.int IntKind.i64 (0 : Int),
 PV.int IntKind.i64 (S.filE hr nl fun (j : Nat) => tl (j + al))]) ([[(0, false, Blk.cols ml [Col.int IntKind.i64 tl])]]) (3))
 (test ((↑nl : Int) == hr)
 (Kret (PV.tup
 [PV.int IntKind.i64 (0 : Int), PV.int IntKind.i64 (0 : Int), PV.int IntKind.i64 (10 : Int)]) ([[(0, false, Blk.cols ml [Col.int IntKind.i64 tl])]]) (3))
 (test (decide (al + nl ≤ ml ∧ nl ≤ 1000000 ∧ (S.filE hr nl fun (j : Nat) => tl (j + al)) = (0 : Int)))
 (test (decide
 (0 +
 List.length (S.mkl (Int.toNat hr) fun (j : Nat) => S.inB (fun (j : Nat) => tl (j + al)) nl j) ≤
 List.length (S.mkl (Int.toNat hr) fun (j : Nat) => S.inB (fun (j : Nat) => tl (j + al)) nl j) ∧
 List.length (S.mkl (Int.toNat hr) fun (j : Nat) => S.inB (fun (j : Nat) => tl (j + al)) nl j) ≤
 2000))
 (test (decide
 ((0 : Int) ≤ (0 : Int) ∧
 (0 : Int) <
 (↑(List.length
 (S.runsS
 (fun (j : Nat) =>
 S.at'
 (S.mkl (Int.toNat hr) fun (j : Nat) => S.inB (fun (j : Nat) => tl (j + al)) nl j) j)
 (List.length
 (S.mkl (Int.toNat hr) fun (j : Nat) => S.inB (fun (j : Nat) => tl (j + al)) nl j))
 false)) :
 Int)))
 (test (decide
 (0 <
 List.length
 (S.runsS
 (fun (j : Nat) =>
 S.at' (S.mkl (Int.toNat hr) fun (j : Nat) => S.inB (fun (j : Nat) => tl (j + al)) nl j) j)
 (List.length (S.mkl (Int.toNat hr) fun (j : Nat) => S.inB (fun (j : Nat) => tl (j + al)) nl j))
 false)))
 (test (decide
 (0 <
 List.length
 (S.runsS
 (fun (j : Nat) =>
 S.at' (S.mkl (Int.toNat hr) fun (j : Nat) => S.inB (fun (j : Nat) => tl (j + al)) nl j) j)
 (List.length (S.mkl (Int.toNat hr) fun (j : Nat) => S.inB (fun (j : Nat) => tl (j + al)) nl j))
 false)))
 (Kst (hd Try.f21 0) ([PV.own (6) (2)
 (List.length
 (S.runsS
 (fun (j : Nat) =>
 S.at' (S.mkl (Int.toNat hr) fun (j : Nat) => S.inB (fun (j : Nat) => tl (j + al)) nl j) j)
 (List.length (S.mkl (Int.toNat hr) fun (j : Nat) => S.inB (fun (j : Nat) => tl (j + al)) nl j))
 false)),
 PV.ptr (PA.mk (7) (0) (0) (0)), PV.int IntKind.i64 (1 : Int)]) ([[(0, false, Blk.cols ml [Col.int IntKind.i64 tl]),
 (7, true,
 Blk.cells
 [PV.int IntKind.i64
 (Prod.fst
 (S.at'
 (S.runsS
 (fun (j : Nat) =>
 S.at'
 (S.mkl (Int.toNat hr) fun (j : Nat) => S.inB (fun (j : Nat) => tl (j + al)) nl j) j)
 (List.length
 (S.mkl (Int.toNat hr) fun (j : Nat) => S.inB (fun (j : Nat) => tl (j + al)) nl j))
 false)
 (0))),
 PV.int IntKind.i64
 (Prod.snd
 (S.at'
 (S.runsS
 (fun (j : Nat) =>
 S.at'
 (S.mkl (Int.toNat hr) fun (j : Nat) => S.inB (fun (j : Nat) => tl (j + al)) nl j) j)
 (List.length
 (S.mkl (Int.toNat hr) fun (j : Nat) => S.inB (fun (j : Nat) => tl (j + al)) nl j))
 false)
 (0)))]),
 (6, true,
 Blk.cols
 (List.length
 (S.runsS
 (fun (j : Nat) =>
 S.at' (S.mkl (Int.toNat hr) fun (j : Nat) => S.inB (fun (j : Nat) => tl (j + al)) nl j)
 j)
 (List.length (S.mkl (Int.toNat hr) fun (j : Nat) => S.inB (fun (j : Nat) => tl (j + al)) nl j))
 false))
 [Col.int IntKind.i64 fun (j : Nat) =>
 Prod.fst
 (S.at'
 (S.runsS
 (fun (j : Nat) =>
 S.at'
 (S.mkl (Int.toNat hr) fun (j : Nat) => S.inB (fun (j : Nat) => tl (j + al)) nl j) j)
 (List.length
 (S.mkl (Int.toNat hr) fun (j : Nat) => S.inB (fun (j : Nat) => tl (j + al)) nl j))
 false)
 j),
 Col.int IntKind.i64 fun (j : Nat) =>
 Prod.snd
 (S.at'
 (S.runsS
 (fun (j : Nat) =>
 S.at'
 (S.mkl (Int.toNat hr) fun (j : Nat) => S.inB (fun (j : Nat) => tl (j + al)) nl j) j)
 (List.length
 (S.mkl (Int.toNat hr) fun (j : Nat) => S.inB (fun (j : Nat) => tl (j + al)) nl j))
 false)
 j)])]]) (8))
 (False))
 (False))
 (False))
 (False))
 (False))))
 (False)
set_option maxRecDepth 100000 in
theorem te21 (test : Bool → Prop → Prop → Prop) (Kst : KS) (Kret : KR) (hr : Int) (al nl ml : Nat) (tl : Nat → Int) : run test Try.env true (xG test) true 400 ⟨21, [.cd (mkFn Try.f21).body], argT 0 [.agg [.int .i64 hr, .loose ⟨0, 1, al, 0⟩ nl]], [[], [(0, (false, .cols ml [.int .i64 tl]))]], 1⟩ (proj 1 [6, 7, 8] Kst Kret) =
  Te21 test Kst Kret hr al nl ml tl := by kernel_rfl
noncomputable def T21_0 (test : Bool → Prop → Prop → Prop) (Kst : KS) (Kret : KR) (hr : Int) (al nl ml : Nat) (tl : Nat → Int) (x0 : Int) (x1 : List (Int × Int)) (x2 : Int) (x3 : Int) : Prop :=
  test (decide (x0 < (↑(List.length x1) : Int)))
 (test (decide ((0 : Int) ≤ x0 ∧ x0 < (↑(List.length x1) : Int)))
 (test (decide (Int.toNat x0 < List.length x1))
 (test (decide ((S.at' x1 (Int.toNat x0)).2 > x3))
 (test (decide ((0 : Int) ≤ x0 ∧ x0 < (↑(List.length x1) : Int)))
 (test (decide (Int.toNat x0 < List.length x1))
 (test (decide (Int.toNat x0 < List.length x1))
 (test (lim IntKind.i64 (x0 + (1 : Int)))
 (Kst (hd Try.f21 0) ([PV.own (1) (2) (List.length x1),
 PV.ptr (PA.mk (2) (0) (0) (0)),
 PV.int IntKind.i64 (x0 + (1 : Int))]) ([[(0, false, Blk.cols ml [Col.int IntKind.i64 tl]),
 (2, true,
 Blk.cells
 [PV.int IntKind.i64 ((S.at' x1 (Int.toNat x0)).1),
 PV.int IntKind.i64 ((S.at' x1 (Int.toNat x0)).2)]),
 (1, true,
 Blk.cols (List.length x1)
 [Col.int IntKind.i64 fun (j : Nat) => (S.at' x1 j).1,
 Col.int IntKind.i64 fun (j : Nat) => (S.at' x1 j).2])]]) (3))
 (False))
 (False))
 (False))
 (False))
 (test (lim IntKind.i64 (x0 + (1 : Int)))
 (Kst (hd Try.f21 0) ([PV.own (1) (2) (List.length x1),
 PV.ptr (PA.mk (2) (0) (0) (0)),
 PV.int IntKind.i64 (x0 + (1 : Int))]) ([[(0, false, Blk.cols ml [Col.int IntKind.i64 tl]),
 (2, true, Blk.cells [PV.int IntKind.i64 x2, PV.int IntKind.i64 x3]),
 (1, true,
 Blk.cols (List.length x1)
 [Col.int IntKind.i64 fun (j : Nat) => (S.at' x1 j).1,
 Col.int IntKind.i64 fun (j : Nat) => (S.at' x1 j).2])]]) (3))
 (False)))
 (False))
 (False))
 (Kret (PV.tup [PV.int IntKind.i64 x2, PV.int IntKind.i64 x3, PV.int IntKind.i64 (0 : Int)]) ([[(0, false, Blk.cols ml [Col.int IntKind.i64 tl])]]) (3))
set_option maxRecDepth 100000 in
theorem t21_0 (test : Bool → Prop → Prop → Prop) (Kst : KS) (Kret : KR) (hr : Int) (al nl ml : Nat) (tl : Nat → Int) (x0 : Int) (x1 : List (Int × Int)) (x2 : Int) (x3 : Int) : run test Try.env true (xG test) true 400 ⟨21, hd Try.f21 0, zipT [6, 7, 8] [PV.own (1) (2) (List.length x1),
 PV.ptr (PA.mk (2) (0) (0) (0)), PV.int IntKind.i64 x0], [[(1, (true, Blk.cols (List.length x1)
 [Col.int IntKind.i64 fun (j : Nat) => (S.at' x1 j).1,
 Col.int IntKind.i64 fun (j : Nat) => (S.at' x1 j).2])), (2, (true, Blk.cells [PV.int IntKind.i64 x2, PV.int IntKind.i64 x3]))], [(0, (false, .cols ml [.int .i64 tl]))]], 3⟩ (proj 1 [6, 7, 8] Kst Kret) =
  T21_0 test Kst Kret hr al nl ml tl x0 x1 x2 x3 := by kernel_rfl
attribute [local irreducible] Int.subNatNat in
set_option maxRecDepth 100000 in
theorem be21 (hr : Int) (al nl ml : Nat) (tl : Nat → Int) (Kst : KS) (Kret : KR) (x : St21 ⊕ Rt21) (hS : HS 1 400 ((I21 hr al nl ml tl)) Kst x) (hR : HR 1 400 ((V21 hr al nl ml tl)) (fun r => [newL (1 + 1) ((N21 hr al nl ml tl) r) ++ [(0, (false, .cols ml [.int .i64 tl]))]]) Kret x) (h : (bif (decide (al + nl ≤ ml ∧ nl ≤ 1000000))
 then (bif ((S.filE hr nl fun (j : Nat) => tl (j + al)) != (0 : Int))
 then (some (.inr ((0 : Int), (0 : Int), S.filE hr nl fun (j : Nat) => tl (j + al))))
 else (bif ((↑nl : Int) == hr)
 then (some (.inr ((0 : Int), (0 : Int), (10 : Int))))
 else (bif (decide (al + nl ≤ ml ∧ nl ≤ 1000000 ∧ (S.filE hr nl fun (j : Nat) => tl (j + al)) = (0 : Int)))
 then (bif (decide
 (0 +
 List.length (S.mkl (Int.toNat hr) fun (j : Nat) => S.inB (fun (j : Nat) => tl (j + al)) nl j) ≤
 List.length (S.mkl (Int.toNat hr) fun (j : Nat) => S.inB (fun (j : Nat) => tl (j + al)) nl j) ∧
 List.length (S.mkl (Int.toNat hr) fun (j : Nat) => S.inB (fun (j : Nat) => tl (j + al)) nl j) ≤
 2000))
 then (bif (decide
 ((0 : Int) ≤ (0 : Int) ∧
 (0 : Int) <
 (↑(List.length
 (S.runsS
 (fun (j : Nat) =>
 S.at'
 (S.mkl (Int.toNat hr) fun (j : Nat) => S.inB (fun (j : Nat) => tl (j + al)) nl j) j)
 (List.length
 (S.mkl (Int.toNat hr) fun (j : Nat) => S.inB (fun (j : Nat) => tl (j + al)) nl j))
 false)) :
 Int)))
 then (bif (decide
 (0 <
 List.length
 (S.runsS
 (fun (j : Nat) =>
 S.at' (S.mkl (Int.toNat hr) fun (j : Nat) => S.inB (fun (j : Nat) => tl (j + al)) nl j) j)
 (List.length (S.mkl (Int.toNat hr) fun (j : Nat) => S.inB (fun (j : Nat) => tl (j + al)) nl j))
 false)))
 then (some (.inl (.h0 ((1 : Int)) (S.runsS
 (fun (j : Nat) =>
 S.at' (S.mkl (Int.toNat hr) fun (j : Nat) => S.inB (fun (j : Nat) => tl (j + al)) nl j) j)
 (List.length (S.mkl (Int.toNat hr) fun (j : Nat) => S.inB (fun (j : Nat) => tl (j + al)) nl j)) false) (Prod.fst
 (S.at'
 (S.runsS
 (fun (j : Nat) =>
 S.at' (S.mkl (Int.toNat hr) fun (j : Nat) => S.inB (fun (j : Nat) => tl (j + al)) nl j) j)
 (List.length (S.mkl (Int.toNat hr) fun (j : Nat) => S.inB (fun (j : Nat) => tl (j + al)) nl j))
 false)
 (0))) (Prod.snd
 (S.at'
 (S.runsS
 (fun (j : Nat) =>
 S.at' (S.mkl (Int.toNat hr) fun (j : Nat) => S.inB (fun (j : Nat) => tl (j + al)) nl j) j)
 (List.length (S.mkl (Int.toNat hr) fun (j : Nat) => S.inB (fun (j : Nat) => tl (j + al)) nl j))
 false)
 (0))))))
 else (none))
 else (none))
 else (none))
 else (none))))
 else (none) : Option (St21 ⊕ Rt21)) = some x) : Te21 cond Kst Kret hr al nl ml tl := by
  unfold Te21
  exact bif_split h
   (fun c0 h => bif_split h
   (fun c1 h => ret_at hR _ h (fun n => n) rfl rfl rfl (rn_tup ⟨(rn_int rfl), (rn_int rfl), (rn_int rfl), trivial⟩) rfl (entl_bor (use_lo rfl) rfl rfl entl_nil))
   (fun c1 h => bif_split h
   (fun c2 h => ret_at hR _ h (fun n => n) rfl rfl rfl (rn_tup ⟨(rn_int rfl), (rn_int rfl), (rn_int rfl), trivial⟩) rfl (entl_bor (use_lo rfl) rfl rfl entl_nil))
   (fun c2 h => bif_split h
   (fun c3 h => bif_split h
   (fun c4 h => bif_split h
   (fun c5 h => bif_split h
   (fun c6 h => cond_yes c6 (stop_at hS _ h (fun n => bif Nat.beq n 1 then 6 else bif Nat.beq n 2 then 7 else n) rfl rfl rfl ⟨(rn_own (use_own rfl) rfl rfl), ⟨(rn_ptr (use_own rfl) rfl rfl), ⟨(rn_int rfl), trivial⟩⟩⟩ rfl (entl_new (use_own rfl) rfl (Nat.le_of_eq rfl) (rcs_int (fun _ _ => rfl) (rcs_int (fun _ _ => rfl) rcs_nil)) (entl_b (use_own rfl) rfl (by simp) (rb_cells ⟨(rn_int rfl), (rn_int rfl), trivial⟩) (entl_bor (use_lo rfl) rfl rfl entl_nil)))))
   (fun c6 h => no_some h))
   (fun c5 h => no_some h))
   (fun c4 h => no_some h))
   (fun c3 h => no_some h))))
   (fun c0 h => no_some h)
attribute [local irreducible] Int.subNatNat in
set_option maxRecDepth 100000 in
theorem b21_0 (hr : Int) (al nl ml : Nat) (tl : Nat → Int) (Kst : KS) (Kret : KR) (x : St21 ⊕ Rt21) (hS : HS 1 400 ((I21 hr al nl ml tl)) Kst x) (hR : HR 1 400 ((V21 hr al nl ml tl)) (fun r => [newL (1 + 1) ((N21 hr al nl ml tl) r) ++ [(0, (false, .cols ml [.int .i64 tl]))]]) Kret x) (x0 : Int) (x1 : List (Int × Int)) (x2 : Int) (x3 : Int) (h : (bif (decide (x0 < (↑(List.length x1) : Int)))
 then (bif (decide ((0 : Int) ≤ x0 ∧ x0 < (↑(List.length x1) : Int)))
 then (bif (decide (Int.toNat x0 < List.length x1))
 then (bif (decide ((S.at' x1 (Int.toNat x0)).2 > x3))
 then (bif (lim IntKind.i64 (x0 + (1 : Int)))
 then (some (.inl (.h0 (x0 + (1 : Int)) (x1) ((S.at' x1 (Int.toNat x0)).1) ((S.at' x1 (Int.toNat x0)).2))))
 else (none))
 else (bif (lim IntKind.i64 (x0 + (1 : Int)))
 then (some (.inl (.h0 (x0 + (1 : Int)) (x1) (x2) (x3))))
 else (none)))
 else (none))
 else (none))
 else (some (.inr (x2, x3, (0 : Int)))) : Option (St21 ⊕ Rt21)) = some x) : T21_0 cond Kst Kret hr al nl ml tl x0 x1 x2 x3 := by
  unfold T21_0
  exact bif_split h
   (fun c0 h => bif_split h
   (fun c1 h => bif_split h
   (fun c2 h => bif_split h
   (fun c3 h => cond_yes c1 (cond_yes c2 (cond_yes c2 (bif_split h
   (fun c4 h => stop_at hS _ h (fun n => bif Nat.beq n 1 then 1 else bif Nat.beq n 2 then 2 else n) rfl rfl rfl ⟨(rn_own (use_own rfl) rfl rfl), ⟨(rn_ptr (use_own rfl) rfl rfl), ⟨(rn_int rfl), trivial⟩⟩⟩ rfl (entl_new (use_own rfl) rfl (Nat.le_of_eq rfl) (rcs_int (fun _ _ => rfl) (rcs_int (fun _ _ => rfl) rcs_nil)) (entl_b (use_own rfl) rfl (by simp) (rb_cells ⟨(rn_int rfl), (rn_int rfl), trivial⟩) (entl_bor (use_lo rfl) rfl rfl entl_nil))))
   (fun c4 h => no_some h)))))
   (fun c3 h => bif_split h
   (fun c4 h => stop_at hS _ h (fun n => bif Nat.beq n 1 then 1 else bif Nat.beq n 2 then 2 else n) rfl rfl rfl ⟨(rn_own (use_own rfl) rfl rfl), ⟨(rn_ptr (use_own rfl) rfl rfl), ⟨(rn_int rfl), trivial⟩⟩⟩ rfl (entl_new (use_own rfl) rfl (Nat.le_of_eq rfl) (rcs_int (fun _ _ => rfl) (rcs_int (fun _ _ => rfl) rcs_nil)) (entl_b (use_own rfl) rfl (by simp) (rb_cells ⟨(rn_int rfl), (rn_int rfl), trivial⟩) (entl_bor (use_lo rfl) rfl rfl entl_nil))))
   (fun c4 h => no_some h)))
   (fun c2 h => no_some h))
   (fun c1 h => no_some h))
   (fun c0 h => ret_at hR _ h (fun n => n) rfl rfl rfl (rn_tup ⟨(rn_int rfl), (rn_int rfl), (rn_int rfl), trivial⟩) rfl (entl_bor (use_lo rfl) rfl rfl entl_nil))
theorem a21 (hr : Int) (al nl ml : Nat) (tl : Nat → Int) {r : Rt21} (h : Goes ((q21 hr al nl ml tl)) ((p21 hr al nl ml tl)) r) : CallR Try.prog 21 [.agg [.int .i64 hr, .loose ⟨0, 1, al, 0⟩ nl]] [[(0, (false, .cols ml [.int .i64 tl]))]] 1 ((V21 hr al nl ml tl) r) ((fun r => [newL (1 + 1) ((N21 hr al nl ml tl) r) ++ [(0, (false, .cols ml [.int .i64 tl]))]]) r) 400 ∧ ∃ F, Try.prog.funcs[21]? = some F ∧ F.body.isSome = true ∧ (F.name == "runtime.NumGoroutine") = false := by
  refine dec_calls (f := 21) (lo := 1) (hi := 400) (H := [[(0, (false, .cols ml [.int .i64 tl]))]]) (args := [.agg [.int .i64 hr, .loose ⟨0, 1, al, 0⟩ nl]]) Try.envOk Try.mixed xG_ok ((I21 hr al nl ml tl)) ((V21 hr al nl ml tl)) (fun r => [newL (1 + 1) ((N21 hr al nl ml tl) r) ++ [(0, (false, .cols ml [.int .i64 tl]))]]) (fn := mkFn Try.f21) (ts := [6, 7, 8]) (n := 400) rfl (by decide) (by simp) (names_of rfl) ?_ ?_ ?_ h
  · intro s; cases s <;> exact ⟨hd_ok _ _, by simp [I21], names_of rfl, Nat.le_of_ble_eq_true rfl⟩
  · intro Kst Kret x hS hR h
    exact Holds.eq (te21 cond Kst Kret hr al nl ml tl) (be21 hr al nl ml tl Kst Kret x hS hR h)
  · intro Kst Kret x hS hR s h
    cases s with
    | h0 x0 x1 x2 x3 => exact Holds.eq (t21_0 cond Kst Kret hr al nl ml tl x0 x1 x2 x3) (b21_0 hr al nl ml tl Kst Kret x hS hR x0 x1 x2 x3 h)
noncomputable def k21 : Con := ⟨21, [.agg [.plain (.int .i64), .list [.int .i64]]], fun (x : (Int × (Nat × Nat × Nat × (Nat → Int) × Unit) × Unit) × Unit) => (fun (hr : Int) (al nl ml : Nat) (tl : Nat → Int) => decide (al + nl ≤ ml ∧ nl ≤ 1000000)) x.1.1 x.1.2.1.1 x.1.2.1.2.1 x.1.2.1.2.2.1 x.1.2.1.2.2.2.1, fun (x : (Int × (Nat × Nat × Nat × (Nat → Int) × Unit) × Unit) × Unit) => (fun (hr : Int) (al nl ml : Nat) (tl : Nat → Int) => (V21 hr al nl ml tl) (S.gapS hr nl (fun j => tl (j + al)))) x.1.1 x.1.2.1.1 x.1.2.1.2.1 x.1.2.1.2.2.1 x.1.2.1.2.2.2.1, fun (x : (Int × (Nat × Nat × Nat × (Nat → Int) × Unit) × Unit) × Unit) => (fun (hr : Int) (al nl ml : Nat) (tl : Nat → Int) => (N21 hr al nl ml tl) (S.gapS hr nl (fun j => tl (j + al)))) x.1.1 x.1.2.1.1 x.1.2.1.2.1 x.1.2.1.2.2.1 x.1.2.1.2.2.2.1, fun _ _ => .dead⟩
theorem s21' (hr : Int) (al nl ml : Nat) (tl : Nat → Int) (L : List (Int × Int)) (hL : L.length ≤ 2001)  : ∀ (k i : Nat) (x y : Int), i + k = L.length → Holds (x = (S.bst L i).1) → Holds (y = (S.bst L i).2) → Comes (q21 hr al nl ml tl) (.h0 (i : Int) L x y) ((S.bst L L.length).1, (S.bst L L.length).2, 0) := by
  intro k
  induction k with
  | zero =>
    intro i x y hi ex ey
    obtain rfl : i = L.length := by omega
    apply Comes.of
    rw [q21]
    skip
    skip
    refine goes_no (decide_eq_false (by omega)) ?_
    exact goes_inr.mpr (by rw [ex.get, ey.get])
  | succ k ih =>
    intro i x y hi ex ey
    have ih := ih (i + 1)
    simp only [S.bst] at ih
    by_cases hc : (S.at' L i).2 > y
    · have ih := ih _ _ (by omega) ⟨by rw [← ey.get, if_pos hc]⟩ ⟨by rw [← ey.get, if_pos hc]⟩
      apply Comes.of
      rw [q21]
      skip
      skip
      repeat' first
        | with_reducible refine goes_if (fun h => ?_) (fun h => ?_) <;> (try simp only [lim64, imp_false, decide_eq_true_eq, decide_eq_false_iff_not, Int.toNat_natCast, toNat_pred, toNat_succ, Option.getD_some, Option.getD_none, Bool.not_eq_true', Bool.not_eq_false', Bool.and_eq_true, Bool.or_eq_true, Bool.and_eq_false_iff, Bool.or_eq_false_iff, bne_iff_ne, beq_iff_eq, bne_eq_false_iff_eq, beq_eq_false_iff_ne, ne_eq, not_and, Int.not_le, Int.not_lt, ge_iff_le, gt_iff_lt, Nat.not_lt, Nat.not_le, Bool.not_eq_true, Bool.not_eq_false, Bool.true_eq_false, Bool.false_eq_true, not_false_eq_true, not_true_eq_false] at h)
        | exact goes_none.mpr (by omega)
      all_goals first | (exfalso; omega) | exact ih
    · have ih := ih x y (by omega) ⟨by rw [← ey.get, if_neg hc]; exact ex.get⟩ ⟨by rw [← ey.get, if_neg hc]; exact ey.get⟩
      apply Comes.of
      rw [q21]
      skip
      skip
      repeat' first
        | with_reducible refine goes_if (fun h => ?_) (fun h => ?_) <;> (try simp only [lim64, imp_false, decide_eq_true_eq, decide_eq_false_iff_not, Int.toNat_natCast, toNat_pred, toNat_succ, Option.getD_some, Option.getD_none, Bool.not_eq_true', Bool.not_eq_false', Bool.and_eq_true, Bool.or_eq_true, Bool.and_eq_false_iff, Bool.or_eq_false_iff, bne_iff_ne, beq_iff_eq, bne_eq_false_iff_eq, beq_eq_false_iff_ne, ne_eq, not_and, Int.not_le, Int.not_lt, ge_iff_le, gt_iff_lt, Nat.not_lt, Nat.not_le, Bool.not_eq_true, Bool.not_eq_false, Bool.true_eq_false, Bool.false_eq_true, not_false_eq_true, not_true_eq_false] at h)
        | exact goes_none.mpr (by omega)
      all_goals first | (exfalso; omega) | exact ih
theorem s21 (hr : Int) (al nl ml : Nat) (tl : Nat → Int) (hp : al + nl ≤ ml ∧ nl ≤ 1000000) : Goes ((q21 hr al nl ml tl)) ((p21 hr al nl ml tl)) (S.gapS hr nl (fun j => tl (j + al))) := by
  have hp' := hp
  obtain ⟨hp1, hp2⟩ := hp
  have e3 : (S.mkl hr.toNat fun j => S.inB (fun j => tl (j + al)) nl j).length = hr.toNat := mkl_len
  have e4 : ∀ w, S.runsS (fun j => S.at' (S.mkl hr.toNat fun j => S.inB (fun j => tl (j + al)) nl j) j) hr.toNat w = S.runsS (fun j => S.inB (fun j => tl (j + al)) nl j) hr.toNat w := fun w => runsS_congr fun j hj => at_mkl hj
  unfold S.gapS
  unfold p21
  refine goes_ok (decide_eq_true hp') ?_
  by_cases h0 : S.filE hr nl (fun j => tl (j + al)) = 0
  · obtain ⟨v1, v2, v3, v4⟩ := fil_ok h0
    rw [if_pos h0]
    refine goes_no (by rw [h0]; rfl) ?_
    by_cases h1 : (nl : Int) = hr
    · rw [if_pos h1]
      exact goes_ok (by rw [h1]; exact beq_self_eq_true _) (goes_inr.mpr rfl)
    · rw [if_neg h1]
      refine goes_no (by simpa using h1) ?_
      refine goes_ok (decide_eq_true ⟨hp1, hp2, h0⟩) ?_
      obtain ⟨g1, g2⟩ := runs_gap h0 h1
      have hl := runsS_len (b := (fun j => S.inB (fun j => tl (j + al)) nl j)) (H := hr.toNat) (w := false)
      have hm := s21' hr al nl ml tl (S.runsS (fun j => S.inB (fun j => tl (j + al)) nl j) hr.toNat false) (by omega)
      simp only [e3, e4]
      generalize (S.runsS (fun j => S.inB (fun j => tl (j + al)) nl j) hr.toNat false) = L at *
      have hpos : 0 < L.length := List.length_pos_iff.mpr g1
      have hb : 1 ≤ (S.at' L 0).2 := g2 _ (by
        unfold S.at'
        rw [List.getD_eq_getElem?_getD, List.getElem?_eq_getElem hpos]
        exact List.getElem_mem _)
      have e5 : S.bst L 1 = S.at' L 0 := if_pos (by show (S.at' L 0).2 > 0; omega)
      refine goes_ok (decide_eq_true (by omega)) ?_
      refine goes_ok (decide_eq_true (by omega)) ?_
      refine goes_ok (decide_eq_true hpos) ?_
      exact hm (L.length - 1) 1 _ _ (by omega) ⟨by rw [e5]⟩ ⟨by rw [e5]⟩
  · rw [if_neg h0]
    refine goes_ok (by simpa using h0) ?_
    exact goes_inr.mpr rfl

theorem k21_ok : k21.ok Try.prog := by
  intro x hx
  obtain ⟨⟨hr, ⟨al, nl, ml, tl, _⟩, _⟩, _⟩ := x
  obtain ⟨h1, h2⟩ := a21 hr al nl ml tl (s21 hr al nl ml tl (of_dec hx rfl))
  exact ⟨⟨400, (by decide : 1 + 1 + 0 ≤ 400), h1⟩, h2⟩
abbrev St22 := Empty
abbrev Rt22 := Int × List (Int × Int)
noncomputable def V22 (hr : Int) (al nl ml : Nat) (tl : Nat → Int) (r : Rt22) : PV := PV.tup [PV.own (2) (2) (List.length r.2), PV.int IntKind.i64 r.1]
noncomputable def N22 (hr : Int) (al nl ml : Nat) (tl : Nat → Int) (r : Rt22) : List Blk := [Blk.cols (List.length r.2)
 [Col.int IntKind.i64 fun (j : Nat) => (S.at' r.2 j).1,
 Col.int IntKind.i64 fun (j : Nat) => (S.at' r.2 j).2]]
noncomputable def I22 (hr : Int) (al nl ml : Nat) (tl : Nat → Int) : St22 → Hd := fun s => s.elim
noncomputable def q22 (hr : Int) (al nl ml : Nat) (tl : Nat → Int) : St22 → Option (St22 ⊕ Rt22) := fun s => s.elim
noncomputable def p22 (hr : Int) (al nl ml : Nat) (tl : Nat → Int) : Option (St22 ⊕ Rt22) := bif (decide (al + nl ≤ ml ∧ nl ≤ 1000000))
 then (bif ((S.filE hr nl fun (j : Nat) => tl (j + al)) != (0 : Int))
 then (some (.inr (S.filE hr nl fun (j : Nat) => tl (j + al), [])))
 else (bif (decide (al + nl ≤ ml ∧ nl ≤ 1000000 ∧ (S.filE hr nl fun (j : Nat) => tl (j + al)) = (0 : Int)))
 then (some (.inr ((0 : Int), S.runsS (fun (j : Nat) => S.inB (fun (j : Nat) => tl (j + al)) nl j) (Int.toNat hr) true)))
 else (none)))
 else (none)
noncomputable def Te22 (test : Bool → Prop → Prop → Prop) (Kst : KS) (Kret : KR) (hr : Int) (al nl ml : Nat) (tl : Nat → Int) : Prop :=
  test (decide (al + nl ≤ ml ∧ nl ≤ 1000000))
 (test ((S.filE hr nl fun (j : Nat) => tl (j + al)) != (0 : Int))
 (Kret (PV.tup [PV.nils, PV.int IntKind.i64 (S.filE hr nl fun (j : Nat) => tl (j + al))]) ([[(0, false, Blk.cols ml [Col.int IntKind.i64 tl])]]) (3))
 (test (decide (al + nl ≤ ml ∧ nl ≤ 1000000 ∧ (S.filE hr nl fun (j : Nat) => tl (j + al)) = (0 : Int)))
 (Kret (PV.tup
 [PV.own (4) (2)
 (List.length
 (S.runsS (fun (j : Nat) => S.inB (fun (j : Nat) => tl (j + al)) nl j) (Int.toNat hr) true)),
 PV.int IntKind.i64 (0 : Int)]) ([[(0, false, Blk.cols ml [Col.int IntKind.i64 tl]),
 (4, true,
 Blk.cols
 (List.length
 (S.runsS (fun (j : Nat) => S.inB (fun (j : Nat) => tl (j + al)) nl j) (Int.toNat hr) true))
 [Col.int IntKind.i64 fun (j : Nat) =>
 Prod.fst
 (S.at'
 (S.runsS (fun (j : Nat) => S.inB (fun (j : Nat) => tl (j + al)) nl j) (Int.toNat hr)
 true)
 j),
 Col.int IntKind.i64 fun (j : Nat) =>
 Prod.snd
 (S.at'
 (S.runsS (fun (j : Nat) => S.inB (fun (j : Nat) => tl (j + al)) nl j) (Int.toNat hr)
 true)
 j)])]]) (5))
 (False)))
 (False)
set_option maxRecDepth 100000 in
theorem te22 (test : Bool → Prop → Prop → Prop) (Kst : KS) (Kret : KR) (hr : Int) (al nl ml : Nat) (tl : Nat → Int) : run test Try.env true (xG test) true 400 ⟨22, [.cd (mkFn Try.f22).body], argT 0 [.agg [.int .i64 hr, .loose ⟨0, 1, al, 0⟩ nl]], [[], [(0, (false, .cols ml [.int .i64 tl]))]], 1⟩ (proj 1 [] Kst Kret) =
  Te22 test Kst Kret hr al nl ml tl := by kernel_rfl
attribute [local irreducible] Int.subNatNat in
set_option maxRecDepth 100000 in
theorem be22 (hr : Int) (al nl ml : Nat) (tl : Nat → Int) (Kst : KS) (Kret : KR) (x : St22 ⊕ Rt22) (hS : HS 1 400 ((I22 hr al nl ml tl)) Kst x) (hR : HR 1 400 ((V22 hr al nl ml tl)) (fun r => [newL (1 + 1) ((N22 hr al nl ml tl) r) ++ [(0, (false, .cols ml [.int .i64 tl]))]]) Kret x) (h : (bif (decide (al + nl ≤ ml ∧ nl ≤ 1000000))
 then (bif ((S.filE hr nl fun (j : Nat) => tl (j + al)) != (0 : Int))
 then (some (.inr (S.filE hr nl fun (j : Nat) => tl (j + al), [])))
 else (bif (decide (al + nl ≤ ml ∧ nl ≤ 1000000 ∧ (S.filE hr nl fun (j : Nat) => tl (j + al)) = (0 : Int)))
 then (some (.inr ((0 : Int), S.runsS (fun (j : Nat) => S.inB (fun (j : Nat) => tl (j + al)) nl j) (Int.toNat hr) true)))
 else (none)))
 else (none) : Option (St22 ⊕ Rt22)) = some x) : Te22 cond Kst Kret hr al nl ml tl := by
  unfold Te22
  exact bif_split h
   (fun c0 h => bif_split h
   (fun c1 h => ret_at hR _ h (fun n => bif Nat.beq n 2 then 399 else n) rfl rfl rfl (rn_tup ⟨(rn_own_nils rfl), (rn_int rfl), trivial⟩) rfl (entl_fresh (use_own rfl) (fresh_ok rfl) (entl_bor (use_lo rfl) rfl rfl entl_nil)))
   (fun c1 h => bif_split h
   (fun c2 h => ret_at hR _ h (fun n => bif Nat.beq n 2 then 4 else n) rfl rfl rfl (rn_tup ⟨(rn_own (use_own rfl) rfl rfl), (rn_int rfl), trivial⟩) rfl (entl_new (use_own rfl) rfl (Nat.le_of_eq rfl) (rcs_int (fun _ _ => rfl) (rcs_int (fun _ _ => rfl) rcs_nil)) (entl_bor (use_lo rfl) rfl rfl entl_nil)))
   (fun c2 h => no_some h)))
   (fun c0 h => no_some h)
theorem a22 (hr : Int) (al nl ml : Nat) (tl : Nat → Int) {r : Rt22} (h : Goes ((q22 hr al nl ml tl)) ((p22 hr al nl ml tl)) r) : CallR Try.prog 22 [.agg [.int .i64 hr, .loose ⟨0, 1, al, 0⟩ nl]] [[(0, (false, .cols ml [.int .i64 tl]))]] 1 ((V22 hr al nl ml tl) r) ((fun r => [newL (1 + 1) ((N22 hr al nl ml tl) r) ++ [(0, (false, .cols ml [.int .i64 tl]))]]) r) 400 ∧ ∃ F, Try.prog.funcs[22]? = some F ∧ F.body.isSome = true ∧ (F.name == "runtime.NumGoroutine") = false := by
  refine dec_calls (f := 22) (lo := 1) (hi := 400) (H := [[(0, (false, .cols ml [.int .i64 tl]))]]) (args := [.agg [.int .i64 hr, .loose ⟨0, 1, al, 0⟩ nl]]) Try.envOk Try.mixed xG_ok ((I22 hr al nl ml tl)) ((V22 hr al nl ml tl)) (fun r => [newL (1 + 1) ((N22 hr al nl ml tl) r) ++ [(0, (false, .cols ml [.int .i64 tl]))]]) (fn := mkFn Try.f22) (ts := []) (n := 400) rfl (by decide) (by simp) (names_of rfl) ?_ ?_ ?_ h
  · intro s; exact s.elim
  · intro Kst Kret x hS hR h
    exact Holds.eq (te22 cond Kst Kret hr al nl ml tl) (be22 hr al nl ml tl Kst Kret x hS hR h)
  · intro Kst Kret x hS hR s h; exact s.elim
noncomputable def k22 : Con := ⟨22, [.agg [.plain (.int .i64), .list [.int .i64]]], fun (x : (Int × (Nat × Nat × Nat × (Nat → Int) × Unit) × Unit) × Unit) => (fun (hr : Int) (al nl ml : Nat) (tl : Nat → Int) => decide (al + nl ≤ ml ∧ nl ≤ 1000000)) x.1.1 x.1.2.1.1 x.1.2.1.2.1 x.1.2.1.2.2.1 x.1.2.1.2.2.2.1, fun (x : (Int × (Nat × Nat × Nat × (Nat → Int) × Unit) × Unit) × Unit) => (fun (hr : Int) (al nl ml : Nat) (tl : Nat → Int) => (V22 hr al nl ml tl) (S.traS hr nl (fun j => tl (j + al)))) x.1.1 x.1.2.1.1 x.1.2.1.2.1 x.1.2.1.2.2.1 x.1.2.1.2.2.2.1, fun (x : (Int × (Nat × Nat × Nat × (Nat → Int) × Unit) × Unit) × Unit) => (fun (hr : Int) (al nl ml : Nat) (tl : Nat → Int) => (N22 hr al nl ml tl) (S.traS hr nl (fun j => tl (j + al)))) x.1.1 x.1.2.1.1 x.1.2.1.2.1 x.1.2.1.2.2.1 x.1.2.1.2.2.2.1, fun _ _ => .dead⟩
theorem s22 (hr : Int) (al nl ml : Nat) (tl : Nat → Int) (hp : al + nl ≤ ml ∧ nl ≤ 1000000) : Goes ((q22 hr al nl ml tl)) ((p22 hr al nl ml tl)) (S.traS hr nl (fun j => tl (j + al))) := by
  have hp' := hp
  obtain ⟨hp1, hp2⟩ := hp
  have e3 : (S.mkl hr.toNat fun j => S.inB (fun j => tl (j + al)) nl j).length = hr.toNat := mkl_len
  have e4 : ∀ w, S.runsS (fun j => S.at' (S.mkl hr.toNat fun j => S.inB (fun j => tl (j + al)) nl j) j) hr.toNat w = S.runsS (fun j => S.inB (fun j => tl (j + al)) nl j) hr.toNat w := fun w => runsS_congr fun j hj => at_mkl hj
  unfold S.traS
  unfold p22
  refine goes_ok (decide_eq_true hp') ?_
  by_cases h0 : S.filE hr nl (fun j => tl (j + al)) = 0
  · obtain ⟨v1, v2, v3, v4⟩ := fil_ok h0
    rw [if_pos h0]
    refine goes_no (by rw [h0]; rfl) ?_
    exact goes_ok (decide_eq_true ⟨hp1, hp2, h0⟩) (goes_inr.mpr rfl)
  · rw [if_neg h0]
    refine goes_ok (by simpa using h0) ?_
    exact goes_inr.mpr rfl

theorem k22_ok : k22.ok Try.prog := by
  intro x hx
  obtain ⟨⟨hr, ⟨al, nl, ml, tl, _⟩, _⟩, _⟩ := x
  obtain ⟨h1, h2⟩ := a22 hr al nl ml tl (s22 hr al nl ml tl (of_dec hx rfl))
  exact ⟨⟨400, (by decide : 1 + 1 + 1 ≤ 400), h1⟩, h2⟩
abbrev St23 := Empty
abbrev Rt23 := Int × List (Int × Int)
noncomputable def V23 (hr : Int) (al nl ml : Nat) (tl : Nat → Int) (r : Rt23) : PV := PV.tup [PV.own (2) (2) (List.length r.2), PV.int IntKind.i64 r.1]
noncomputable def N23 (hr : Int) (al nl ml : Nat) (tl : Nat → Int) (r : Rt23) : List Blk := [Blk.cols (List.length r.2)
 [Col.int IntKind.i64 fun (j : Nat) => (S.at' r.2 j).1,
 Col.int IntKind.i64 fun (j : Nat) => (S.at' r.2 j).2]]
noncomputable def I23 (hr : Int) (al nl ml : Nat) (tl : Nat → Int) : St23 → Hd := fun s => s.elim
noncomputable def q23 (hr : Int) (al nl ml : Nat) (tl : Nat → Int) : St23 → Option (St23 ⊕ Rt23) := fun s => s.elim
noncomputable def p23 (hr : Int) (al nl ml : Nat) (tl : Nat → Int) : Option (St23 ⊕ Rt23) := bif (decide (al + nl ≤ ml ∧ nl ≤ 1000000))
 then (bif ((S.filE hr nl fun (j : Nat) => tl (j + al)) != (0 : Int))
 then (some (.inr (S.filE hr nl fun (j : Nat) => tl (j + al), [])))
 else (bif ((↑nl : Int) == (0 : Int))
 then (some (.inr ((0 : Int), [])))
 else (bif (decide (al + nl ≤ ml ∧ nl ≤ 1000000 ∧ (S.filE hr nl fun (j : Nat) => tl (j + al)) = (0 : Int)))
 then (bif (decide
 (0 +
 List.length (S.mkl (Int.toNat hr) fun (j : Nat) => S.inB (fun (j : Nat) => tl (j + al)) nl j) ≤
 List.length (S.mkl (Int.toNat hr) fun (j : Nat) => S.inB (fun (j : Nat) => tl (j + al)) nl j) ∧
 List.length (S.mkl (Int.toNat hr) fun (j : Nat) => S.inB (fun (j : Nat) => tl (j + al)) nl j) ≤
 2000))
 then (some (.inr ((0 : Int), S.runsS
 (fun (j : Nat) =>
 S.at' (S.mkl (Int.toNat hr) fun (j : Nat) => S.inB (fun (j : Nat) => tl (j + al)) nl j) j)
 (List.length (S.mkl (Int.toNat hr) fun (j : Nat) => S.inB (fun (j : Nat) => tl (j + al)) nl j)) true)))
 else (none))
 else (none))))
 else (none)
noncomputable def Te23 (test : Bool → Prop → Prop → Prop) (Kst : KS) (Kret : KR) (hr : Int) (al nl ml : Nat) (tl : Nat → Int) : Prop :=
  test (decide (al + nl ≤ ml ∧ nl ≤ 1000000))
 (test ((S.filE hr nl fun (j : Nat) => tl (j + al)) != (0 : Int))
 (Kret (PV.tup [PV.nils, PV.int IntKind.i64 (S.filE hr nl fun (j : Nat) => tl (j + al))]) ([[(0, false, Blk.cols ml [Col.int IntKind.i64 tl])]]) (3))
 (test ((↑nl : Int) == (0 : Int))
 (Kret (PV.tup [PV.nils, PV.int IntKind.i64 (0 : Int)]) ([[(0, false, Blk.cols ml [Col.int IntKind.i64 tl])]]) (3))
 (test (decide (al + nl ≤ ml ∧ nl ≤ 1000000 ∧ (S.filE hr nl fun (j : Nat) => tl (j + al)) = (0 : Int)))
 (test (decide
 (0 +
 List.length (S.mkl (Int.toNat hr) fun (j : Nat) => S.inB (fun (j : Nat) => tl (j + al)) nl j) ≤
 List.length (S.mkl (Int.toNat hr) fun (j : Nat) => S.inB (fun (j : Nat) => tl (j + al)) nl j) ∧
 List.length (S.mkl (Int.toNat hr) fun (j : Nat) => S.inB (fun (j : Nat) => tl (j + al)) nl j) ≤
 2000))
 (Kret (PV.tup
 [PV.own (6) (2)
 (List.length
 (S.runsS
 (fun (j : Nat) =>
 S.at' (S.mkl (Int.toNat hr) fun (j : Nat) => S.inB (fun (j : Nat) => tl (j + al)) nl j) j)
 (List.length (S.mkl (Int.toNat hr) fun (j : Nat) => S.inB (fun (j : Nat) => tl (j + al)) nl j))
 true)),
 PV.int IntKind.i64 (0 : Int)]) ([[(0, false, Blk.cols ml [Col.int IntKind.i64 tl]),
 (6, true,
 Blk.cols
 (List.length
 (S.runsS
 (fun (j : Nat) =>
 S.at' (S.mkl (Int.toNat hr) fun (j : Nat) => S.inB (fun (j : Nat) => tl (j + al)) nl j)
 j)
 (List.length (S.mkl (Int.toNat hr) fun (j : Nat) => S.inB (fun (j : Nat) => tl (j + al)) nl j))
 true))
 [Col.int IntKind.i64 fun (j : Nat) =>
 Prod.fst
 (S.at'
 (S.runsS
 (fun (j : Nat) =>
 S.at'
 (S.mkl (Int.toNat hr) fun (j : Nat) => S.inB (fun (j : Nat) => tl (j + al)) nl j) j)
 (List.length
 (S.mkl (Int.toNat hr) fun (j : Nat) => S.inB (fun (j : Nat) => tl (j + al)) nl j))
 true)
 j),
 Col.int IntKind.i64 fun (j : Nat) =>
 Prod.snd
 (S.at'
 (S.runsS
 (fun (j : Nat) =>
 S.at'
 (S.mkl (Int.toNat hr) fun (j : Nat) => S.inB (fun (j : Nat) => tl (j + al)) nl j) j)
 (List.length
 (S.mkl (Int.toNat hr) fun (j : Nat) => S.inB (fun (j : Nat) => tl (j + al)) nl j))
 true)
 j)])]]) (7))
 (False))
 (False))))
 (False)
set_option maxRecDepth 100000 in
theorem te23 (test : Bool → Prop → Prop → Prop) (Kst : KS) (Kret : KR) (hr : Int) (al nl ml : Nat) (tl : Nat → Int) : run test Try.env true (xG test) true 400 ⟨23, [.cd (mkFn Try.f23).body], argT 0 [.agg [.int .i64 hr, .loose ⟨0, 1, al, 0⟩ nl]], [[], [(0, (false, .cols ml [.int .i64 tl]))]], 1⟩ (proj 1 [] Kst Kret) =
  Te23 test Kst Kret hr al nl ml tl := by kernel_rfl
attribute [local irreducible] Int.subNatNat in
set_option maxRecDepth 100000 in
theorem be23 (hr : Int) (al nl ml : Nat) (tl : Nat → Int) (Kst : KS) (Kret : KR) (x : St23 ⊕ Rt23) (hS : HS 1 400 ((I23 hr al nl ml tl)) Kst x) (hR : HR 1 400 ((V23 hr al nl ml tl)) (fun r => [newL (1 + 1) ((N23 hr al nl ml tl) r) ++ [(0, (false, .cols ml [.int .i64 tl]))]]) Kret x) (h : (bif (decide (al + nl ≤ ml ∧ nl ≤ 1000000))
 then (bif ((S.filE hr nl fun (j : Nat) => tl (j + al)) != (0 : Int))
 then (some (.inr (S.filE hr nl fun (j : Nat) => tl (j + al), [])))
 else (bif ((↑nl : Int) == (0 : Int))
 then (some (.inr ((0 : Int), [])))
 else (bif (decide (al + nl ≤ ml ∧ nl ≤ 1000000 ∧ (S.filE hr nl fun (j : Nat) => tl (j + al)) = (0 : Int)))
 then (bif (decide
 (0 +
 List.length (S.mkl (Int.toNat hr) fun (j : Nat) => S.inB (fun (j : Nat) => tl (j + al)) nl j) ≤
 List.length (S.mkl (Int.toNat hr) fun (j : Nat) => S.inB (fun (j : Nat) => tl (j + al)) nl j) ∧
 List.length (S.mkl (Int.toNat hr) fun (j : Nat) => S.inB (fun (j : Nat) => tl (j + al)) nl j) ≤
 2000))
 then (some (.inr ((0 : Int), S.runsS
 (fun (j : Nat) =>
 S.at' (S.mkl (Int.toNat hr) fun (j : Nat) => S.inB (fun (j : Nat) => tl (j + al)) nl j) j)
 (List.length (S.mkl (Int.toNat hr) fun (j : Nat) => S.inB (fun (j : Nat) => tl (j + al)) nl j)) true)))
 else (none))
 else (none))))
 else (none) : Option (St23 ⊕ Rt23)) = some x) : Te23 cond Kst Kret hr al nl ml tl := by
  unfold Te23
  exact bif_split h
   (fun c0 h => bif_split h
   (fun c1 h => ret_at hR _ h (fun n => bif Nat.beq n 2 then 399 else n) rfl rfl rfl (rn_tup ⟨(rn_own_nils rfl), (rn_int rfl), trivial⟩) rfl (entl_fresh (use_own rfl) (fresh_ok rfl) (entl_bor (use_lo rfl) rfl rfl entl_nil)))
   (fun c1 h => bif_split h
   (fun c2 h => ret_at hR _ h (fun n => bif Nat.beq n 2 then 399 else n) rfl rfl rfl (rn_tup ⟨(rn_own_nils rfl), (rn_int rfl), trivial⟩) rfl (entl_fresh (use_own rfl) (fresh_ok rfl) (entl_bor (use_lo rfl) rfl rfl entl_nil)))
   (fun c2 h => bif_split h
   (fun c3 h => bif_split h
   (fun c4 h => ret_at hR _ h (fun n => bif Nat.beq n 2 then 6 else n) rfl rfl rfl (rn_tup ⟨(rn_own (use_own rfl) rfl rfl), (rn_int rfl), trivial⟩) rfl (entl_new (use_own rfl) rfl (Nat.le_of_eq rfl) (rcs_int (fun _ _ => rfl) (rcs_int (fun _ _ => rfl) rcs_nil)) (entl_bor (use_lo rfl) rfl rfl entl_nil)))
   (fun c4 h => no_some h))
   (fun c3 h => no_some h))))
   (fun c0 h => no_some h)
theorem a23 (hr : Int) (al nl ml : Nat) (tl : Nat → Int) {r : Rt23} (h : Goes ((q23 hr al nl ml tl)) ((p23 hr al nl ml tl)) r) : CallR Try.prog 23 [.agg [.int .i64 hr, .loose ⟨0, 1, al, 0⟩ nl]] [[(0, (false, .cols ml [.int .i64 tl]))]] 1 ((V23 hr al nl ml tl) r) ((fun r => [newL (1 + 1) ((N23 hr al nl ml tl) r) ++ [(0, (false, .cols ml [.int .i64 tl]))]]) r) 400 ∧ ∃ F, Try.prog.funcs[23]? = some F ∧ F.body.isSome = true ∧ (F.name == "runtime.NumGoroutine") = false := by
  refine dec_calls (f := 23) (lo := 1) (hi := 400) (H := [[(0, (false, .cols ml [.int .i64 tl]))]]) (args := [.agg [.int .i64 hr, .loose ⟨0, 1, al, 0⟩ nl]]) Try.envOk Try.mixed xG_ok ((I23 hr al nl ml tl)) ((V23 hr al nl ml tl)) (fun r => [newL (1 + 1) ((N23 hr al nl ml tl) r) ++ [(0, (false, .cols ml [.int .i64 tl]))]]) (fn := mkFn Try.f23) (ts := []) (n := 400) rfl (by decide) (by simp) (names_of rfl) ?_ ?_ ?_ h
  · intro s; exact s.elim
  · intro Kst Kret x hS hR h
    exact Holds.eq (te23 cond Kst Kret hr al nl ml tl) (be23 hr al nl ml tl Kst Kret x hS hR h)
  · intro Kst Kret x hS hR s h; exact s.elim
noncomputable def k23 : Con := ⟨23, [.agg [.plain (.int .i64), .list [.int .i64]]], fun (x : (Int × (Nat × Nat × Nat × (Nat → Int) × Unit) × Unit) × Unit) => (fun (hr : Int) (al nl ml : Nat) (tl : Nat → Int) => decide (al + nl ≤ ml ∧ nl ≤ 1000000)) x.1.1 x.1.2.1.1 x.1.2.1.2.1 x.1.2.1.2.2.1 x.1.2.1.2.2.2.1, fun (x : (Int × (Nat × Nat × Nat × (Nat → Int) × Unit) × Unit) × Unit) => (fun (hr : Int) (al nl ml : Nat) (tl : Nat → Int) => (V23 hr al nl ml tl) (S.traS hr nl (fun j => tl (j + al)))) x.1.1 x.1.2.1.1 x.1.2.1.2.1 x.1.2.1.2.2.1 x.1.2.1.2.2.2.1, fun (x : (Int × (Nat × Nat × Nat × (Nat → Int) × Unit) × Unit) × Unit) => (fun (hr : Int) (al nl ml : Nat) (tl : Nat → Int) => (N23 hr al nl ml tl) (S.traS hr nl (fun j => tl (j + al)))) x.1.1 x.1.2.1.1 x.1.2.1.2.1 x.1.2.1.2.2.1 x.1.2.1.2.2.2.1, fun _ _ => .dead⟩
theorem s23 (hr : Int) (al nl ml : Nat) (tl : Nat → Int) (hp : al + nl ≤ ml ∧ nl ≤ 1000000) : Goes ((q23 hr al nl ml tl)) ((p23 hr al nl ml tl)) (S.traS hr nl (fun j => tl (j + al))) := by
  have hp' := hp
  obtain ⟨hp1, hp2⟩ := hp
  have e3 : (S.mkl hr.toNat fun j => S.inB (fun j => tl (j + al)) nl j).length = hr.toNat := mkl_len
  have e4 : ∀ w, S.runsS (fun j => S.at' (S.mkl hr.toNat fun j => S.inB (fun j => tl (j + al)) nl j) j) hr.toNat w = S.runsS (fun j => S.inB (fun j => tl (j + al)) nl j) hr.toNat w := fun w => runsS_congr fun j hj => at_mkl hj
  unfold S.traS
  unfold p23
  refine goes_ok (decide_eq_true hp') ?_
  by_cases h0 : S.filE hr nl (fun j => tl (j + al)) = 0
  · obtain ⟨v1, v2, v3, v4⟩ := fil_ok h0
    rw [if_pos h0]
    refine goes_no (by rw [h0]; rfl) ?_
    by_cases h1 : nl = 0
    · subst h1
      rw [runs_nil (by omega)]
      exact goes_ok rfl (goes_inr.mpr rfl)
    · refine goes_no (by simpa using h1) ?_
      refine goes_ok (decide_eq_true ⟨hp1, hp2, h0⟩) ?_
      simp only [e3, e4]
      refine goes_ok (decide_eq_true (by omega)) ?_
      exact goes_inr.mpr rfl
  · rw [if_neg h0]
    refine goes_ok (by simpa using h0) ?_
    exact goes_inr.mpr rfl

theorem k23_ok : k23.ok Try.prog := by
  intro x hx
  obtain ⟨⟨hr, ⟨al, nl, ml, tl, _⟩, _⟩, _⟩ := x
  obtain ⟨h1, h2⟩ := a23 hr al nl ml tl (s23 hr al nl ml tl (of_dec hx rfl))
  exact ⟨⟨400, (by decide : 1 + 1 + 1 ≤ 400), h1⟩, h2⟩

end Go.Ev
