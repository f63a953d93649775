/-
  Slack.
-/
import Derived.Test.YtofnanmggmeleaaG2
namespace Go.Ev
open Go.Proofs
set_option linter.unusedVariables false
set_option linter.unusedSimpArgs false
set_option maxRecDepth 100000

namespace S
def slkS (e : Int) (n : Nat) (i mi fr : Int) : Int × Int := if e = 0 then (if 0 ≤ i ∧ i < n then (if 0 ≤ mi then (0, 18) else (fr - 1, 0)) else (0, 6)) else (0, e)
end S
theorem tskE_congr {t t' : Nat → ByteArray} {p p' c c' d d' : Nat → Int} {n : Nat} (h1 : ∀ j, j < n → t j = t' j) (h2 : ∀ j, j < n → p j = p' j) (h3 : ∀ j, j < n → c j = c' j) (h4 : ∀ j, j < n → d j = d' j) : ∀ {k i : Nat}, i + k ≤ n → S.tskE t p c d i k = S.tskE t' p' c' d' i k
  | 0, _, _ => rfl
  | k + 1, i, h => by
    have e : S.any (fun j => S.eqS (t j) (t' i)) i = S.any (fun j => S.eqS (t' j) (t' i)) i := any_congr fun j hj => by rw [h1 j (by omega)]
    simp only [S.tskE, h1 i (by omega), h2 i (by omega), h3 i (by omega), h4 i (by omega)]
    rw [e, tskE_congr h1 h2 h3 h4 (by omega)]
theorem tskS_congr {t t' : Nat → ByteArray} {p p' c c' d d' : Nat → Int} {n : Nat} (h1 : ∀ j, j < n → t j = t' j) (h2 : ∀ j, j < n → p j = p' j) (h3 : ∀ j, j < n → c j = c' j) (h4 : ∀ j, j < n → d j = d' j) : S.tskS n t p c d = S.tskS n t' p' c' d' := by
  unfold S.tskS
  rw [tskE_congr h1 h2 h3 h4 (by omega)]
theorem dsum_congr {p p' c c' : Nat → Int} {t : Int} : ∀ {i : Nat}, (∀ j, j < i → p j = p' j) → (∀ j, j < i → c j = c' j) → S.dsum p c t i = S.dsum p' c' t i
  | 0, _, _ => rfl
  | i + 1, h1, h2 => by
    simp only [S.dsum, h1 i (by omega), h2 i (by omega)]
    rw [dsum_congr (fun j hj => h1 j (by omega)) fun j hj => h2 j (by omega)]
theorem resT_congr {p p' c c' d d' : Nat → Int} {i : Nat} (h2 : ∀ j, j ≤ i → p j = p' j) (h3 : ∀ j, j ≤ i → c j = c' j) (h4 : d i = d' i) : S.resT p c d i = S.resT p' c' d' i := by
  have e : (fun t => S.dem p c i t) = fun t => S.dem p' c' i t := by
    funext t
    unfold S.dem
    rw [h3 i (Nat.le_refl _), dsum_congr (fun j hj => h2 j (by omega)) fun j hj => h3 j (by omega)]
  unfold S.resT
  rw [e, h4]
theorem misT_congr {p p' c c' d d' : Nat → Int} {n : Nat} (h2 : ∀ j, j < n → p j = p' j) (h3 : ∀ j, j < n → c j = c' j) (h4 : ∀ j, j < n → d j = d' j) : S.misT n p c d = S.misT n p' c' d' := by
  unfold S.misT
  exact idx_congr fun j _ hj => by rw [resT_congr (p := p) (p' := p') (c := c) (c' := c') (d := d) (d' := d') (fun q hq => h2 q (by omega)) (fun q hq => h3 q (by omega)) (h4 j (by omega))]
theorem with_len {n : Nat} {t : Nat → ByteArray} {p c d : Nat → Int} {i : Nat} {m : Int} : (S.withL n t p c d i m).length = n := mkl_len
theorem with_tsk {n : Nat} {t : Nat → ByteArray} {p c d : Nat → Int} {i : Nat} {m : Int} : S.tskS (S.withL n t p c d i m).length (fun j => (S.at' (S.withL n t p c d i m) j).1) (fun j => (S.at' (S.withL n t p c d i m) j).2.1) (fun j => (S.at' (S.withL n t p c d i m) j).2.2.1) (fun j => (S.at' (S.withL n t p c d i m) j).2.2.2) = S.tskS n t p (S.updC c i m) d := by
  rw [with_len]
  have h : ∀ j, j < n → S.at' (S.withL n t p c d i m) j = (t j, p j, S.updC c i m j, d j) := fun j hj => at_mkl hj
  exact tskS_congr (fun j hj => by rw [h j hj]) (fun j hj => by rw [h j hj]) (fun j hj => by rw [h j hj]) fun j hj => by rw [h j hj]
theorem with_mis {n : Nat} {t : Nat → ByteArray} {p c d : Nat → Int} {i : Nat} {m : Int} : S.misT (S.withL n t p c d i m).length (fun j => (S.at' (S.withL n t p c d i m) j).2.1) (fun j => (S.at' (S.withL n t p c d i m) j).2.2.1) (fun j => (S.at' (S.withL n t p c d i m) j).2.2.2) = S.misT n p (S.updC c i m) d := by
  rw [with_len]
  have h : ∀ j, j < n → S.at' (S.withL n t p c d i m) j = (t j, p j, S.updC c i m j, d j) := fun j hj => at_mkl hj
  exact misT_congr (fun j hj => by rw [h j hj]) (fun j hj => by rw [h j hj]) fun j hj => by rw [h j hj]
theorem tskE_upd {t : Nat → ByteArray} {p c d : Nat → Int} {q : Nat} {m : Int} : ∀ {k i : Nat}, S.tskE t p c d i k = 0 → S.tskE t p (S.updC c q m) d i k = if i ≤ q ∧ q < i + k ∧ S.tskG (p q) (c q + m) (d q) = false then 6 else 0
  | 0, i, _ => by
    rw [if_neg (by omega)]
    rfl
  | k + 1, i, h => by
    simp only [S.tskE] at h ⊢
    split at h
    · rename_i h1
      rw [if_pos h1]
      split at h
      · cases h
      · rename_i h2
        rw [if_neg h2]
        split at h
        · rename_i h3
          by_cases hq : i = q
          · subst hq
            rw [updC_same]
            cases hg : S.tskG (p i) (c i + m) (d i)
            · rw [if_neg Bool.false_ne_true, if_pos ⟨Nat.le_refl _, by omega, rfl⟩]
            · rw [if_pos rfl, tskE_upd h, if_neg (by omega), if_neg (fun hh => Bool.noConfusion hh.2.2)]
          · rw [updC_ne hq, if_pos h3, tskE_upd h]
            by_cases hg : i + 1 ≤ q ∧ q < i + 1 + k ∧ S.tskG (p q) (c q + m) (d q) = false
            · rw [if_pos hg, if_pos ⟨by omega, by omega, hg.2.2⟩]
            · rw [if_neg hg, if_neg (fun hh => hg ⟨by omega, by omega, hh.2.2⟩)]
        · cases h
    · cases h
theorem tskS_upd {n : Nat} {t : Nat → ByteArray} {p c d : Nat → Int} {q : Nat} {m : Int} (h : S.tskS n t p c d = 0) (hq : q < n) (h0 : 0 ≤ m) : S.tskS n t p (S.updC c q m) d = if c q + m ≤ d q then 0 else 6 := by
  have hA := (okT_at (tskS_ok h).2).2 q hq
  unfold S.tskS at h ⊢
  split at h
  · cases h
  · rename_i h1
    rw [if_neg h1]
    split at h
    · cases h
    · rename_i h2
      rw [if_neg h2, tskE_upd h]
      by_cases hc : c q + m ≤ d q
      · rw [if_pos hc, if_neg]
        intro hh
        have : S.tskG (p q) (c q + m) (d q) = true := decide_eq_true (by omega)
        rw [this] at hh
        exact Bool.noConfusion hh.2.2
      · rw [if_neg hc, if_pos ⟨Nat.zero_le _, by omega, decide_eq_false (by omega)⟩]
theorem fit_upd {n : Nat} {t : Nat → ByteArray} {p c d : Nat → Int} {q : Nat} {m : Int} (h : S.tskS n t p c d = 0) (hq : q < n) (h0 : 0 ≤ m) : S.fitS (S.tskS n t p (S.updC c q m) d) (S.misT n p (S.updC c q m) d) = decide (c q + m ≤ d q ∧ S.slP n p c d q m = false) := by
  unfold S.fitS
  rw [tskS_upd h hq h0]
  have e : S.slP n p c d q m = decide (S.misT n p (S.updC c q m) d ≥ 0) := rfl
  rw [e, decide_eq_decide]
  by_cases hc : c q + m ≤ d q
  · rw [if_pos hc, decide_eq_false_iff_not]
    omega
  · rw [if_neg hc]
    omega
abbrev St38 := Empty
abbrev Rt38 := Int × Int
noncomputable def V38 (al nl ml : Nat) (tl : Nat → ByteArray) (vl : Nat → Int) (gl : Nat → Int) (wl : Nat → Int) (ci : Int) (r : Rt38) : PV := PV.tup [PV.int IntKind.i64 r.1, PV.int IntKind.i64 r.2]
noncomputable def N38 (al nl ml : Nat) (tl : Nat → ByteArray) (vl : Nat → Int) (gl : Nat → Int) (wl : Nat → Int) (ci : Int) (r : Rt38) : List Blk := []
noncomputable def I38 (al nl ml : Nat) (tl : Nat → ByteArray) (vl : Nat → Int) (gl : Nat → Int) (wl : Nat → Int) (ci : Int) : St38 → Hd := fun s => s.elim
noncomputable def q38 (al nl ml : Nat) (tl : Nat → ByteArray) (vl : Nat → Int) (gl : Nat → Int) (wl : Nat → Int) (ci : Int) : St38 → Option (St38 ⊕ Rt38) := fun s => s.elim
noncomputable def p38 (al nl ml : Nat) (tl : Nat → ByteArray) (vl : Nat → Int) (gl : Nat → Int) (wl : Nat → Int) (ci : Int) : Option (St38 ⊕ Rt38) := bif (decide (al + nl ≤ ml))
 then (bif (S.ierr
 (S.tskS nl (fun (j : Nat) => tl (j + al)) (fun (j : Nat) => vl (j + al)) (fun (j : Nat) => gl (j + al))
 fun (j : Nat) => wl (j + al))
 nl ci !=
 (0 : Int))
 then (some (.inr ((0 : Int), S.ierr
 (S.tskS nl (fun (j : Nat) => tl (j + al)) (fun (j : Nat) => vl (j + al)) (fun (j : Nat) => gl (j + al))
 fun (j : Nat) => wl (j + al))
 nl ci)))
 else (bif (decide
 (al + nl ≤ ml ∧
 (S.okT nl (fun (j : Nat) => vl (j + al)) (fun (j : Nat) => gl (j + al)) fun (j : Nat) => wl (j + al)) =
 true))
 then (bif (decide
 ((S.misT nl (fun (j : Nat) => vl (j + al)) (fun (j : Nat) => gl (j + al)) fun (j : Nat) => wl (j + al)) ≥
 (0 : Int)))
 then (some (.inr ((0 : Int), (18 : Int))))
 else (bif (decide ((0 : Int) ≤ ci ∧ ci < (↑nl : Int)))
 then (bif (decide (Int.toNat ci + al < ml))
 then (bif (lim IntKind.i64 (wl (Int.toNat ci + al) - gl (Int.toNat ci + al)))
 then (bif (lim IntKind.i64 (wl (Int.toNat ci + al) - gl (Int.toNat ci + al) + (1 : Int)))
 then (bif (decide
 (al + nl ≤ ml ∧
 ((0 : Int) ≤ ci ∧ ci < (↑nl : Int)) ∧
 (S.okT nl (fun (j : Nat) => vl (j + al)) (fun (j : Nat) => gl (j + al)) fun (j : Nat) => wl (j + al)) =
 true ∧
 (0 : Int) ≤ wl (Int.toNat ci + al) - gl (Int.toNat ci + al) + (1 : Int) ∧
 gl (Int.toNat ci + al) + (wl (Int.toNat ci + al) - gl (Int.toNat ci + al) + (1 : Int)) ≤
 wl (Int.toNat ci + al) + (1 : Int)))
 then (bif (lim IntKind.i64
 (S.firF
 (fun (x : Int) =>
 S.slP nl (fun (j : Nat) => vl (j + al)) (fun (j : Nat) => gl (j + al)) (fun (j : Nat) => wl (j + al))
 (Int.toNat ci) x)
 (Int.toNat (wl (Int.toNat ci + al) - gl (Int.toNat ci + al) + (1 : Int))) (0 : Int) -
 (1 : Int)))
 then (some (.inr (S.firF
 (fun (x : Int) =>
 S.slP nl (fun (j : Nat) => vl (j + al)) (fun (j : Nat) => gl (j + al)) (fun (j : Nat) => wl (j + al))
 (Int.toNat ci) x)
 (Int.toNat (wl (Int.toNat ci + al) - gl (Int.toNat ci + al) + (1 : Int))) (0 : Int) -
 (1 : Int), (0 : Int))))
 else (none))
 else (none))
 else (none))
 else (none))
 else (none))
 else (none)))
 else (none)))
 else (none)
noncomputable def Te38 (test : Bool → Prop → Prop → Prop) (Kst : KS) (Kret : KR) (al nl ml : Nat) (tl : Nat → ByteArray) (vl : Nat → Int) (gl : Nat → Int) (wl : Nat → Int) (ci : Int) : Prop :=
  test (decide (al + nl ≤ ml))
 (test (S.ierr
 (S.tskS nl (fun (j : Nat) => tl (j + al)) (fun (j : Nat) => vl (j + al)) (fun (j : Nat) => gl (j + al))
 fun (j : Nat) => wl (j + al))
 nl ci !=
 (0 : Int))
 (Kret (PV.tup
 [PV.int IntKind.i64 (0 : Int),
 PV.int IntKind.i64
 (S.ierr
 (S.tskS nl (fun (j : Nat) => tl (j + al)) (fun (j : Nat) => vl (j + al)) (fun (j : Nat) => gl (j + al))
 fun (j : Nat) => wl (j + al))
 nl ci)]) ([[(0, false,
 Blk.cols ml
 [Col.str tl, Col.int IntKind.i64 vl, Col.int IntKind.i64 gl,
 Col.int IntKind.i64 wl])]]) (4))
 (test (decide
 (al + nl ≤ ml ∧
 (S.okT nl (fun (j : Nat) => vl (j + al)) (fun (j : Nat) => gl (j + al)) fun (j : Nat) => wl (j + al)) =
 true))
 (test (decide
 ((S.misT nl (fun (j : Nat) => vl (j + al)) (fun (j : Nat) => gl (j + al)) fun (j : Nat) => wl (j + al)) ≥
 (0 : Int)))
 (Kret (PV.tup [PV.int IntKind.i64 (0 : Int), PV.int IntKind.i64 (18 : Int)]) ([[(0, false,
 Blk.cols ml
 [Col.str tl, Col.int IntKind.i64 vl, Col.int IntKind.i64 gl,
 Col.int IntKind.i64 wl])]]) (5))
 (test (decide ((0 : Int) ≤ ci ∧ ci < (↑nl : Int)))
 (test (decide (Int.toNat ci + al < ml))
 (test (decide ((0 : Int) ≤ ci ∧ ci < (↑nl : Int)))
 (test (decide (Int.toNat ci + al < ml))
 (test (lim IntKind.i64 (wl (Int.toNat ci + al) - gl (Int.toNat ci + al)))
 (test (lim IntKind.i64 (wl (Int.toNat ci + al) - gl (Int.toNat ci + al) + (1 : Int)))
 (test (decide
 (al + nl ≤ ml ∧
 ((0 : Int) ≤ ci ∧ ci < (↑nl : Int)) ∧
 (S.okT nl (fun (j : Nat) => vl (j + al)) (fun (j : Nat) => gl (j + al)) fun (j : Nat) => wl (j + al)) =
 true ∧
 (0 : Int) ≤ wl (Int.toNat ci + al) - gl (Int.toNat ci + al) + (1 : Int) ∧
 gl (Int.toNat ci + al) + (wl (Int.toNat ci + al) - gl (Int.toNat ci + al) + (1 : Int)) ≤
 wl (Int.toNat ci + al) + (1 : Int)))
 (test (lim IntKind.i64
 (S.firF
 (fun (x : Int) =>
 S.slP nl (fun (j : Nat) => vl (j + al)) (fun (j : Nat) => gl (j + al)) (fun (j : Nat) => wl (j + al))
 (Int.toNat ci) x)
 (Int.toNat (wl (Int.toNat ci + al) - gl (Int.toNat ci + al) + (1 : Int))) (0 : Int) -
 (1 : Int)))
 (Kret (PV.tup
 [PV.int IntKind.i64
 (S.firF
 (fun (x : Int) =>
 S.slP nl (fun (j : Nat) => vl (j + al)) (fun (j : Nat) => gl (j + al)) (fun (j : Nat) => wl (j + al))
 (Int.toNat ci) x)
 (Int.toNat (wl (Int.toNat ci + al) - gl (Int.toNat ci + al) + (1 : Int))) (0 : Int) -
 (1 : Int)),
 PV.int IntKind.i64 (0 : Int)]) ([[(0, false,
 Blk.cols ml
 [Col.str tl, Col.int IntKind.i64 vl, Col.int IntKind.i64 gl,
 Col.int IntKind.i64 wl])]]) (6))
 (False))
 (False))
 (False))
 (False))
 (False))
 (False))
 (False))
 (False)))
 (False)))
 (False)
set_option maxRecDepth 100000 in
theorem te38 (test : Bool → Prop → Prop → Prop) (Kst : KS) (Kret : KR) (al nl ml : Nat) (tl : Nat → ByteArray) (vl : Nat → Int) (gl : Nat → Int) (wl : Nat → Int) (ci : Int) : run test Try.env true (xT test) true 400 ⟨38, [.cd (mkFn Try.f38).body], argT 0 [.loose ⟨0, 4, al, 0⟩ nl, .int .i64 ci], [[], [(0, (false, .cols ml [.str tl, .int .i64 vl, .int .i64 gl, .int .i64 wl]))]], 1⟩ (proj 1 [] Kst Kret) =
  Te38 test Kst Kret al nl ml tl vl gl wl ci := by kernel_rfl
attribute [local irreducible] Int.subNatNat in
set_option maxRecDepth 100000 in
theorem be38 (al nl ml : Nat) (tl : Nat → ByteArray) (vl : Nat → Int) (gl : Nat → Int) (wl : Nat → Int) (ci : Int) (Kst : KS) (Kret : KR) (x : St38 ⊕ Rt38) (hS : HS 1 400 ((I38 al nl ml tl vl gl wl ci)) Kst x) (hR : HR 1 400 ((V38 al nl ml tl vl gl wl ci)) (fun r => [newL (1 + 1) ((N38 al nl ml tl vl gl wl ci) r) ++ [(0, (false, .cols ml [.str tl, .int .i64 vl, .int .i64 gl, .int .i64 wl]))]]) Kret x) (h : (bif (decide (al + nl ≤ ml))
 then (bif (S.ierr
 (S.tskS nl (fun (j : Nat) => tl (j + al)) (fun (j : Nat) => vl (j + al)) (fun (j : Nat) => gl (j + al))
 fun (j : Nat) => wl (j + al))
 nl ci !=
 (0 : Int))
 then (some (.inr ((0 : Int), S.ierr
 (S.tskS nl (fun (j : Nat) => tl (j + al)) (fun (j : Nat) => vl (j + al)) (fun (j : Nat) => gl (j + al))
 fun (j : Nat) => wl (j + al))
 nl ci)))
 else (bif (decide
 (al + nl ≤ ml ∧
 (S.okT nl (fun (j : Nat) => vl (j + al)) (fun (j : Nat) => gl (j + al)) fun (j : Nat) => wl (j + al)) =
 true))
 then (bif (decide
 ((S.misT nl (fun (j : Nat) => vl (j + al)) (fun (j : Nat) => gl (j + al)) fun (j : Nat) => wl (j + al)) ≥
 (0 : Int)))
 then (some (.inr ((0 : Int), (18 : Int))))
 else (bif (decide ((0 : Int) ≤ ci ∧ ci < (↑nl : Int)))
 then (bif (decide (Int.toNat ci + al < ml))
 then (bif (lim IntKind.i64 (wl (Int.toNat ci + al) - gl (Int.toNat ci + al)))
 then (bif (lim IntKind.i64 (wl (Int.toNat ci + al) - gl (Int.toNat ci + al) + (1 : Int)))
 then (bif (decide
 (al + nl ≤ ml ∧
 ((0 : Int) ≤ ci ∧ ci < (↑nl : Int)) ∧
 (S.okT nl (fun (j : Nat) => vl (j + al)) (fun (j : Nat) => gl (j + al)) fun (j : Nat) => wl (j + al)) =
 true ∧
 (0 : Int) ≤ wl (Int.toNat ci + al) - gl (Int.toNat ci + al) + (1 : Int) ∧
 gl (Int.toNat ci + al) + (wl (Int.toNat ci + al) - gl (Int.toNat ci + al) + (1 : Int)) ≤
 wl (Int.toNat ci + al) + (1 : Int)))
 then (bif (lim IntKind.i64
 (S.firF
 (fun (x : Int) =>
 S.slP nl (fun (j : Nat) => vl (j + al)) (fun (j : Nat) => gl (j + al)) (fun (j : Nat) => wl (j + al))
 (Int.toNat ci) x)
 (Int.toNat (wl (Int.toNat ci + al) - gl (Int.toNat ci + al) + (1 : Int))) (0 : Int) -
 (1 : Int)))
 then (some (.inr (S.firF
 (fun (x : Int) =>
 S.slP nl (fun (j : Nat) => vl (j + al)) (fun (j : Nat) => gl (j + al)) (fun (j : Nat) => wl (j + al))
 (Int.toNat ci) x)
 (Int.toNat (wl (Int.toNat ci + al) - gl (Int.toNat ci + al) + (1 : Int))) (0 : Int) -
 (1 : Int), (0 : Int))))
 else (none))
 else (none))
 else (none))
 else (none))
 else (none))
 else (none)))
 else (none)))
 else (none) : Option (St38 ⊕ Rt38)) = some x) : Te38 cond Kst Kret al nl ml tl vl gl wl ci := by
  unfold Te38
  exact bif_split h
   (fun c0 h => bif_split h
   (fun c1 h => ret_at hR _ h (fun n => n) rfl rfl rfl (rn_tup ⟨(rn_int rfl), (rn_int rfl), trivial⟩) rfl (entl_bor (use_lo rfl) rfl rfl entl_nil))
   (fun c1 h => bif_split h
   (fun c2 h => bif_split h
   (fun c3 h => ret_at hR _ h (fun n => n) rfl rfl rfl (rn_tup ⟨(rn_int rfl), (rn_int rfl), trivial⟩) rfl (entl_bor (use_lo rfl) rfl rfl entl_nil))
   (fun c3 h => bif_split h
   (fun c4 h => bif_split h
   (fun c5 h => cond_yes c4 (cond_yes c5 (bif_split h
   (fun c6 h => bif_split h
   (fun c7 h => bif_split h
   (fun c8 h => bif_split h
   (fun c9 h => ret_at hR _ h (fun n => n) rfl rfl rfl (rn_tup ⟨(rn_int rfl), (rn_int rfl), trivial⟩) rfl (entl_bor (use_lo rfl) rfl rfl entl_nil))
   (fun c9 h => no_some h))
   (fun c8 h => no_some h))
   (fun c7 h => no_some h))
   (fun c6 h => no_some h))))
   (fun c5 h => no_some h))
   (fun c4 h => no_some h)))
   (fun c2 h => no_some h)))
   (fun c0 h => no_some h)
theorem a38 (al nl ml : Nat) (tl : Nat → ByteArray) (vl : Nat → Int) (gl : Nat → Int) (wl : Nat → Int) (ci : Int) {r : Rt38} (h : Goes ((q38 al nl ml tl vl gl wl ci)) ((p38 al nl ml tl vl gl wl ci)) r) : CallR Try.prog 38 [.loose ⟨0, 4, al, 0⟩ nl, .int .i64 ci] [[(0, (false, .cols ml [.str tl, .int .i64 vl, .int .i64 gl, .int .i64 wl]))]] 1 ((V38 al nl ml tl vl gl wl ci) r) ((fun r => [newL (1 + 1) ((N38 al nl ml tl vl gl wl ci) r) ++ [(0, (false, .cols ml [.str tl, .int .i64 vl, .int .i64 gl, .int .i64 wl]))]]) r) 400 ∧ ∃ F, Try.prog.funcs[38]? = some F ∧ F.body.isSome = true ∧ (F.name == "runtime.NumGoroutine") = false := by
  refine dec_calls (sy := true) (f := 38) (lo := 1) (hi := 400) (H := [[(0, (false, .cols ml [.str tl, .int .i64 vl, .int .i64 gl, .int .i64 wl]))]]) (args := [.loose ⟨0, 4, al, 0⟩ nl, .int .i64 ci]) Try.envOk Try.mixed xT_ok ((I38 al nl ml tl vl gl wl ci)) ((V38 al nl ml tl vl gl wl ci)) (fun r => [newL (1 + 1) ((N38 al nl ml tl vl gl wl ci) r) ++ [(0, (false, .cols ml [.str tl, .int .i64 vl, .int .i64 gl, .int .i64 wl]))]]) (fn := mkFn Try.f38) (ts := []) (n := 400) rfl (by decide) (by simp) (names_of rfl) ?_ ?_ ?_ h
  · intro s; exact s.elim
  · intro Kst Kret x hS hR h
    exact Holds.eq (te38 cond Kst Kret al nl ml tl vl gl wl ci) (be38 al nl ml tl vl gl wl ci Kst Kret x hS hR h)
  · intro Kst Kret x hS hR s h; exact s.elim
noncomputable def k38 : Con := ⟨38, [.one (.list [.str, .int .i64, .int .i64, .int .i64]), .one (.plain (.int .i64))], fun (x : (Nat × Nat × Nat × (Nat → ByteArray) × (Nat → Int) × (Nat → Int) × (Nat → Int) × Unit) × Int × Unit) => (fun (al nl ml : Nat) (tl : Nat → ByteArray) (vl : Nat → Int) (gl : Nat → Int) (wl : Nat → Int) (ci : Int) => decide (al + nl ≤ ml)) x.1.1 x.1.2.1 x.1.2.2.1 x.1.2.2.2.1 x.1.2.2.2.2.1 x.1.2.2.2.2.2.1 x.1.2.2.2.2.2.2.1 x.2.1, fun (x : (Nat × Nat × Nat × (Nat → ByteArray) × (Nat → Int) × (Nat → Int) × (Nat → Int) × Unit) × Int × Unit) => (fun (al nl ml : Nat) (tl : Nat → ByteArray) (vl : Nat → Int) (gl : Nat → Int) (wl : Nat → Int) (ci : Int) => (V38 al nl ml tl vl gl wl ci) (S.slkS (S.tskS nl (fun j => tl (j + al)) (fun j => vl (j + al)) (fun j => gl (j + al)) (fun j => wl (j + al))) nl ci (S.misT nl (fun j => vl (j + al)) (fun j => gl (j + al)) (fun j => wl (j + al))) (S.firF (fun x => S.slP nl (fun j => vl (j + al)) (fun j => gl (j + al)) (fun j => wl (j + al)) ci.toNat x) (wl (ci.toNat + al) - gl (ci.toNat + al) + 1).toNat 0))) x.1.1 x.1.2.1 x.1.2.2.1 x.1.2.2.2.1 x.1.2.2.2.2.1 x.1.2.2.2.2.2.1 x.1.2.2.2.2.2.2.1 x.2.1, fun (x : (Nat × Nat × Nat × (Nat → ByteArray) × (Nat → Int) × (Nat → Int) × (Nat → Int) × Unit) × Int × Unit) => (fun (al nl ml : Nat) (tl : Nat → ByteArray) (vl : Nat → Int) (gl : Nat → Int) (wl : Nat → Int) (ci : Int) => (N38 al nl ml tl vl gl wl ci) (S.slkS (S.tskS nl (fun j => tl (j + al)) (fun j => vl (j + al)) (fun j => gl (j + al)) (fun j => wl (j + al))) nl ci (S.misT nl (fun j => vl (j + al)) (fun j => gl (j + al)) (fun j => wl (j + al))) (S.firF (fun x => S.slP nl (fun j => vl (j + al)) (fun j => gl (j + al)) (fun j => wl (j + al)) ci.toNat x) (wl (ci.toNat + al) - gl (ci.toNat + al) + 1).toNat 0))) x.1.1 x.1.2.1 x.1.2.2.1 x.1.2.2.2.1 x.1.2.2.2.2.1 x.1.2.2.2.2.2.1 x.1.2.2.2.2.2.2.1 x.2.1, fun _ _ => .dead⟩
theorem s38 (al nl ml : Nat) (tl : Nat → ByteArray) (vl : Nat → Int) (gl : Nat → Int) (wl : Nat → Int) (ci : Int) (hp : al + nl ≤ ml) : Goes ((q38 al nl ml tl vl gl wl ci)) ((p38 al nl ml tl vl gl wl ci)) (S.slkS (S.tskS nl (fun j => tl (j + al)) (fun j => vl (j + al)) (fun j => gl (j + al)) (fun j => wl (j + al))) nl ci (S.misT nl (fun j => vl (j + al)) (fun j => gl (j + al)) (fun j => wl (j + al))) (S.firF (fun x => S.slP nl (fun j => vl (j + al)) (fun j => gl (j + al)) (fun j => wl (j + al)) ci.toNat x) (wl (ci.toNat + al) - gl (ci.toNat + al) + 1).toNat 0)) := by
  have hk : S.tskS nl (fun j => tl (j + al)) (fun j => vl (j + al)) (fun j => gl (j + al)) (fun j => wl (j + al)) = 0 → 1 ≤ nl ∧ S.okT nl (fun j => vl (j + al)) (fun j => gl (j + al)) (fun j => wl (j + al)) = true := tskS_ok
  have hfb := (firF_b (f := fun x => S.slP nl (fun j => vl (j + al)) (fun j => gl (j + al)) (fun j => wl (j + al)) ci.toNat x) (k := (wl (ci.toNat + al) - gl (ci.toNat + al) + 1).toNat) (x := 0)).1
  have hA : S.okT nl (fun j => vl (j + al)) (fun j => gl (j + al)) (fun j => wl (j + al)) = true → ∀ j, j < nl → 1 ≤ vl (j + al) ∧ vl (j + al) ≤ 1000000 ∧ 1 ≤ gl (j + al) ∧ gl (j + al) ≤ vl (j + al) ∧ gl (j + al) ≤ wl (j + al) ∧ wl (j + al) ≤ vl (j + al) := fun h => (okT_at h).2
  unfold p38 S.slkS
  generalize S.firF (fun x => S.slP nl (fun j => vl (j + al)) (fun j => gl (j + al)) (fun j => wl (j + al)) ci.toNat x) (wl (ci.toNat + al) - gl (ci.toNat + al) + 1).toNat 0 = fr at *
  generalize S.tskS nl (fun j => tl (j + al)) (fun j => vl (j + al)) (fun j => gl (j + al)) (fun j => wl (j + al)) = e at *
  generalize S.misT nl (fun j => vl (j + al)) (fun j => gl (j + al)) (fun j => wl (j + al)) = m at *
  by_cases he : e = 0
  · obtain ⟨hn, ho⟩ := hk he
    have hA := hA ho
    subst he
    rw [if_pos rfl]
    refine goes_ok (decide_eq_true hp) ?_
    unfold S.ierr
    rw [if_pos rfl]
    by_cases hi : 0 ≤ ci ∧ ci < nl
    · have hAc := hA ci.toNat (by omega)
      rw [if_pos hi, if_pos hi]
      refine goes_no rfl ?_
      refine goes_ok (decide_eq_true ⟨hp, ho⟩) ?_
      by_cases hm : 0 ≤ m
      · rw [if_pos hm]
        exact goes_ok (decide_eq_true hm) rfl
      · rw [if_neg hm]
        refine goes_no (decide_eq_false (by omega)) ?_
        refine goes_ok (decide_eq_true hi) ?_
        refine goes_ok (decide_eq_true (by omega)) ?_
        refine goes_ok (by rw [lim64]; exact decide_eq_true (by omega)) ?_
        refine goes_ok (by rw [lim64]; exact decide_eq_true (by omega)) ?_
        refine goes_ok (decide_eq_true ⟨hp, hi, ho, by omega, by omega⟩) ?_
        refine goes_ok (by rw [lim64]; exact decide_eq_true (by omega)) ?_
        exact goes_inr.mpr rfl
    · rw [if_neg hi, if_neg hi]
      exact goes_ok rfl rfl
  · rw [if_neg he]
    refine goes_ok (decide_eq_true hp) ?_
    unfold S.ierr
    rw [if_neg he]
    exact goes_ok (by simpa using he) rfl

theorem k38_ok : k38.ok Try.prog := by
  intro x hx
  obtain ⟨⟨al, nl, ml, tl, vl, gl, wl, _⟩, ci, _⟩ := x
  obtain ⟨h1, h2⟩ := a38 al nl ml tl vl gl wl ci (s38 al nl ml tl vl gl wl ci (of_dec hx rfl))
  exact ⟨⟨400, (by decide : 1 + 1 + 0 ≤ 400), h1⟩, h2⟩

end Go.Ev
