/-
  slices.SortFunc of trains: sorted by their first buckets.
-/
import Derived.Test.YtejcmbcmhfejkaaEvSt
import Derived.Test.YtejcmbcmhfejkaaSl
import Derived.WalkKit
import Derived.WalkSpells
import Derived.WalkLawsBesides
import Derived.Test.YtejcmbcmhfejkaaEnv
namespace Go.Ev
open Go.Proofs
set_option linter.unusedVariables false
set_option linter.unusedSimpArgs false
set_option maxRecDepth 100000

open Go.RowKit Go.Shelf Go.Sort
namespace S
/-- A number that is far from both ends. -/
def cl (a : Int) : Int := max (-1099511627776) (min 1099511627776 a)
def encT (x : Int × Int) : List Value := [.int .i64 (cl x.1), .int .i64 x.2]
def cfT (x y : Int × Int) : Int := cl x.1 - cl y.1
end S
theorem cl_b (a : Int) : -1099511627776 ≤ S.cl a ∧ S.cl a ≤ 1099511627776 := by unfold S.cl; omega
theorem cl_id {a : Int} (h : -1099511627776 ≤ a ∧ a ≤ 1099511627776) : S.cl a = a := by unfold S.cl; omega
theorem ltT {x y : Int × Int} : ltOf S.cfT x y = decide (S.cl x.1 < S.cl y.1) := by
  show decide (S.cfT x y < 0) = _
  unfold S.cfT
  rw [Bool.eq_iff_iff, decide_eq_true_eq, decide_eq_true_eq]; omega
theorem swoT : SWO (ltOf S.cfT) where
  irrefl x := by rw [ltT]; simp
  trans x y z h1 h2 := by rw [ltT] at *; simp at *; omega
  ntrans x y z h1 h2 := by rw [ltT] at *; simp at *; omega
set_option maxHeartbeats 1000000 in
theorem clo53 (x y : Int × Int) (W : World) : Calls Try.prog 53 #[.agg #[.int .i64 (S.cl x.1), .int .i64 x.2], .agg #[.int .i64 (S.cl y.1), .int .i64 y.2]] W fun e w' => e = .returned (.int .i64 (S.cfT x y)) ∧ ∃ q os', w' = grow (W.drewN q) os' := by
  unfold S.cfT
  have h1 := cl_b x.1
  have h2 := cl_b y.1
  generalize S.cl x.1 = a at *
  generalize S.cl y.1 = b at *
  have hw : IntKind.wrap .i64 (a - b) = a - b := by simp [IntKind.wrap, IntKind.bits, IntKind.signed]; omega
  go_enter Try.func53, Try.ntmps53
  go_wp2
  go_ret
  exact ⟨rfl, 0, _, by rw [alloc_eq_grow, alloc_eq_grow, grow_grow]; rfl⟩
theorem cmp53 (blk off size : Nat) (w : World) : CmpLays Try.prog 53 #[] S.encT 2 S.cfT blk off size w := fun _ _ _ _ x y => clo53 x y _

end Go.Ev
namespace Go.Ev
open Go.Proofs
set_option linter.unusedVariables false
set_option linter.unusedSimpArgs false
set_option maxRecDepth 100000

section
variable {P : Program} {E : Env} (ok : EnvOk P E) (hm : P.follows .mixedOrders = true) {X : Ext} (hX : ExtOk P X)
include ok hm hX
theorem dec_free {lo hi : Nat} {R : Type} {q : Empty → Option (Empty ⊕ R)} {p : Option (Empty ⊕ R)} {r : R} (I : Empty → Hd) (V : R → PV) (H1 : R → Heap) {f : FuncId} {fn : FnI} {args : List PV} {H : Heap} {n : Nat} (hf : nthFn E.fs f = some fn) (hl : lo ≤ hi) (hne : H ≠ []) (hN : Names H lo)
    (entry : ∀ Kst Kret x, HS lo hi I Kst x → HR lo hi V H1 Kret x → p = some x → Holds (run cond E true X false n ⟨f, [.cd fn.body], argT 0 args, [] :: H, lo⟩ (proj lo [] Kst Kret)))
    (h : Goes q p r) : CallR P f args H lo (V r) (H1 r) hi ∧ ∃ F, P.funcs[f]? = some F ∧ F.body.isSome = true ∧ (F.name == "runtime.NumGoroutine") = false := by
  cases hp : p with
  | none => rw [hp] at h; exact h.elim
  | some x =>
    rw [hp] at h
    cases x with
    | inl s => exact s.elim
    | inr r' =>
      cases h
      exact calls_free ok hm hX hf hl hne hN (entry (fun _ _ _ _ => False) _ (.inr _) (fun s => s.elim) (fun r hr v' H' fr' h => by cases hr; exact h) hp)
end

namespace S
/-- Are the first n values far from both ends? -/
def far (n : Nat) (t : Nat → Int) : Bool := decide (∀ j, j < n → -1099511627776 ≤ t j ∧ t j ≤ 1099511627776)
noncomputable def sortT (n : Nat) (t v : Nat → Int) : List (Int × Int) := (Go.Ev.S.srt cfT (mkl n fun j => (t j, v j)).toArray).toList
end S
theorem perm_arr {α : Type} {d d' : Array α} [Inhabited α] (h : Go.Sort.PermIn 0 d.size d d') : d'.toList.Perm d.toList := by
  have h3 := h.2.2
  rw [show d'.extract 0 d.size = d' by rw [← h.1]; simp, show d.extract 0 d.size = d by simp] at h3
  exact h3
theorem at_arr {α : Type} [Inhabited α] {d : Array α} {j : Nat} : S.at' d.toList j = d[j]! := by
  unfold S.at'
  rw [List.getD_eq_getElem?_getD, Array.getElem?_toList, getElem!_def]
  cases d[j]? <;> rfl
theorem sortT_perm {n : Nat} {t v : Nat → Int} : (S.sortT n t v).Perm (S.mkl n fun j => (t j, v j)) := by
  have := perm_arr (srt_ok swoT (S.mkl n fun j => (t j, v j)).toArray).1
  rw [List.toList_toArray] at this
  exact this
theorem sortT_len {n : Nat} {t v : Nat → Int} : (S.sortT n t v).length = n := by rw [sortT_perm.length_eq, mkl_len]
theorem sortT_asc {n : Nat} {t v : Nat → Int} : (S.sortT n t v).Pairwise (fun x y => S.cl x.1 ≤ S.cl y.1) := by
  have h := (srt_ok swoT (S.mkl n fun j => (t j, v j)).toArray).2
  have hl : (S.sortT n t v).length = n := sortT_len
  rw [List.pairwise_iff_getElem]
  intro i j hi hj hij
  have h1 := h i j (Nat.zero_le _) hij (by simp only [List.size_toArray, mkl_len]; omega)
  rw [ltT, decide_eq_false_iff_not] at h1
  have e : ∀ k (hk : k < (S.sortT n t v).length), (S.sortT n t v)[k] = (S.srt S.cfT (S.mkl n fun j => (t j, v j)).toArray)[k]! := fun k hk => by
    rw [← at_arr]
    unfold S.at'
    rw [List.getD_eq_getElem?_getD]
    show _ = ((S.sortT n t v)[k]?).getD _
    rw [List.getElem?_eq_getElem hk]; rfl
  rw [e i hi, e j hj]
  omega
abbrev St52z := Empty
abbrev Rt52z := List (Int × Int)
noncomputable def V52z (nl ml : Nat) (tl : Nat → Int) (vl : Nat → Int) (r : Rt52z) : PV := PV.tup []
noncomputable def N52z (nl ml : Nat) (tl : Nat → Int) (vl : Nat → Int) (r : Rt52z) : List Blk := []
noncomputable def W52z (nl ml : Nat) (tl : Nat → Int) (vl : Nat → Int) (r : Rt52z) : Nat → Blk := fun n => bif Nat.beq n 0 then Blk.cols (List.length r)
 [Col.int IntKind.i64 fun (j : Nat) => (S.at' r j).1,
 Col.int IntKind.i64 fun (j : Nat) => (S.at' r j).2] else .dead
noncomputable def I52z (nl ml : Nat) (tl : Nat → Int) (vl : Nat → Int) : St52z → Hd := fun s => s.elim
noncomputable def q52z (nl ml : Nat) (tl : Nat → Int) (vl : Nat → Int) : St52z → Option (St52z ⊕ Rt52z) := fun s => s.elim
noncomputable def p52z (nl ml : Nat) (tl : Nat → Int) (vl : Nat → Int) : Option (St52z ⊕ Rt52z) := some (.inr (S.mkl (0) fun (j : Nat) => (tl j, vl j)))
noncomputable def Te52z (test : Bool → Prop → Prop → Prop) (Kst : KS) (Kret : KR) (nl ml : Nat) (tl : Nat → Int) (vl : Nat → Int) : Prop :=
  Kret (PV.tup []) ([[(0, true,
 Blk.cols (0) [Col.int IntKind.i64 tl, Col.int IntKind.i64 vl])]]) (1)
set_option maxRecDepth 100000 in
theorem te52z (Kst : KS) (Kret : KR) (nl ml : Nat) (tl : Nat → Int) (vl : Nat → Int) : run cond Try.env true noX false 400 ⟨52, [.cd (mkFn Try.f52).body], argT 0 [.own 0 2 0, .fn (.func 53) [] []], [[], [(0, (true, .cols 0 [.int .i64 tl, .int .i64 vl]))]], 1⟩ (proj 1 [] Kst Kret) =
  Te52z cond Kst Kret nl ml tl vl := by kernel_rfl
attribute [local irreducible] Int.subNatNat in
set_option maxRecDepth 100000 in
theorem be52z (nl ml : Nat) (tl : Nat → Int) (vl : Nat → Int) (Kst : KS) (Kret : KR) (x : St52z ⊕ Rt52z) (hS : HS 1 400 ((I52z nl ml tl vl)) Kst x) (hR : HR 1 400 ((V52z nl ml tl vl)) (fun r => [newL (1 + 1) ((N52z nl ml tl vl) r) ++ [(0, (true, ((W52z nl ml tl vl) r 0)))]]) Kret x) (h : (some (.inr (S.mkl (0) fun (j : Nat) => (tl j, vl j))) : Option (St52z ⊕ Rt52z)) = some x) : Te52z cond Kst Kret nl ml tl vl := by
  unfold Te52z
  exact ret_at hR _ h (fun n => n) rfl rfl rfl (rn_tup trivial) rfl (entl_new (use_lo rfl) rfl (Nat.le_of_eq mkl_len) (rcs_int (fun _ hj => col_mkl (fun (t : Int × Int) => t.1) hj) (rcs_int (fun _ hj => col_mkl (fun (t : Int × Int) => t.2) hj) rcs_nil)) entl_nil)
theorem a52z (nl ml : Nat) (tl : Nat → Int) (vl : Nat → Int) {r : Rt52z} (h : Goes ((q52z nl ml tl vl)) ((p52z nl ml tl vl)) r) : CallR Try.prog 52 [.own 0 2 0, .fn (.func 53) [] []] [[(0, (true, .cols 0 [.int .i64 tl, .int .i64 vl]))]] 1 ((V52z nl ml tl vl) r) ((fun r => [newL (1 + 1) ((N52z nl ml tl vl) r) ++ [(0, (true, ((W52z nl ml tl vl) r 0)))]]) r) 400 ∧ ∃ F, Try.prog.funcs[52]? = some F ∧ F.body.isSome = true ∧ (F.name == "runtime.NumGoroutine") = false := by
  refine dec_free (f := 52) (lo := 1) (hi := 400) (H := [[(0, (true, .cols 0 [.int .i64 tl, .int .i64 vl]))]]) (args := [.own 0 2 0, .fn (.func 53) [] []]) Try.envOk Try.mixed noX_ok ((I52z nl ml tl vl)) ((V52z nl ml tl vl)) (fun r => [newL (1 + 1) ((N52z nl ml tl vl) r) ++ [(0, (true, ((W52z nl ml tl vl) r 0)))]]) (fn := mkFn Try.f52) (n := 400) rfl (by decide) (by simp) (names_of rfl) ?_ h
  · intro Kst Kret x hS hR h
    exact Holds.eq (te52z Kst Kret nl ml tl vl) (be52z nl ml tl vl Kst Kret x hS hR h)
noncomputable def W52 (nl ml : Nat) (tl : Nat → Int) (vl : Nat → Int) (r : List (Int × Int)) : Nat → Blk := fun n => bif Nat.beq n 0 then .cols nl [Col.int IntKind.i64 fun (j : Nat) => (S.at' r j).1, Col.int IntKind.i64 fun (j : Nat) => (S.at' r j).2] else .dead
noncomputable def k52 : Con := ⟨52, [.one (.own [.int .i64, .int .i64]), .fn 53 []], fun (x : (Nat × Nat × (Nat → Int) × (Nat → Int) × Unit) × (Unit) × Unit) => (fun (nl ml : Nat) (tl : Nat → Int) (vl : Nat → Int) => decide (nl ≤ 1000000 ∧ S.far nl tl = true)) x.1.1 x.1.2.1 x.1.2.2.1 x.1.2.2.2.1, fun (x : (Nat × Nat × (Nat → Int) × (Nat → Int) × Unit) × (Unit) × Unit) => (fun (nl ml : Nat) (tl : Nat → Int) (vl : Nat → Int) => PV.tup []) x.1.1 x.1.2.1 x.1.2.2.1 x.1.2.2.2.1, fun (x : (Nat × Nat × (Nat → Int) × (Nat → Int) × Unit) × (Unit) × Unit) => (fun (nl ml : Nat) (tl : Nat → Int) (vl : Nat → Int) => []) x.1.1 x.1.2.1 x.1.2.2.1 x.1.2.2.2.1, fun (x : (Nat × Nat × (Nat → Int) × (Nat → Int) × Unit) × (Unit) × Unit) => (fun (nl ml : Nat) (tl : Nat → Int) (vl : Nat → Int) => W52 nl ml tl vl (S.sortT nl tl vl)) x.1.1 x.1.2.1 x.1.2.2.1 x.1.2.2.2.1⟩

theorem sort52 (nl : Nat) (tl vl : Nat → Int) (h0 : 0 < nl) (h1 : nl ≤ 1000000) (h2 : S.far nl tl = true) : CallR Try.prog 52 [.own 0 2 nl, .fn (.func 53) [] []] [[(0, (true, .cols nl [.int .i64 tl, .int .i64 vl]))]] 1 (.tup []) [[(0, (true, .cols nl [Col.int IntKind.i64 fun (j : Nat) => (S.at' (S.sortT nl tl vl) j).1, Col.int IntKind.i64 fun (j : Nat) => (S.at' (S.sortT nl tl vl) j).2]))]] 2 := by
  have hb := of_decide_eq_true h2
  have hsz : (S.mkl nl fun j => (tl j, vl j)).toArray.size = nl := by rw [List.size_toArray, mkl_len]
  have key := sort_callR Try.srtT 2 (by decide) (fun w => by kernel_rfl) (fun w => by kernel_rfl) S.encT (fun _ => rfl) (fun x v hv => by simp [S.encT] at hv; rcases hv with rfl | rfl <;> rfl) S.cfT swoT 53 (enters_of Try.func53 (by kernel_rfl) rfl) cmp53 [.int .i64 tl, .int .i64 vl] [Col.int IntKind.i64 fun (j : Nat) => (S.at' (S.sortT nl tl vl) j).1, Col.int IntKind.i64 fun (j : Nat) => (S.at' (S.sortT nl tl vl) j).2] rfl rfl (S.mkl nl fun j => (tl j, vl j)).toArray (by rw [hsz]; exact h0) (by rw [hsz]; exact h1) ?_ ?_
  · rw [hsz] at key
    exact key
  · intro j i c hj hc σ u hu
    rw [hsz] at hj
    have e : (S.mkl nl fun j => (tl j, vl j)).toArray[j]! = (tl j, vl j) := by
      have := at_arr (d := (S.mkl nl fun j => (tl j, vl j)).toArray) (j := j)
      rw [← this]; exact at_mkl hj
    rw [e]
    match i, hc with
    | 0, hc => cases hc; cases hu; show Value.int .i64 (S.cl (tl j)) = _; rw [cl_id (hb j hj)]
    | 1, hc => cases hc; cases hu; rfl
    | i + 2, hc => cases hc
  · intro j i c hj hc σ
    rw [hsz] at hj
    have e : S.at' (S.sortT nl tl vl) j = (S.srt S.cfT (S.mkl nl fun j => (tl j, vl j)).toArray)[j]! := at_arr
    have hm : S.at' (S.sortT nl tl vl) j ∈ S.mkl nl fun j => (tl j, vl j) := sortT_perm.mem_iff.1 (by
      unfold S.at'
      rw [List.getD_eq_getElem?_getD, List.getElem?_eq_getElem (by rw [sortT_len]; exact hj)]
      exact List.getElem_mem _)
    have hf : S.cl (S.at' (S.sortT nl tl vl) j).1 = (S.at' (S.sortT nl tl vl) j).1 := by
      obtain ⟨q, hq, e2⟩ := List.mem_map.1 hm
      rw [← e2]
      exact cl_id (hb q (List.mem_range.1 hq))
    rw [← e]
    match i, hc with
    | 0, hc => cases hc; show VR σ _ (Value.int .i64 (S.cl (S.at' (S.sortT nl tl vl) j).1)); rw [hf]; exact .int _ _
    | 1, hc => cases hc; exact .int _ _
    | i + 2, hc => cases hc
theorem k52_ok : k52.ok Try.prog := by
  intro x hx
  obtain ⟨⟨nl, ml, tl, vl, _⟩, ⟨_⟩, _⟩ := x
  have hp : nl ≤ 1000000 ∧ S.far nl tl = true := of_dec hx rfl
  obtain ⟨h1, h2⟩ := hp
  obtain ⟨z1, z2⟩ := a52z 0 0 tl vl (r := []) rfl
  rcases Nat.eq_zero_or_pos nl with h0 | h0
  · subst h0
    refine ⟨⟨400, (by decide : 1 + 1 + 0 ≤ 400), ?_⟩, z2⟩
    have e : S.sortT 0 tl vl = [] := List.length_eq_zero_iff.1 sortT_len
    have e3 : W52z 0 0 tl vl [] 0 = Blk.cols 0 [Col.int IntKind.i64 fun (j : Nat) => (S.at' (S.sortT 0 tl vl) j).1, Col.int IntKind.i64 fun (j : Nat) => (S.at' (S.sortT 0 tl vl) j).2] := by rw [e]; rfl
    have z1 : CallR Try.prog 52 [.own 0 2 0, .fn (.func 53) [] []] [[(0, (true, .cols 0 [.int .i64 tl, .int .i64 vl]))]] 1 (.tup []) [[(0, (true, W52z 0 0 tl vl [] 0))]] 400 := z1
    rw [e3] at z1
    exact z1
  · refine ⟨⟨2, (by decide : 1 + 1 + 0 ≤ 2), ?_⟩, z2⟩
    exact sort52 nl tl vl h0 h1 h2
noncomputable def xSo (test : Bool → Prop → Prop → Prop) : Ext := consX test [k52]
theorem xSo_ok : ExtOk Try.prog (xSo cond) := consX_ok ⟨k52_ok, trivial⟩

end Go.Ev
