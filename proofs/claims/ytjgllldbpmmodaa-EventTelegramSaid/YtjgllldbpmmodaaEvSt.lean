/-
  slices.SortFunc as a contract of the reckoner: out of the library's theorem on the sort (Derived.Shelf.SlSortCmp.WholeK).
-/
import Derived.Test.YtjgllldbpmmodaaEvY
import Derived.Shelf.SlSortCmp.WholeK
namespace Go.Ev
open Go.Proofs Go.Sort Go.Shelf
set_option linter.unusedVariables false
set_option linter.unusedSimpArgs false
section
variable {α : Type} [Inhabited α] (enc : α → List Value) (k : Nat) (w : World) (blk off m : Nat) (d : Array α) (os : Array Obj)
theorem sw_heap (hb : blk < w.heap.size) : (sortWorldK enc k w blk off m d os).heap[blk]? = (w.heap[blk]?).map (onCells (putCells id off (flatK enc k d))) := by
  show ((w.heap.modify blk (onCells (putCells id off (flatK enc k d)))) ++ os)[blk]? = _
  rw [Array.getElem?_append_left (by simpa using hb), Array.getElem?_modify, if_pos rfl]
theorem sw_other {j : Nat} (hj : j < w.heap.size) (h : j ≠ blk) : (sortWorldK enc k w blk off m d os).heap[j]? = w.heap[j]? := by
  show ((w.heap.modify blk (onCells (putCells id off (flatK enc k d)))) ++ os)[j]? = _
  rw [Array.getElem?_append_left (by simpa using hj), Array.getElem?_modify, if_neg (Ne.symm h)]
theorem sw_size : w.heap.size ≤ (sortWorldK enc k w blk off m d os).heap.size := by
  show _ ≤ ((w.heap.modify blk (onCells (putCells id off (flatK enc k d)))) ++ os).size
  simp
theorem sw_frozen (hb : blk < w.heap.size) (o : Nat) : (sortWorldK enc k w blk off m d os).frozen? ⟨blk, o, none⟩ = w.frozen? ⟨blk, o, none⟩ := by
  unfold World.frozen?
  simp only [sw_heap enc k w blk off m d os hb]
  cases w.heap[blk]? with
  | none => rfl
  | some x => cases x <;> rfl
theorem sw_some (hb : blk < w.heap.size) (o : Nat) : ((sortWorldK enc k w blk off m d os).cell? ⟨blk, o, none⟩).isSome = (w.cell? ⟨blk, o, none⟩).isSome := by
  unfold World.cell?
  simp only [sw_heap enc k w blk off m d os hb]
  cases w.heap[blk]? with
  | none => rfl
  | some x => cases x <;> simp [onCells, putCells]
end
theorem stc_lt : ∀ {cs : List Col} {i : Nat}, i < lenc cs → ∃ c, nthc cs i = some c
  | [], _, h => absurd h (Nat.not_lt_zero _)
  | c :: _, 0, _ => ⟨c, rfl⟩
  | _ :: l, i + 1, h => stc_lt (cs := l) (by simp only [lenc] at h; omega)
theorem stc_ok : ∀ {cs : List Col} {i : Nat} {c : Col}, nthc cs i = some c → i < lenc cs
  | [], _, _, h => by cases h
  | _ :: _, 0, _, _ => by simp only [lenc]; omega
  | _ :: l, i + 1, c, h => by
    have := stc_ok (cs := l) (i := i) (c := c) h
    simp only [lenc]; omega
/-- What the row holds behind slices.SortFunc. -/
noncomputable def S.srt {α : Type} [Inhabited α] (cf : α → α → Int) (d : Array α) : Array α := pdq (ltOf cf) d 0 d.size (Lib.bitLen d.size) true true
theorem srt_ok {α : Type} [Inhabited α] {cf : α → α → Int} (hO : SWO (ltOf cf)) (d : Array α) : PermIn 0 d.size d (S.srt cf d) ∧ SortedIn (ltOf cf) 0 d.size (S.srt cf d) := pdq_sorts (ltOf cf) hO d 0 d.size (Lib.bitLen d.size) true true (Nat.zero_le _) (Nat.le_refl _) (Or.inl rfl)
theorem sort_callR {P : Program} {ρ : Go.Shelf.Ren} {α : Type} [Inhabited α] (L : SlLaysF0.n6 P ρ) (k : Nat) (hk0 : 0 < k) (aE : ∀ w, (Go.isAgg (ρ.t 24)).run P w = .ok true w) (zE : ∀ w, (Go.sizeOf (ρ.t 24)).run P w = .ok k w)
    (enc : α → List Value) (hk : ∀ x, (enc x).length = k) (h1 : ∀ x, ∀ v ∈ enc x, v.oneCell' = true) (cf : α → α → Int) (hO : SWO (ltOf cf)) (g : Nat) (eg : ∀ args w, (callFunc g args).run P w = .ok (.enter g args) w)
    (hcmp : ∀ blk off size w, CmpLays P g #[] enc k cf blk off size w) (cs cs' : List Col) (hl : lenc cs = k) (hl' : lenc cs' = k) (d : Array α) (hn : 0 < d.size) (hn2 : d.size ≤ 1000000)
    (hin : ∀ j i c, j < d.size → nthc cs i = some c → ∀ σ u, VR σ (colAt c j) u → (enc d[j]!)[i]! = u)
    (hout : ∀ j i c, j < d.size → nthc cs' i = some c → ∀ σ, VR σ (colAt c j) (enc (S.srt cf d)[j]!)[i]!) :
    CallR P (ρ.f 6) [.own 0 k d.size, .fn (.func g) [] []] [[(0, (true, .cols d.size cs))]] 1 (.tup []) [[(0, (true, .cols d.size cs'))]] 2 := by
  intro σ w vals hv hs hN
  obtain ⟨vl⟩ := vals
  cases hv with
  | cons _ _ _ _ q1 hv =>
  cases hv with
  | cons _ _ _ _ q2 hv =>
  cases hv
  cases q2 with
  | fn _ _ _ va vb ha hb =>
  have ea : va = #[] := by obtain ⟨va⟩ := va; cases ha; rfl
  have eb : vb = #[] := by obtain ⟨vb⟩ := vb; cases hb; rfl
  subst ea eb
  generalize hsz : d.size = n at *
  cases q1 with
  | own0 => exact absurd hn (Nat.lt_irrefl _)
  | own _ _ _ rb c hr h0 hc hcap =>
  have hd0 : Blk.cols n cs ≠ .dead := by simp
  obtain ⟨e1, e2, e3⟩ := hs.ent 0 _ rfl hd0 rb hr
  obtain ⟨e4, e5, e6⟩ := e3 rfl
  have hH : HoldsK enc k w rb.blk rb.base d := by
    intro t ht
    rw [size_flatK, hsz] at ht
    have hi : t % k < k := Nat.mod_lt _ hk0
    have hj : t / k < n := Nat.div_lt_of_lt_mul (by rw [Nat.mul_comm]; exact ht)
    obtain ⟨c0, hc0⟩ := stc_lt (cs := cs) (i := t % k) (by omega)
    obtain ⟨u, hu, hu2⟩ := e2 _ _ _ hj hc0
    rw [hl, Nat.mul_comm, Nat.div_add_mod] at hu
    rw [get_flatK enc k d t (by rw [hsz]; exact ht), hin _ _ _ hj hc0 σ u hu2.1]
    exact ⟨hu, e5 _ (by rw [hu]; rfl)⟩
  have key := AnyQ.slices_SortFunc_eq L k aE zE enc hk h1 cf hO g #[] rb.blk rb.base c d w eg (hcmp _ _ _ _) hH e1 (by omega)
  rw [hsz] at key
  refine key.mono fun e w' ⟨he, m, os, hw⟩ => ?_
  have hp := srt_ok hO d
  have hR : (S.srt cf d).size = n := by rw [hp.1.1, hsz]
  have hRd : pdq (ltOf cf) d 0 n (Lib.bitLen n) true true = S.srt cf d := by unfold S.srt; rw [hsz]
  rw [hRd] at hw
  generalize S.srt cf d = R at *
  subst hw
  have hHo : HoldsK enc k (sortWorldK enc k w rb.blk rb.base m R os) rb.blk rb.base R := holdsK_sortWorldK enc k w rb.blk rb.base m d R os e1 hH (by rw [hR, hsz])
  have one : ∀ {nn : Nat} {e : Bool × Blk}, hget [[(0, (true, Blk.cols n cs'))]] nn = some e → nn = 0 ∧ e = (true, Blk.cols n cs') := fun {nn e} h => by
    cases nn with
    | zero => exact ⟨rfl, by injection h with h; exact h.symm⟩
    | succ nn => simp [hget, lget, Nat.beq] at h
  have own1 : ∀ j, j ≠ rb.blk → ¬ OwnB σ [[(0, (true, Blk.cols n cs))]] j → True := fun _ _ _ => trivial
  refine ⟨.tuple #[], σ, he, .tup [] #[] .nil, ⟨fun nn e hh => ?_, fun nn mm b e hh hm _ _ hne => ?_⟩, Mono.refl σ, fun _ _ => rfl, ⟨rfl, rfl, rfl, sw_size _ _ _ _ _ _ _ _, Nat.le_add_right _ _, fun j hj ho => ?_, fun j hj => ?_⟩⟩
  · obtain ⟨rfl, rfl⟩ := one hh
    intro _ rb' hr'
    rw [hr] at hr'; cases hr'
    refine ⟨Nat.lt_of_lt_of_le e1 (sw_size _ _ _ _ _ _ _ _), fun j i c0 hj hc0 => ?_, fun _ => ⟨e4, fun o ho => ?_, fun o ho => ?_⟩⟩
    · have hi : i < k := by have := stc_ok hc0; omega
      have ht : j * k + i < n * k := by
        have : (j + 1) * k ≤ n * k := Nat.mul_le_mul_right k hj
        rw [Nat.add_mul, Nat.one_mul] at this; omega
      obtain ⟨g1, g2⟩ := hHo (j * k + i) (by rw [size_flatK, hR]; exact ht)
      rw [get_flatK enc k R _ (by rw [hR]; exact ht)] at g1
      have hdiv : (j * k + i) / k = j := by rw [Nat.mul_comm, Nat.mul_add_div hk0, Nat.div_eq_of_lt hi, Nat.add_zero]
      have hmod : (j * k + i) % k = i := by rw [Nat.mul_comm, Nat.mul_add_mod, Nat.mod_eq_of_lt hi]
      rw [hdiv, hmod] at g1
      refine ⟨_, by rw [hl']; exact g1, hout j i c0 hj hc0 σ, ?_⟩
      refine h1 R[j]! _ ?_
      rw [getElem!_pos _ i (by rw [hk]; exact hi)]
      exact List.getElem_mem _
    · rw [sw_some enc k w rb.blk rb.base m R os e1] at ho
      rw [sw_frozen enc k w rb.blk rb.base m R os e1]
      exact e5 o ho
    · obtain ⟨u, hu⟩ := e6 o ho
      have := sw_some enc k w rb.blk rb.base m R os e1 (rb.base + o)
      rw [hu] at this
      exact Option.isSome_iff_exists.1 this
  · obtain ⟨rfl, _⟩ := one hh
    obtain ⟨rfl, _⟩ := one hm
    exact absurd rfl hne
  · refine sw_other enc k w rb.blk rb.base m R os hj fun e => ho ?_
    exact ⟨0, _, rb, rfl, hd0, hr, e.symm⟩
  · obtain ⟨nn, b, rb', h1', h2', h3', h4'⟩ := hj
    obtain ⟨rfl, _⟩ := one h1'
    exact .inr ⟨0, _, rb', rfl, hd0, h3', h4'⟩
end Go.Ev
