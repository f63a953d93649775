/-
  What the reckoner's operations on values say of the model's.
-/
import Derived.Test.YtjgllldbpmmodaaEvO2
import Derived.ChangeKeysEq
import Derived.Laws.StructEq
namespace Go.Ev
open Go.RowKit

theorem get_fold (off : Nat) : ∀ (l : List Value) (k : Nat) (arr : Array Value), ((l.zipIdx k).foldl (fun cs (p : Value × Nat) => cs.setIfInBounds (off + p.2) p.1) arr).size = arr.size ∧
    ∀ i, ((l.zipIdx k).foldl (fun cs (p : Value × Nat) => cs.setIfInBounds (off + p.2) p.1) arr)[i]? = if off + k ≤ i ∧ i < off + k + l.length ∧ i < arr.size then l[i - (off + k)]? else arr[i]?
  | [], k, arr => ⟨rfl, fun i => by rw [if_neg (by simp; omega)]; rfl⟩
  | v :: l, k, arr => by
    simp only [List.zipIdx_cons, List.foldl_cons]
    obtain ⟨h1, h2⟩ := get_fold off l (k + 1) (arr.setIfInBounds (off + k) v)
    refine ⟨by rw [h1]; simp, fun i => ?_⟩
    rw [h2 i]
    simp only [Array.size_setIfInBounds, List.length_cons]
    by_cases hc : off + (k + 1) ≤ i ∧ i < off + (k + 1) + l.length ∧ i < arr.size
    · rw [if_pos hc, if_pos (by omega)]
      rw [show i - (off + k) = (i - (off + (k + 1))) + 1 by omega]
      simp
    · rw [if_neg hc]
      by_cases e : i = off + k
      · subst e
        by_cases hb : off + k < arr.size
        · rw [if_pos (by omega)]
          simp [hb]
        · rw [if_neg (by omega)]
          simp [hb]
      · rw [if_neg (by omega), Array.getElem?_setIfInBounds_ne (fun x => e x.symm)]

inductive PRs (σ : Sg) : List (Nat × PV) → List (Nat × Value) → Prop
  | nil : PRs σ [] []
  | cons (i : Nat) (v : PV) (u : Value) (l : List (Nat × PV)) (m : List (Nat × Value)) (h : VR σ v u) (hl : PRs σ l m) : PRs σ ((i, v) :: l) ((i, u) :: m)
theorem fill_ok {σ : Sg} {place : Nat → Option (Nat × Nat)} : ∀ {l : List (Nat × PV)} {m : List (Nat × Value)} {cs cs' : List PV} {arr : Array Value}, PRs σ l m → VRs σ cs arr.toList → fillp place cs l = some cs' →
    ∃ arr', Instr.fill place arr m = some arr' ∧ VRs σ cs' arr'.toList
  | _, _, cs, cs', arr, .nil, hc, h => by simp [fillp] at h; subst h; exact ⟨arr, rfl, hc⟩
  | _, _, cs, cs', arr, .cons i v u l m hv hl, hc, h => by
    unfold fillp at h
    split at h
    · rename_i off size vs hp hpc
      split at h
      · rename_i h1 h2 h0
        split at h
        · rename_i cs1 h3
          have hvs := pcells_ok hv hpc
          have hlv := hvs.length
          have hlc := hc.length
          have hsz : u.cells.size = size := by
            have := Nat.eq_of_beq_eq_true h1
            rw [← this, ← hlv]
            rfl
          obtain ⟨s1, s2, s3⟩ := splice_spec h3
          obtain ⟨g1, g2⟩ := get_fold off u.cells.toList 0 arr
          have e1 : u.cells.toList.length = len vs := hlv
          have e2 : arr.size = len cs := hlc
          have hbig : ¬ off + u.cells.size > arr.size := by
            have := Nat.le_of_ble_eq_true h0
            omega
          have hfold : (u.cells.zipIdx.foldl (fun cs (p : Value × Nat) => cs.setIfInBounds (off + p.2) p.1) arr) = ((u.cells.toList.zipIdx 0).foldl (fun cs (p : Value × Nat) => cs.setIfInBounds (off + p.2) p.1) arr) := by
            rw [← Array.foldl_toList, Array.toList_zipIdx]
          have hc1 : VRs σ cs1 ((u.cells.toList.zipIdx 0).foldl (fun cs (p : Value × Nat) => cs.setIfInBounds (off + p.2) p.1) arr).toList := by
            refine vrs_of _ _ (by rw [s1, ← hlc]; simpa using g1.symm) fun j x hx => ?_
            have e3 := s3 j
            rw [hx] at e3
            simp only [Array.getElem?_toList, g2, Nat.add_zero]
            by_cases hin : off ≤ j ∧ j < off + len vs
            · rw [if_pos hin] at e3
              rw [if_pos (by have := nth_lt hx; omega)]
              simpa using hvs.get e3.symm
            · rw [if_neg hin] at e3
              rw [if_neg (by omega)]
              have := hc.get e3.symm
              simpa using this
          obtain ⟨arr', q1, q2⟩ := fill_ok hl hc1 h
          refine ⟨arr', ?_, q2⟩
          simp only [Instr.fill, hp]
          rw [if_neg (by simp [hsz]; omega)]
          rw [← q1, ← hfold]
        · cases h
      · cases h
    · cases h

theorem parts_ok {σ : Sg} {T : Tmps} {ρ : Operand → Value} : ∀ (l : List (Nat × Operand)), (∀ p ∈ l, VR σ (ev T p.2) (ρ p.2)) → PRs σ (parts T l) (l.map fun (i, x) => (i, ρ x))
  | [], _ => .nil
  | (i, x) :: l, h => .cons _ _ _ _ _ (h (i, x) (by simp)) (parts_ok l fun p hp => h p (by simp [hp]))
theorem evs_ok {σ : Sg} {T : Tmps} {ρ : Operand → Value} : ∀ (l : List Operand), (∀ x ∈ l, VR σ (ev T x) (ρ x)) → VRs σ (evs T l) (l.map ρ)
  | [], _ => .nil
  | x :: l, h => .cons _ _ _ _ (h x (by simp)) (evs_ok l fun p hp => h p (by simp [hp]))
theorem rep_ok {σ : Sg} {z : List PV} {vs : List Value} (h : VRs σ z vs) : ∀ n, VRs σ (rep z n) (List.replicate n vs).flatten
  | 0 => .nil
  | n + 1 => by
    simp only [rep, List.replicate_succ, List.flatten_cons]
    exact h.append (rep_ok h n)
theorem made_eq (z : Array Value) (n : Nat) (hz : 0 < z.size) : ((Array.range (n * z.size)).map (z[· % z.size]!)).toList = (List.replicate n z.toList).flatten := by
  induction n with
  | zero => simp
  | succ n ih =>
    rw [List.replicate_succ']
    simp only [List.flatten_append, List.flatten_cons, List.flatten_nil, List.append_nil]
    rw [← ih]
    apply List.ext_getElem?
    intro j
    have hs : (n + 1) * z.size = n * z.size + z.size := by rw [Nat.add_mul, Nat.one_mul]
    by_cases hj : j < n * z.size
    · rw [List.getElem?_append_left (by simpa using hj)]
      simp [hj, show j < (n + 1) * z.size by omega]
    · rw [List.getElem?_append_right (by simpa using hj)]
      by_cases hk : j < (n + 1) * z.size
      · have hm : j % z.size = j - n * z.size := by
          have e : j = (j - n * z.size) + n * z.size := by omega
          conv => lhs; rw [e]
          rw [Nat.add_mul_mod_self_right, Nat.mod_eq_of_lt (by omega)]
        simp [hk, hm]
        rw [getElem!_pos z (j - n * z.size) (by omega)]
        simp [show j - n * z.size < z.size by omega]
      · simp [hk]
        omega

section
variable {P : Program}
theorem mapM_run {α β : Type} (f : α → Sem β) (g : α → β) (w : World) : ∀ (l : List α), (∀ x ∈ l, (f x).run P w = .ok (g x) w) → (l.mapM f).run P w = .ok (l.map g) w
  | [], _ => rfl
  | x :: l, h => by
    rw [List.mapM_cons]
    simp [h x (by simp), mapM_run f g w l fun y hy => h y (by simp [hy])]
variable {E : Env} (ok : EnvOk P E)
include ok
theorem known_ok {t : TypeId} {i : TyI} (h : nthT E.ty t = some i) (hk : i.known = true) : ∃ I, P.info? t = some I ∧ i.size = I.size := by
  have e := ok.ty t i h
  subst e
  unfold mkTy at *
  cases hi : P.info? t with
  | none => rw [hi] at hk; cases hk
  | some I => rw [hi] at hk; exact ⟨I, rfl, rfl⟩
theorem szT_ok {t : TypeId} {n : Nat} (h : szT E t = some n) : ∃ I, P.info? t = some I ∧ I.size = n := by
  unfold szT at h
  split at h
  · rename_i j hj
    split at h
    · rename_i hk
      obtain ⟨I, h1, h2⟩ := known_ok ok hj hk
      cases h
      exact ⟨I, h1, h2.symm⟩
    · cases h
  · cases h
theorem allKnown_ok : ∀ {l : List (Nat × TypeId)}, allKnown E l = true → ∀ p ∈ l, ∃ i I, nthT E.ty p.2 = some i ∧ P.info? p.2 = some I ∧ i.size = I.size
  | [], _, p, hp => by simp at hp
  | (o, t) :: l, h, p, hp => by
    simp only [allKnown] at h
    split at h
    · rename_i i hi
      split at h
      · rename_i hk
        rcases List.mem_cons.1 hp with rfl | hp
        · obtain ⟨I, h1, h2⟩ := known_ok ok hi hk
          exact ⟨i, I, hi, h1, h2⟩
        · exact allKnown_ok h p hp
      · cases h
    · cases h
omit ok in
theorem nthD_get : ∀ (fs : List (Nat × TypeId)) (i : Nat), nthD fs i = fs[i]?
  | [], i => by simp [nthD]
  | f :: l, 0 => rfl
  | f :: l, i + 1 => by simp only [nthD]; simpa using nthD_get l i
theorem oBuild_ok {H : Heap} {fr : Nat} {t : TypeId} {ps : List (Nat × PV)} {K : Kon} (h : oBuild E H fr t ps K) : ∃ v, K v H fr ∧ ∀ σ w (qs : Array (Nat × Value)), PRs σ ps qs.toList → ∃ u, (Instr.build t qs).run P w = .ok u w ∧ VR σ v u := by
  unfold oBuild at h
  split at h
  · exact h.elim
  rename_i i hi
  split at h
  · exact h.elim
  rename_i z hz
  have e := ok.ty t i hi
  subst e
  obtain ⟨I, hI, -, -, hzI, hd⟩ := mk_info_z hz
  obtain ⟨zv, hzv, hz1, hz2⟩ := mkZ_ok hzI
  split at h
  · rename_i fs hfs
    split at h
    · rename_i cs hk hcs
      rw [hd] at hfs
      obtain ⟨gs, hu, rfl⟩ := mkD_struct hfs
      refine ⟨_, h, fun σ w qs hq => ?_⟩
      have hall := allKnown_ok ok hk
      have hrun : (gs.mapM fun f => (do pure (f.offset, ← sizeOf f.type) : Sem (Nat × Nat))).run P w = .ok (gs.map fun f => (f.offset, P.cellsOf f.type)) w := by
        rw [Array.mapM_eq_mapM_toList]
        simp only [Sem.run_map]
        rw [mapM_run _ (fun f => (f.offset, P.cellsOf f.type)) w gs.toList fun f hf => by
          obtain ⟨j, J, h1, h2, h3⟩ := hall (f.offset, f.type) (by simp; exact ⟨f, by simpa using hf, rfl, rfl⟩)
          simp [run_size w h2, Program.cellsOf, h2]]
        simp only [Result.andThen_ok]
        congr 1
        apply Array.ext'
        simp
      have hpl : placeS E (gs.toList.map fun f => (f.offset, f.type)) = fun i => (gs.map fun f => (f.offset, P.cellsOf f.type))[i]? := by
        funext i
        unfold placeS
        rw [nthD_get]
        cases hg : gs.toList[i]? with
        | none => simp at hg; simp [hg]
        | some f =>
          have hm : f ∈ gs.toList := List.mem_of_getElem? hg
          obtain ⟨j, J, h1, h2, h3⟩ := hall (f.offset, f.type) (by simp; exact ⟨f, by simpa using hm, rfl, rfl⟩)
          have hs : szT E f.type = some J.size := by
            unfold szT
            rw [h1]
            have e := ok.ty _ _ h1
            subst e
            unfold mkTy at *
            rw [h2]
          simp only [List.getElem?_map, hg, Option.map_some, hs]
          simp at hg
          simp [hg, Program.cellsOf, h2]
      rw [hpl] at hcs
      obtain ⟨arr, q1, q2⟩ := fill_ok hq (hz2 σ) hcs
      refine ⟨.agg arr, ?_, .agg _ _ q2⟩
      have hz0 : (zeroValue t).run P w = .ok zv w := by simp [zeroValue, typeInfo, hI, hzv]
      simp only [Instr.build, Sem.run_bind, hz0, run_underlying hu, hrun, Result.andThen_ok]
      rw [q1]
      rfl
    · exact h.elim
  · rename_i n e hfs
    split at h
    · rename_i j hj
      split at h
      · rename_i cs hcs
        rw [hd] at hfs
        have hu := mkD_array hfs
        refine ⟨_, h, fun σ w qs hq => ?_⟩
        obtain ⟨J, hJ, hsz⟩ := szT_ok ok hj
        rw [← hsz] at hcs
        obtain ⟨arr, q1, q2⟩ := fill_ok hq (hz2 σ) hcs
        refine ⟨.agg arr, ?_, .agg _ _ q2⟩
        have hz0 : (zeroValue t).run P w = .ok zv w := by simp [zeroValue, typeInfo, hI, hzv]
        simp only [Instr.build, Sem.run_bind, hz0, run_underlying hu, run_size w hJ, Result.andThen_ok]
        rw [q1]
        rfl
      · exact h.elim
    · exact h.elim
  · exact h.elim
end
end Go.Ev
