/-
  What the reckoner's append says of the model's: the step itself.
-/
import Derived.Test.YtjgllldbpmmodaaEvO7
namespace Go.Ev
open Go.RowKit
set_option linter.unusedSimpArgs false

theorem hget_kill {H : Heap} {o : Option Nat} {n : Nat} {e : Bool × Blk} (h : hget (kill H o) n = some e) (hd : e.2 ≠ .dead) : hget H n = some e ∧ o ≠ some n := by
  cases o with
  | none => exact ⟨h, by simp⟩
  | some m =>
    simp only [kill] at h
    by_cases e1 : m = n
    · subst e1
      rw [hget_put_same] at h
      cases h
      exact absurd rfl hd
    · rw [hget_put_other _ _ _ _ e1] at h
      exact ⟨h, by simpa using e1⟩
theorem Sim.kill {σ : Sg} {w : World} {H : Heap} (h : Sim σ w H) (o : Option Nat) : Sim σ w (kill H o) :=
  ⟨fun n e hn hd => h.ent n e (hget_kill hn hd).1 hd, fun n m b e hn hm hb he => h.dist n m b e (hget_kill hn hb).1 (hget_kill hm he).1 hb he⟩
theorem OwnB.unkill {σ : Sg} {H : Heap} {o : Option Nat} {k : Nat} (h : OwnB σ (kill H o) k) : OwnB σ H k :=
  let ⟨n, b, rb, h1, h2, h3⟩ := h; ⟨n, b, rb, (hget_kill h1 h2).1, h2, h3⟩
theorem Grow.kill (H : Heap) (o : Option Nat) (fr : Nat) (h : ∀ n, o = some n → n < fr ∧ ∃ e, hget H n = some e) : Grow H (kill H o) fr fr := by
  cases o with
  | none => exact Grow.refl _ _
  | some n => exact Grow.put H n .dead false fr fr (Nat.le_refl _) (h n rfl).1 (.inr rfl) (.inr (h n rfl).2)
theorem Out.unkill {σ : Sg} {w : World} {H : Heap} {o : Option Nat} {fr fr' : Nat} {v : PV} {H' : Heap} {σ' : Sg} {w' : World} {v' : Value} (h : Out σ w (kill H o) fr v H' fr' σ' w' v') : Out σ w H fr v H' fr' σ' w' v' :=
  ⟨h.v, h.sim, h.mon, h.ext, h.frm.mono (fun _ hk => hk.unkill) fun _ hk => hk⟩
theorem cells_append_new (w : World) (l : List Value) (z : Array Value) (t : TypeId) (p : Nat) (u : Value) (h : l[p]? = some u) : (w.alloc (.cells (l.toArray ++ z) t)).cell? ⟨w.heap.size, p, none⟩ = some u := by
  rw [cell_alloc_new]
  have hl := (List.getElem?_eq_some_iff.1 h).1
  rw [Array.getElem?_append_left (by simpa using hl)]
  simpa using h
section
variable {P : Program}
theorem grownCap_le (w : World) (need old : Nat) (e : TypeId) : need ≤ grownCap w need old e := by
  unfold grownCap Question.cut
  simp only
  omega
theorem zeroCells_size (z : Array Value) (n : Nat) : (Builtin.zeroCells z n).size = n * z.size := by simp [Builtin.zeroCells]
/-- The new block that append makes. -/
theorem app_new {σ : Sg} {w : World} {H : Heap} {fr st : Nat} {o : Option Nat} {n : Nat} {m : Nat} {b : Blk} {vals : List Value} {z : Array Value} {t : TypeId} {cap : Nat} (hs : Sim σ w H) (hn : NoneIn σ fr (fr + 1))
    (hl : vals.length = (n + m) * st) (hz : z.size = (cap - (n + m)) * st) (hcap : n + m ≤ cap)
    (hb : ∀ σ' w' rb', Mono σ σ' → rb'.base = rb'.base → (∀ p u, vals[p]? = some u → w'.cell? ⟨rb'.blk, rb'.base + p, none⟩ = some u) → BlkR σ' w' rb' b) :
    ∃ σ', Out σ w H fr (.own fr st (n + m)) (hput (kill H o) fr (true, b)) (fr + 1) σ' (w.drew.alloc (.cells (vals.toArray ++ z) t)) (.slice (some ⟨w.heap.size, 0, none⟩) (n + m) cap) := by
  have h0 : σ fr = none := hn fr (Nat.le_refl _) (by omega)
  have hsz : (vals.toArray ++ z).size = cap * st := by
    simp only [Array.size_append, List.size_toArray, hl, hz]
    rw [← Nat.add_mul]
    congr 1
    omega
  have key := out_new (σ := σ) (w := w.drew) (H := kill H o) (fr := fr) (b := b) (v := .own fr st (n + m)) (v' := .slice (some ⟨w.heap.size, 0, none⟩) (n + m) cap) (vals.toArray ++ z) t (cap * st) (hs.kill o).drew hn (by omega)
    (hb _ _ _ (sset_mono h0) rfl fun p u hp => by show World.cell? _ ⟨_, 0 + p, none⟩ = _; rw [Nat.zero_add]; exact cells_append_new w.drew vals z t p u hp)
    (.own fr st (n + m) ⟨w.heap.size, 0, cap * st⟩ cap (sset_same _ _ _) rfl hcap (Nat.le_refl _))
  have k2 := Out.unkill (o := o) (H := H) key
  exact ⟨_, k2.v, k2.sim, k2.mon, k2.ext, ⟨k2.frm.os, k2.frm.tape, k2.frm.output, k2.frm.size, Nat.le_of_succ_le k2.frm.drawn, k2.frm.old, k2.frm.own⟩⟩
/-- append into the room that is left. -/
theorem app_room {σ : Sg} {w : World} {H : Heap} {fr st nm : Nat} {n : Nat} {m : Nat} {b : Blk} {olds news : List Value} {rb : RB} {c : Nat} (hs : Sim σ w H) (hn : NoneIn σ fr (fr + 1)) {e : Blk}
    (hg : hget H nm = some (true, e)) (he : e ≠ .dead) (hr : σ nm = some rb) (h0 : rb.base = rb.base) (hc : n + m ≤ c) (hcap : c * st ≤ rb.cap) (hlo : olds.length = n * st) (hln : news.length = m * st)
    (hold : 0 < n → ∀ j u, olds[j]? = some u → w.cell? ⟨rb.blk, rb.base + j, none⟩ = some u)
    (hb : ∀ σ' w' rb', Mono σ σ' → rb'.base = rb'.base → (∀ p u, (olds ++ news)[p]? = some u → w'.cell? ⟨rb'.blk, rb'.base + p, none⟩ = some u) → BlkR σ' w' rb' b) :
    (∀ j, j < news.length → (w.cell? ⟨rb.blk, rb.base + n * st + j, none⟩).isSome = true) ∧ Out σ w H fr (.own fr st (n + m)) (hput (kill H (some nm)) fr (true, b)) (fr + 1) (sset σ fr rb) (w.setCells rb.blk (rb.base + n * st) news) (.slice (some ⟨rb.blk, rb.base, none⟩) (n + m) c) := by
  have hf : σ fr = none := hn fr (Nat.le_refl _) (by omega)
  obtain ⟨e1, e2, e3⟩ := hs.ent _ _ hg he rb hr
  obtain ⟨e4, e5, e6⟩ := e3 rfl
  have hroom : ∀ j, j < news.length → n * st + j < rb.cap := fun j hj => by
    have : (n + m) * st ≤ c * st := Nat.mul_le_mul_right _ hc
    rw [Nat.add_mul] at this
    omega
  have hin : ∀ j, j < news.length → (w.cell? ⟨rb.blk, rb.base + n * st + j, none⟩).isSome = true := fun j hj => by
    obtain ⟨u, hu⟩ := e6 _ (hroom j hj)
    rw [Nat.add_assoc, hu]; rfl
  refine ⟨hin, ?_⟩
  have hcells : ∀ p u, (olds ++ news)[p]? = some u → (w.setCells rb.blk (rb.base + n * st) news).cell? ⟨rb.blk, rb.base + p, none⟩ = some u := fun p u hp => by
    by_cases hlt : p < olds.length
    · rw [List.getElem?_append_left hlt] at hp
      have hn0 : 0 < n := by
        rcases Nat.eq_zero_or_pos n with rfl | h
        · simp at hlo; subst hlo; simp at hlt
        · exact h
      rw [World.cell?_setCells_out rb.blk news _ w _ (fun _ _ => by simp only; omega)]
      exact hold hn0 p u hp
    · rw [List.getElem?_append_right (by omega)] at hp
      have hlp : p - olds.length < news.length := (List.getElem?_eq_some_iff.1 hp).1
      have := World.cell?_setCells_in rb.blk news (rb.base + n * st) w hin (p - olds.length) hlp
      rw [show rb.base + n * st + (p - olds.length) = rb.base + p by omega] at this
      rw [this]
      rw [List.getElem?_eq_getElem hlp] at hp
      exact hp
  have hother : ∀ k, k ≠ rb.blk → (w.setCells rb.blk (rb.base + n * st) news).heap[k]? = w.heap[k]? := fun k hk => heap_setCells _ _ _ _ _ hk
  refine ⟨.own fr st (n + m) rb c (sset_same _ _ _) h0 hc hcap, ?_, sset_mono hf, fun k hk => sset_other (by omega), ?_⟩
  · refine (hs.kill (some nm)).new hf (Nat.le_of_eq (size_setCells _ _ _ _).symm) (fun k q r hk hq hr' => ?_) fun _ rb' hrb' => ?_
    · obtain ⟨h1, h2⟩ := hget_kill hk hq
      have hne : r.blk ≠ rb.blk := fun x => hs.dist nm k e q hg h1 he hq (fun x => h2 (by rw [x])) rb r hr hr' x.symm
      exact ⟨hne, fun _ => hother _ hne⟩
    · rw [sset_same] at hrb'
      cases hrb'
      refine ⟨by rw [size_setCells]; exact e1, hb _ _ _ (sset_mono hf) h0 hcells, fun _ => ⟨h0, fun q hs => by rw [World.frozen?_setCells]; exact e5 q (isSome_setCells hin hs), fun q hq => ?_⟩⟩
      by_cases hin2 : n * st ≤ q ∧ q < n * st + news.length
      · have := World.cell?_setCells_in rb.blk news (rb.base + n * st) w hin (q - n * st) (by omega)
        rw [show rb.base + n * st + (q - n * st) = rb.base + q by omega] at this
        exact ⟨_, this⟩
      · rw [World.cell?_setCells_out rb.blk news (rb.base + n * st) w _ (fun _ _ => by simp only; omega)]
        exact e6 q hq
  · have hst := streams_setCells rb.blk news (rb.base + n * st) w
    refine ⟨hst.1, hst.2.1, hst.2.2.1, Nat.le_of_eq (size_setCells _ _ _ _).symm, Nat.le_of_eq hst.2.2.2.symm, fun k _ hk => hother k fun x => hk ⟨nm, e, rb, hg, he, hr, x.symm⟩, fun k hk => ?_⟩
    obtain ⟨q, b', r, h1, h2, h3, h4⟩ := hk
    by_cases e7 : fr = q
    · subst e7
      rw [sset_same] at h3
      cases h3
      exact .inr ⟨nm, e, rb, hg, he, hr, h4⟩
    · rw [hget_put_other _ _ _ _ e7] at h1
      rw [sset_other fun x => e7 x.symm] at h3
      exact .inr ⟨q, b', r, (hget_kill h1 h2).1, h2, h3, h4⟩
/-- append of nothing to what is empty. -/
theorem app_none {σ : Sg} {w : World} {H : Heap} {fr st : Nat} {o : Option Nat} {b : Blk} (A : Option Addr) (hs : Sim σ w H) (hn : NoneIn σ fr (fr + 1)) :
    Out σ w H fr (.own fr st 0) (hput (kill H o) fr (true, b)) (fr + 1) σ w (.slice A 0 0) := by
  have hf : σ fr = none := hn fr (Nat.le_refl _) (by omega)
  have hk := hs.kill o
  refine ⟨.own0 _ _ _, ⟨fun n e h => ?_, fun n m b' e h1 h2 hb he hne r s hr hs' => ?_⟩, Mono.refl _, fun _ _ => rfl, ⟨rfl, rfl, rfl, Nat.le_refl _, Nat.le_refl _, fun _ _ _ => rfl, fun k hk' => ?_⟩⟩
  · by_cases e1 : fr = n
    · subst e1
      intro _ rb hrb
      rw [hf] at hrb
      cases hrb
    · rw [hget_put_other _ _ _ _ e1] at h
      exact hk.ent n e h
  · by_cases e1 : fr = n
    · subst e1
      rw [hf] at hr
      cases hr
    · by_cases e2 : fr = m
      · subst e2
        rw [hf] at hs'
        cases hs'
      · rw [hget_put_other _ _ _ _ e1] at h1
        rw [hget_put_other _ _ _ _ e2] at h2
        exact hk.dist n m b' e h1 h2 hb he hne r s hr hs'
  · obtain ⟨q, b', r, h1, h2, h3, h4⟩ := hk'
    by_cases e7 : fr = q
    · subst e7
      rw [hf] at h3
      cases h3
    · rw [hget_put_other _ _ _ _ e7] at h1
      exact .inr ⟨q, b', r, (hget_kill h1 h2).1, h2, h3, h4⟩

theorem oldOf_ok {H : Heap} {st : Nat} {s : PV} {o : Option Nat} {n : Nat} (h : oldOf H st s = some (o, n)) : (o = none → n = 0) ∧ (∀ nm, o = some nm → ∃ e, hget H nm = some (true, e)) ∧ ∀ σ v, VR σ s v →
    (n = 0 ∧ ∃ A, v = .slice A 0 0) ∨ ∃ nm rb c, o = some nm ∧ σ nm = some rb ∧ rb.base = rb.base ∧ n ≤ c ∧ c * st ≤ rb.cap ∧ v = .slice (some ⟨rb.blk, rb.base, none⟩) n c := by
  unfold oldOf at h
  split at h
  · cases h
    exact ⟨fun _ => rfl, by simp, fun σ v hv => by cases hv; exact .inl ⟨rfl, _, rfl⟩⟩
  · cases h
    exact ⟨fun _ => rfl, by simp, fun σ v hv => by cases hv; exact .inl ⟨rfl, _, rfl⟩⟩
  · rename_i nm st' k
    split at h
    · rename_i e hb hg
      cases h
      have := Nat.eq_of_beq_eq_true hb
      subst this
      refine ⟨by simp, fun nm' e => by cases e; exact ⟨_, hg⟩, fun σ v hv => ?_⟩
      cases hv with
      | own0 _ _ A => exact .inl ⟨rfl, A, rfl⟩
      | own _ _ _ rb c h1 h2 h3 h4 => exact .inr ⟨nm, rb, c, rfl, h1, h2, h3, h4, rfl⟩
    · cases h
  · cases h

theorem fit48 {need cap by_ : Nat} (h : cap < need) (hn : need ≤ most) (hb : by_ < 4097) : Builtin.nextslicecap need cap * by_ ≤ 281474976710656 := by
  have h1 := nextslicecap_le h
  have h2 : Builtin.nextslicecap need cap * by_ ≤ (2 * need) * 4096 := Nat.mul_le_mul h1 (by omega)
  unfold most at hn
  omega
theorem run_append_room (w : World) (t ty e : TypeId) (i : TypeInfo) (ht : P.underlying t = some (.slice e)) (hi : P.info? e = some i)
    (blk bs n c : Nat) (B : Option Addr) (m c' : Nat) (news : List Value) (hl : news.length = m * i.size) (hnews : 0 < m → ∀ j v, ∃ b, B = some b ∧ (news[j]? = some v → w.cell? (b.add j) = some v))
    (hroom : n + m ≤ c) (hc : ∀ j, j < news.length → (w.cell? ⟨blk, bs + n * i.size + j, none⟩).isSome = true) (hf : ∀ o, (w.cell? ⟨blk, o, none⟩).isSome = true → w.frozen? ⟨blk, o, none⟩ = false) (h1 : ∀ v ∈ news, v.oneCell' = true) :
    (Builtin.append_ #[t, t] ty #[.slice (some ⟨blk, bs, none⟩) n c, .slice B m c']).run P w = .ok (.slice (some ⟨blk, bs, none⟩) (n + m) c) (w.setCells blk (bs + n * i.size) news) := by
  have hfc : (Builtin.firstCells i.size m (.slice B m c')).run P w = .ok news.toArray w := by
    rcases Nat.eq_zero_or_pos m with rfl | hm
    · simp at hl
      subst hl
      cases B with
      | none => simp [Builtin.firstCells]
      | some b => simp [Builtin.firstCells, loadCells, loadCellsFrom]
    · obtain ⟨b, rfl, _⟩ := hnews hm 0 undef
      exact run_firstCells_some (P := P) w i.size m b m c' news hl fun j v hv => by
        obtain ⟨b', e, h⟩ := hnews hm j v
        cases e
        exact h hv
  have hst := run_storeCells_cells (P := P) blk (bs + n * i.size) news 0 w (by simpa using hc) (fun j hj => hf _ (by simpa using hc j hj)) h1
  rw [Nat.add_zero] at hst
  have hadd : (⟨blk, bs, none⟩ : Addr).add (n * i.size) = ⟨blk, bs + n * i.size, none⟩ := by rw [add_at]
  simp [Builtin.append_, run_underlying ht, sizeOf, typeInfo, hi, Builtin.lenOf, hroom, hfc, hadd, hst]
theorem run_append_nothing (w : World) (t ty e : TypeId) (i : TypeInfo) (ht : P.underlying t = some (.slice e)) (hi : P.info? e = some i) (A : Option Addr) (n c : Nat) (hnc : n ≤ c) (B : Option Addr) (c' : Nat) :
    (Builtin.append_ #[t, t] ty #[.slice A n c, .slice B 0 c']).run P w = .ok (.slice A n c) w := by
  have hfc : (Builtin.firstCells i.size 0 (.slice B 0 c')).run P w = .ok #[] w := by
    cases B with
    | none => simp [Builtin.firstCells]
    | some b => simp [Builtin.firstCells, loadCells, loadCellsFrom]
  cases A <;> simp [Builtin.append_, run_underlying ht, sizeOf, typeInfo, hi, Builtin.lenOf, hnc, hfc, storeCells]
end
end Go.Ev
