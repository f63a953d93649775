/-
  Strings and lists of bytes: what the reckoner's conversions say of the model's.
-/
import Derived.Test.YtjgllldbpmmodaaEvCq
import Derived.Laws.BytesString
namespace Go.Ev
open Go.RowKit
set_option linter.unusedSimpArgs false

theorem cell_alloc_f (w : World) (cs : Array Value) (t : TypeId) (fz : Nat × Nat) (i : Nat) : (w.alloc (.cells cs t fz)).cell? ⟨w.heap.size, i, none⟩ = cs[i]? := by
  have h : (w.alloc (.cells cs t fz)).heap[w.heap.size]? = some (.cells cs t fz) := by
    show (w.heap.push _)[w.heap.size]? = _
    simp
  unfold World.cell?
  rw [h]
  rfl
/-- A new block, of which what lies behind its end may be marked. -/
theorem out_newR {σ : Sg} {w : World} {H : Heap} {fr : Nat} {b : Blk} {v : PV} {v' : Value} (cs : Array Value) (t : TypeId) (fz : Nat × Nat) (cap : Nat) (h : Sim σ w H) (hn : NoneIn σ fr (fr + 1)) (hc : cap ≤ cs.size) (hz : cs.size ≤ fz.1)
    (hb : BlkR (sset σ fr ⟨w.heap.size, 0, cap⟩) (w.alloc (.cells cs t fz)) ⟨w.heap.size, 0, cap⟩ b)
    (hv : VR (sset σ fr ⟨w.heap.size, 0, cap⟩) v v') :
    Out σ w H fr v (hput H fr (true, b)) (fr + 1) (sset σ fr ⟨w.heap.size, 0, cap⟩) (w.alloc (.cells cs t fz)) v' := by
  have h0 : σ fr = none := hn fr (Nat.le_refl _) (by omega)
  have hsz : (w.alloc (.cells cs t fz)).heap.size = w.heap.size + 1 := by
    show (w.heap.push _).size = _
    simp
  refine ⟨hv, ?_, sset_mono h0, fun n hn => sset_other (by omega), ?_⟩
  · refine h.new h0 (by omega) (fun m e r hm hd' hr => ⟨?_, fun hl => heap_alloc _ _ _ hl⟩) fun _ rb hrb => ?_
    · have := (h.ent m e hm hd' r hr).1
      simp only
      omega
    · rw [sset_same] at hrb
      cases hrb
      refine ⟨by simp [hsz], hb, fun _ => ⟨rfl, fun o ho => ?_, fun o ho => ?_⟩⟩
      · rw [cell_alloc_f] at ho
        have hlt : o < cs.size := by
          by_cases hx : o < cs.size
          · exact hx
          · rw [Array.getElem?_eq_none (by omega)] at ho
            cases ho
        have hh : (w.alloc (.cells cs t fz)).heap[w.heap.size]? = some (.cells cs t fz) := by
          show (w.heap.push _)[w.heap.size]? = _
          simp
        unfold World.frozen?
        rw [hh]
        simp
        omega
      · have : o < cs.size := Nat.lt_of_lt_of_le ho hc
        exact ⟨cs[o], by rw [cell_alloc_f]; simp [this]⟩
  · refine ⟨rfl, rfl, rfl, by omega, Nat.le_refl _, fun k hk _ => heap_alloc _ _ _ hk, fun k hk => ?_⟩
    obtain ⟨n, b', rb, h1, h2, h3, h4⟩ := hk
    by_cases e1 : fr = n
    · subst e1
      rw [sset_same] at h3
      cases h3
      exact .inl (Nat.le_of_eq h4)
    · rw [hget_put_other _ _ _ _ e1] at h1
      rw [sset_other fun x => e1 x.symm] at h3
      exact .inr ⟨n, b', rb, h1, h2, h3, h4⟩
section
variable {P : Program}
theorem run_mark (w : World) (c : Array Value) (e : TypeId) : (markStringish ⟨w.heap.size, 0, none⟩).run P (w.alloc (.cells c e)) = .ok () (w.alloc (.cells c e (c.size, c.size + 1))) := by
  have h1 : (w.alloc (.cells c e)).shape? w.heap.size = some (e, c.size) := by
    unfold World.shape? World.alloc
    simp
  have h2 : (w.alloc (.cells c e)).freeze ⟨w.heap.size, c.size, none⟩ 1 = w.alloc (.cells c e (c.size, c.size + 1)) := by
    have h3 : ∀ (a : Array Obj) (x : Obj) (f : Obj → Obj), (a.push x).modify a.size f = a.push (f x) := fun a x f => by
      apply Array.ext_getElem?
      intro i
      rw [Array.getElem?_modify, Array.getElem?_push, Array.getElem?_push]
      by_cases h : i = a.size
      · subst h; simp
      · rw [if_neg h, if_neg (fun x => h x.symm)]
        rw [if_neg h]
    unfold World.freeze World.alloc
    rw [if_neg (by decide)]
    simp only [h3]
    congr 2
  unfold markStringish
  simp only [Sem.run_bind, run_shape, h1, Result.andThen, run_freeze, h2]
theorem run_stringToBytes (w : World) (e : TypeId) (s : ByteArray) :
    ∃ z : Array Value, ∃ fz : Nat × Nat, ((s.data.map fun b => Value.int .u8 b.toNat) ++ z).size ≤ fz.1 ∧ s.size + z.size = grownCap w s.size 0 e ∧ (Conv.stringToBytes e s).run P w = .ok (.slice (some ⟨w.heap.size, 0, none⟩) s.size (grownCap w s.size 0 e)) (w.drew.alloc (.cells ((s.data.map fun b => Value.int .u8 b.toNat) ++ z) e fz)) := by
  have hd : w.drew.heap.size = w.heap.size := rfl
  obtain ⟨fz, hfz, this⟩ : ∃ fz : Nat × Nat, ((s.data.map fun b => Value.int .u8 b.toNat) ++ Array.replicate (grownCap w s.size 0 e - s.size) (Value.int .u8 0)).size ≤ fz.1 ∧ (markStringish ⟨w.heap.size, 0, none⟩).run P (w.drew.alloc (.cells ((s.data.map fun b => Value.int .u8 b.toNat) ++ Array.replicate (grownCap w s.size 0 e - s.size) (.int .u8 0)) e)) = .ok () (w.drew.alloc (.cells ((s.data.map fun b => Value.int .u8 b.toNat) ++ Array.replicate (grownCap w s.size 0 e - s.size) (.int .u8 0)) e fz)) := ⟨_, Nat.le_refl _, run_mark w.drew _ e⟩
  refine ⟨Array.replicate (grownCap w s.size 0 e - s.size) (.int .u8 0), fz, hfz, by have := grownCap_le w s.size 0 e; simp; omega, ?_⟩
  unfold Conv.stringToBytes
  simp only [Sem.run_bind, run_choose_drew, Question.forced, newRow, run_newObj_alloc, Result.andThen, Sem.run_pure, hd]
  simp only [Bool.false_eq_true, if_false, hd]
  erw [this]
  rfl
end
section
variable {P : Program} {E : Env} (ok : EnvOk P E)
theorem ofB_eq (f : Nat → Int) (n : Nat) : ((List.range n).map f).foldl (fun r n => r.push (UInt8.ofNat n.toNat)) ByteArray.empty = S.ofB f n := by
  have key : ∀ (l : List Int) (b : ByteArray), l.foldl (fun r n => r.push (UInt8.ofNat n.toNat)) b = ⟨b.data ++ (l.map fun n => UInt8.ofNat n.toNat).toArray⟩ := by
    intro l
    induction l with
    | nil => intro b; simp
    | cons x l ih =>
      intro b
      simp only [List.foldl_cons]
      rw [ih]
      simp [ByteArray.push]
  rw [key]
  simp [S.ofB, ByteArray.empty, ByteArray.emptyWithCapacity]
  rfl
theorem keys_at (s : ByteArray) (j : Nat) (h : j < s.size) : (s.data.map fun b => Value.int .u8 b.toNat)[j]? = some (.int .u8 (keys s j)) := by
  have h' : j < s.data.size := h
  simp [keys, List.getD, Array.getElem?_eq_getElem h']
include ok in
theorem oConvert_ok {H : Heap} {fr : Nat} {src dst : TypeId} {x : PV} {K : Kon} (h : oConvert cond E H fr src dst x K) : ∃ v H' fr', K v H' fr' ∧ Grow H H' fr fr' ∧ ∀ σ w u, Sim σ w H → NoneIn σ fr fr' → VR σ x u →
    ∃ v' σ' w', (Go.convert src dst u).run P w = .ok v' w' ∧ Out σ w H fr v H' fr' σ' w' v' := by
  have hd : ∀ {t}, (mkTy P t).d ≠ .other → (mkTy P t).d = mkD P t := fun h => let ⟨_, _, _, _, _, h⟩ := mk_info h; h
  unfold oConvert at h
  split at h
  · rename_i i j hi hj
    have e := ok.ty _ _ hi
    subst e
    have e := ok.ty _ _ hj
    subst e
    split at h
    · rename_i e s h1 h2
      have u1 := mkD_string ((hd (by simp [h1])).symm.trans h1)
      have u2 := mkD_slice ((hd (by simp [h2])).symm.trans h2)
      unfold oConvS at h
      split at h
      · rename_i y hy
        have e1 := ok.ty _ _ hy
        subst e1
        split at h
        · rename_i h3
          have u3 := mkD_int ((hd (by simp [h3])).symm.trans h3)
          refine ⟨_, _, _, h, Grow.put _ _ _ _ _ _ (by omega) (by omega) (.inl rfl) (.inl (by omega)), fun σ w u hs hn hx => ?_⟩
          cases hx
          obtain ⟨z, fz, hz1, hz2, hr⟩ := run_stringToBytes (P := P) w e s
          have hds : w.drew.heap.size = w.heap.size := rfl
          have key := out_newR (σ := σ) (w := w.drew) (H := H) (fr := fr) (b := .cols s.size [.int .u8 fun j => keys s j]) (v := .own fr 1 s.size) (v' := .slice (some ⟨w.heap.size, 0, none⟩) s.size (grownCap w s.size 0 e))
            ((s.data.map fun b => Value.int .u8 b.toNat) ++ z) e fz (grownCap w s.size 0 e) hs.drew hn (by rw [← hz2]; simp) hz1 (fun j i c hj hc => by
              cases i with
              | zero =>
                simp only [nthc, Option.some.injEq] at hc
                subst hc
                refine ⟨.int .u8 (keys s j), ?_, .int _ _, rfl⟩
                simp only [lenc, Nat.zero_add, Nat.add_zero, Nat.mul_one]
                rw [cell_alloc_f, Array.getElem?_append_left (by simpa using hj)]
                exact keys_at s j hj
              | succ i => simp [nthc] at hc)
            (.own fr 1 s.size ⟨w.heap.size, 0, grownCap w s.size 0 e⟩ (grownCap w s.size 0 e) (sset_same _ _ _) rfl (grownCap_le w _ _ _) (by simp))
          exact ⟨_, _, _, by simp [Go.convert, run_underlying u1, run_underlying u2, run_underlying u3, hr], key.v, key.sim, key.mon, key.ext, ⟨key.frm.os, key.frm.tape, key.frm.output, key.frm.size, Nat.le_of_succ_le key.frm.drawn, key.frm.old, key.frm.own⟩⟩
        · exact h.elim
      · exact h.elim
    · rename_i e h1 h2
      have u1 := mkD_slice ((hd (by simp [h1])).symm.trans h1)
      have u2 := mkD_string ((hd (by simp [h2])).symm.trans h2)
      unfold oConvB at h
      split at h
      · rename_i y hy
        have e1 := ok.ty _ _ hy
        subst e1
        split at h
        · rename_i h3
          have u3 := mkD_int ((hd (by simp [h3])).symm.trans h3)
          have h0 : ∀ w : World, ∀ A c, (Conv.bytesToString (.slice A 0 c)).run P w = .ok (.string (S.ofB (fun _ => 0) 0)) w := fun w A c => by
            cases A with
            | none => simp [Conv.bytesToString, S.ofB]; rfl
            | some a =>
              rw [run_bytesToString w a 0 c [] (by simp [loadCells, loadCellsFrom])]
              rfl
          split at h
          · refine ⟨_, _, _, h, Grow.refl _ _, fun σ w u hs hn hx => ?_⟩
            cases hx
            exact ⟨_, σ, w, by simp [Go.convert, run_underlying u1, run_underlying u2, run_underlying u3, h0], Out.same hs (.str _)⟩
          · refine ⟨_, _, _, h, Grow.refl _ _, fun σ w u hs hn hx => ?_⟩
            cases hx
            exact ⟨_, σ, w, by simp [Go.convert, run_underlying u1, run_underlying u2, run_underlying u3, h0], Out.same hs (.str _)⟩
          · split at h
            · rename_i a n hsp
              split at h
              · rename_i b f hsrc
                obtain ⟨hb, h⟩ := cond_t h
                subst hb
                obtain ⟨s1, s2, s3, s4⟩ := srcC_ok hsrc
                refine ⟨_, _, _, h, Grow.refl _ _, fun σ w u hs hn hx => ?_⟩
                obtain ⟨A, c, rfl, hc, hA⟩ := span_ok hsp hx
                refine ⟨.string (S.ofB f n), σ, w, ?_, Out.same hs (.str _)⟩
                simp only [Go.convert, Sem.run_bind, run_underlying u1, run_underlying u2, run_underlying u3, Result.andThen]
                rcases Nat.eq_zero_or_pos n with rfl | hn0
                · exact h0 w A c
                · obtain ⟨rb, hr, rfl⟩ := hA hn0
                  rw [run_bytesToString w (a.at rb) n c ((List.range n).map f) ?_, ofB_eq]
                  have := run_loadCells_list (P := P) w (a.at rb) (((List.range n).map f).map (Value.int .u8)) (fun j v hj => by
                    have hjl : j < n := by
                      have := (List.getElem?_eq_some_iff.1 hj).1
                      simpa using this
                    obtain ⟨u, hu, hv, _⟩ := s4 σ w rb hs hr j 0 hjl (by omega)
                    simp only [colsAt, nthc, colAt] at hv
                    cases hv
                    have : v = .int .u8 (f j) := by
                      simp [hjl] at hj
                      exact hj.symm
                    subst this
                    rw [← hu]
                    show w.cell? ((⟨rb.blk, rb.base + pos a, none⟩ : Addr).add j) = _
                    rw [add_at]
                    simp)
                  simpa using this
              · exact h.elim
            · exact h.elim
        · exact h.elim
      · exact h.elim
    · obtain ⟨r, h1, h2⟩ := oConvert0_ok ok h
      refine ⟨r, _, _, h1, Grow.refl _ _, fun σ w u hs hn hx => ?_⟩
      obtain ⟨y, q1, q2⟩ := h2 σ w u hx
      exact ⟨y, σ, w, q1, Out.same hs q2⟩
  · exact h.elim
end
end Go.Ev
