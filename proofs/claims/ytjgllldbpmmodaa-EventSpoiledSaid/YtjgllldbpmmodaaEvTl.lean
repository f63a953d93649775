/-
  The rest of a list of one's own, which is given up for it.
-/
import Derived.Test.YtjgllldbpmmodaaEvP
namespace Go.Ev
open Go.RowKit
set_option linter.unusedSimpArgs false

theorem nth_drop : ∀ (cs : List PV) (k i : Nat), nth (dropP cs k) i = nth cs (k + i)
  | cs, 0, i => by cases cs <;> simp [dropP]
  | [], k + 1, i => by simp [dropP, nth]
  | c :: cs, k + 1, i => by
    rw [show k + 1 + i = (k + i) + 1 by omega]
    simp only [dropP, nth]
    exact nth_drop cs k i
theorem tail_out {σ : Sg} {w : World} {H : Heap} {fr st nm n k c : Nat} {cs : List PV} {rb : RB} (hs : Sim σ w H) (hn : NoneIn σ fr (fr + 1)) (hg : hget H nm = some (true, .cells cs)) (hr : σ nm = some rb) (hc : n ≤ c) (hcap : c * st ≤ rb.cap) (hk : k ≤ n) :
    Out σ w H fr (.own fr st (n - k)) (hput (kill H (some nm)) fr (true, .cells (dropP cs (k * st)))) (fr + 1) (sset σ fr ⟨rb.blk, rb.base + k * st, rb.cap - k * st⟩) w (.slice (some ⟨rb.blk, rb.base + k * st, none⟩) (n - k) (c - k)) := by
  have hf : σ fr = none := hn fr (Nat.le_refl _) (by omega)
  obtain ⟨e1, e2, e3⟩ := hs.ent _ _ hg (by simp) rb hr
  obtain ⟨e4, e5, e6⟩ := e3 rfl
  refine ⟨.own fr st (n - k) ⟨rb.blk, rb.base + k * st, rb.cap - k * st⟩ (c - k) (sset_same _ _ _) rfl (by omega) ?_, ?_, sset_mono hf, fun k hk => sset_other (by omega), ?_⟩
  · show (c - k) * st ≤ rb.cap - k * st
    rw [Nat.sub_mul]; omega
  · refine (hs.kill (some nm)).new hf (Nat.le_refl _) (fun m e r hm he hr' => ?_) fun _ rb' hrb' => ?_
    · obtain ⟨h1, h2⟩ := hget_kill hm he
      exact ⟨fun x => hs.dist nm m _ e hg h1 (by simp) he (fun x => h2 (by rw [x])) rb r hr hr' x.symm, fun _ => rfl⟩
    · rw [sset_same] at hrb'
      cases hrb'
      refine ⟨e1, fun i v hv => ?_, fun _ => ⟨rfl, e5, fun o ho => ?_⟩⟩
      · rw [nth_drop] at hv
        obtain ⟨u, hu, hvu⟩ := e2 _ _ hv
        exact ⟨u, by rw [← hu]; simp only [Nat.add_assoc], hvu.mono (sset_mono hf)⟩
      · obtain ⟨u, hu⟩ := e6 (k * st + o) (by simp only at ho; omega)
        exact ⟨u, by rw [← hu]; simp only [Nat.add_assoc]⟩
  · refine ⟨rfl, rfl, rfl, Nat.le_refl _, Nat.le_refl _, fun _ _ _ => rfl, fun k hk => ?_⟩
    obtain ⟨q, b', r, h1, h2, h3, h4⟩ := hk
    by_cases e7 : fr = q
    · subst e7
      rw [sset_same] at h3
      cases h3
      exact .inr ⟨nm, _, rb, hg, by simp, hr, h4⟩
    · rw [hget_put_other _ _ _ _ e7] at h1
      rw [sset_other fun x => e7 x.symm] at h3
      exact .inr ⟨q, b', r, (hget_kill h1 h2).1, h2, h3, h4⟩
section
variable {P : Program} {E : Env} (ok : EnvOk P E)
include ok
theorem oTail_ok {sy : Bool} {T : Tmps} {H : Heap} {fr : Nat} {t : TypeId} {x : Operand} {lo hi mx : Option Operand} {K : Kon} {other : Prop} (hN : Names H fr) (h : oTail cond E sy T H fr t x lo hi mx K other) :
    other ∨ ∃ v H' fr', K v H' fr' ∧ Grow H H' fr fr' ∧ ∀ σ w (ρ : Operand → Value), VR σ (ev T x) (ρ x) → (∀ y, lo = some y → VR σ (ev T y) (ρ y)) → Sim σ w H → NoneIn σ fr fr' →
      ∃ y σ', (Instr.sliceAt t (ρ x) (lo.map ρ) (hi.map ρ) (mx.map ρ)).run P w = .ok y w ∧ Out σ w H fr v H' fr' σ' w y := by
  unfold oTail at h
  split at h
  · split at h
    · rename_i nm st n l i hx hl hi
      split at h
      · rename_i e cs hd hg
        split at h
        · rename_i sz hs
          split at h
          · rename_i hst
            obtain ⟨hb, hk⟩ := cond_t h
            have hb : 0 ≤ l ∧ l ≤ (n : Int) := by simpa using hb
            have e1 := ok.ty t i hi
            subst e1
            have hu : P.underlying t = some (.slice e) := by
              obtain ⟨_, _, _, _, _, h⟩ := mk_info (P := P) (t := t) (by rw [hd]; simp)
              exact mkD_slice (h.symm.trans hd)
            obtain ⟨J, hJ, hsz⟩ := szT_ok ok hs
            have e2 := Nat.eq_of_beq_eq_true hst
            refine .inr ⟨_, _, _, hk, ?_, fun σ w ρ hxv hlo hs0 hn => ?_⟩
            · exact Grow.trans (Grow.kill H (some nm) fr fun q hq => by cases hq; exact ⟨hN _ _ hg, _, hg⟩) (Grow.put _ _ _ _ _ _ (by omega) (by omega) (.inl rfl) (.inl (by omega)))
            · obtain ⟨a1, a2⟩ := optInt_ok hl hlo
              rw [hx] at hxv
              rw [mulc_eq]
              generalize ρ x = u at hxv ⊢
              simp only [Option.map_none]
              cases hxv with
              | own0 _ _ A =>
                have e0 : l = 0 := by omega
                subst e0
                have hbo := bounds_ok (P := P) (w := w) true 0 0 (lo.map ρ) none (some 0) none a1 a2 (by simp) (by simp) (Nat.le_refl _) (by simp)
                refine ⟨.slice A 0 0, σ, ?_, ?_⟩
                · simp [Instr.sliceAt, Instr.slice, run_underlying hu, hbo, run_size w hJ]
                · exact app_none A hs0 hn
              | own _ _ _ rb c hr h0 hc hcap =>
                have hbo := bounds_ok (P := P) (w := w) true n c (lo.map ρ) none (some l) none a1 a2 (by simp) (by simp) hc (by simp; omega)
                have hrun : (Instr.sliceAt t (.slice (some ⟨rb.blk, rb.base, none⟩) n c) (lo.map ρ) none none).run P w = .ok (.slice (if c = l.toNat then some ⟨rb.blk, rb.base, none⟩ else (some (⟨rb.blk, rb.base, none⟩ : Addr)).map (·.add (l.toNat * J.size))) (n - l.toNat) (c - l.toNat)) w := by
                  simp [Instr.sliceAt, Instr.slice, run_underlying hu, hbo, run_size w hJ]
                by_cases hcl : c = l.toNat
                · have hz : n - l.toNat = 0 := by omega
                  have hz2 : c - l.toNat = 0 := by omega
                  rw [if_pos hcl, hz, hz2] at hrun
                  exact ⟨_, σ, hrun, by rw [hz]; exact app_none _ hs0 hn⟩
                · rw [if_neg hcl, hsz, ← e2, Option.map_some, add_at] at hrun
                  exact ⟨_, _, hrun, tail_out hs0 hn hg hr hc hcap (by omega)⟩
          · exact .inl h
        · exact .inl h
      · exact .inl h
    · exact .inl h
  · exact .inl h
end
end Go.Ev
