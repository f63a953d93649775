/-
  Lists compared, copied and looked into.
-/
import Derived.Test.YtjkfdmbhiooeiaaVote
namespace Go.Proofs.Ytjkfdmbhiooeiaa
open Go.RowKit

set_option maxHeartbeats 800000 in
theorem equal_nil (A A' : Option Addr) (cap cap' : Nat) (w : World) : Calls Try.prog 23 #[.slice A 0 cap, .slice A' 0 cap'] w fun e w' => e = .returned (.bool true) ∧ New w w' := by
  go_enter Try.func23, Try.ntmps23
  go_wp2
  go_loopw [13] (fun i wr => i = .int .i64 0 ∧ wr = w) (fun _ _ => 0)
  case atStart => exact ⟨rfl, rfl⟩
  case round =>
    obtain ⟨rfl, rfl⟩ := hrel
    go_wp2
    go_ret
    exact ⟨rfl, new0 _⟩
set_option maxHeartbeats 1600000 in
theorem equal_some (b off cap b' off' cap' n : Nat) (Z : Nat → Int) (w : World) (hn : n ≤ 1000) (h1 : ∀ j, j < n → w.cell? ⟨b, off + j, none⟩ = some (.int .i64 (Z j))) (h2 : ∀ j, j < n → w.cell? ⟨b', off' + j, none⟩ = some (.int .i64 (Z j))) (hb : b < w.heap.size) (hb' : b' < w.heap.size) :
    Calls Try.prog 23 #[.slice (some ⟨b, off, none⟩) n cap, .slice (some ⟨b', off', none⟩) n cap'] w fun e w' => e = .returned (.bool true) ∧ New w w' := by
  have HZ1 := Lib.hid h1
  have HZ2 := Lib.hid h2
  clear h1 h2
  go_enter Try.func23, Try.ntmps23
  go_wp2
  go_loopw [13] (fun i wr => ∃ k : Nat, k ≤ n ∧ i = .int .i64 k ∧ New w wr) (fun i _ => n - (intOf i).toNat)
  case atStart => exact ⟨0, by omega, rfl, new0 _⟩
  case round =>
    obtain ⟨k, hk, rfl, hNw⟩ := hrel
    have HNw := Lib.hid hNw
    by_cases hlt : k < n
    · have c1 : wr.cell? ⟨b, off + k, none⟩ = some (.int .i64 (Z k)) := ((ncell hNw).1 _ _ hb).trans (HZ1.out k hlt)
      have c2 : wr.cell? ⟨b', off' + k, none⟩ = some (.int .i64 (Z k)) := ((ncell hNw).1 _ _ hb').trans (HZ2.out k hlt)
      clear hNw
      go_wp2_with fail
      go_quiet (fail)
      go_wp2
      go_roundw
      case rel => exact ⟨k + 1, by omega, by go_num, New.drewN HNw.out _⟩
      case measure => simp [intOf]; omega
    · clear hNw
      go_wp2
      go_ret
      exact ⟨rfl, HNw.out⟩
theorem equal_v (v v' : Value) (l : List Int) (w : World) (hn : l.length ≤ 1000) (h1 : IntV w v l) (h2 : IntV w v' l) : Calls Try.prog 23 #[v, v'] w fun e w' => e = .returned (.bool true) ∧ New w w' := by
  rcases h1 with ⟨hl, A, cap, rfl⟩ | ⟨b, off, cap, rfl, hb, hc⟩
  · rcases h2 with ⟨_, A', cap', rfl⟩ | ⟨b', off', cap', rfl, hb', _⟩
    · exact equal_nil A A' cap cap' w
    · subst hl; exact equal_nil A _ cap cap' w
  · rcases h2 with ⟨hl, A', cap', rfl⟩ | ⟨b', off', cap', rfl, hb', hc'⟩
    · subst hl; exact equal_nil _ A' cap cap' w
    · exact equal_some b off cap b' off' cap' l.length _ w hn hc hc' hb hb'

theorem ints_one (l : List Int) : ∀ u ∈ ints l, u.oneCell' = true := by
  intro u hu
  simp only [ints, List.mem_map] at hu
  obtain ⟨j, _, rfl⟩ := hu
  rfl
def CloneI (w : World) (l : List Int) (e : Ending) (w' : World) : Prop := ∃ v, e = .returned v ∧ IntV w' v l ∧ New w w'
set_option maxHeartbeats 800000 in
theorem clonei_nil (cap : Nat) (w : World) : Calls Try.prog 25 #[.slice none 0 cap] w (CloneI w []) := by
  have he : ∀ W : World, (binOp .eql 39 (.slice none 0 cap) (.slice none 0 0)).run Try.prog W = .ok (.bool true) W := fun W => Lib.run_eql_slice_nil (P := Try.prog) W 39 3 none 0 cap 0 0 Try.underlying39
  go_enter Try.func25, Try.ntmps25
  go_wp2
  go_ret
  exact ⟨_, rfl, .inl ⟨rfl, _, _, rfl⟩, new0 _⟩
set_option maxHeartbeats 800000 in
theorem clonei_some (ad : Addr) (cap : Nat) (l : List Int) (w : World) (hn : l.length ≤ 1000) (hc : ∀ j u, (ints l)[j]? = some u → w.cell? ((ad : Addr).add j) = some u) :
    Calls Try.prog 25 #[.slice (some ad) l.length cap] w (CloneI w l) := by
  obtain ⟨i0, hi, hz0, hz1, hz2⟩ := info_parts info3
  have he : ∀ W : World, (binOp .eql 39 (.slice (some ad) l.length cap) (.slice none 0 0)).run Try.prog W = .ok (.bool false) W := fun W => Lib.run_eql_slice_nil (P := Try.prog) W 39 3 (some ad) l.length cap 0 0 Try.underlying39
  have hc' : ∀ j u, (ints l)[j]? = some u → (w.alloc (.cells #[] 3)).cell? ((ad : Addr).add j) = some u := fun j u hu => by
    rw [World.cell?_alloc_lt _ _ _ (World.block_lt_of_cell? w _ (hc j u hu))]
    exact hc j u hu
  have HC := Lib.hid hc'
  clear hc hc'
  go_enter Try.func25, Try.ntmps25
  go_wp2_with (at_builtin; refine wpList_append_own _ rfl (.tmp 5) (.tmp 6) 39 rfl w.heap.size 3 i0 (.int .i64 0) 1 8 Try.underlying39 hi hz0 hz1 hz2 rfl (by decide) _ 0 [] rfl (World.ownsRow_made w #[] 0 (Nat.le_refl _) (by decide) rfl) ad l.length cap (ints l) rfl (by simp [ints]) HC.out (ints_one l) (by unfold maxLen; omega) (by omega) (by simp) ?_; intro v' w1 hown hgrow _)
  go_ret
  refine ⟨_, rfl, intV_own (base := w.heap.size) ?_, ?_⟩
  · simpa using hown
  · exact Below.grown (Below.alloc (Below.refl _ _) (Nat.le_refl _) _) hgrow (by simp) (fun k hk => by cases hk; exact Nat.le_refl _)
theorem clonei_v (v : Value) (l : List Int) (w : World) (hn : l.length ≤ 1000) (h : IntV w v l) : Calls Try.prog 25 #[v] w (CloneI w l) := by
  rcases h with ⟨rfl, A, cap, rfl⟩ | ⟨b, off, cap, rfl, _, hs⟩
  · cases A with
    | none => exact clonei_nil cap w
    | some ad => exact clonei_some ad cap [] w (by simp) (fun j u hu => by simp [ints] at hu)
  · refine clonei_some ⟨b, off, none⟩ cap l w hn (fun j u hu => ?_)
    have hadd : ∀ k, (⟨b, off, none⟩ : Addr).add k = ⟨b, off + k, none⟩ := fun k => by unfold Addr.add; split <;> simp_all
    rw [hadd]
    have hj : j < l.length := by
      have := (List.getElem?_eq_some_iff.1 hu).1
      simpa [ints] using this
    rw [hs j hj]
    simp [ints, hj] at hu
    subst hu
    simp [List.getD_eq_getElem?_getD, hj]

/-- The cells of samples, one behind the other. -/
def flat (s : Nat → Sm) (j : Nat) : Value := if j % 4 = 0 then .bool (s (j / 4)).a else if j % 4 = 1 then .bool (s (j / 4)).b else if j % 4 = 2 then .int .i64 (s (j / 4)).g else .bool (s (j / 4)).v
def flats (n : Nat) (s : Nat → Sm) : List Value := (List.range (n * 4)).map (flat s)
theorem flats_one (n : Nat) (s : Nat → Sm) : ∀ u ∈ flats n s, u.oneCell' = true := by
  intro u hu
  simp only [flats, List.mem_map] at hu
  obtain ⟨j, _, rfl⟩ := hu
  unfold flat
  split
  · rfl
  · split
    · rfl
    · split <;> rfl
theorem flat0 (s : Nat → Sm) (j : Nat) : flat s (j * 4) = .bool (s j).a := by
  unfold flat
  rw [if_pos (by omega), show j * 4 / 4 = j by omega]
theorem flat1 (s : Nat → Sm) (j : Nat) : flat s (j * 4 + 1) = .bool (s j).b := by
  unfold flat
  rw [if_neg (by omega), if_pos (by omega), show (j * 4 + 1) / 4 = j by omega]
theorem flat2 (s : Nat → Sm) (j : Nat) : flat s (j * 4 + 2) = .int .i64 (s j).g := by
  unfold flat
  rw [if_neg (by omega), if_neg (by omega), if_pos (by omega), show (j * 4 + 2) / 4 = j by omega]
theorem flat3 (s : Nat → Sm) (j : Nat) : flat s (j * 4 + 3) = .bool (s j).v := by
  unfold flat
  rw [if_neg (by omega), if_neg (by omega), if_neg (by omega), show (j * 4 + 3) / 4 = j by omega]
theorem own_sm {w : World} {base n : Nat} {v : Value} {s : Nat → Sm} (h : w.ownsRow base 25 4 v n (flats n s)) : SmV w v n s := by
  have h0 := h
  rcases h.2 with ⟨rfl, hz⟩ | ⟨g, cap, cur, rfl, _, hg, _⟩
  · exact .inl ⟨hz, none, 0, rfl⟩
  · refine .inr ⟨g, 0, cap, rfl, (Array.getElem?_eq_some_iff.1 hg).1, fun j hj => ?_⟩
    have c := h0.cells (g := g) rfl
    have hadd : ∀ k, (⟨g, 0, none⟩ : Addr).add k = ⟨g, k, none⟩ := fun k => by unfold Addr.add; split <;> simp_all
    have c0 := c (j * 4) _ (by simp [flats, show j * 4 < n * 4 by omega]; rfl)
    have c1 := c (j * 4 + 1) _ (by simp [flats, show j * 4 + 1 < n * 4 by omega]; rfl)
    have c2 := c (j * 4 + 2) _ (by simp [flats, show j * 4 + 2 < n * 4 by omega]; rfl)
    have c3 := c (j * 4 + 3) _ (by simp [flats, show j * 4 + 3 < n * 4 by omega]; rfl)
    rw [hadd] at c0 c1 c2 c3
    rw [flat0] at c0
    rw [flat1] at c1
    rw [flat2] at c2
    rw [flat3] at c3
    simp only [Nat.zero_add]
    exact ⟨c0, c1, c2, c3⟩
theorem info25 : (Try.prog.info? 25).map (fun i => (i.zero, i.size, i.bytes)) = some (some (.agg #[.bool false, .bool false, .int .i64 0, .bool false]), 4, 24) := by kernel_rfl
def CloneS (w : World) (n : Nat) (s : Nat → Sm) (e : Ending) (w' : World) : Prop := ∃ v, e = .returned v ∧ SmV w' v n s ∧ New w w'
set_option maxHeartbeats 800000 in
theorem clones_nil (cap : Nat) (s : Nat → Sm) (w : World) : Calls Try.prog 21 #[.slice none 0 cap] w (CloneS w 0 s) := by
  have he : ∀ W : World, (binOp .eql 38 (.slice none 0 cap) (.slice none 0 0)).run Try.prog W = .ok (.bool true) W := fun W => Lib.run_eql_slice_nil (P := Try.prog) W 38 25 none 0 cap 0 0 Try.underlying38
  go_enter Try.func21, Try.ntmps21
  go_wp2
  go_ret
  exact ⟨_, rfl, .inl ⟨rfl, _, _, rfl⟩, new0 _⟩
set_option maxHeartbeats 800000 in
theorem clones_some (ad : Addr) (n cap : Nat) (s : Nat → Sm) (w : World) (hn : n ≤ 1010) (hc : ∀ j u, (flats n s)[j]? = some u → w.cell? ((ad : Addr).add j) = some u) :
    Calls Try.prog 21 #[.slice (some ad) n cap] w (CloneS w n s) := by
  obtain ⟨i0, hi, hz0, hz1, hz2⟩ := info_parts info25
  have he : ∀ W : World, (binOp .eql 38 (.slice (some ad) n cap) (.slice none 0 0)).run Try.prog W = .ok (.bool false) W := fun W => Lib.run_eql_slice_nil (P := Try.prog) W 38 25 (some ad) n cap 0 0 Try.underlying38
  have hc' : ∀ j u, (flats n s)[j]? = some u → (w.alloc (.cells #[] 25)).cell? ((ad : Addr).add j) = some u := fun j u hu => by
    rw [World.cell?_alloc_lt _ _ _ (World.block_lt_of_cell? w _ (hc j u hu))]
    exact hc j u hu
  have HC := Lib.hid hc'
  clear hc hc'
  go_enter Try.func21, Try.ntmps21
  go_wp2_with (at_builtin; refine wpList_append_own _ rfl (.tmp 5) (.tmp 6) 38 rfl w.heap.size 25 i0 (.agg #[.bool false, .bool false, .int .i64 0, .bool false]) 4 24 Try.underlying38 hi hz0 hz1 hz2 rfl (by decide) _ 0 [] rfl (World.ownsRow_made w #[] 0 (Nat.le_refl _) (by decide) rfl) ad n cap (flats n s) rfl (by simp [flats]) HC.out (flats_one n s) (by unfold maxLen; omega) (by omega) (by simp) ?_; intro v' w1 hown hgrow _)
  go_ret
  refine ⟨_, rfl, own_sm (base := w.heap.size) (by simpa using hown), ?_⟩
  exact Below.grown (Below.alloc (Below.refl _ _) (Nat.le_refl _) _) hgrow (by simp) (fun k hk => by cases hk; exact Nat.le_refl _)
theorem clones_v (v : Value) (n : Nat) (s : Nat → Sm) (w : World) (hn : n ≤ 1010) (h : SmV w v n s) : Calls Try.prog 21 #[v] w (CloneS w n s) := by
  rcases h with ⟨rfl, A, cap, rfl⟩ | ⟨b, off, cap, rfl, _, hs⟩
  · cases A with
    | none => exact clones_nil cap s w
    | some ad => exact clones_some ad 0 cap s w (by omega) (fun j u hu => by simp [flats] at hu)
  · refine clones_some ⟨b, off, none⟩ n cap s w hn (fun j u hu => ?_)
    have hadd : ∀ k, (⟨b, off, none⟩ : Addr).add k = ⟨b, off + k, none⟩ := fun k => by unfold Addr.add; split <;> simp_all
    rw [hadd]
    have hj : j < n * 4 := by
      have := (List.getElem?_eq_some_iff.1 hu).1
      simpa [flats] using this
    simp [flats, hj] at hu
    subst hu
    obtain ⟨c0, c1, c2, c3⟩ := hs (j / 4) (by omega)
    have h4 : j % 4 = 0 ∨ j % 4 = 1 ∨ j % 4 = 2 ∨ j % 4 = 3 := by omega
    rcases h4 with e | e | e | e
    · have ej : j / 4 * 4 = j := by omega
      rw [ej] at c0
      simpa [flat, e] using c0
    · have ej : j / 4 * 4 + 1 = j := by omega
      rw [Nat.add_assoc, ej] at c1
      simpa [flat, e] using c1
    · have ej : j / 4 * 4 + 2 = j := by omega
      rw [Nat.add_assoc, ej] at c2
      simpa [flat, e] using c2
    · have ej : j / 4 * 4 + 3 = j := by omega
      rw [Nat.add_assoc, ej] at c3
      simpa [flat, e] using c3
set_option maxHeartbeats 800000 in
/-- No state of a list is x. -/
theorem index_no (x : Int) (b off cap n : Nat) (Z : Nat → Int) (w : World) (hn : n ≤ 1000) (h1 : ∀ j, j < n → w.cell? ⟨b, off + j, none⟩ = some (.int .i64 (Z j))) (h2 : ∀ j, j < n → Z j ≠ x) :
    Calls Try.prog 45 #[.slice (some ⟨b, off, none⟩) n cap, .int .i64 x] w fun e w' => e = .returned (.int .i64 (-1)) ∧ w = w' := by
  have HZ := Lib.hid h1
  have HX := Lib.hid h2
  clear h1 h2
  go_enter Try.func45, Try.ntmps45
  go_wp2
  go_loopw [8] (fun i wr => ∃ k : Nat, k ≤ n ∧ i = .int .i64 k ∧ wr = w) (fun i _ => n - (intOf i).toNat)
  case atStart => exact ⟨0, by omega, rfl, rfl⟩
  case round =>
    obtain ⟨k, hk, rfl, rfl⟩ := hrel
    by_cases hlt : k < n
    · have c1 := HZ.out k hlt
      have e1 : (x == Z k) = false := by simpa using (HX.out k hlt).symm
      go_wp2
      go_roundw
      case rel => exact ⟨k + 1, by omega, by go_num, (by first | trivial | rfl)⟩
      case measure => simp [intOf]; omega
    · go_wp2
      go_ret
      exact ⟨rfl, rfl⟩
set_option maxHeartbeats 800000 in
theorem index_nil (x : Int) (A : Option Addr) (cap : Nat) (w : World) : Calls Try.prog 45 #[.slice A 0 cap, .int .i64 x] w fun e w' => e = .returned (.int .i64 (-1)) ∧ w = w' := by
  go_enter Try.func45, Try.ntmps45
  go_wp2
  go_loopw [8] (fun i wr => i = .int .i64 0 ∧ wr = w) (fun _ _ => 0)
  case atStart => exact ⟨rfl, rfl⟩
  case round =>
    obtain ⟨rfl, rfl⟩ := hrel
    go_wp2
    go_ret
    exact ⟨rfl, rfl⟩
theorem contains_no (x : Int) (v : Value) (l : List Int) (w : World) (hn : l.length ≤ 1000) (h : IntV w v l) (hx : ∀ j, j < l.length → l.getD j 0 ≠ x) : Calls Try.prog 31 #[v, .int .i64 x] w fun e w' => e = .returned (.bool false) ∧ w = w' := by
  have hi : ∀ W : World, W = w → Calls Try.prog 45 #[v, .int .i64 x] W fun e w' => e = .returned (.int .i64 (-1)) ∧ W = w' := by
    rintro W rfl
    rcases h with ⟨rfl, A, cap, rfl⟩ | ⟨b, off, cap, rfl, hb, hc⟩
    · exact index_nil x A cap W
    · exact index_no x b off cap _ _ W hn hc hx
  have HI := Lib.hid (hi w rfl)
  clear hi h hx
  go_enter Try.func31, Try.ntmps31
  go_wp2_with (go_at_call 45; refine HI.out.mono ?_; rintro e w' ⟨rfl, rfl⟩)
  go_ret
  exact ⟨rfl, rfl⟩
end Go.Proofs.Ytjkfdmbhiooeiaa
