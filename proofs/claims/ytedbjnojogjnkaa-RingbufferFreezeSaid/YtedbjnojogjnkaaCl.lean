/-
  Lists of samples copied and compared; buffers copied.
-/
import Derived.Test.YtedbjnojogjnkaaVal
namespace Go.Proofs.Ytedbjnojogjnkaa
open Go.RowKit
theorem info26 : (Try.prog.info? 26).map (fun i => (i.zero, i.size, i.bytes)) = some (some (.agg #[.int .i64 0, .int .i64 0, .bool false]), 3, 24) := by kernel_rfl
/-- A new list of these samples, which the call has made. -/
def CloneO (w : World) (n : Nat) (M : Nat → Ms) (e : Ending) (w' : World) : Prop := ∃ v, e = .returned v ∧ w'.ownsRow w.heap.size 26 3 v n (flat n 3 (mF M)) ∧ New w w'
set_option maxHeartbeats 800000 in
theorem clone_nil (cap : Nat) (M : Nat → Ms) (w : World) : Calls Try.prog 32 #[.slice none 0 cap] w (CloneO w 0 M) := by
  have he : ∀ W : World, (binOp .eql 22 (.slice none 0 cap) (.slice none 0 0)).run Try.prog W = .ok (.bool true) W := fun W => Lib.run_eql_slice_nil (P := Try.prog) W 22 26 none 0 cap 0 0 Try.underlying22
  go_enter Try.func32, Try.ntmps32
  go_wp2
  go_ret
  exact ⟨_, rfl, World.ownsRow_nil _ _ _ _, new0 _⟩
set_option maxHeartbeats 800000 in
theorem clone_some (ad : Addr) (n cap : Nat) (M : Nat → Ms) (w : World) (hn : n ≤ 1000) (hc : ∀ j u, (flat n 3 (mF M))[j]? = some u → w.cell? ((ad : Addr).add j) = some u) :
    Calls Try.prog 32 #[.slice (some ad) n cap] w (CloneO w n M) := by
  obtain ⟨i0, hi, hz0, hz1, hz2⟩ := info_parts info26
  have he : ∀ W : World, (binOp .eql 22 (.slice (some ad) n cap) (.slice none 0 0)).run Try.prog W = .ok (.bool false) W := fun W => Lib.run_eql_slice_nil (P := Try.prog) W 22 26 (some ad) n cap 0 0 Try.underlying22
  have hc' : ∀ j u, (flat n 3 (mF M))[j]? = some u → (w.alloc (.cells #[] 26)).cell? ((ad : Addr).add j) = some u := fun j u hu => by
    rw [World.cell?_alloc_lt _ _ _ (World.block_lt_of_cell? w _ (hc j u hu))]
    exact hc j u hu
  have HC := Lib.hid hc'
  clear hc hc'
  go_enter Try.func32, Try.ntmps32
  go_wp2_with (at_builtin; refine wpList_append_own _ rfl (.tmp 5) (.tmp 6) 22 rfl w.heap.size 26 i0 (.agg #[.int .i64 0, .int .i64 0, .bool false]) 3 24 Try.underlying22 hi hz0 hz1 hz2 rfl (by decide) _ 0 [] rfl (World.ownsRow_made w #[] 0 (Nat.le_refl _) (by decide) rfl) ad n cap (flat n 3 (mF M)) rfl (flat_len _ _ _) HC.out (flat_one (mF_one M)) (by unfold maxLen; omega) (by omega) (by simp) ?_; intro v' w1 hown hgrow _)
  go_ret
  refine ⟨_, rfl, by simpa using hown, ?_⟩
  exact Below.grown (Below.alloc (Below.refl _ _) (Nat.le_refl _) _) hgrow (by simp) (fun k hk => by cases hk; exact Nat.le_refl _)
theorem clone_v (v : Value) (n : Nat) (M : Nat → Ms) (w : World) (hn : n ≤ 1000) (h : MsV w v n M) : Calls Try.prog 32 #[v] w (CloneO w n M) := by
  rcases h with ⟨rfl, A, cap, rfl⟩ | ⟨b, off, cap, rfl, _, hs⟩
  · cases A with
    | none => exact clone_nil cap M w
    | some ad => exact clone_some ad 0 cap M w (by omega) (fun j u hu => by simp [flat] at hu)
  · exact clone_some ⟨b, off, none⟩ n cap M w hn (flat_cells (by decide) (mss_row hs))

theorem msV_set {w : World} {base n : Nat} {v : Value} {M : Nat → Ms} (h : w.ownsRow base 26 3 v n (flat n 3 (mF M))) {a : Addr} (ha : a.block < base) (u : Value) : MsV (w.setCell a u) v n M :=
  msV_row (row_own (ownsRow_setCell_below h ha u))
/-- A buffer that reads so. -/
def BufV (w : World) (u : Value) (ca af : Int) (n : Nat) (M : Nat → Ms) (ov re : Int) (fz : Bool) : Prop := ∃ v, u = .agg #[.int .i64 ca, .int .i64 af, v, .int .i64 ov, .int .i64 re, .bool fz] ∧ MsV w v n M
theorem BufV.new {W W' : World} {u : Value} {ca af : Int} {n : Nat} {M : Nat → Ms} {ov re : Int} {fz : Bool} (h : BufV W u ca af n M ov re fz) (hn : New W W') : BufV W' u ca af n M ov re fz := by
  obtain ⟨v, h1, h2⟩ := h
  exact ⟨v, h1, h2.new hn⟩
def BufPost (w : World) (ca af : Int) (n : Nat) (M : Nat → Ms) (ov re : Int) (fz : Bool) (e : Ending) (w' : World) : Prop := ∃ u, e = .returned u ∧ BufV w' u ca af n M ov re fz ∧ New w w'
set_option maxHeartbeats 1600000 in
theorem cloneB_any (ca af : Int) (A : Option Addr) (n cap : Nat) (M : Nat → Ms) (ov re : Int) (fz : Bool) (w : World) (hM : MsV w (.slice A n cap) n M) (hn : n ≤ 1000) :
    Calls Try.prog 47 #[.agg #[.int .i64 ca, .int .i64 af, .slice A n cap, .int .i64 ov, .int .i64 re, .bool fz]] w (BufPost w ca af n M ov re fz) := by
  have HM := Lib.hid hM
  clear hM
  have A1 := Lib.hid ((blk_alloc w #[.int .i64 ca, .int .i64 af, .slice A n cap, .int .i64 ov, .int .i64 re, .bool fz] 24 _ rfl).new ((new0 _).alloc (.cells #[.int .i64 0, .int .i64 0, .slice none 0 0, .int .i64 0, .int .i64 0, .bool false] 24)))
  have B1 := Lib.hid (blk_alloc (w.alloc (.cells #[.int .i64 ca, .int .i64 af, .slice A n cap, .int .i64 ov, .int .i64 re, .bool fz] 24)) #[.int .i64 0, .int .i64 0, .slice none 0 0, .int .i64 0, .int .i64 0, .bool false] 24 (w.heap.size + 1) (by simp))
  go_enter Try.func47, Try.ntmps47
  go_wp2_with fail
  refine (clone_v _ n M _ hn (HM.out.new (((new0 w).alloc _).alloc _))).mono ?_
  rintro e w1 ⟨v1, rfl, ho, g1⟩
  obtain ⟨A1v, c1v, rfl⟩ := (msV_row (row_own ho)).len
  obtain ⟨k0, k1, k2, k3, k4, k5, kf, kz⟩ := (A1.out.new g1).c6
  obtain ⟨j0, j1, j2, j3, j4, j5, jf, jz⟩ := (B1.out.new g1).c6
  have H1 := Lib.hid g1
  have hbs : w.heap.size + 1 + 1 ≤ w1.heap.size := by have := New.size g1; simpa using this
  have HO := Lib.hid (show w1.ownsRow (w.heap.size + 1 + 1) 26 3 (.slice A1v n c1v) n (flat n 3 (mF M)) by simpa using ho)
  clear g1 ho
  go_wp2_with fail
  refine bodyPost_ret (v := .agg #[.int .i64 ca, .int .i64 af, .slice A1v n c1v, .int .i64 ov, .int .i64 re, .bool fz]) (by go_light; simp [results, Try.results47, go_sem, *]) rfl ?_
  refine ⟨_, rfl, ⟨_, rfl, ?_⟩, by repeat (first | with_reducible exact new0 _ | with_reducible apply New.alloc | with_reducible apply New.drewN | with_reducible apply New.drew | (with_reducible refine New.setCell ?_ (by simp <;> omega) _) | (with_reducible refine New.trans ?_ H1.out))⟩
  refine msV_row (row_own (e := 26) (base := w.heap.size + 1 + 1) ?_)
  repeat (with_reducible refine ownsRow_setCell_below ?_ (by first | (simp; done) | (simp; omega)) _)
  exact HO.out
set_option maxHeartbeats 1600000 in
theorem copied_any (ca af : Int) (A : Option Addr) (n cap : Nat) (M : Nat → Ms) (ov re : Int) (fz : Bool) (w : World) (hM : MsV w (.slice A n cap) n M) (hn : n ≤ 1000) :
    Calls Try.prog 13 #[.agg #[.int .i64 ca, .int .i64 af, .slice A n cap, .int .i64 ov, .int .i64 re, .bool fz]] w (BufPost w ca af n M ov re fz) := by
  have HM := Lib.hid hM
  clear hM
  have A1 := Lib.hid ((blk_alloc w #[.int .i64 ca, .int .i64 af, .slice A n cap, .int .i64 ov, .int .i64 re, .bool fz] 24 _ rfl).new ((new0 _).alloc (.cells #[.int .i64 0, .int .i64 0, .slice none 0 0, .int .i64 0, .int .i64 0, .bool false] 24)))
  have B1 := Lib.hid (blk_alloc (w.alloc (.cells #[.int .i64 ca, .int .i64 af, .slice A n cap, .int .i64 ov, .int .i64 re, .bool fz] 24)) #[.int .i64 0, .int .i64 0, .slice none 0 0, .int .i64 0, .int .i64 0, .bool false] 24 (w.heap.size + 1) (by simp))
  go_enter Try.func13, Try.ntmps13
  go_wp2_with fail
  refine (clone_v _ n M _ hn (HM.out.new (((new0 w).alloc _).alloc _))).mono ?_
  rintro e w1 ⟨v1, rfl, ho, g1⟩
  obtain ⟨A1v, c1v, rfl⟩ := (msV_row (row_own ho)).len
  obtain ⟨k0, k1, k2, k3, k4, k5, kf, kz⟩ := (A1.out.new g1).c6
  obtain ⟨j0, j1, j2, j3, j4, j5, jf, jz⟩ := (B1.out.new g1).c6
  have H1 := Lib.hid g1
  have hbs : w.heap.size + 1 + 1 ≤ w1.heap.size := by have := New.size g1; simpa using this
  have HO := Lib.hid (show w1.ownsRow (w.heap.size + 1 + 1) 26 3 (.slice A1v n c1v) n (flat n 3 (mF M)) by simpa using ho)
  clear g1 ho
  go_wp2_with fail
  refine bodyPost_ret (v := .agg #[.int .i64 ca, .int .i64 af, .slice A1v n c1v, .int .i64 ov, .int .i64 re, .bool fz]) (by go_light; simp [results, Try.results13, go_sem, *]) rfl ?_
  refine ⟨_, rfl, ⟨_, rfl, ?_⟩, by repeat (first | with_reducible exact new0 _ | with_reducible apply New.alloc | with_reducible apply New.drewN | with_reducible apply New.drew | (with_reducible refine New.setCell ?_ (by simp <;> omega) _) | (with_reducible refine New.trans ?_ H1.out))⟩
  refine msV_row (row_own (e := 26) (base := w.heap.size + 1 + 1) ?_)
  repeat (with_reducible refine ownsRow_setCell_below ?_ (by first | (simp; done) | (simp; omega)) _)
  exact HO.out
set_option maxHeartbeats 800000 in
theorem same_nil (A A' : Option Addr) (cap cap' : Nat) (w : World) : Calls Try.prog 22 #[.slice A 0 cap, .slice A' 0 cap'] w fun e w' => e = .returned (.bool true) ∧ New w w' := by
  go_enter Try.func22, Try.ntmps22
  go_wp2
  go_loopw [5] (fun i wr => i = .int .i64 0 ∧ wr = w) (fun _ _ => 0)
  case atStart => exact ⟨rfl, rfl⟩
  case round =>
    obtain ⟨rfl, rfl⟩ := hrel
    go_wp2
    go_ret
    exact ⟨rfl, new0 _⟩
set_option maxHeartbeats 1600000 in
theorem same_some (b off cap b' off' cap' n : Nat) (M : Nat → Ms) (w : World) (hn : n ≤ 1000) (h1 : Mss w b off n M) (h2 : Mss w b' off' n M) :
    Calls Try.prog 22 #[.slice (some ⟨b, off, none⟩) n cap, .slice (some ⟨b', off', none⟩) n cap'] w fun e w' => e = .returned (.bool true) ∧ New w w' := by
  have HM1 := Lib.hid h1
  have HM2 := Lib.hid h2
  clear h1 h2
  go_enter Try.func22, Try.ntmps22
  go_wp2
  go_loopw [5] (fun i wr => ∃ k : Nat, k ≤ n ∧ i = .int .i64 k ∧ New w wr) (fun i _ => n - (intOf i).toNat)
  case atStart => exact ⟨0, by omega, rfl, new0 _⟩
  case round =>
    obtain ⟨k, hk, rfl, hNw⟩ := hrel
    have HNw := Lib.hid hNw
    by_cases hlt : k < n
    · obtain ⟨c0, c1, c2⟩ := (HM1.out.new hNw).2 k hlt
      obtain ⟨d0, d1, d2⟩ := (HM2.out.new hNw).2 k hlt
      clear hNw
      go_wp2_with fail
      go_quiet (fail)
      go_wp2
      go_roundw
      case rel => exact ⟨k + 1, by omega, by go_num, New.drewN HNw.out _⟩
      case measure => simp [intOf]; omega
    · clear hNw
      go_wp2
      go_ret
      exact ⟨rfl, HNw.out⟩
theorem same_v (v v' : Value) (n : Nat) (M : Nat → Ms) (w : World) (hn : n ≤ 1000) (h1 : MsV w v n M) (h2 : MsV w v' n M) : Calls Try.prog 22 #[v, v'] w fun e w' => e = .returned (.bool true) ∧ New w w' := by
  rcases h1 with ⟨hl, A, cap, rfl⟩ | ⟨b, off, cap, rfl, _, hc⟩
  · rcases h2 with ⟨_, A', cap', rfl⟩ | ⟨b', off', cap', rfl, _⟩
    · exact same_nil A A' cap cap' w
    · subst hl; exact same_nil A _ cap cap' w
  · rcases h2 with ⟨hl, A', cap', rfl⟩ | ⟨b', off', cap', rfl, _, hc'⟩
    · subst hl; exact same_nil _ A' cap cap' w
    · exact same_some b off cap b' off' cap' n M w hn hc hc'
set_option maxHeartbeats 800000 in
theorem equal_nil (A A' : Option Addr) (cap cap' : Nat) (w : World) : Calls Try.prog 29 #[.slice A 0 cap, .slice A' 0 cap'] w fun e w' => e = .returned (.bool true) ∧ New w w' := by
  go_enter Try.func29, Try.ntmps29
  go_wp2
  go_loopw [13] (fun i wr => i = .int .i64 0 ∧ wr = w) (fun _ _ => 0)
  case atStart => exact ⟨rfl, rfl⟩
  case round =>
    obtain ⟨rfl, rfl⟩ := hrel
    go_wp2
    go_ret
    exact ⟨rfl, new0 _⟩
set_option maxHeartbeats 1600000 in
theorem equal_some (b off cap b' off' cap' n : Nat) (M : Nat → Ms) (w : World) (hn : n ≤ 1000) (h1 : Mss w b off n M) (h2 : Mss w b' off' n M) :
    Calls Try.prog 29 #[.slice (some ⟨b, off, none⟩) n cap, .slice (some ⟨b', off', none⟩) n cap'] w fun e w' => e = .returned (.bool true) ∧ New w w' := by
  have HM1 := Lib.hid h1
  have HM2 := Lib.hid h2
  clear h1 h2
  go_enter Try.func29, Try.ntmps29
  go_wp2
  go_loopw [13] (fun i wr => ∃ k : Nat, k ≤ n ∧ i = .int .i64 k ∧ New w wr) (fun i _ => n - (intOf i).toNat)
  case atStart => exact ⟨0, by omega, rfl, new0 _⟩
  case round =>
    obtain ⟨k, hk, rfl, hNw⟩ := hrel
    have HNw := Lib.hid hNw
    by_cases hlt : k < n
    · obtain ⟨c0, c1, c2⟩ := (HM1.out.new hNw).2 k hlt
      obtain ⟨d0, d1, d2⟩ := (HM2.out.new hNw).2 k hlt
      clear hNw
      go_wp2_with fail
      go_quiet (fail)
      go_wp2
      go_roundw
      case rel => exact ⟨k + 1, by omega, by go_num, New.drewN HNw.out _⟩
      case measure => simp [intOf]; omega
    · clear hNw
      go_wp2
      go_ret
      exact ⟨rfl, HNw.out⟩
theorem equal_v (v v' : Value) (n : Nat) (M : Nat → Ms) (w : World) (hn : n ≤ 1000) (h1 : MsV w v n M) (h2 : MsV w v' n M) : Calls Try.prog 29 #[v, v'] w fun e w' => e = .returned (.bool true) ∧ New w w' := by
  rcases h1 with ⟨hl, A, cap, rfl⟩ | ⟨b, off, cap, rfl, _, hc⟩
  · rcases h2 with ⟨_, A', cap', rfl⟩ | ⟨b', off', cap', rfl, _⟩
    · exact equal_nil A A' cap cap' w
    · subst hl; exact equal_nil A _ cap cap' w
  · rcases h2 with ⟨hl, A', cap', rfl⟩ | ⟨b', off', cap', rfl, _, hc'⟩
    · subst hl; exact equal_nil _ A' cap cap' w
    · exact equal_some b off cap b' off' cap' n M w hn hc hc'
set_option maxHeartbeats 1600000 in
theorem sameB_any (ca af : Int) (v v' : Value) (n : Nat) (M : Nat → Ms) (ov re : Int) (fz : Bool) (w : World) (hn : n ≤ 1000) (h1 : MsV w v n M) (h2 : MsV w v' n M) :
    Calls Try.prog 21 #[.agg #[.int .i64 ca, .int .i64 af, v, .int .i64 ov, .int .i64 re, .bool fz], .agg #[.int .i64 ca, .int .i64 af, v', .int .i64 ov, .int .i64 re, .bool fz]] w fun e w' => e = .returned (.bool true) ∧ New w w' := by
  have H1 := Lib.hid h1
  have H2 := Lib.hid h2
  clear h1 h2
  go_enter Try.func21, Try.ntmps21
  go_wp2_with fail
  refine (same_v v v' n M _ hn (H1.out.new (((new0 w).alloc _).alloc _)) (H2.out.new (((new0 w).alloc _).alloc _))).mono ?_
  rintro e w1 ⟨rfl, g1⟩
  have G1 := Lib.hid g1
  clear g1
  go_wp2_with fail
  go_ret
  exact ⟨by simp, by repeat (first | with_reducible exact new0 _ | with_reducible apply New.alloc | with_reducible apply New.drewN | with_reducible apply New.drew | (with_reducible refine New.setCell ?_ (by simp <;> omega) _) | (with_reducible refine New.trans ?_ G1.out))⟩
theorem sameB_v (u u' : Value) (ca af : Int) (n : Nat) (M : Nat → Ms) (ov re : Int) (fz : Bool) (w : World) (hn : n ≤ 1000) (h1 : BufV w u ca af n M ov re fz) (h2 : BufV w u' ca af n M ov re fz) : Calls Try.prog 21 #[u, u'] w fun e w' => e = .returned (.bool true) ∧ New w w' := by
  obtain ⟨v, rfl, h1⟩ := h1
  obtain ⟨v', rfl, h2⟩ := h2
  exact sameB_any ca af v v' n M ov re fz w hn h1 h2
end Go.Proofs.Ytedbjnojogjnkaa
