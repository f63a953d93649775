/-
  The reference's lists of the commands that are allowed, both lists of a converter that is not valid, and lists compared and looked into.
-/
import Derived.Test.YtacfjngnfgnmeaaDoorAll
namespace Go.Proofs.YtacfjngnfgnmeaaDoor
open Go.RowKit

set_option maxHeartbeats 1600000 in
theorem rall_ok (s cu tg mn mx st : Int) (w : World) (hv : valE s cu tg mn mx st = 0) :
    Calls Tryd.prog 29 #[.agg #[.int .i64 s, .int .i64 cu, .int .i64 tg, .int .i64 mn, .int .i64 mx, .int .i64 st]] w (AllPost w (alL s cu 6)) := by
  obtain ⟨i0, hi, hz0, hz1, hz2⟩ := info_parts info3
  go_enter Tryd.func29, Tryd.ntmps29
  go_wp2_with (first | (go_at_call 15; refine (rvalid_any _ _ _ _ _ _ _).mono ?_; rintro e w' ⟨rfl, hw1⟩))
  have HB := Lib.hid ((Blk.alloc w s cu tg mn mx st).new hw1 (by simp))
  have HW1 := Lib.hid (New.trans ((new0 w).alloc _) hw1)
  have z1 : w.heap.size < w'.heap.size := by have := New.size hw1; simp at this; omega
  clear hw1
  go_loopw [3, 4] (fun v i wr => ∃ j : Nat, j ≤ 6 ∧ i = .int .i64 ((j : Int) + 1) ∧ AllRel w s cu tg mn mx st j v wr) (fun _ i _ => 7 - (intOf i).toNat)
  case atStart => exact ⟨0, by omega, rfl, World.ownsRow_nil _ _ _ _, HW1.out, z1, HB.out⟩
  case round =>
    obtain ⟨j, hj, rfl, hown, hNw, hz, hB⟩ := hrel
    by_cases hlt : j < 6
    · have HO := Lib.hid hown
      have HNw := Lib.hid hNw
      have HB := Lib.hid hB
      obtain ⟨k0, k1, k2, k3, k4, k5, kf⟩ := hB
      have hle := alL_le s cu j
      clear hown hNw hv
      by_cases hI : isaB s cu ((j : Int) + 1) = true
      · have hR : refB s cu ((j : Int) + 1) = true := by rw [isa_ref (by omega) (by omega)]; exact hI
        go_wp2_with (first
          | (go_at_call 37; refine (ref_any _ _ _ _ _ _ _ _).mono ?_; rintro e w2 ⟨rfl, cs, rfl⟩)
          | (at_builtin; refine wpList_append_own _ rfl (.tmp 15) (.tmp 17) 43 rfl (w.heap.size + 1) 3 i0 (.int .i64 0) 1 8 Tryd.underlying43 hi hz0 hz1 hz2 rfl (by decide) _ _ _ rfl ((HO.out.alloc _).alloc _) ⟨wr.heap.size + 1, 0, none⟩ 1 1 [.int .i64 ((j : Int) + 1)] rfl rfl (by intro t u ht; match t, ht with | 0, ht => simp at ht; subst ht; simp [Addr.add, go_sem]) (by intro u hu; simp at hu; subst hu; rfl) (by unfold maxLen; omega) (by omega) (by simp; omega) ?_; intro v' w3 hown3 hgrow3 _))
        have R := all_grow hI ⟨HO.out, HNw.out, hz, HB.out⟩ hown3 hgrow3
        clear hown3 hgrow3
        go_roundw
        case rel => exact ⟨j + 1, by omega, by go_num, R⟩
        case measure => simp [intOf]; omega
      · have hI' : refB s cu ((j : Int) + 1) = false := by rw [isa_ref (by omega) (by omega)]; simpa using hI
        have HI := Lib.hid hI
        clear hI
        go_wp2_with (go_at_call 37; refine (ref_any _ _ _ _ _ _ _ _).mono ?_; rintro e w2 ⟨rfl, cs, rfl⟩)
        go_roundw
        case rel =>
          refine ⟨j + 1, by omega, by go_num, ?_, HNw.out.alloc _, by simp; omega, HB.out.new ((new0 _).alloc _) hz⟩
          rw [alL_no HI.out]
          exact HO.out.alloc _
        case measure => simp [intOf]; omega
    · have e : j = 6 := by omega
      subst e
      clear hlt hj
      have HO := Lib.hid hown
      have HNw := Lib.hid hNw
      clear hown hNw hB hv
      go_wp2
      go_ret
      exact ⟨_, rfl, HO.out, HNw.out⟩
set_option maxHeartbeats 800000 in
theorem all_err (s cu tg mn mx st : Int) (w : World) (hN : Nm w) (hv : (valE s cu tg mn mx st != 0) = true) :
    Calls Tryd.prog 27 #[.agg #[.int .i64 s, .int .i64 cu, .int .i64 tg, .int .i64 mn, .int .i64 mx, .int .i64 st]] w (AllPost w []) := by
  have HN := Lib.hid hN
  clear hN
  go_enter Tryd.func27, Tryd.ntmps27
  go_wp2_with (first | (go_at_call 14; refine (valid_any _ _ _ _ _ _ _ (HN.out.alloc _)).mono ?_; rintro e w' ⟨rfl, hw1⟩))
  go_ret
  exact ⟨_, rfl, World.ownsRow_nil _ _ _ _, (by repeat (first | with_reducible exact new0 _ | with_reducible apply New.alloc | (with_reducible refine New.setCell ?_ (by simp <;> omega) _) | (with_reducible refine New.trans ?_ hw1)))⟩
set_option maxHeartbeats 800000 in
theorem rall_err (s cu tg mn mx st : Int) (w : World) (hv : (valE s cu tg mn mx st != 0) = true) :
    Calls Tryd.prog 29 #[.agg #[.int .i64 s, .int .i64 cu, .int .i64 tg, .int .i64 mn, .int .i64 mx, .int .i64 st]] w (AllPost w []) := by
  go_enter Tryd.func29, Tryd.ntmps29
  go_wp2_with (first | (go_at_call 15; refine (rvalid_any _ _ _ _ _ _ _).mono ?_; rintro e w' ⟨rfl, hw1⟩))
  go_ret
  exact ⟨_, rfl, World.ownsRow_nil _ _ _ _, (by repeat (first | with_reducible exact new0 _ | with_reducible apply New.alloc | (with_reducible refine New.setCell ?_ (by simp <;> omega) _) | (with_reducible refine New.trans ?_ hw1)))⟩

/-- A slice's value holds these integers. -/
def IntV (w : World) (v : Value) (l : List Int) : Prop := (l = [] ∧ ∃ (A : Option Addr) (cap : Nat), v = .slice A 0 cap) ∨ ∃ (b off cap : Nat), v = .slice (some ⟨b, off, none⟩) l.length cap ∧ b < w.heap.size ∧ ∀ j, j < l.length → w.cell? ⟨b, off + j, none⟩ = some (.int .i64 (l.getD j 0))
theorem IntV.new {W w1 : World} {v : Value} {l : List Int} (h : IntV W v l) (hb : New W w1) : IntV w1 v l := by
  rcases h with h | ⟨b, off, cap, h1, h2, h3⟩
  · exact .inl h
  · exact .inr ⟨b, off, cap, h1, by have := New.size hb; omega, fun j hj => ((ncell hb).1 _ _ h2).trans (h3 j hj)⟩
theorem intV_own {w : World} {base : Nat} {v : Value} {l : List Int} (h : w.ownsRow base 3 1 v l.length (ints l)) : IntV w v l := by
  have h0 := h
  rcases h.2 with ⟨rfl, hz⟩ | ⟨g, cap, cur, rfl, _, hg, _⟩
  · exact .inl ⟨List.length_eq_zero_iff.1 hz, none, 0, rfl⟩
  · refine .inr ⟨g, 0, cap, rfl, (Array.getElem?_eq_some_iff.1 hg).1, fun j hj => ?_⟩
    have c := h0.cells (g := g) rfl j (.int .i64 (l.getD j 0)) (by simp [ints, hj])
    have hadd : (⟨g, 0, none⟩ : Addr).add j = ⟨g, j, none⟩ := by unfold Addr.add; split <;> simp_all
    rw [hadd] at c
    simpa using c

set_option maxHeartbeats 800000 in
theorem equal_nil (A A' : Option Addr) (cap cap' : Nat) (w : World) : Calls Tryd.prog 28 #[.slice A 0 cap, .slice A' 0 cap'] w fun e w' => e = .returned (.bool true) ∧ New w w' := by
  go_enter Tryd.func28, Tryd.ntmps28
  go_wp2
  go_loopw [13] (fun i wr => i = .int .i64 0 ∧ wr = w) (fun _ _ => 0)
  case atStart => exact ⟨rfl, rfl⟩
  case round =>
    obtain ⟨rfl, rfl⟩ := hrel
    go_wp2
    go_ret
    exact ⟨rfl, new0 _⟩
set_option maxHeartbeats 1600000 in
theorem equal_some (b off cap b' off' cap' n : Nat) (Z : Nat → Int) (w : World) (hn : n ≤ 1000) (h1 : ∀ j, j < n → w.cell? ⟨b, off + j, none⟩ = some (.int .i64 (Z j))) (h2 : ∀ j, j < n → w.cell? ⟨b', off' + j, none⟩ = some (.int .i64 (Z j))) (hb : b < w.heap.size) (hb' : b' < w.heap.size) :
    Calls Tryd.prog 28 #[.slice (some ⟨b, off, none⟩) n cap, .slice (some ⟨b', off', none⟩) n cap'] w fun e w' => e = .returned (.bool true) ∧ New w w' := by
  have HZ1 := Lib.hid h1
  have HZ2 := Lib.hid h2
  clear h1 h2
  go_enter Tryd.func28, Tryd.ntmps28
  go_wp2
  go_loopw [13] (fun i wr => ∃ k : Nat, k ≤ n ∧ i = .int .i64 k ∧ New w wr) (fun i _ => n - (intOf i).toNat)
  case atStart => exact ⟨0, by omega, rfl, new0 _⟩
  case round =>
    obtain ⟨k, hk, rfl, hNw⟩ := hrel
    have HNw := Lib.hid hNw
    by_cases hlt : k < n
    · have c1 : wr.cell? ⟨b, off + k, none⟩ = some (.int .i64 (Z k)) := ((ncell hNw).1 _ _ hb).trans (HZ1.out k hlt)
      have c2 : wr.cell? ⟨b', off' + k, none⟩ = some (.int .i64 (Z k)) := ((ncell hNw).1 _ _ hb').trans (HZ2.out k hlt)
      clear hNw
      go_wp2_with fail
      go_quiet (fail)
      go_wp2
      go_roundw
      case rel => exact ⟨k + 1, by omega, by go_num, New.drewN HNw.out _⟩
      case measure => simp [intOf]; omega
    · clear hNw
      go_wp2
      go_ret
      exact ⟨rfl, HNw.out⟩
theorem equal_v (v v' : Value) (l : List Int) (w : World) (hn : l.length ≤ 1000) (h1 : IntV w v l) (h2 : IntV w v' l) : Calls Tryd.prog 28 #[v, v'] w fun e w' => e = .returned (.bool true) ∧ New w w' := by
  rcases h1 with ⟨hl, A, cap, rfl⟩ | ⟨b, off, cap, rfl, hb, hc⟩
  · rcases h2 with ⟨_, A', cap', rfl⟩ | ⟨b', off', cap', rfl, hb', _⟩
    · exact equal_nil A A' cap cap' w
    · subst hl; exact equal_nil A _ cap cap' w
  · rcases h2 with ⟨hl, A', cap', rfl⟩ | ⟨b', off', cap', rfl, hb', hc'⟩
    · subst hl; exact equal_nil _ A' cap cap' w
    · exact equal_some b off cap b' off' cap' l.length _ w hn hc hc' hb hb'
end Go.Proofs.YtacfjngnfgnmeaaDoor
