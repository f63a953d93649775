/-
  What the small functions of layer 51 do.
-/
import Derived.Test.YtedbjnojogjnkaaBase
import Derived.Test.YtedbjnojogjnkaaOrd
namespace Go.Proofs.Ytedbjnojogjnkaa
open Go.RowKit

/-- A sample. -/
structure Ms where
  t : Int
  x : Int
  g : Bool
def insB (n lo hi : Int) : Bool := decide (lo ≤ n ∧ n ≤ hi)
def okM (m : Ms) : Bool := insB m.t 0 1099511627776 && insB m.x (-1099511627776) 1099511627776
/-- The cells of samples. -/
def mF (M : Nat → Ms) : Nat → Nat → Value := fun j i => if i = 0 then .int .i64 (M j).t else if i = 1 then .int .i64 (M j).x else .bool (M j).g
/-- These samples lie in block b, from the place off on. -/
def Mss (w : World) (b off n : Nat) (M : Nat → Ms) : Prop := b < w.heap.size ∧ ∀ j, j < n → w.cell? ⟨b, off + j * 3, none⟩ = some (.int .i64 (M j).t) ∧ w.cell? ⟨b, off + j * 3 + 1, none⟩ = some (.int .i64 (M j).x) ∧ w.cell? ⟨b, off + j * 3 + 2, none⟩ = some (.bool (M j).g)
theorem Mss.new {W w1 : World} {b off n : Nat} {M : Nat → Ms} (h : Mss W b off n M) (hb : New W w1) : Mss w1 b off n M :=
  ⟨by have := New.size hb; have := h.1; omega, fun j hj => by
    obtain ⟨h0, h1, h2⟩ := h.2 j hj
    exact ⟨((ncell hb).1 _ _ h.1).trans h0, ((ncell hb).1 _ _ h.1).trans h1, ((ncell hb).1 _ _ h.1).trans h2⟩⟩
def MsV (w : World) (v : Value) (n : Nat) (M : Nat → Ms) : Prop := (n = 0 ∧ ∃ (A : Option Addr) (cap : Nat), v = .slice A 0 cap) ∨ ∃ (b off cap : Nat), v = .slice (some ⟨b, off, none⟩) n cap ∧ n ≤ cap ∧ Mss w b off n M
theorem MsV.new {W W' : World} {v : Value} {n : Nat} {M : Nat → Ms} (h : MsV W v n M) (hn : New W W') : MsV W' v n M := by
  rcases h with h | ⟨b, off, cap, e, hc, h⟩
  · exact .inl h
  · exact .inr ⟨b, off, cap, e, hc, h.new hn⟩
theorem MsV.len {w : World} {v : Value} {n : Nat} {M : Nat → Ms} (h : MsV w v n M) : ∃ (A : Option Addr) (cap : Nat), v = .slice A n cap := by
  rcases h with ⟨rfl, A, cap, rfl⟩ | ⟨b, off, cap, rfl, _⟩
  · exact ⟨A, cap, rfl⟩
  · exact ⟨_, cap, rfl⟩
theorem MsV.congr {w : World} {v : Value} {n : Nat} {M M' : Nat → Ms} (h : MsV w v n M) (e : ∀ j, j < n → M j = M' j) : MsV w v n M' := by
  rcases h with h | ⟨b, off, cap, h1, hc, h2, h3⟩
  · exact .inl h
  · exact .inr ⟨b, off, cap, h1, hc, h2, fun j hj => by rw [← e j hj]; exact h3 j hj⟩
theorem msV_row {w : World} {v : Value} {n : Nat} {M : Nat → Ms} (h : Row w v n 3 (mF M)) : MsV w v n M := by
  rcases h with h | ⟨b, off, cap, h1, h2, h3⟩
  · exact .inl h
  · exact .inr ⟨b, off, cap, h1, h2.1, h2.2, fun j hj => ⟨h3 j hj 0 (by decide), h3 j hj 1 (by decide), h3 j hj 2 (by decide)⟩⟩
theorem mss_row {w : World} {b off n : Nat} {M : Nat → Ms} (h : Mss w b off n M) : ∀ j, j < n → ∀ i, i < 3 → w.cell? ⟨b, off + (j * 3 + i), none⟩ = some (mF M j i) := by
  intro j hj i hi
  obtain ⟨h0, h1, h2⟩ := h.2 j hj
  have : i = 0 ∨ i = 1 ∨ i = 2 := by omega
  rcases this with rfl | rfl | rfl
  · exact h0
  · exact h1
  · exact h2
theorem mF_one (M : Nat → Ms) : ∀ j i, (mF M j i).oneCell' = true := by
  intro j i
  unfold mF
  split
  · rfl
  · split <;> rfl

set_option maxHeartbeats 400000 in
theorem inside_any (n lo hi : Int) (w : World) : Calls Try.prog 44 #[.int .i64 n, .int .i64 lo, .int .i64 hi] w fun e w' => e = .returned (.bool (insB n lo hi)) ∧ w = w' := by
  go_enter Try.func44, Try.ntmps44
  go_wp2
  all_goals (go_ret; exact ⟨ret_bool (by go_light; unfold insB; rw [Bool.eq_iff_iff]; simp_all; try omega), rfl⟩)
set_option maxHeartbeats 800000 in
theorem samErr_any (t x : Int) (g : Bool) (w : World) : Calls Try.prog 40 #[.agg #[.int .i64 t, .int .i64 x, .bool g]] w fun e w' => e = .returned (.int .i64 (if okM ⟨t, x, g⟩ = true then 0 else 6)) ∧ ∃ cs, w' = w.alloc (.cells cs 26) := by
  go_enter Try.func40, Try.ntmps40
  go_wp2_with (go_at_call 44; refine (inside_any _ _ _ _).mono ?_; rintro e w' ⟨rfl, rfl⟩)
  all_goals (go_ret; exact ⟨ret_int (by go_light; simp_all [okM]), _, rfl⟩)
set_option maxHeartbeats 800000 in
theorem rsam_any (t x : Int) (g : Bool) (w : World) : Calls Try.prog 41 #[.agg #[.int .i64 t, .int .i64 x, .bool g]] w fun e w' => e = .returned (.bool (okM ⟨t, x, g⟩)) ∧ ∃ cs, w' = w.alloc (.cells cs 26) := by
  go_enter Try.func41, Try.ntmps41
  go_wp2
  all_goals (go_ret; exact ⟨ret_bool (by go_light; unfold okM insB; rw [Bool.eq_iff_iff]; simp_all; try omega), _, rfl⟩)
def fitB (ca af : Int) : Bool := insB ca 1 200 && insB af 0 200
set_option maxHeartbeats 400000 in
theorem fit_any (ca af : Int) (w : World) : Calls Try.prog 42 #[.int .i64 ca, .int .i64 af] w fun e w' => e = .returned (.bool (fitB ca af)) ∧ w = w' := by
  go_enter Try.func42, Try.ntmps42
  go_wp2_with (go_at_call 44; refine (inside_any _ _ _ _).mono ?_; rintro e w' ⟨rfl, rfl⟩)
  all_goals (go_ret; exact ⟨ret_bool (by go_light; simp_all [fitB]), rfl⟩)
set_option maxHeartbeats 400000 in
theorem fresh_any (ca af : Int) (w : World) : Calls Try.prog 43 #[.int .i64 ca, .int .i64 af] w fun e w' => e = .returned (.agg #[.int .i64 ca, .int .i64 af, .slice none 0 0, .int .i64 0, .int .i64 (-1), .bool false]) ∧ New w w' := by
  go_enter Try.func43, Try.ntmps43
  go_wp2
  refine bodyPost_ret (v := .agg #[.int .i64 ca, .int .i64 af, .slice none 0 0, .int .i64 0, .int .i64 (-1), .bool false]) (by go_light; simp [results, Try.results43, go_sem]) rfl ?_
  exact ⟨rfl, by repeat (first | with_reducible exact new0 _ | with_reducible apply New.alloc | with_reducible apply New.drewN | with_reducible apply New.drew | (with_reducible refine New.setCell ?_ (by simp <;> omega) _))⟩
/-- What New answers. -/
def NewPost (w : World) (ca af : Int) (e : Ending) (w' : World) : Prop := e = .returned (.tuple #[.agg (if fitB ca af = true then #[.int .i64 ca, .int .i64 af, .slice none 0 0, .int .i64 0, .int .i64 (-1), .bool false] else #[.int .i64 0, .int .i64 0, .slice none 0 0, .int .i64 0, .int .i64 0, .bool false]), .int .i64 (if fitB ca af = true then 0 else 6)]) ∧ New w w'
set_option maxHeartbeats 800000 in
theorem new_any (ca af : Int) (w : World) : Calls Try.prog 17 #[.int .i64 ca, .int .i64 af] w (NewPost w ca af) := by
  unfold NewPost
  by_cases h : fitB ca af = true
  · rw [if_pos h, if_pos h]
    have H := Lib.hid h
    clear h
    go_enter Try.func17, Try.ntmps17
    go_wp2_with (first
      | (go_at_call 42; refine (fit_any _ _ _).mono ?_; rw [H.out]; rintro e w' ⟨rfl, rfl⟩)
      | (go_at_call 43; refine (fresh_any _ _ _).mono ?_; rintro e w1 ⟨rfl, g1⟩; have B1 := (blk_alloc w #[.int .i64 0, .int .i64 0, .slice none 0 0, .int .i64 0, .int .i64 0, .bool false] 24 _ rfl).new g1; obtain ⟨k0, k1, k2, k3, k4, k5, kf, kz⟩ := B1.c6; have H1 := Lib.hid g1; clear g1))
    refine bodyPost_ret (v := .tuple #[.agg #[.int .i64 ca, .int .i64 af, .slice none 0 0, .int .i64 0, .int .i64 (-1), .bool false], .int .i64 0]) (by go_light; simp [results, Try.results17, go_sem, *]) rfl ?_
    exact ⟨rfl, by repeat (first | with_reducible exact new0 _ | with_reducible apply New.alloc | with_reducible apply New.drewN | with_reducible apply New.drew | (with_reducible refine New.setCell ?_ (by simp <;> omega) _) | (with_reducible refine New.trans ?_ H1.out))⟩
  · rw [if_neg h, if_neg h]
    have h' : fitB ca af = false := by simpa using h
    have H := Lib.hid h'
    clear h h'
    go_enter Try.func17, Try.ntmps17
    go_wp2_with (go_at_call 42; refine (fit_any _ _ _).mono ?_; rw [H.out]; rintro e w' ⟨rfl, rfl⟩)
    refine bodyPost_ret (v := .tuple #[.agg #[.int .i64 0, .int .i64 0, .slice none 0 0, .int .i64 0, .int .i64 0, .bool false], .int .i64 6]) (by go_light; simp [results, Try.results17, go_sem]) rfl ?_
    exact ⟨rfl, by repeat (first | with_reducible exact new0 _ | with_reducible apply New.alloc | with_reducible apply New.drewN | with_reducible apply New.drew | (with_reducible refine New.setCell ?_ (by simp <;> omega) _))⟩
set_option maxHeartbeats 800000 in
theorem rnew_any (ca af : Int) (w : World) : Calls Try.prog 18 #[.int .i64 ca, .int .i64 af] w (NewPost w ca af) := by
  unfold NewPost
  by_cases h : fitB ca af = true
  · rw [if_pos h, if_pos h]
    unfold fitB insB at h
    simp only [Bool.and_eq_true, decide_eq_true_eq] at h
    obtain ⟨⟨h1, h2⟩, h3, h4⟩ := h
    have e1 : ¬ ca < 1 := by omega
    have e2 : ¬ 200 < ca := by omega
    have e3 : ¬ af < 0 := by omega
    have e4 : ¬ 200 < af := by omega
    clear h1 h2 h3 h4
    go_enter Try.func18, Try.ntmps18
    go_wp2
    refine bodyPost_ret (v := .tuple #[.agg #[.int .i64 ca, .int .i64 af, .slice none 0 0, .int .i64 0, .int .i64 (-1), .bool false], .int .i64 0]) (by go_light; simp [results, Try.results18, go_sem]) rfl ?_
    exact ⟨rfl, by repeat (first | with_reducible exact new0 _ | with_reducible apply New.alloc | with_reducible apply New.drewN | with_reducible apply New.drew | (with_reducible refine New.setCell ?_ (by simp <;> omega) _))⟩
  · rw [if_neg h, if_neg h]
    unfold fitB insB at h
    simp only [Bool.and_eq_true, decide_eq_true_eq] at h
    have h5 : ca < 1 ∨ 200 < ca ∨ af < 0 ∨ 200 < af := by omega
    clear h
    go_enter Try.func18, Try.ntmps18
    go_wp2
    all_goals first
      | (refine bodyPost_ret (v := .tuple #[.agg #[.int .i64 0, .int .i64 0, .slice none 0 0, .int .i64 0, .int .i64 0, .bool false], .int .i64 6]) (by go_light; simp [results, Try.results18, go_sem]) rfl ?_
         exact ⟨rfl, by repeat (first | with_reducible exact new0 _ | with_reducible apply New.alloc | with_reducible apply New.drewN | with_reducible apply New.drew | (with_reducible refine New.setCell ?_ (by simp <;> omega) _))⟩)
      | (exfalso; omega)
      | (exfalso; simp_all; omega)
end Go.Proofs.Ytedbjnojogjnkaa
