/-
  A buffer copied, and whose the copy's samples are.
-/
import Derived.Test.YtedbjnojogjnkaaCl
namespace Go.Proofs.Ytedbjnojogjnkaa
open Go.RowKit
def OwnPost (w : World) (ca af : Int) (n : Nat) (M : Nat → Ms) (ov re : Int) (fz : Bool) (e : Ending) (w' : World) : Prop := ∃ v, e = .returned (.agg #[.int .i64 ca, .int .i64 af, v, .int .i64 ov, .int .i64 re, .bool fz]) ∧ w'.ownsRow (w.heap.size + 1 + 1) 26 3 v n (flat n 3 (mF M)) ∧ New w w'
set_option maxHeartbeats 1600000 in
theorem cloneB_own (ca af : Int) (A : Option Addr) (n cap : Nat) (M : Nat → Ms) (ov re : Int) (fz : Bool) (w : World) (hM : MsV w (.slice A n cap) n M) (hn : n ≤ 1000) :
    Calls Try.prog 47 #[.agg #[.int .i64 ca, .int .i64 af, .slice A n cap, .int .i64 ov, .int .i64 re, .bool fz]] w (OwnPost w ca af n M ov re fz) := by
  have HM := Lib.hid hM
  clear hM
  have A1 := Lib.hid ((blk_alloc w #[.int .i64 ca, .int .i64 af, .slice A n cap, .int .i64 ov, .int .i64 re, .bool fz] 24 _ rfl).new ((new0 _).alloc (.cells #[.int .i64 0, .int .i64 0, .slice none 0 0, .int .i64 0, .int .i64 0, .bool false] 24)))
  have B1 := Lib.hid (blk_alloc (w.alloc (.cells #[.int .i64 ca, .int .i64 af, .slice A n cap, .int .i64 ov, .int .i64 re, .bool fz] 24)) #[.int .i64 0, .int .i64 0, .slice none 0 0, .int .i64 0, .int .i64 0, .bool false] 24 (w.heap.size + 1) (by simp))
  go_enter Try.func47, Try.ntmps47
  go_wp2_with fail
  refine (clone_v _ n M _ hn (HM.out.new (((new0 w).alloc _).alloc _))).mono ?_
  rintro e w1 ⟨v1, rfl, ho, g1⟩
  obtain ⟨A1v, c1v, rfl⟩ := (msV_row (row_own ho)).len
  obtain ⟨k0, k1, k2, k3, k4, k5, kf, kz⟩ := (A1.out.new g1).c6
  obtain ⟨j0, j1, j2, j3, j4, j5, jf, jz⟩ := (B1.out.new g1).c6
  have H1 := Lib.hid g1
  have hbs : w.heap.size + 1 + 1 ≤ w1.heap.size := by have := New.size g1; simpa using this
  have HO := Lib.hid (show w1.ownsRow (w.heap.size + 1 + 1) 26 3 (.slice A1v n c1v) n (flat n 3 (mF M)) by simpa using ho)
  clear g1 ho
  go_wp2_with fail
  refine bodyPost_ret (v := .agg #[.int .i64 ca, .int .i64 af, .slice A1v n c1v, .int .i64 ov, .int .i64 re, .bool fz]) (by go_light; simp [results, Try.results47, go_sem, *]) rfl ?_
  refine ⟨_, rfl, ?_, by repeat (first | with_reducible exact new0 _ | with_reducible apply New.alloc | with_reducible apply New.drewN | with_reducible apply New.drew | (with_reducible refine New.setCell ?_ (by simp <;> omega) _) | (with_reducible refine New.trans ?_ H1.out))⟩
  repeat (with_reducible refine ownsRow_setCell_below ?_ (by first | (simp; done) | (simp; omega)) _)
  exact HO.out
end Go.Proofs.Ytedbjnojogjnkaa
