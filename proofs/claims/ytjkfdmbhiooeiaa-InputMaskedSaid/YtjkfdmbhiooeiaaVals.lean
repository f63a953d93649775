/-
  Valid, by the program and by the reference.
-/
import Derived.Test.YtjkfdmbhiooeiaaIsn2
import Derived.Test.YtjkfdmbhiooeiaaBlk
namespace Go.Proofs.Ytjkfdmbhiooeiaa
open Go.RowKit

def nmB (s : ByteArray) : Bool := decide (1 ≤ s.size) && decide (s.size ≤ 20) && (List.range s.size).all fun k => if h : k < s.size then decide ((97 ≤ (s[k].toNat : Int) ∧ (s[k].toNat : Int) ≤ 122) ∨ (k ≠ 0 ∧ ((48 ≤ (s[k].toNat : Int) ∧ (s[k].toNat : Int) ≤ 57) ∨ (s[k].toNat : Int) = 95))) else true
theorem nmB_iff (s : ByteArray) : nmB s = true ↔ IsNm s := by
  unfold nmB IsNm
  simp only [Bool.and_eq_true, decide_eq_true_eq, List.all_eq_true, List.mem_range, and_assoc]
  refine and_congr_right fun _ => and_congr_right fun _ => forall_congr' fun k => imp_congr_right fun hk => ?_
  rw [dif_pos hk]
  simp only [decide_eq_true_eq]
  exact ⟨fun h _ => h, fun h => h hk⟩
theorem nmB_of {s : ByteArray} {b : Bool} (h : b = true ↔ IsNm s) : b = nmB s := by
  rw [Bool.eq_iff_iff, nmB_iff]; exact h
theorem isName_b (s : ByteArray) (w : World) : Calls Try.prog 35 #[.string s] w fun e w' => e = .returned (.bool (nmB s)) ∧ New w w' :=
  (isName_all s w).mono fun e w' ⟨⟨b, hb, h⟩, hn⟩ => ⟨by rw [hb, nmB_of h], hn⟩
theorem rname_b (s : ByteArray) (w : World) : Calls Try.prog 37 #[.string s] w fun e w' => e = .returned (.bool (nmB s)) ∧ w = w' :=
  (rname_all s w).mono fun e w' ⟨⟨b, hb, h⟩, hn⟩ => ⟨by rw [hb, nmB_of h], hn⟩

def valE (s : ByteArray) (ma ri fa : Int) : Int := if nmB s = false then 2 else if insB ma 0 1099511627776 = false ∨ insB ri 1 100 = false ∨ insB fa 1 100 = false then 6 else 0

set_option maxHeartbeats 1600000 in
theorem valid_any (nm : ByteArray) (ma ri fa : Int) (w : World) : Calls Try.prog 16 #[.agg #[.string nm, .int .i64 ma, .int .i64 ri, .int .i64 fa]] w fun e w' => e = .returned (.int .i64 (valE nm ma ri fa)) ∧ New w w' := by
  have B := blk_alloc w #[.string nm, .int .i64 ma, .int .i64 ri, .int .i64 fa] 23
  have hb : ∃ b, nmB nm = b := ⟨_, rfl⟩
  obtain ⟨b, hb⟩ := hb
  have HB := Lib.hid hb
  clear hb
  cases b
  · go_enter Try.func16, Try.ntmps16
    go_wp2_with fail
    refine (isName_b _ _).mono ?_
    rw [HB.out]
    rintro e w1 ⟨rfl, h1⟩
    have H1 := Lib.hid h1
    go_wp2_with fail
    go_ret
    exact ⟨ret_int (by simp [valE, HB.out]), by repeat (first | with_reducible exact new0 _ | with_reducible apply New.alloc | with_reducible apply New.drewN | with_reducible apply New.drew | (with_reducible refine New.setCell ?_ (by simp <;> omega) _) | (with_reducible refine New.trans ?_ H1.out))⟩
  · go_enter Try.func16, Try.ntmps16
    go_wp2_with fail
    refine (isName_b _ _).mono ?_
    rw [HB.out]
    rintro e w1 ⟨rfl, h1⟩
    have H1 := Lib.hid h1
    obtain ⟨k0, k1, k2, k3, kf, kz⟩ := (B.new h1).c4
    clear h1 B
    go_wp2_with (go_at_call 36; refine (inside_any _ _ _ _).mono ?_; rintro e w' ⟨rfl, rfl⟩)
    all_goals go_ret
    all_goals exact ⟨ret_int (by go_light; simp_all [valE, HB.out]), by repeat (first | with_reducible exact new0 _ | with_reducible apply New.alloc | with_reducible apply New.drewN | with_reducible apply New.drew | (with_reducible refine New.setCell ?_ (by simp <;> omega) _) | (with_reducible refine New.trans ?_ H1.out))⟩
set_option maxHeartbeats 1600000 in
theorem rvalid_any (nm : ByteArray) (ma ri fa : Int) (w : World) : Calls Try.prog 17 #[.agg #[.string nm, .int .i64 ma, .int .i64 ri, .int .i64 fa]] w fun e w' => e = .returned (.int .i64 (valE nm ma ri fa)) ∧ New w w' := by
  have B := blk_alloc w #[.string nm, .int .i64 ma, .int .i64 ri, .int .i64 fa] 23
  have hb : ∃ b, nmB nm = b := ⟨_, rfl⟩
  obtain ⟨b, hb⟩ := hb
  have HB := Lib.hid hb
  clear hb
  cases b
  · go_enter Try.func17, Try.ntmps17
    go_wp2_with fail
    refine (rname_b _ _).mono ?_
    rw [HB.out]
    rintro e w1 ⟨rfl, rfl⟩
    go_wp2_with fail
    go_ret
    exact ⟨ret_int (by simp [valE, HB.out]), by repeat (first | with_reducible exact new0 _ | with_reducible apply New.alloc | with_reducible apply New.drewN | with_reducible apply New.drew | (with_reducible refine New.setCell ?_ (by simp <;> omega) _))⟩
  · go_enter Try.func17, Try.ntmps17
    go_wp2_with fail
    refine (rname_b _ _).mono ?_
    rw [HB.out]
    rintro e w1 ⟨rfl, rfl⟩
    clear B
    go_wp2
    all_goals go_ret
    all_goals exact ⟨ret_int (by go_light; simp_all [valE, insB, HB.out]; try omega), by repeat (first | with_reducible exact new0 _ | with_reducible apply New.alloc | with_reducible apply New.drewN | with_reducible apply New.drew | (with_reducible refine New.setCell ?_ (by simp <;> omega) _))⟩
end Go.Proofs.Ytjkfdmbhiooeiaa
