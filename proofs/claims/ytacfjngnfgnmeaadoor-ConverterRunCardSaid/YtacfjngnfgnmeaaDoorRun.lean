/-
  A whole script: Run, and the reference's Run.
-/
import Derived.Test.YtacfjngnfgnmeaaDoorDo
namespace Go.Proofs.YtacfjngnfgnmeaaDoor
open Go.RowKit

structure Cv where
  s : Int
  cu : Int
  tg : Int
def cvE (mn mx st : Int) (c : Cv) (k v : Int) : Int := stE c.s c.cu c.tg mn mx st k v
def stp (st : Int) (c : Cv) (k v : Int) : Cv := ⟨stS c.s c.cu c.tg st k v, stC c.cu c.tg st k v, stT c.tg k v⟩
def runN (st : Int) (K V : Nat → Int) (c : Cv) : Nat → Cv
  | 0 => c
  | n + 1 => stp st (runN st K V c n) (K n) (V n)
/-- The first n steps go. -/
def Goes (mn mx st : Int) (K V : Nat → Int) (c : Cv) (n : Nat) : Prop := ∀ j, j < n → cvE mn mx st (runN st K V c j) (K j) (V j) = 0
/-- How many of the first n steps go. -/
def runJ (mn mx st : Int) (K V : Nat → Int) (c : Cv) : Nat → Nat
  | 0 => 0
  | n + 1 => if runJ mn mx st K V c n = n ∧ cvE mn mx st (runN st K V c n) (K n) (V n) = 0 then n + 1 else runJ mn mx st K V c n
theorem runJ_le {mn mx st : Int} {K V : Nat → Int} {c : Cv} (n : Nat) : runJ mn mx st K V c n ≤ n := by
  induction n with
  | zero => simp [runJ]
  | succ n ih => unfold runJ; split <;> omega
theorem runJ_goes {mn mx st : Int} {K V : Nat → Int} {c : Cv} {n : Nat} (h : Goes mn mx st K V c n) : runJ mn mx st K V c n = n := by
  induction n with
  | zero => rfl
  | succ n ih =>
    have := ih fun j hj => h j (by omega)
    unfold runJ
    rw [if_pos ⟨this, h n (by omega)⟩]
theorem runJ_stops {mn mx st : Int} {K V : Nat → Int} {c : Cv} {n j : Nat} (hj : j < n) (h : Goes mn mx st K V c j) (hb : cvE mn mx st (runN st K V c j) (K j) (V j) ≠ 0) : runJ mn mx st K V c n = j := by
  induction n with
  | zero => omega
  | succ n ih =>
    unfold runJ
    by_cases e : j = n
    · subst e
      rw [if_neg (fun x => hb x.2)]
      exact runJ_goes h
    · have := ih (by omega)
      rw [if_neg (fun x => by omega)]
      exact this
/-- The index that a run tells: of the first step that does not go, or -1. -/
def runI (mn mx st : Int) (K V : Nat → Int) (c : Cv) (n : Nat) : Int := if runJ mn mx st K V c n = n then -1 else (runJ mn mx st K V c n : Int)
/-- What a run leads to. -/
def runC (mn mx st : Int) (K V : Nat → Int) (c : Cv) (n : Nat) : Cv := runN st K V c (runJ mn mx st K V c n)
theorem run_goes {mn mx st : Int} {K V : Nat → Int} {c : Cv} {n : Nat} (h : Goes mn mx st K V c n) : runI mn mx st K V c n = -1 ∧ runC mn mx st K V c n = runN st K V c n := by
  unfold runI runC; rw [runJ_goes h, if_pos rfl]; exact ⟨rfl, rfl⟩
theorem run_stops {mn mx st : Int} {K V : Nat → Int} {c : Cv} {n j : Nat} (hj : j < n) (h : Goes mn mx st K V c j) (hb : cvE mn mx st (runN st K V c j) (K j) (V j) ≠ 0) : runI mn mx st K V c n = j ∧ runC mn mx st K V c n = runN st K V c j := by
  unfold runI runC; rw [runJ_stops hj h hb, if_neg (by omega)]; exact ⟨rfl, rfl⟩
theorem runN_valid {mn mx st : Int} {K V : Nat → Int} {c : Cv} (hv : valE c.s c.cu c.tg mn mx st = 0) {n : Nat} (h : Goes mn mx st K V c n) : valE (runN st K V c n).s (runN st K V c n).cu (runN st K V c n).tg mn mx st = 0 := by
  induction n with
  | zero => exact hv
  | succ n _ => exact st_valid (h n (by omega))
theorem goes_snoc {mn mx st : Int} {K V : Nat → Int} {c : Cv} {n : Nat} (h : Goes mn mx st K V c n) (he : cvE mn mx st (runN st K V c n) (K n) (V n) = 0) : Goes mn mx st K V c (n + 1) := by
  intro j hj
  by_cases e : j = n
  · subst e; exact he
  · exact h j (by omega)

/-- A block of memory holds a converter, and may be written. -/
def Blk (w : World) (p : Nat) (s cu tg mn mx st : Int) : Prop := w.cell? ⟨p, 0, none⟩ = some (.int .i64 s) ∧ w.cell? ⟨p, 1, none⟩ = some (.int .i64 cu) ∧ w.cell? ⟨p, 2, none⟩ = some (.int .i64 tg) ∧ w.cell? ⟨p, 3, none⟩ = some (.int .i64 mn) ∧ w.cell? ⟨p, 4, none⟩ = some (.int .i64 mx) ∧ w.cell? ⟨p, 5, none⟩ = some (.int .i64 st) ∧ ∀ o, w.frozen? ⟨p, o, none⟩ = false
theorem Blk.new {W w1 : World} {p : Nat} {s cu tg mn mx st : Int} (h : Blk W p s cu tg mn mx st) (hb : New W w1) (hp : p < W.heap.size) : Blk w1 p s cu tg mn mx st := by
  obtain ⟨h0, h1, h2, h3, h4, h5, hf⟩ := h
  obtain ⟨hc, hg⟩ := ncell hb
  exact ⟨(hc _ _ hp).trans h0, (hc _ _ hp).trans h1, (hc _ _ hp).trans h2, (hc _ _ hp).trans h3, (hc _ _ hp).trans h4, (hc _ _ hp).trans h5, fun o => (hg _ _ hp).trans (hf o)⟩
theorem Blk.alloc (w : World) (s cu tg mn mx st : Int) : Blk (w.alloc (.cells #[.int .i64 s, .int .i64 cu, .int .i64 tg, .int .i64 mn, .int .i64 mx, .int .i64 st] 23)) w.heap.size s cu tg mn mx st := by
  refine ⟨?_, ?_, ?_, ?_, ?_, ?_, fun o => ?_⟩ <;> simp [go_sem]
/-- The steps of a script lie in memory. -/
def Stps (w : World) (b off n : Nat) (K V : Nat → Int) : Prop := b < w.heap.size ∧ ∀ j, j < n → w.cell? ⟨b, off + j * 2, none⟩ = some (.int .i64 (K j)) ∧ w.cell? ⟨b, off + j * 2 + 1, none⟩ = some (.int .i64 (V j))
theorem Stps.new {W w1 : World} {b off n : Nat} {K V : Nat → Int} (h : Stps W b off n K V) (hb : New W w1) : Stps w1 b off n K V :=
  ⟨by have := New.size hb; have := h.1; omega, fun j hj => ⟨((ncell hb).1 _ _ h.1).trans (h.2 j hj).1, ((ncell hb).1 _ _ h.1).trans (h.2 j hj).2⟩⟩

/-- At the head of a round of Run. -/
def Rel (w : World) (mn mx st : Int) (K V : Nat → Int) (c : Cv) (k : Nat) (wr : World) : Prop :=
  Goes mn mx st K V c k ∧ New w wr ∧ w.heap.size + 1 < wr.heap.size ∧
  Blk wr w.heap.size (runN st K V c k).s (runN st K V c k).cu (runN st K V c k).tg mn mx st ∧ Blk wr (w.heap.size + 1) 0 0 0 0 0 0

set_option maxHeartbeats 800000 in
theorem run_any (c : Cv) (mn mx st : Int) (b off n cap : Nat) (K V : Nat → Int) (w : World) (hN : Nm w) (hv : valE c.s c.cu c.tg mn mx st = 0) (hn : n ≤ 200) (hS : Stps w b off n K V) :
    Calls Tryd.prog 24 #[.agg #[.int .i64 c.s, .int .i64 c.cu, .int .i64 c.tg, .int .i64 mn, .int .i64 mx, .int .i64 st], .slice (some ⟨b, off, none⟩) n cap] w fun e w' =>
      e = .returned (.tuple #[.agg #[.int .i64 (runC mn mx st K V c n).s, .int .i64 (runC mn mx st K V c n).cu, .int .i64 (runC mn mx st K V c n).tg, .int .i64 mn, .int .i64 mx, .int .i64 st], .int .i64 (runI mn mx st K V c n), .int .i64 0]) ∧ New w w' := by
  have HN := Lib.hid hN
  have HS := Lib.hid hS
  clear hS hN
  go_enter Tryd.func24, Tryd.ntmps24
  go_wp2_with (first | (go_at_call 14; refine (valid_any _ _ _ _ _ _ _ ((HN.out.alloc _).alloc _)).mono ?_; rintro e w' ⟨rfl, hw1⟩))
  have HW := Lib.hid hw1
  clear hw1
  go_loopw [24] (fun i wr => ∃ k : Nat, k ≤ n ∧ i = .int .i64 k ∧ Rel w mn mx st K V c k wr) (fun i _ => n - (intOf i).toNat)
  case atStart =>
    refine ⟨0, by omega, rfl, fun j hj => absurd hj (by omega), ((new0 w).alloc _ |>.alloc _).trans HW.out, by have := New.size HW.out; simp at this; omega, ?_, ?_⟩
    · exact (((Blk.alloc w _ _ _ _ _ _).new ((new0 _).alloc _) (by simp)).new HW.out (by simp; omega))
    · have h := Blk.alloc (w.alloc (.cells #[.int .i64 c.s, .int .i64 c.cu, .int .i64 c.tg, .int .i64 mn, .int .i64 mx, .int .i64 st] 23)) 0 0 0 0 0 0
      have e : (w.alloc (.cells #[.int .i64 c.s, .int .i64 c.cu, .int .i64 c.tg, .int .i64 mn, .int .i64 mx, .int .i64 st] 23)).heap.size = w.heap.size + 1 := by simp
      rw [e] at h
      exact h.new HW.out (by simp)
  case round =>
    obtain ⟨k, hk, rfl, hG, hNw, hz1, hB1, hB2⟩ := hrel
    have hNw' : New w wr := hNw
    have hNr : Nm wr := HN.out.below hNw'
    have hz0 : w.heap.size < wr.heap.size := by omega
    by_cases hlt : k < n
    · obtain ⟨c0, c1⟩ := (HS.out.new hNw').2 k hlt
      have hbz : b < wr.heap.size := (HS.out.new hNw').1
      have HB1 := Lib.hid hB1
      have HB2 := Lib.hid hB2
      obtain ⟨k0, k1, k2, k3, k4, k5, hf1⟩ := hB1
      have HG := Lib.hid hG
      have HNw := Lib.hid hNw
      have HNr := Lib.hid hNr
      clear hG hNw hNw' hNr hv hB2
      by_cases hE : cvE mn mx st (runN st K V c k) (K k) (V k) = 0
      · have HE := Lib.hid hE
        clear hE
        go_wp2_with (go_at_call 40; refine (do_ok _ _ _ _ _ _ _ _ _ (HNr.out.alloc _) HE.out).mono ?_; rintro e w2 ⟨rfl, hw2⟩; have hw2' := ((new0 wr).alloc _).trans hw2; obtain ⟨m0, m1, m2, m3, m4, m5, mf1⟩ := HB1.out.new hw2' hz0; obtain ⟨n0, n1, n2, n3, n4, n5, nf2⟩ := HB2.out.new hw2' hz1; have hy : wr.heap.size < w2.heap.size := (by have := New.size hw2; simp at this; omega); have hy0 : w.heap.size < w2.heap.size := (by omega); have hy1 : w.heap.size + 1 < w2.heap.size := (by omega); have HW2 := Lib.hid hw2'; clear hw2 hw2')
        go_roundw
        case rel =>
          refine ⟨k + 1, by omega, by go_num, goes_snoc HG.out HE.out, (by repeat (first | with_reducible exact new0 _ | with_reducible exact HNw.out | with_reducible apply New.alloc | (with_reducible refine New.setCell ?_ (by simp <;> omega) _) | (with_reducible refine New.trans ?_ HW2.out))), by simp; omega, ?_, ?_⟩
          · refine ⟨?_, ?_, ?_, ?_, ?_, ?_, fun o => ?_⟩ <;> (go_light; simp [go_sem, runN, stp, *])
          · refine ⟨?_, ?_, ?_, ?_, ?_, ?_, fun o => ?_⟩ <;> (go_light; simp [go_sem, *])
        case measure => simp [intOf]; omega
      · have HE := Lib.hid hE
        have hE' : (cvE mn mx st (runN st K V c k) (K k) (V k) != 0) = true := by simpa using hE
        clear hE
        unfold cvE at hE'
        go_wp2_with (go_at_call 40; refine (do_err _ _ _ _ _ _ _ _ _ (HNr.out.alloc _) HE.out).mono ?_; rintro e w2 ⟨rfl, hw2⟩; have hw2' := ((new0 wr).alloc _).trans hw2; obtain ⟨m0, m1, m2, m3, m4, m5, mf1⟩ := HB1.out.new hw2' hz0; obtain ⟨n0, n1, n2, n3, n4, n5, nf2⟩ := HB2.out.new hw2' hz1; have hy : wr.heap.size < w2.heap.size := (by have := New.size hw2; simp at this; omega); have hy0 : w.heap.size < w2.heap.size := (by omega); have hy1 : w.heap.size + 1 < w2.heap.size := (by omega); have HW2 := Lib.hid hw2'; clear hw2 hw2')
        have hJ := run_stops hlt HG.out HE.out
        refine bodyPost_ret (v := .tuple #[.agg #[.int .i64 (runN st K V c k).s, .int .i64 (runN st K V c k).cu, .int .i64 (runN st K V c k).tg, .int .i64 mn, .int .i64 mx, .int .i64 st], .int .i64 k, .int .i64 0]) (by clear hJ; go_light; simp [results, Tryd.results24, go_sem, *]) rfl ⟨?_, (by repeat (first | with_reducible exact new0 _ | with_reducible exact HNw.out | with_reducible apply New.alloc | (with_reducible refine New.setCell ?_ (by simp <;> omega) _) | (with_reducible refine New.trans ?_ HW2.out)))⟩
        rw [hJ.1, hJ.2]
    · have e : k = n := by omega
      subst e
      obtain ⟨k0, k1, k2, k3, k4, k5, hf1⟩ := hB1
      obtain ⟨l0, l1, l2, l3, l4, l5, hf2⟩ := hB2
      have HG := Lib.hid hG
      have HNw := Lib.hid hNw
      clear hG hNw hNw' hNr hv
      go_wp2
      have hJ := run_goes HG.out
      refine bodyPost_ret (v := .tuple #[.agg #[.int .i64 (runN st K V c k).s, .int .i64 (runN st K V c k).cu, .int .i64 (runN st K V c k).tg, .int .i64 mn, .int .i64 mx, .int .i64 st], .int .i64 (-1), .int .i64 0]) (by clear hJ; go_light; simp [results, Tryd.results24, go_sem, *]) rfl ⟨?_, (by repeat (first | with_reducible exact new0 _ | with_reducible exact HNw.out | with_reducible apply New.alloc | (with_reducible refine New.setCell ?_ (by simp <;> omega) _)))⟩
      rw [hJ.1, hJ.2]
end Go.Proofs.YtacfjngnfgnmeaaDoor
