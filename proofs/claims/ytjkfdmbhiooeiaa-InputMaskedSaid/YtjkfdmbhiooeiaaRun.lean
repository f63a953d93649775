/-
  Run, by the program.
-/
import Derived.Test.YtjkfdmbhiooeiaaLists
import Derived.Test.YtjkfdmbhiooeiaaOrd
namespace Go.Proofs.Ytjkfdmbhiooeiaa
open Go.RowKit

def FC (f : Fl) : Array Value := #[.int .i64 f.s, .int .i64 f.c, .int .i64 f.n]
def SC (s : Sm) : Array Value := #[.bool s.a, .bool s.b, .int .i64 s.g, .bool s.v]
def RunRel (w : World) (p : Nat) (nm : ByteArray) (ma ri fa : Int) (s : Nat → Sm) (k : Nat) (v : Value) (wr : World) : Prop :=
  wr.ownsRow (p + 1) 3 1 v k (ints (lst ma ri fa s k)) ∧ New w wr ∧ Blk wr w.heap.size #[.string nm, .int .i64 ma, .int .i64 ri, .int .i64 fa] ∧ Blk wr p #[.int .i64 (flt ma ri fa s k).s, .int .i64 (flt ma ri fa s k).c, .int .i64 (flt ma ri fa s k).n] ∧ w.heap.size < p
theorem run_grow {w wr w3 : World} {p : Nat} {nm : ByteArray} {ma ri fa : Int} {s : Nat → Sm} {k : Nat} {v v' : Value} {cs : Array Value} {t1 : TypeId} (hz : w.heap.size < p)
    (h : wr.ownsRow (p + 1) 3 1 v k (ints (lst ma ri fa s k)) ∧ New w wr ∧ Blk wr w.heap.size #[.string nm, .int .i64 ma, .int .i64 ri, .int .i64 fa] ∧ Blk wr p #[.int .i64 (flt ma ri fa s (k + 1)).s, .int .i64 (flt ma ri fa s (k + 1)).c, .int .i64 (flt ma ri fa s (k + 1)).n] ∧ w.heap.size < p)
    (hown : w3.ownsRow (p + 1) 3 1 v' (k + 1) (ints (lst ma ri fa s k) ++ [.int .i64 (flt ma ri fa s (k + 1)).s])) (hg : (wr.alloc (.cells cs t1)).grownBy w3 v.ownBlock) : RunRel w p nm ma ri fa s (k + 1) v' w3 := by
  obtain ⟨ho, hn, hA, hB, _⟩ := h
  have hlow : ∀ j, v.ownBlock = some j → p + 1 ≤ j := fun j hj => (ho.lt j hj).1
  have hA1 := hA.1
  refine ⟨?_, Below.grown (hn.alloc _) hg (by simp; omega) (fun j hj => by have := hlow j hj; omega), (hA.new ((new0 _).alloc _)).grown hg (fun e => by have := hlow _ e.symm; omega), (hB.new ((new0 _).alloc _)).grown hg (fun e => by have := hlow _ e.symm; omega), hz⟩
  simpa [ints, lst] using hown
theorem keep8 {W W' : World} {p q : Nat} {a0 a1 a2 a3 b0 b1 b2 b3 : Value} (h1 : Blk W p #[a0, a1, a2, a3]) (h2 : Blk W q #[b0, b1, b2, b3]) (hn : New W W') :
    W'.cell? ⟨p, 0, none⟩ = some a0 ∧ W'.cell? ⟨p, 1, none⟩ = some a1 ∧ W'.cell? ⟨p, 2, none⟩ = some a2 ∧ W'.cell? ⟨p, 3, none⟩ = some a3 ∧ W'.cell? ⟨q, 0, none⟩ = some b0 ∧ W'.cell? ⟨q, 1, none⟩ = some b1 ∧ W'.cell? ⟨q, 2, none⟩ = some b2 ∧ W'.cell? ⟨q, 3, none⟩ = some b3 := by
  obtain ⟨k0, k1, k2, k3, _⟩ := (h1.new hn).c4
  obtain ⟨l0, l1, l2, l3, _⟩ := (h2.new hn).c4
  exact ⟨k0, k1, k2, k3, l0, l1, l2, l3⟩
theorem cell_set3 {W : World} {h p : Nat} (e : h ≠ p) (a b c : Value) (o : Nat) : (((W.setCell ⟨p, 0, none⟩ a).setCell ⟨p, 1, none⟩ b).setCell ⟨p, 2, none⟩ c).cell? ⟨h, o, none⟩ = W.cell? ⟨h, o, none⟩ := by
  rw [World.cell?_setCell_other _ _ _ _ (by simp), World.cell?_setCell_other _ _ _ _ (by simp), World.cell?_setCell_other _ _ _ _ (by simp)]
theorem frozen_set3 {W : World} {h p : Nat} (a b c : Value) (o : Nat) : (((W.setCell ⟨p, 0, none⟩ a).setCell ⟨p, 1, none⟩ b).setCell ⟨p, 2, none⟩ c).frozen? ⟨h, o, none⟩ = W.frozen? ⟨h, o, none⟩ := by
  simp [go_sem]
theorem size_set3 {W : World} {p : Nat} (a b c : Value) : (((W.setCell ⟨p, 0, none⟩ a).setCell ⟨p, 1, none⟩ b).setCell ⟨p, 2, none⟩ c).heap.size = W.heap.size := by
  simp
theorem Blk.set3 {W : World} {h p : Nat} {cs : Array Value} (H : Blk W h cs) (e : h ≠ p) (a b c : Value) : Blk (((W.setCell ⟨p, 0, none⟩ a).setCell ⟨p, 1, none⟩ b).setCell ⟨p, 2, none⟩ c) h cs :=
  ⟨by rw [size_set3]; exact H.1, fun i hi => (cell_set3 e a b c i).trans (H.2.1 i hi), fun o => (frozen_set3 a b c o).trans (H.2.2 o)⟩
theorem Blk.put3 {W : World} {p : Nat} {a0 a1 a2 : Value} (H : Blk W p #[a0, a1, a2]) (a b c : Value) : Blk (((W.setCell ⟨p, 0, none⟩ a).setCell ⟨p, 1, none⟩ b).setCell ⟨p, 2, none⟩ c) p #[a, b, c] := by
  obtain ⟨h0, h1, h2, hf, hz⟩ := H.c3
  refine Blk.mk3 (by rw [size_set3]; exact hz) ?_ ?_ ?_ (fun o => (frozen_set3 a b c o).trans (hf o))
  · rw [World.cell?_setCell_other _ _ _ _ (by simp), World.cell?_setCell_other _ _ _ _ (by simp)]
    exact World.cell?_setCell_same _ _ _ h0
  · rw [World.cell?_setCell_other _ _ _ _ (by simp)]
    exact World.cell?_setCell_same (W.setCell ⟨p, 0, none⟩ a) _ _ ((World.cell?_setCell_other _ _ _ _ (by simp)).trans h1)
  · exact World.cell?_setCell_same ((W.setCell ⟨p, 0, none⟩ a).setCell ⟨p, 1, none⟩ b) _ _ ((World.cell?_setCell_other _ _ _ _ (by simp)).trans ((World.cell?_setCell_other _ _ _ _ (by simp)).trans h2))
theorem keep8_set {W : World} {h p q : Nat} {a0 a1 a2 a3 b0 b1 b2 b3 : Value} (h1 : Blk W h #[a0, a1, a2, a3]) (h2 : Blk W q #[b0, b1, b2, b3]) (e1 : h ≠ p) (e2 : q ≠ p) (a b c : Value) :
    (((W.setCell ⟨p, 0, none⟩ a).setCell ⟨p, 1, none⟩ b).setCell ⟨p, 2, none⟩ c).cell? ⟨h, 0, none⟩ = some a0 ∧ (((W.setCell ⟨p, 0, none⟩ a).setCell ⟨p, 1, none⟩ b).setCell ⟨p, 2, none⟩ c).cell? ⟨h, 1, none⟩ = some a1 ∧ (((W.setCell ⟨p, 0, none⟩ a).setCell ⟨p, 1, none⟩ b).setCell ⟨p, 2, none⟩ c).cell? ⟨h, 2, none⟩ = some a2 ∧ (((W.setCell ⟨p, 0, none⟩ a).setCell ⟨p, 1, none⟩ b).setCell ⟨p, 2, none⟩ c).cell? ⟨h, 3, none⟩ = some a3 ∧ (((W.setCell ⟨p, 0, none⟩ a).setCell ⟨p, 1, none⟩ b).setCell ⟨p, 2, none⟩ c).cell? ⟨q, 0, none⟩ = some b0 ∧ (((W.setCell ⟨p, 0, none⟩ a).setCell ⟨p, 1, none⟩ b).setCell ⟨p, 2, none⟩ c).cell? ⟨q, 1, none⟩ = some b1 ∧ (((W.setCell ⟨p, 0, none⟩ a).setCell ⟨p, 1, none⟩ b).setCell ⟨p, 2, none⟩ c).cell? ⟨q, 2, none⟩ = some b2 ∧ (((W.setCell ⟨p, 0, none⟩ a).setCell ⟨p, 1, none⟩ b).setCell ⟨p, 2, none⟩ c).cell? ⟨q, 3, none⟩ = some b3 := by
  obtain ⟨k0, k1, k2, k3, _⟩ := (h1.set3 e1 a b c).c4
  obtain ⟨l0, l1, l2, l3, _⟩ := (h2.set3 e2 a b c).c4
  exact ⟨k0, k1, k2, k3, l0, l1, l2, l3⟩
set_option maxHeartbeats 6400000 in
theorem run_gen (nm : ByteArray) (ma ri fa : Int) (b off n m cap : Nat) (s : Nat → Sm) (l : List Int) (er : Int) (w : World) (hv : valE nm ma ri fa = 0) (hn : n ≤ 1000) (hS : Smps w b off n s) (hg : ∀ j, j < m → goodK s j = true) (hm : (m = n ∧ l = lst ma ri fa s n ∧ er = 0) ∨ (m < n ∧ goodK s m = false ∧ l = [] ∧ er = 6)) :
    Calls Try.prog 20 #[.agg #[.string nm, .int .i64 ma, .int .i64 ri, .int .i64 fa], .slice (some ⟨b, off, none⟩) n cap] w (RunPost w l er) := by
  obtain ⟨i0, hi, hz0, hz1, hz2⟩ := info_parts info3
  obtain ⟨r1, r2, r3, r4⟩ := valE_zero hv
  have R := Lib.hid (And.intro r2 r4)
  have HV := Lib.hid hv
  have HS := Lib.hid hS
  have HG := Lib.hid hg
  have HM := Lib.hid hm
  have hmn : m ≤ n := by omega
  clear hv hS hg hm r1 r2 r3 r4
  have A := Lib.hid (blk_alloc w #[.string nm, .int .i64 ma, .int .i64 ri, .int .i64 fa] 23)
  go_enter Try.func20, Try.ntmps20
  go_wp2_with fail
  refine (valid_any nm ma ri fa _).mono ?_
  rw [HV.out]
  rintro e w1 ⟨rfl, g1⟩
  have A := Lib.hid (A.out.new g1)
  have H1 := Lib.hid (New.trans ((new0 w).alloc _) g1)
  have z1 : w.heap.size < w1.heap.size := A.out.1
  clear g1
  go_wp2_with fail
  go_loopw [7, 23] (fun v i wr => ∃ (k : Nat) (v0 : Value), k ≤ m ∧ i = .int .i64 k ∧ v0 = v ∧ RunRel w w1.heap.size nm ma ri fa s k v0 wr) (fun _ i _ => n - (intOf i).toNat)
  case atStart => exact ⟨0, _, by omega, rfl, rfl, World.ownsRow_nil _ _ _ _, by repeat (first | with_reducible exact new0 _ | with_reducible apply New.alloc | with_reducible apply New.drewN | with_reducible apply New.drew | (with_reducible refine New.setCell ?_ (by simp <;> omega) _) | (with_reducible refine New.trans ?_ H1.out)), A.out.new ((new0 _).alloc _), blk_alloc _ _ _, z1⟩
  case round =>
    obtain ⟨k, v, hk, rfl, rfl, ho, hNw, hA, hB, _⟩ := hrel
    have HO := Lib.hid ho
    have HNw := Lib.hid hNw
    have HA := Lib.hid hA
    have HB := Lib.hid hB
    by_cases hlt : k < m
    · obtain ⟨c0, c1, c2, c3⟩ := (HS.out.new hNw).2 k (by omega)
      have hbz : b < wr.heap.size := (HS.out.new hNw).1
      obtain ⟨k0, k1, k2, k3, kf, kz⟩ := hA.c4
      obtain ⟨l0, l1, l2, lf, lz⟩ := hB.c3
      clear ho hNw hA hB
      have hg := HG.out k hlt
      unfold goodK at hg
      have HGk := Lib.hid hg
      clear hg
      go_wp2_with (go_at_call 32; refine (samErr_any _ _ _ _ _).mono ?_; rw [HGk.out]; rintro e w' ⟨rfl, cs, rfl⟩)
      refine wp_abs (fun W => W.ownsRow (w1.heap.size + 1) 3 1 v k (ints (lst ma ri fa s k)) ∧ New wr W ∧ Blk W w.heap.size #[.string nm, .int .i64 ma, .int .i64 ri, .int .i64 fa] ∧ Blk W w1.heap.size #[.int .i64 (flt ma ri fa s k).s, .int .i64 (flt ma ri fa s k).c, .int .i64 (flt ma ri fa s k).n] ∧ Blk W wr.heap.size #[.bool (s k).a, .bool (s k).b, .int .i64 (s k).g, .bool (s k).v]) ?_ ?_
      · exact ⟨(HO.out.alloc _).alloc _, ((new0 _).alloc _).alloc _, HA.out.new (((new0 _).alloc _).alloc _), HB.out.new (((new0 _).alloc _).alloc _), (blk_alloc _ _ _).new ((new0 _).alloc _)⟩
      · rintro W ⟨o2, n2, a2, b2, d2⟩
        clear k0 k1 k2 k3 kf l0 l1 l2 lf c0 c1 c2 c3
        obtain ⟨k0, k1, k2, k3, kf, kz'⟩ := a2.c4
        obtain ⟨l0, l1, l2, lf, lz'⟩ := b2.c3
        obtain ⟨m0, m1, m2, m3, mf, mz'⟩ := d2.c4
        have O2 := Lib.hid o2
        have N2 := Lib.hid n2
        have A2 := Lib.hid a2
        have B2 := Lib.hid b2
        have C2 := Lib.hid d2
        obtain ⟨f1, f2⟩ := flt_n ma R.out.1 R.out.2 s k
        have F1 := Lib.hid (show (flt ma ri fa s k).n < 1000 by omega)
        have F2 := Lib.hid f1
        clear o2 n2 a2 b2 d2 f1 f2
        have e1 : w.heap.size ≠ w1.heap.size := by omega
        have e2 : w1.heap.size ≠ wr.heap.size := by omega
        have e3 : wr.heap.size ≠ w1.heap.size := by omega
        refine left_region (fun w' => w'.cell? ⟨w.heap.size, 0, none⟩ = some (.string nm) ∧ w'.cell? ⟨w.heap.size, 1, none⟩ = some (.int .i64 ma) ∧ w'.cell? ⟨w.heap.size, 2, none⟩ = some (.int .i64 ri) ∧ w'.cell? ⟨w.heap.size, 3, none⟩ = some (.int .i64 fa) ∧ w'.cell? ⟨wr.heap.size, 0, none⟩ = some (.bool (s k).a) ∧ w'.cell? ⟨wr.heap.size, 1, none⟩ = some (.bool (s k).b) ∧ w'.cell? ⟨wr.heap.size, 2, none⟩ = some (.int .i64 (s k).g) ∧ w'.cell? ⟨wr.heap.size, 3, none⟩ = some (.bool (s k).v) ∧ w'.cell? ⟨w1.heap.size, 0, none⟩ = some (.int .i64 (flt ma ri fa s k).s) ∧ w'.cell? ⟨w1.heap.size, 1, none⟩ = some (.int .i64 (flt ma ri fa s k).c) ∧ w'.cell? ⟨w1.heap.size, 2, none⟩ = some (.int .i64 (flt ma ri fa s k).n)) 6 (by kernel_rfl) ⟨k0, k1, k2, k3, m0, m1, m2, m3, l0, l1, l2⟩ (fun hHeld => ?_)
        refine left_take (i := 0) (o := { dst := some 32, op := .load 23 (.tmp 2), type := 23, pos := "input.go:136", after := #[], guard := none }) (v := .agg #[.string nm, .int .i64 ma, .int .i64 ri, .int .i64 fa]) rfl rfl (by kernel_rfl) (by kernel_rfl) (by kernel_rfl) (by kernel_rfl) (fun _ _ _ h => h) (Or.inl ⟨by rfl, by rintro x ⟨t0, t1, t2, t3, t4, t5, t6, t7, t8, t9, t10⟩; go_simp⟩) hHeld ?_
        try simp only [Act.put, List.setIfInBounds_toArray, List.set_cons_zero, List.set_cons_succ]
        refine left_take (i := 1) (o := { dst := some 33, op := .load 34 (.tmp 8), type := 34, pos := "input.go:136", after := #[], guard := none }) (v := .agg #[.int .i64 (flt ma ri fa s k).s, .int .i64 (flt ma ri fa s k).c, .int .i64 (flt ma ri fa s k).n]) rfl rfl (by kernel_rfl) (by kernel_rfl) (by kernel_rfl) (by kernel_rfl) (fun _ _ _ h => h) (Or.inl ⟨by rfl, by rintro x ⟨t0, t1, t2, t3, t4, t5, t6, t7, t8, t9, t10⟩; go_simp⟩) hHeld ?_
        try simp only [Act.put, List.setIfInBounds_toArray, List.set_cons_zero, List.set_cons_succ]
        refine left_take (i := 2) (o := { dst := some 34, op := .load 23 (.tmp 2), type := 23, pos := "input.go:136", after := #[], guard := none }) (v := .agg #[.string nm, .int .i64 ma, .int .i64 ri, .int .i64 fa]) rfl rfl (by kernel_rfl) (by kernel_rfl) (by kernel_rfl) (by kernel_rfl) (fun _ _ _ h => h) (Or.inl ⟨by rfl, by rintro x ⟨t0, t1, t2, t3, t4, t5, t6, t7, t8, t9, t10⟩; go_simp⟩) hHeld ?_
        try simp only [Act.put, List.setIfInBounds_toArray, List.set_cons_zero, List.set_cons_succ]
        refine left_take (i := 3) (o := { dst := some 35, op := .load 25 (.tmp 10), type := 25, pos := "input.go:136", after := #[], guard := none }) (v := .agg #[.bool (s k).a, .bool (s k).b, .int .i64 (s k).g, .bool (s k).v]) rfl rfl (by kernel_rfl) (by kernel_rfl) (by kernel_rfl) (by kernel_rfl) (fun _ _ _ h => h) (Or.inl ⟨by rfl, by rintro x ⟨t0, t1, t2, t3, t4, t5, t6, t7, t8, t9, t10⟩; go_simp⟩) hHeld ?_
        try simp only [Act.put, List.setIfInBounds_toArray, List.set_cons_zero, List.set_cons_succ]
        refine left_one (i := 4) rfl (by kernel_rfl) (fun K hK => ?_)
        go_simp
        refine (raw_any nm ma ri fa _ _ _ _ _).mono ?_
        rintro e w4 ⟨rfl, g4⟩
        have n4 : New W w4 := New.trans (New.drew (new0 _)) g4
        obtain ⟨k0, k1, k2, k3, _⟩ := (A2.out.new n4).c4
        obtain ⟨l0, l1, l2, _⟩ := (B2.out.new n4).c3
        obtain ⟨m0, m1, m2, m3, _⟩ := (C2.out.new n4).c4
        refine hK.out _ _ (fun _ => ⟨k0, k1, k2, k3, m0, m1, m2, m3, l0, l1, l2⟩) ?_
        clear hK K
        try simp only [Act.put, List.setIfInBounds_toArray, List.set_cons_zero, List.set_cons_succ]
        refine left_one (i := 5) rfl (by kernel_rfl) (fun K hK => ?_)
        go_simp
        refine (step_any nm ma ri fa _ _ _ _ _ F1.out F2.out).mono ?_
        rintro e w5 ⟨rfl, g5⟩
        have n5 : New W w5 := New.trans n4 g5
        obtain ⟨k0, k1, k2, k3, _⟩ := (A2.out.new n5).c4
        obtain ⟨l0, l1, l2, lf, _⟩ := (B2.out.new n5).c3
        obtain ⟨m0, m1, m2, m3, _⟩ := (C2.out.new n5).c4
        refine hK.out _ _ (fun _ => ⟨k0, k1, k2, k3, m0, m1, m2, m3, l0, l1, l2⟩) ?_
        clear hK K
        try simp only [Act.put, List.setIfInBounds_toArray, List.set_cons_zero, List.set_cons_succ]
        refine left_one (i := 6) rfl (by kernel_rfl) (fun K hK => ?_)
        go_simp
        refine hK.out _ _ (fun h => absurd rfl h) ?_
        clear hK K
        try simp only [Act.put, List.setIfInBounds_toArray, List.set_cons_zero, List.set_cons_succ]
        refine left_done (by kernel_rfl) ?_
        have G := Lib.hid n5
        have O5 := Lib.hid (own_new O2.out n5)
        have A5 := Lib.hid (A2.out.new n5)
        have B5 := Lib.hid (B2.out.new n5)
        clear n4 n5 g4 g5
        refine then_abs (fun X => X.ownsRow (w1.heap.size + 1) 3 1 v k (ints (lst ma ri fa s k)) ∧ New w X ∧ Blk X w.heap.size #[.string nm, .int .i64 ma, .int .i64 ri, .int .i64 fa] ∧ Blk X w1.heap.size #[.int .i64 (flt ma ri fa s (k + 1)).s, .int .i64 (flt ma ri fa s (k + 1)).c, .int .i64 (flt ma ri fa s (k + 1)).n]) ?_ ?_
        · exact ⟨ownsRow_setCell_below (ownsRow_setCell_below (ownsRow_setCell_below O5.out (by simp) _) (by simp) _) (by simp) _, ((((HNw.out.trans N2.out).trans G.out).setCell (by simp; omega) _).setCell (by simp; omega) _).setCell (by simp; omega) _, A5.out.set3 e1 _ _ _, B5.out.put3 _ _ _⟩
        · rintro X ⟨o6, n6, a6, b6⟩
          obtain ⟨l0, l1, l2, lf, lz⟩ := b6.c3
          have O6 := Lib.hid o6
          have N6 := Lib.hid n6
          have A6 := Lib.hid a6
          have B6 := Lib.hid b6
          clear o6 n6 a6 b6
          go_wp2_with (at_builtin; refine wpList_append_own _ rfl (.tmp 38) (.tmp 41) 39 rfl (w1.heap.size + 1) 3 i0 (.int .i64 0) 1 8 Try.underlying39 hi hz0 hz1 hz2 rfl (by decide) _ _ _ rfl (O6.out.alloc _) ⟨X.heap.size, 0, none⟩ 1 1 [.int .i64 (flt ma ri fa s (k + 1)).s] rfl rfl (by intro t u ht; match t, ht with | 0, ht => simp at ht; subst ht; simp [Addr.add, go_sem]) (by intro u hu; simp at hu; subst hu; rfl) (by unfold maxLen; omega) (by omega) (by simp; omega) ?_; intro v' w3 hown3 hgrow3 _)
          have R3 : RunRel w w1.heap.size nm ma ri fa s (k + 1) v' w3 := run_grow z1 ⟨O6.out, N6.out, A6.out, B6.out, z1⟩ hown3 hgrow3
          clear hown3 hgrow3
          go_roundw
          case rel => exact ⟨k + 1, _, by omega, by go_num, rfl, R3⟩
          case measure => simp [intOf]; omega
    · have e : k = m := by omega
      subst e
      rcases HM.out with ⟨e1, e2, e3⟩ | ⟨e1, e2, e3, e4⟩
      · subst e1 e2 e3
        clear hlt hk ho hNw hA hB
        go_wp2
        go_ret2
        exact ⟨_, rfl, intV_own (base := w1.heap.size + 1) (by rw [lst_len]; exact HO.out), HNw.out⟩
      · subst e3 e4
        obtain ⟨c0, c1, c2, c3⟩ := (HS.out.new hNw).2 k e1
        unfold goodK at e2
        have HGk := Lib.hid e2
        clear e2 hk ho hNw hA hB
        go_wp2_with (go_at_call 32; refine (samErr_any _ _ _ _ _).mono ?_; rw [HGk.out]; rintro e w' ⟨rfl, cs, rfl⟩)
        go_ret2
        exact ⟨_, rfl, .inl ⟨rfl, none, 0, rfl⟩, by repeat (first | with_reducible exact new0 _ | with_reducible apply New.alloc | with_reducible apply New.drewN | with_reducible apply New.drew | (with_reducible refine New.setCell ?_ (by simp <;> omega) _) | (with_reducible refine New.trans ?_ HNw.out))⟩
end Go.Proofs.Ytjkfdmbhiooeiaa
