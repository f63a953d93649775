/-
  The walk of the statement ConverterRun.
-/
import Derived.Test.YtacfjngnfgnmeaaDoorClone
import Derived.Test.YtacfjngnfgnmeaaDoorOrd
import Derived.Test.YtacfjngnfgnmeaaDoorAbs
import Derived.Test.YtacfjngnfgnmeaaDoorLawArr
namespace Go.Proofs.YtacfjngnfgnmeaaDoor
open Go.RowKit

/-- The eight numbers that a run answers. -/
def rr (mn mx st : Int) (K V : Nat → Int) (c : Cv) (n : Nat) : Nat → Int :=
  if valE c.s c.cu c.tg mn mx st ≠ 0 then fun i => if i = 7 then valE c.s c.cu c.tg mn mx st else 0
  else if 200 < n then fun i => if i = 7 then 3 else 0
  else fun i => if i = 0 then (runC mn mx st K V c n).s else if i = 1 then (runC mn mx st K V c n).cu else if i = 2 then (runC mn mx st K V c n).tg else if i = 3 then mn else if i = 4 then mx else if i = 5 then st else if i = 6 then runI mn mx st K V c n else 0
theorem run_v (s cu tg mn mx st : Int) (n : Nat) (K V : Nat → Int) (v : Value) (w : World) (hN : Nm w) (hS : StV w v n K V) :
    Calls Tryd.prog 24 #[.agg #[.int .i64 s, .int .i64 cu, .int .i64 tg, .int .i64 mn, .int .i64 mx, .int .i64 st], v] w fun e w' => e = .returned (.tuple #[.agg #[.int .i64 ((rr mn mx st K V ⟨s, cu, tg⟩ n) 0), .int .i64 ((rr mn mx st K V ⟨s, cu, tg⟩ n) 1), .int .i64 ((rr mn mx st K V ⟨s, cu, tg⟩ n) 2), .int .i64 ((rr mn mx st K V ⟨s, cu, tg⟩ n) 3), .int .i64 ((rr mn mx st K V ⟨s, cu, tg⟩ n) 4), .int .i64 ((rr mn mx st K V ⟨s, cu, tg⟩ n) 5)], .int .i64 ((rr mn mx st K V ⟨s, cu, tg⟩ n) 6), .int .i64 ((rr mn mx st K V ⟨s, cu, tg⟩ n) 7)]) ∧ New w w' := by
  by_cases h1 : valE s cu tg mn mx st = 0
  · by_cases h2 : 200 < n
    · have e : rr mn mx st K V ⟨s, cu, tg⟩ n = fun i => if i = 7 then 3 else 0 := by unfold rr; rw [if_neg (by simpa using h1), if_pos h2]
      rw [e]
      rcases hS with ⟨rfl, A, cap, rfl⟩ | ⟨b, off, cap, rfl, _⟩
      · omega
      · exact run_long _ _ _ _ _ _ _ n cap w hN h1 h2
    · have e : rr mn mx st K V ⟨s, cu, tg⟩ n = fun i => if i = 0 then (runC mn mx st K V ⟨s, cu, tg⟩ n).s else if i = 1 then (runC mn mx st K V ⟨s, cu, tg⟩ n).cu else if i = 2 then (runC mn mx st K V ⟨s, cu, tg⟩ n).tg else if i = 3 then mn else if i = 4 then mx else if i = 5 then st else if i = 6 then runI mn mx st K V ⟨s, cu, tg⟩ n else 0 := by unfold rr; rw [if_neg (by simpa using h1), if_neg h2]
      rw [e]
      rcases hS with ⟨rfl, A, cap, rfl⟩ | ⟨b, off, cap, rfl, hS⟩
      · exact run_nil _ _ _ _ _ _ A cap w hN h1
      · exact run_any ⟨s, cu, tg⟩ mn mx st b off n cap K V w hN h1 (by omega) hS
  · have e : rr mn mx st K V ⟨s, cu, tg⟩ n = fun i => if i = 7 then valE s cu tg mn mx st else 0 := by unfold rr; rw [if_pos (by simpa using h1)]
    rw [e]
    rcases hS with ⟨rfl, A, cap, rfl⟩ | ⟨b, off, cap, rfl, _⟩
    · exact run_err _ _ _ _ _ _ A 0 cap w hN (by simpa using h1)
    · exact run_err _ _ _ _ _ _ _ n cap w hN (by simpa using h1)
theorem rrun_v (s cu tg mn mx st : Int) (n : Nat) (K V : Nat → Int) (v : Value) (w : World) (hS : StV w v n K V) :
    Calls Tryd.prog 26 #[.agg #[.int .i64 s, .int .i64 cu, .int .i64 tg, .int .i64 mn, .int .i64 mx, .int .i64 st], v] w fun e w' => e = .returned (.tuple #[.agg #[.int .i64 ((rr mn mx st K V ⟨s, cu, tg⟩ n) 0), .int .i64 ((rr mn mx st K V ⟨s, cu, tg⟩ n) 1), .int .i64 ((rr mn mx st K V ⟨s, cu, tg⟩ n) 2), .int .i64 ((rr mn mx st K V ⟨s, cu, tg⟩ n) 3), .int .i64 ((rr mn mx st K V ⟨s, cu, tg⟩ n) 4), .int .i64 ((rr mn mx st K V ⟨s, cu, tg⟩ n) 5)], .int .i64 ((rr mn mx st K V ⟨s, cu, tg⟩ n) 6), .int .i64 ((rr mn mx st K V ⟨s, cu, tg⟩ n) 7)]) ∧ New w w' := by
  by_cases h1 : valE s cu tg mn mx st = 0
  · by_cases h2 : 200 < n
    · have e : rr mn mx st K V ⟨s, cu, tg⟩ n = fun i => if i = 7 then 3 else 0 := by unfold rr; rw [if_neg (by simpa using h1), if_pos h2]
      rw [e]
      rcases hS with ⟨rfl, A, cap, rfl⟩ | ⟨b, off, cap, rfl, _⟩
      · omega
      · exact rrun_long _ _ _ _ _ _ _ n cap w h1 h2
    · have e : rr mn mx st K V ⟨s, cu, tg⟩ n = fun i => if i = 0 then (runC mn mx st K V ⟨s, cu, tg⟩ n).s else if i = 1 then (runC mn mx st K V ⟨s, cu, tg⟩ n).cu else if i = 2 then (runC mn mx st K V ⟨s, cu, tg⟩ n).tg else if i = 3 then mn else if i = 4 then mx else if i = 5 then st else if i = 6 then runI mn mx st K V ⟨s, cu, tg⟩ n else 0 := by unfold rr; rw [if_neg (by simpa using h1), if_neg h2]
      rw [e]
      rcases hS with ⟨rfl, A, cap, rfl⟩ | ⟨b, off, cap, rfl, hS⟩
      · exact rrun_nil _ _ _ _ _ _ A cap w h1
      · exact rrun_any ⟨s, cu, tg⟩ mn mx st b off n cap K V w h1 (by omega) hS
  · have e : rr mn mx st K V ⟨s, cu, tg⟩ n = fun i => if i = 7 then valE s cu tg mn mx st else 0 := by unfold rr; rw [if_pos (by simpa using h1)]
    rw [e]
    rcases hS with ⟨rfl, A, cap, rfl⟩ | ⟨b, off, cap, rfl, _⟩
    · exact rrun_err _ _ _ _ _ _ A 0 cap w (by simpa using h1)
    · exact rrun_err _ _ _ _ _ _ _ n cap w (by simpa using h1)
theorem run_y (s cu tg mn mx st : Int) (n : Nat) (K V : Nat → Int) (v : Value) (w : World) (hN : Nm w) (hS : StV w v n K V) :
    Calls Tryd.prog 24 #[.agg #[.int .i64 s, .int .i64 cu, .int .i64 tg, .int .i64 mn, .int .i64 mx, .int .i64 st], v] w fun e w' => ∃ y : Nat → Int, y = rr mn mx st K V ⟨s, cu, tg⟩ n ∧ e = .returned (.tuple #[.agg #[.int .i64 (y 0), .int .i64 (y 1), .int .i64 (y 2), .int .i64 (y 3), .int .i64 (y 4), .int .i64 (y 5)], .int .i64 (y 6), .int .i64 (y 7)]) ∧ New w w' :=
  (run_v _ _ _ _ _ _ n K V v w hN hS).mono fun _ _ ⟨he, hn⟩ => ⟨_, rfl, he, hn⟩
theorem rrun_y (s cu tg mn mx st : Int) (n : Nat) (K V : Nat → Int) (v : Value) (w : World) (hS : StV w v n K V) :
    Calls Tryd.prog 26 #[.agg #[.int .i64 s, .int .i64 cu, .int .i64 tg, .int .i64 mn, .int .i64 mx, .int .i64 st], v] w fun e w' => ∃ y : Nat → Int, y = rr mn mx st K V ⟨s, cu, tg⟩ n ∧ e = .returned (.tuple #[.agg #[.int .i64 (y 0), .int .i64 (y 1), .int .i64 (y 2), .int .i64 (y 3), .int .i64 (y 4), .int .i64 (y 5)], .int .i64 (y 6), .int .i64 (y 7)]) ∧ New w w' :=
  (rrun_v _ _ _ _ _ _ n K V v w hS).mono fun _ _ ⟨he, hn⟩ => ⟨_, rfl, he, hn⟩
theorem keep6 {W W' : World} {p : Nat} {x0 x1 x2 x3 x4 x5 : Int} (h1 : Blk W p x0 x1 x2 x3 x4 x5) (hn : New W W') (hp : p < W.heap.size) :
    W'.cell? ⟨p, 0, none⟩ = some (.int .i64 x0) ∧ W'.cell? ⟨p, 1, none⟩ = some (.int .i64 x1) ∧ W'.cell? ⟨p, 2, none⟩ = some (.int .i64 x2) ∧ W'.cell? ⟨p, 3, none⟩ = some (.int .i64 x3) ∧ W'.cell? ⟨p, 4, none⟩ = some (.int .i64 x4) ∧ W'.cell? ⟨p, 5, none⟩ = some (.int .i64 x5) := by
  obtain ⟨a0, a1, a2, a3, a4, a5, _⟩ := h1.new hn hp
  exact ⟨a0, a1, a2, a3, a4, a5⟩
set_option maxHeartbeats 1600000 in
theorem law_run_long (s cu tg mn mx st : Int) (A : Option Addr) (n cap : Nat) (w : World) (hN : Nm w) (hn : 210 < n) :
    Calls Tryd.prog 6 #[.agg #[.int .i64 s, .int .i64 cu, .int .i64 tg, .int .i64 mn, .int .i64 mx, .int .i64 st], .slice A n cap] w fun e w' => e = .returned (.bool true) ∧ New w w' := by
  have HN := Lib.hid hN
  clear hN
  have hn' : (210 : Int) < n := by omega
  go_enter Tryd.func6, Tryd.ntmps6
  go_wp2_with fail
  refine (awake_any _ (HN.out.new ((new0 _).alloc _))).mono ?_
  rintro e w1 ⟨rfl, h1⟩
  have H1 := Lib.hid (New.trans ((new0 w).alloc _) h1)
  clear h1
  go_wp2_with fail
  refine (awake_any _ (HN.out.new H1.out)).mono ?_
  rintro e w2 ⟨rfl, h2⟩
  have H2 := Lib.hid (New.trans H1.out h2)
  clear h2
  go_wp2
  go_ret
  exact ⟨rfl, H2.out⟩
set_option maxHeartbeats 40000000 in
theorem law_run_short (s cu tg mn mx st : Int) (A : Option Addr) (n cap : Nat) (K V : Nat → Int) (w : World) (hN : Nm w) (hn : n ≤ 210) (hS : StV w (.slice A n cap) n K V) :
    Calls Tryd.prog 6 #[.agg #[.int .i64 s, .int .i64 cu, .int .i64 tg, .int .i64 mn, .int .i64 mx, .int .i64 st], .slice A n cap] w fun e w' => e = .returned (.bool true) ∧ New w w' := by
  have HN := Lib.hid hN
  have HS := Lib.hid hS
  have hn' : (n : Int) ≤ 210 := by omega
  clear hN hS
  have HB0 := Lib.hid (Blk.alloc w s cu tg mn mx st)
  go_enter Tryd.func6, Tryd.ntmps6
  go_wp2_with fail
  refine (awake_any _ (HN.out.new ((new0 _).alloc _))).mono ?_
  rintro e w1 ⟨rfl, h1⟩
  have B0 : Blk w1 w.heap.size s cu tg mn mx st := HB0.out.new h1 (by simp)
  have z1 : w.heap.size < w1.heap.size := by have := New.size h1; simp at this; omega
  have H1 := Lib.hid (New.trans ((new0 w).alloc _) h1)
  clear h1
  have HB1 := Lib.hid B0
  have KN := Lib.hid (HN.out.new H1.out)
  have KS := Lib.hid (HS.out.new H1.out)
  obtain ⟨k0, k1, k2, k3, k4, k5, kf⟩ := B0
  go_wp2_with fail
  refine left_region (fun w' => w'.cell? ⟨w.heap.size, 0, none⟩ = some (.int .i64 s) ∧ w'.cell? ⟨w.heap.size, 1, none⟩ = some (.int .i64 cu) ∧ w'.cell? ⟨w.heap.size, 2, none⟩ = some (.int .i64 tg) ∧ w'.cell? ⟨w.heap.size, 3, none⟩ = some (.int .i64 mn) ∧ w'.cell? ⟨w.heap.size, 4, none⟩ = some (.int .i64 mx) ∧ w'.cell? ⟨w.heap.size, 5, none⟩ = some (.int .i64 st)) 11 (by kernel_rfl) ⟨k0, k1, k2, k3, k4, k5⟩ (fun hHeld => ?_)
  clear k0 k1 k2 k3 k4 k5 kf
  refine left_take (i := 0) (o := { dst := some 20, op := Op.load 23 (Operand.tmp 2), type := 23, pos := "law.go:60", after := #[], guard := none }) (v := ?va1) rfl rfl (by kernel_rfl) (by kernel_rfl) (by kernel_rfl) (by kernel_rfl) (fun _ _ _ h => h) (Or.inl ⟨by rfl, ?hy1⟩) hHeld ?rest1
  case hy1 => (rintro x ⟨t0, t1, t2, t3, t4, t5⟩; go_simp; (try with_reducible rfl))
  try simp only [Act.put, List.setIfInBounds_toArray, List.set_cons_zero, List.set_cons_succ]
  refine left_take (i := 1) (o := { dst := some 21, op := Op.move (Operand.tmp 1), type := 36, pos := "law.go:60", after := #[], guard := none }) (v := ?va2) rfl rfl (by kernel_rfl) (by kernel_rfl) (by kernel_rfl) (by kernel_rfl) (fun _ _ _ h => h) (Or.inl ⟨by rfl, ?hy2⟩) hHeld ?rest2
  case hy2 => (rintro x ⟨t0, t1, t2, t3, t4, t5⟩; go_simp; (try with_reducible rfl))
  try simp only [Act.put, List.setIfInBounds_toArray, List.set_cons_zero, List.set_cons_succ]
  refine left_two (i := 2) (j := 8) (o := { dst := some 22, op := Op.call { callee := Callee.value (Operand.func 25), args := #[Operand.tmp 21], argTypes := #[36] }, type := 36, pos := "law.go:60", after := #[{ on := 1, ground := Ground.data }], guard := none }) (o' := { dst := some 5, op := Op.alloc 23, type := 0, pos := "law.go:60", after := #[], guard := none }) rfl rfl (by kernel_rfl) (fun KK hK => ?_) (fun KK hK => ?_)
  · skip
    go_simp
    refine (clone_v n K V _ _ (by omega) (KS.out.new (by repeat (first | (with_reducible exact new0 _) | (with_reducible apply New.alloc) | (with_reducible apply New.drew) | (with_reducible refine New.trans ?_ G4.out) | (with_reducible refine New.trans ?_ G3.out))))).mono ?_
    rintro e w3 ⟨v3, rfl, hs3, g3⟩
    have G3 := Lib.hid g3
    have KS3 := Lib.hid hs3
    clear g3 hs3
    have hHeld := keep6 HB1.out (show New w1 w3 from (by repeat (first | (with_reducible exact new0 _) | (with_reducible apply New.alloc) | (with_reducible apply New.drew) | (with_reducible refine New.trans ?_ G4.out) | (with_reducible refine New.trans ?_ G3.out)))) z1
    refine hK.out _ _ (fun _ => hHeld) ?_
    clear hK KK
    try simp only [Act.put, List.setIfInBounds_toArray, List.set_cons_zero, List.set_cons_succ]
    refine left_two (i := 3) (j := 8) (o := { dst := some 23, op := Op.call { callee := Callee.value (Operand.func 24), args := #[Operand.tmp 20, Operand.tmp 22], argTypes := #[23, 36] }, type := 37, pos := "law.go:60", after := #[{ on := 0, ground := Ground.data }, { on := 2, ground := Ground.data }, { on := 2, ground := Ground.chain }], guard := none }) (o' := { dst := some 5, op := Op.alloc 23, type := 0, pos := "law.go:60", after := #[], guard := none }) rfl rfl (by kernel_rfl) (fun KK hK => ?_) (fun KK hK => ?_)
    · skip
      go_simp
      refine (run_y _ _ _ _ _ _ n K V _ _ (KN.out.new (by repeat (first | (with_reducible exact new0 _) | (with_reducible apply New.alloc) | (with_reducible apply New.drew) | (with_reducible refine New.trans ?_ G4.out) | (with_reducible refine New.trans ?_ G3.out)))) (KS3.out.new (by repeat (first | (with_reducible exact new0 _) | (with_reducible apply New.alloc) | (with_reducible apply New.drew) | (with_reducible refine New.trans ?_ G4.out) | (with_reducible refine New.trans ?_ G3.out))))).mono ?_
      rintro e w4 ⟨y, hy, rfl, g4⟩
      have G4 := Lib.hid g4
      have HY := Lib.hid hy
      clear g4 hy
      have hHeld := keep6 HB1.out (show New w1 w4 from (by repeat (first | (with_reducible exact new0 _) | (with_reducible apply New.alloc) | (with_reducible apply New.drew) | (with_reducible refine New.trans ?_ G4.out) | (with_reducible refine New.trans ?_ G3.out)))) z1
      refine hK.out _ _ (fun _ => hHeld) ?_
      clear hK KK
      try simp only [Act.put, List.setIfInBounds_toArray, List.set_cons_zero, List.set_cons_succ]
      refine left_take (i := 4) (o := { dst := some 19, op := Op.move (Operand.tmp 23), type := 37, pos := "law.go:60", after := #[{ on := 3, ground := Ground.data }], guard := none }) (v := ?va3) rfl rfl (by kernel_rfl) (by kernel_rfl) (by kernel_rfl) (by kernel_rfl) (fun _ _ _ h => h) (Or.inl ⟨by rfl, ?hy3⟩) hHeld ?rest3
      case hy3 => (rintro x ⟨t0, t1, t2, t3, t4, t5⟩; go_simp; (try with_reducible rfl))
      try simp only [Act.put, List.setIfInBounds_toArray, List.set_cons_zero, List.set_cons_succ]
      refine left_take (i := 5) (o := { dst := some 24, op := Op.extract (Operand.tmp 19) 0, type := 23, pos := "law.go:60", after := #[{ on := 4, ground := Ground.data }], guard := none }) (v := ?va4) rfl rfl (by kernel_rfl) (by kernel_rfl) (by kernel_rfl) (by kernel_rfl) (fun _ _ _ h => h) (Or.inl ⟨by rfl, ?hy4⟩) hHeld ?rest4
      case hy4 => (rintro x ⟨t0, t1, t2, t3, t4, t5⟩; go_simp; (try with_reducible rfl))
      try simp only [Act.put, List.setIfInBounds_toArray, List.set_cons_zero, List.set_cons_succ]
      refine left_take (i := 6) (o := { dst := some 25, op := Op.extract (Operand.tmp 19) 1, type := 3, pos := "law.go:60", after := #[{ on := 4, ground := Ground.data }, { on := 9, ground := Ground.gcOnly Departure.lateStores }], guard := none }) (v := ?va5) rfl rfl (by kernel_rfl) (by kernel_rfl) (by kernel_rfl) (by kernel_rfl) (fun _ _ _ h => h) (Or.inl ⟨by rfl, ?hy5⟩) hHeld ?rest5
      case hy5 => (rintro x ⟨t0, t1, t2, t3, t4, t5⟩; go_simp; (try with_reducible rfl))
      try simp only [Act.put, List.setIfInBounds_toArray, List.set_cons_zero, List.set_cons_succ]
      refine left_take (i := 7) (o := { dst := some 26, op := Op.extract (Operand.tmp 19) 2, type := 25, pos := "law.go:60", after := #[{ on := 4, ground := Ground.data }, { on := 10, ground := Ground.gcOnly Departure.lateStores }], guard := none }) (v := ?va6) rfl rfl (by kernel_rfl) (by kernel_rfl) (by kernel_rfl) (by kernel_rfl) (fun _ _ _ h => h) (Or.inl ⟨by rfl, ?hy6⟩) hHeld ?rest6
      case hy6 => (rintro x ⟨t0, t1, t2, t3, t4, t5⟩; go_simp; (try with_reducible rfl))
      try simp only [Act.put, List.setIfInBounds_toArray, List.set_cons_zero, List.set_cons_succ]
      refine left_one (i := 8) (o := { dst := some 5, op := Op.alloc 23, type := 0, pos := "law.go:60", after := #[], guard := none }) rfl (by kernel_rfl) (fun KK hK => ?_)
      go_simp
      have hHeld := keep6 HB1.out (show New w1 (w4.alloc (.cells #[.int .i64 0, .int .i64 0, .int .i64 0, .int .i64 0, .int .i64 0, .int .i64 0] 23)) from (by repeat (first | (with_reducible exact new0 _) | (with_reducible apply New.alloc) | (with_reducible apply New.drew) | (with_reducible refine New.trans ?_ G4.out) | (with_reducible refine New.trans ?_ G3.out)))) z1
      refine hK.out _ _ (fun _ => hHeld) ?_
      clear hK KK
      try simp only [Act.put, List.setIfInBounds_toArray, List.set_cons_zero, List.set_cons_succ]
      have u0 := New.size G3.out
      have u1 := New.size G4.out
      simp at u0
      obtain ⟨h0, h1, h2, h3, h4, h5⟩ := hHeld
      have hHeld : True := trivial
      have hfr : ∀ o, w4.frozen? ⟨w.heap.size, o, none⟩ = false := fun o => (HB1.out.new (show New w1 w4 from (by repeat (first | (with_reducible exact new0 _) | (with_reducible apply New.alloc) | (with_reducible apply New.drew) | (with_reducible refine New.trans ?_ G4.out) | (with_reducible refine New.trans ?_ G3.out)))) z1).2.2.2.2.2.2 o
      have hp0 : w4.heap.size ≠ w.heap.size := by omega
      have hp1 : w.heap.size ≠ w4.heap.size := by omega
      refine left_one (i := 9) rfl (by kernel_rfl) (fun KK hK => ?_)
      go_simp
      refine hK.out _ _ (fun _ => by first | (refine ⟨?_, ?_, ?_, ?_, ?_, ?_⟩ <;> (go_light; simp [go_sem, *]; done)) | (exact keep6 HB1.out (by repeat (first | (with_reducible exact new0 _) | (with_reducible apply New.alloc) | (with_reducible apply New.drew) | (with_reducible refine New.setCell ?_ (by first | omega | (simp; done) | (simp; omega)) _) | (with_reducible refine New.trans ?_ G4.out) | (with_reducible refine New.trans ?_ G3.out))) z1)) ?_
      clear hK KK
      try simp only [Act.put, List.setIfInBounds_toArray, List.set_cons_zero, List.set_cons_succ]
      refine left_one (i := 10) rfl (by kernel_rfl) (fun KK hK => ?_)
      go_simp
      refine hK.out _ _ (fun _ => by first | (refine ⟨?_, ?_, ?_, ?_, ?_, ?_⟩ <;> (go_light; simp [go_sem, *]; done)) | (exact keep6 HB1.out (by repeat (first | (with_reducible exact new0 _) | (with_reducible apply New.alloc) | (with_reducible apply New.drew) | (with_reducible refine New.setCell ?_ (by first | omega | (simp; done) | (simp; omega)) _) | (with_reducible refine New.trans ?_ G4.out) | (with_reducible refine New.trans ?_ G3.out))) z1)) ?_
      clear hK KK
      try simp only [Act.put, List.setIfInBounds_toArray, List.set_cons_zero, List.set_cons_succ]
      refine left_one (i := 11) rfl (by kernel_rfl) (fun KK hK => ?_)
      go_simp
      refine hK.out _ _ (fun h => absurd rfl h) ?_
      clear hK KK
      try simp only [Act.put, List.setIfInBounds_toArray, List.set_cons_zero, List.set_cons_succ]
      refine left_done (by kernel_rfl) ?_
      refine then_abs (fun X => New w1 X ∧ Blk X w4.heap.size (y 0) (y 1) (y 2) (y 3) (y 4) (y 5) ∧ Blk X w.heap.size s cu tg mn mx st) ?_ ?_
      · exact ⟨(by repeat (first | (with_reducible exact new0 _) | (with_reducible apply New.alloc) | (with_reducible apply New.drew) | (with_reducible refine New.setCell ?_ (by first | omega | (simp; done) | (simp; omega)) _) | (with_reducible refine New.trans ?_ G4.out) | (with_reducible refine New.trans ?_ G3.out))), (by first | (refine ⟨?_, ?_, ?_, ?_, ?_, ?_, fun o => ?_⟩ <;> (go_light; simp [go_sem, *]; done)) | exact Blk.alloc _ _ _ _ _ _ _), (by first | (refine ⟨?_, ?_, ?_, ?_, ?_, ?_, fun o => ?_⟩ <;> (go_light; simp [go_sem, *]; done)) | exact HB1.out.new (by repeat (first | (with_reducible exact new0 _) | (with_reducible apply New.alloc) | (with_reducible apply New.drew) | (with_reducible refine New.setCell ?_ (by first | omega | (simp; done) | (simp; omega)) _) | (with_reducible refine New.trans ?_ G4.out) | (with_reducible refine New.trans ?_ G3.out))) z1)⟩
      rintro X ⟨hn1, hB5, hB0⟩
      have hp5 : w4.heap.size < X.heap.size := World.block_lt_of_cell? X _ hB5.1
      have HN1 := Lib.hid hn1
      have HB5 := Lib.hid hB5
      clear hn1 hB5 hHeld
      obtain ⟨d0, d1, d2, d3, d4, d5, df⟩ := hB0
      go_wp2_with fail
      refine (rrun_y _ _ _ _ _ _ n K V _ _ (HS.out.new (New.trans H1.out HN1.out))).mono ?_
      rintro e w5 ⟨y', hy', rfl, h5⟩
      obtain rfl : y' = y := by rw [hy', HY.out]
      clear hy'
      obtain ⟨r0, r1, r2, r3, r4, r5, rf⟩ := HB5.out.new h5 hp5
      have H5 := Lib.hid (New.trans HN1.out h5)
      have g5 : w4.heap.size < w5.heap.size := by have := New.size h5; omega
      clear h5
      go_wp2
      go_ret
      exact ⟨rfl, New.trans H1.out ((H5.out).alloc _)⟩
    · skip
      go_simp
      have hHeld := keep6 HB1.out (show New w1 (w3.alloc (.cells #[.int .i64 0, .int .i64 0, .int .i64 0, .int .i64 0, .int .i64 0, .int .i64 0] 23)) from (by repeat (first | (with_reducible exact new0 _) | (with_reducible apply New.alloc) | (with_reducible apply New.drew) | (with_reducible refine New.trans ?_ G4.out) | (with_reducible refine New.trans ?_ G3.out)))) z1
      refine hK.out _ _ (fun _ => hHeld) ?_
      clear hK KK
      try simp only [Act.put, List.setIfInBounds_toArray, List.set_cons_zero, List.set_cons_succ]
      refine left_one (i := 3) (o := { dst := some 23, op := Op.call { callee := Callee.value (Operand.func 24), args := #[Operand.tmp 20, Operand.tmp 22], argTypes := #[23, 36] }, type := 37, pos := "law.go:60", after := #[{ on := 0, ground := Ground.data }, { on := 2, ground := Ground.data }, { on := 2, ground := Ground.chain }], guard := none }) rfl (by kernel_rfl) (fun KK hK => ?_)
      go_simp
      refine (run_y _ _ _ _ _ _ n K V _ (w3.alloc (.cells #[.int .i64 0, .int .i64 0, .int .i64 0, .int .i64 0, .int .i64 0, .int .i64 0] 23)) (KN.out.new (by repeat (first | (with_reducible exact new0 _) | (with_reducible apply New.alloc) | (with_reducible apply New.drew) | (with_reducible refine New.trans ?_ G4.out) | (with_reducible refine New.trans ?_ G3.out)))) (KS3.out.new (by repeat (first | (with_reducible exact new0 _) | (with_reducible apply New.alloc) | (with_reducible apply New.drew) | (with_reducible refine New.trans ?_ G4.out) | (with_reducible refine New.trans ?_ G3.out))))).mono ?_
      rintro e w4 ⟨y, hy, rfl, g4⟩
      have G4 := Lib.hid g4
      have HY := Lib.hid hy
      clear g4 hy
      have hHeld := keep6 HB1.out (show New w1 w4 from (by repeat (first | (with_reducible exact new0 _) | (with_reducible apply New.alloc) | (with_reducible apply New.drew) | (with_reducible refine New.trans ?_ G4.out) | (with_reducible refine New.trans ?_ G3.out)))) z1
      refine hK.out _ _ (fun _ => hHeld) ?_
      clear hK KK
      try simp only [Act.put, List.setIfInBounds_toArray, List.set_cons_zero, List.set_cons_succ]
      refine left_take (i := 4) (o := { dst := some 19, op := Op.move (Operand.tmp 23), type := 37, pos := "law.go:60", after := #[{ on := 3, ground := Ground.data }], guard := none }) (v := ?va7) rfl rfl (by kernel_rfl) (by kernel_rfl) (by kernel_rfl) (by kernel_rfl) (fun _ _ _ h => h) (Or.inl ⟨by rfl, ?hy7⟩) hHeld ?rest7
      case hy7 => (rintro x ⟨t0, t1, t2, t3, t4, t5⟩; go_simp; (try with_reducible rfl))
      try simp only [Act.put, List.setIfInBounds_toArray, List.set_cons_zero, List.set_cons_succ]
      refine left_take (i := 5) (o := { dst := some 24, op := Op.extract (Operand.tmp 19) 0, type := 23, pos := "law.go:60", after := #[{ on := 4, ground := Ground.data }], guard := none }) (v := ?va8) rfl rfl (by kernel_rfl) (by kernel_rfl) (by kernel_rfl) (by kernel_rfl) (fun _ _ _ h => h) (Or.inl ⟨by rfl, ?hy8⟩) hHeld ?rest8
      case hy8 => (rintro x ⟨t0, t1, t2, t3, t4, t5⟩; go_simp; (try with_reducible rfl))
      try simp only [Act.put, List.setIfInBounds_toArray, List.set_cons_zero, List.set_cons_succ]
      refine left_take (i := 6) (o := { dst := some 25, op := Op.extract (Operand.tmp 19) 1, type := 3, pos := "law.go:60", after := #[{ on := 4, ground := Ground.data }, { on := 9, ground := Ground.gcOnly Departure.lateStores }], guard := none }) (v := ?va9) rfl rfl (by kernel_rfl) (by kernel_rfl) (by kernel_rfl) (by kernel_rfl) (fun _ _ _ h => h) (Or.inl ⟨by rfl, ?hy9⟩) hHeld ?rest9
      case hy9 => (rintro x ⟨t0, t1, t2, t3, t4, t5⟩; go_simp; (try with_reducible rfl))
      try simp only [Act.put, List.setIfInBounds_toArray, List.set_cons_zero, List.set_cons_succ]
      refine left_take (i := 7) (o := { dst := some 26, op := Op.extract (Operand.tmp 19) 2, type := 25, pos := "law.go:60", after := #[{ on := 4, ground := Ground.data }, { on := 10, ground := Ground.gcOnly Departure.lateStores }], guard := none }) (v := ?va10) rfl rfl (by kernel_rfl) (by kernel_rfl) (by kernel_rfl) (by kernel_rfl) (fun _ _ _ h => h) (Or.inl ⟨by rfl, ?hy10⟩) hHeld ?rest10
      case hy10 => (rintro x ⟨t0, t1, t2, t3, t4, t5⟩; go_simp; (try with_reducible rfl))
      try simp only [Act.put, List.setIfInBounds_toArray, List.set_cons_zero, List.set_cons_succ]
      have u0 := New.size G3.out
      have u1 := New.size G4.out
      simp at u0 u1
      obtain ⟨q0, q1, q2, q3, q4, q5, qf⟩ := (Blk.alloc w3 0 0 0 0 0 0).new (show New (w3.alloc (.cells #[.int .i64 0, .int .i64 0, .int .i64 0, .int .i64 0, .int .i64 0, .int .i64 0] 23)) w4 from G4.out) (by simp)
      obtain ⟨h0, h1, h2, h3, h4, h5⟩ := hHeld
      have hHeld : True := trivial
      have hfr : ∀ o, w4.frozen? ⟨w.heap.size, o, none⟩ = false := fun o => (HB1.out.new (show New w1 w4 from (by repeat (first | (with_reducible exact new0 _) | (with_reducible apply New.alloc) | (with_reducible apply New.drew) | (with_reducible refine New.trans ?_ G4.out) | (with_reducible refine New.trans ?_ G3.out)))) z1).2.2.2.2.2.2 o
      have hp0 : w3.heap.size ≠ w.heap.size := by omega
      have hp1 : w.heap.size ≠ w3.heap.size := by omega
      refine left_one (i := 9) rfl (by kernel_rfl) (fun KK hK => ?_)
      go_simp
      refine hK.out _ _ (fun _ => by first | (refine ⟨?_, ?_, ?_, ?_, ?_, ?_⟩ <;> (go_light; simp [go_sem, *]; done)) | (exact keep6 HB1.out (by repeat (first | (with_reducible exact new0 _) | (with_reducible apply New.alloc) | (with_reducible apply New.drew) | (with_reducible refine New.setCell ?_ (by first | omega | (simp; done) | (simp; omega)) _) | (with_reducible refine New.trans ?_ G4.out) | (with_reducible refine New.trans ?_ G3.out))) z1)) ?_
      clear hK KK
      try simp only [Act.put, List.setIfInBounds_toArray, List.set_cons_zero, List.set_cons_succ]
      refine left_one (i := 10) rfl (by kernel_rfl) (fun KK hK => ?_)
      go_simp
      refine hK.out _ _ (fun _ => by first | (refine ⟨?_, ?_, ?_, ?_, ?_, ?_⟩ <;> (go_light; simp [go_sem, *]; done)) | (exact keep6 HB1.out (by repeat (first | (with_reducible exact new0 _) | (with_reducible apply New.alloc) | (with_reducible apply New.drew) | (with_reducible refine New.setCell ?_ (by first | omega | (simp; done) | (simp; omega)) _) | (with_reducible refine New.trans ?_ G4.out) | (with_reducible refine New.trans ?_ G3.out))) z1)) ?_
      clear hK KK
      try simp only [Act.put, List.setIfInBounds_toArray, List.set_cons_zero, List.set_cons_succ]
      refine left_one (i := 11) rfl (by kernel_rfl) (fun KK hK => ?_)
      go_simp
      refine hK.out _ _ (fun h => absurd rfl h) ?_
      clear hK KK
      try simp only [Act.put, List.setIfInBounds_toArray, List.set_cons_zero, List.set_cons_succ]
      refine left_done (by kernel_rfl) ?_
      refine then_abs (fun X => New w1 X ∧ Blk X w3.heap.size (y 0) (y 1) (y 2) (y 3) (y 4) (y 5) ∧ Blk X w.heap.size s cu tg mn mx st) ?_ ?_
      · exact ⟨(by repeat (first | (with_reducible exact new0 _) | (with_reducible apply New.alloc) | (with_reducible apply New.drew) | (with_reducible refine New.setCell ?_ (by first | omega | (simp; done) | (simp; omega)) _) | (with_reducible refine New.trans ?_ G4.out) | (with_reducible refine New.trans ?_ G3.out))), (by first | (refine ⟨?_, ?_, ?_, ?_, ?_, ?_, fun o => ?_⟩ <;> (go_light; simp [go_sem, *]; done)) | exact Blk.alloc _ _ _ _ _ _ _), (by first | (refine ⟨?_, ?_, ?_, ?_, ?_, ?_, fun o => ?_⟩ <;> (go_light; simp [go_sem, *]; done)) | exact HB1.out.new (by repeat (first | (with_reducible exact new0 _) | (with_reducible apply New.alloc) | (with_reducible apply New.drew) | (with_reducible refine New.setCell ?_ (by first | omega | (simp; done) | (simp; omega)) _) | (with_reducible refine New.trans ?_ G4.out) | (with_reducible refine New.trans ?_ G3.out))) z1)⟩
      rintro X ⟨hn1, hB5, hB0⟩
      have hp5 : w3.heap.size < X.heap.size := World.block_lt_of_cell? X _ hB5.1
      have HN1 := Lib.hid hn1
      have HB5 := Lib.hid hB5
      clear q0 q1 q2 q3 q4 q5 qf hn1 hB5 hHeld
      obtain ⟨d0, d1, d2, d3, d4, d5, df⟩ := hB0
      go_wp2_with fail
      refine (rrun_y _ _ _ _ _ _ n K V _ _ (HS.out.new (New.trans H1.out HN1.out))).mono ?_
      rintro e w5 ⟨y', hy', rfl, h5⟩
      obtain rfl : y' = y := by rw [hy', HY.out]
      clear hy'
      obtain ⟨r0, r1, r2, r3, r4, r5, rf⟩ := HB5.out.new h5 hp5
      have H5 := Lib.hid (New.trans HN1.out h5)
      have g5 : w3.heap.size < w5.heap.size := by have := New.size h5; omega
      clear h5
      go_wp2
      go_ret
      exact ⟨rfl, New.trans H1.out ((H5.out).alloc _)⟩
  · skip
    go_simp
    have hHeld := keep6 HB1.out (show New w1 (w1.alloc (.cells #[.int .i64 0, .int .i64 0, .int .i64 0, .int .i64 0, .int .i64 0, .int .i64 0] 23)) from (by repeat (first | (with_reducible exact new0 _) | (with_reducible apply New.alloc) | (with_reducible apply New.drew) | (with_reducible refine New.trans ?_ G4.out) | (with_reducible refine New.trans ?_ G3.out)))) z1
    refine hK.out _ _ (fun _ => hHeld) ?_
    clear hK KK
    try simp only [Act.put, List.setIfInBounds_toArray, List.set_cons_zero, List.set_cons_succ]
    refine left_one (i := 2) (o := { dst := some 22, op := Op.call { callee := Callee.value (Operand.func 25), args := #[Operand.tmp 21], argTypes := #[36] }, type := 36, pos := "law.go:60", after := #[{ on := 1, ground := Ground.data }], guard := none }) rfl (by kernel_rfl) (fun KK hK => ?_)
    go_simp
    refine (clone_v n K V _ _ (by omega) (KS.out.new (by repeat (first | (with_reducible exact new0 _) | (with_reducible apply New.alloc) | (with_reducible apply New.drew) | (with_reducible refine New.trans ?_ G4.out) | (with_reducible refine New.trans ?_ G3.out))))).mono ?_
    rintro e w3 ⟨v3, rfl, hs3, g3⟩
    have G3 := Lib.hid g3
    have KS3 := Lib.hid hs3
    clear g3 hs3
    have hHeld := keep6 HB1.out (show New w1 w3 from (by repeat (first | (with_reducible exact new0 _) | (with_reducible apply New.alloc) | (with_reducible apply New.drew) | (with_reducible refine New.trans ?_ G4.out) | (with_reducible refine New.trans ?_ G3.out)))) z1
    refine hK.out _ _ (fun _ => hHeld) ?_
    clear hK KK
    try simp only [Act.put, List.setIfInBounds_toArray, List.set_cons_zero, List.set_cons_succ]
    refine left_one (i := 3) (o := { dst := some 23, op := Op.call { callee := Callee.value (Operand.func 24), args := #[Operand.tmp 20, Operand.tmp 22], argTypes := #[23, 36] }, type := 37, pos := "law.go:60", after := #[{ on := 0, ground := Ground.data }, { on := 2, ground := Ground.data }, { on := 2, ground := Ground.chain }], guard := none }) rfl (by kernel_rfl) (fun KK hK => ?_)
    go_simp
    refine (run_y _ _ _ _ _ _ n K V _ _ (KN.out.new (by repeat (first | (with_reducible exact new0 _) | (with_reducible apply New.alloc) | (with_reducible apply New.drew) | (with_reducible refine New.trans ?_ G4.out) | (with_reducible refine New.trans ?_ G3.out)))) (KS3.out.new (by repeat (first | (with_reducible exact new0 _) | (with_reducible apply New.alloc) | (with_reducible apply New.drew) | (with_reducible refine New.trans ?_ G4.out) | (with_reducible refine New.trans ?_ G3.out))))).mono ?_
    rintro e w4 ⟨y, hy, rfl, g4⟩
    have G4 := Lib.hid g4
    have HY := Lib.hid hy
    clear g4 hy
    have hHeld := keep6 HB1.out (show New w1 w4 from (by repeat (first | (with_reducible exact new0 _) | (with_reducible apply New.alloc) | (with_reducible apply New.drew) | (with_reducible refine New.trans ?_ G4.out) | (with_reducible refine New.trans ?_ G3.out)))) z1
    refine hK.out _ _ (fun _ => hHeld) ?_
    clear hK KK
    try simp only [Act.put, List.setIfInBounds_toArray, List.set_cons_zero, List.set_cons_succ]
    refine left_take (i := 4) (o := { dst := some 19, op := Op.move (Operand.tmp 23), type := 37, pos := "law.go:60", after := #[{ on := 3, ground := Ground.data }], guard := none }) (v := ?va11) rfl rfl (by kernel_rfl) (by kernel_rfl) (by kernel_rfl) (by kernel_rfl) (fun _ _ _ h => h) (Or.inl ⟨by rfl, ?hy11⟩) hHeld ?rest11
    case hy11 => (rintro x ⟨t0, t1, t2, t3, t4, t5⟩; go_simp; (try with_reducible rfl))
    try simp only [Act.put, List.setIfInBounds_toArray, List.set_cons_zero, List.set_cons_succ]
    refine left_take (i := 5) (o := { dst := some 24, op := Op.extract (Operand.tmp 19) 0, type := 23, pos := "law.go:60", after := #[{ on := 4, ground := Ground.data }], guard := none }) (v := ?va12) rfl rfl (by kernel_rfl) (by kernel_rfl) (by kernel_rfl) (by kernel_rfl) (fun _ _ _ h => h) (Or.inl ⟨by rfl, ?hy12⟩) hHeld ?rest12
    case hy12 => (rintro x ⟨t0, t1, t2, t3, t4, t5⟩; go_simp; (try with_reducible rfl))
    try simp only [Act.put, List.setIfInBounds_toArray, List.set_cons_zero, List.set_cons_succ]
    refine left_take (i := 6) (o := { dst := some 25, op := Op.extract (Operand.tmp 19) 1, type := 3, pos := "law.go:60", after := #[{ on := 4, ground := Ground.data }, { on := 9, ground := Ground.gcOnly Departure.lateStores }], guard := none }) (v := ?va13) rfl rfl (by kernel_rfl) (by kernel_rfl) (by kernel_rfl) (by kernel_rfl) (fun _ _ _ h => h) (Or.inl ⟨by rfl, ?hy13⟩) hHeld ?rest13
    case hy13 => (rintro x ⟨t0, t1, t2, t3, t4, t5⟩; go_simp; (try with_reducible rfl))
    try simp only [Act.put, List.setIfInBounds_toArray, List.set_cons_zero, List.set_cons_succ]
    refine left_take (i := 7) (o := { dst := some 26, op := Op.extract (Operand.tmp 19) 2, type := 25, pos := "law.go:60", after := #[{ on := 4, ground := Ground.data }, { on := 10, ground := Ground.gcOnly Departure.lateStores }], guard := none }) (v := ?va14) rfl rfl (by kernel_rfl) (by kernel_rfl) (by kernel_rfl) (by kernel_rfl) (fun _ _ _ h => h) (Or.inl ⟨by rfl, ?hy14⟩) hHeld ?rest14
    case hy14 => (rintro x ⟨t0, t1, t2, t3, t4, t5⟩; go_simp; (try with_reducible rfl))
    try simp only [Act.put, List.setIfInBounds_toArray, List.set_cons_zero, List.set_cons_succ]
    have u0 := New.size G3.out
    have u1 := New.size G4.out
    simp at u0 u1
    obtain ⟨q0, q1, q2, q3, q4, q5, qf⟩ := (Blk.alloc w1 0 0 0 0 0 0).new (show New (w1.alloc (.cells #[.int .i64 0, .int .i64 0, .int .i64 0, .int .i64 0, .int .i64 0, .int .i64 0] 23)) w4 from (New.trans (New.trans (New.drew (new0 _)) G3.out) G4.out)) (by simp)
    obtain ⟨h0, h1, h2, h3, h4, h5⟩ := hHeld
    have hHeld : True := trivial
    have hfr : ∀ o, w4.frozen? ⟨w.heap.size, o, none⟩ = false := fun o => (HB1.out.new (show New w1 w4 from (by repeat (first | (with_reducible exact new0 _) | (with_reducible apply New.alloc) | (with_reducible apply New.drew) | (with_reducible refine New.trans ?_ G4.out) | (with_reducible refine New.trans ?_ G3.out)))) z1).2.2.2.2.2.2 o
    have hp0 : w1.heap.size ≠ w.heap.size := by omega
    have hp1 : w.heap.size ≠ w1.heap.size := by omega
    refine left_one (i := 9) rfl (by kernel_rfl) (fun KK hK => ?_)
    go_simp
    refine hK.out _ _ (fun _ => by first | (refine ⟨?_, ?_, ?_, ?_, ?_, ?_⟩ <;> (go_light; simp [go_sem, *]; done)) | (exact keep6 HB1.out (by repeat (first | (with_reducible exact new0 _) | (with_reducible apply New.alloc) | (with_reducible apply New.drew) | (with_reducible refine New.setCell ?_ (by first | omega | (simp; done) | (simp; omega)) _) | (with_reducible refine New.trans ?_ G4.out) | (with_reducible refine New.trans ?_ G3.out))) z1)) ?_
    clear hK KK
    try simp only [Act.put, List.setIfInBounds_toArray, List.set_cons_zero, List.set_cons_succ]
    refine left_one (i := 10) rfl (by kernel_rfl) (fun KK hK => ?_)
    go_simp
    refine hK.out _ _ (fun _ => by first | (refine ⟨?_, ?_, ?_, ?_, ?_, ?_⟩ <;> (go_light; simp [go_sem, *]; done)) | (exact keep6 HB1.out (by repeat (first | (with_reducible exact new0 _) | (with_reducible apply New.alloc) | (with_reducible apply New.drew) | (with_reducible refine New.setCell ?_ (by first | omega | (simp; done) | (simp; omega)) _) | (with_reducible refine New.trans ?_ G4.out) | (with_reducible refine New.trans ?_ G3.out))) z1)) ?_
    clear hK KK
    try simp only [Act.put, List.setIfInBounds_toArray, List.set_cons_zero, List.set_cons_succ]
    refine left_one (i := 11) rfl (by kernel_rfl) (fun KK hK => ?_)
    go_simp
    refine hK.out _ _ (fun h => absurd rfl h) ?_
    clear hK KK
    try simp only [Act.put, List.setIfInBounds_toArray, List.set_cons_zero, List.set_cons_succ]
    refine left_done (by kernel_rfl) ?_
    refine then_abs (fun X => New w1 X ∧ Blk X w1.heap.size (y 0) (y 1) (y 2) (y 3) (y 4) (y 5) ∧ Blk X w.heap.size s cu tg mn mx st) ?_ ?_
    · exact ⟨(by repeat (first | (with_reducible exact new0 _) | (with_reducible apply New.alloc) | (with_reducible apply New.drew) | (with_reducible refine New.setCell ?_ (by first | omega | (simp; done) | (simp; omega)) _) | (with_reducible refine New.trans ?_ G4.out) | (with_reducible refine New.trans ?_ G3.out))), (by first | (refine ⟨?_, ?_, ?_, ?_, ?_, ?_, fun o => ?_⟩ <;> (go_light; simp [go_sem, *]; done)) | exact Blk.alloc _ _ _ _ _ _ _), (by first | (refine ⟨?_, ?_, ?_, ?_, ?_, ?_, fun o => ?_⟩ <;> (go_light; simp [go_sem, *]; done)) | exact HB1.out.new (by repeat (first | (with_reducible exact new0 _) | (with_reducible apply New.alloc) | (with_reducible apply New.drew) | (with_reducible refine New.setCell ?_ (by first | omega | (simp; done) | (simp; omega)) _) | (with_reducible refine New.trans ?_ G4.out) | (with_reducible refine New.trans ?_ G3.out))) z1)⟩
    rintro X ⟨hn1, hB5, hB0⟩
    have hp5 : w1.heap.size < X.heap.size := World.block_lt_of_cell? X _ hB5.1
    have HN1 := Lib.hid hn1
    have HB5 := Lib.hid hB5
    clear q0 q1 q2 q3 q4 q5 qf hn1 hB5 hHeld
    obtain ⟨d0, d1, d2, d3, d4, d5, df⟩ := hB0
    go_wp2_with fail
    refine (rrun_y _ _ _ _ _ _ n K V _ _ (HS.out.new (New.trans H1.out HN1.out))).mono ?_
    rintro e w5 ⟨y', hy', rfl, h5⟩
    obtain rfl : y' = y := by rw [hy', HY.out]
    clear hy'
    obtain ⟨r0, r1, r2, r3, r4, r5, rf⟩ := HB5.out.new h5 hp5
    have H5 := Lib.hid (New.trans HN1.out h5)
    have g5 : w1.heap.size < w5.heap.size := by have := New.size h5; omega
    clear h5
    go_wp2
    go_ret
    exact ⟨rfl, New.trans H1.out ((H5.out).alloc _)⟩
theorem law_run (s cu tg mn mx st : Int) (A : Option Addr) (n cap : Nat) (K V : Nat → Int) (w : World) (hN : Nm w) (hS : StV w (.slice A n cap) n K V) :
    Calls Tryd.prog 6 #[.agg #[.int .i64 s, .int .i64 cu, .int .i64 tg, .int .i64 mn, .int .i64 mx, .int .i64 st], .slice A n cap] w fun e w' => e = .returned (.bool true) ∧ New w w' := by
  by_cases h : n ≤ 210
  · exact law_run_short _ _ _ _ _ _ A n cap K V w hN h hS
  · exact law_run_long _ _ _ _ _ _ A n cap w hN (by omega)
end Go.Proofs.YtacfjngnfgnmeaaDoor
