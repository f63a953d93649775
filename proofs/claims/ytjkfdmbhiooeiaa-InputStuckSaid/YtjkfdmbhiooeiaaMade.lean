/-
  Inputs and samples of descriptions.
-/
import Derived.Test.YtjkfdmbhiooeiaaLawD
import Derived.Deep.AppendLies
namespace Go.Proofs.Ytjkfdmbhiooeiaa
open Go.RowKit
def mN : ByteArray := ⟨#[109, 97, 100, 101]⟩
set_option maxHeartbeats 800000 in
theorem made_any (x y z : Int) (hx : 0 ≤ x ∧ x ≤ 255) (hy : 0 ≤ y ∧ y ≤ 255) (hz : 0 ≤ z ∧ z ≤ 255) (w : World) :
    Calls Try.prog 29 #[.int .u8 x, .int .u8 y, .int .u8 z] w fun e w' => e = .returned (.agg #[.string mN, .int .i64 x, .int .i64 (1 + y % 5), .int .i64 (1 + z % 5)]) ∧ New w w' := by
  have e1 : y.tmod 5 = y % 5 := Int.tmod_eq_emod_of_nonneg hy.1
  have e2 : z.tmod 5 = z % 5 := Int.tmod_eq_emod_of_nonneg hz.1
  have b1 : 0 ≤ y % 5 ∧ y % 5 < 5 := by omega
  have b2 : 0 ≤ z % 5 ∧ z % 5 < 5 := by omega
  go_enter Try.func29, Try.ntmps29
  go_wp2
  refine bodyPost_ret (v := .agg #[.string mN, .int .i64 x, .int .i64 (1 + y % 5), .int .i64 (1 + z % 5)]) (by go_light; simp [results, Try.results29, go_sem, mN, *]) rfl ?_
  exact ⟨rfl, by repeat (first | with_reducible exact new0 _ | with_reducible apply New.alloc | with_reducible apply New.drewN | with_reducible apply New.drew | (with_reducible refine New.setCell ?_ (by simp <;> omega) _))⟩
/-- The sample of a byte. -/
def smB (x : Int) : Sm := ⟨bits .and .u8 x 3 != 0, decide (1 < bits .and .u8 x 3), IntKind.i64.wrap (x / 16), bits .and .u8 x 12 != 12⟩
/-- The bytes X lie in block b. -/
def Byts (w : World) (b off n : Nat) (X : Nat → Int) : Prop := b < w.heap.size ∧ ∀ j, j < n → w.cell? ⟨b, off + j, none⟩ = some (.int .u8 (X j)) ∧ 0 ≤ X j ∧ X j ≤ 255
theorem Byts.new {W W' : World} {b off n : Nat} {X : Nat → Int} (h : Byts W b off n X) (hn : New W W') : Byts W' b off n X :=
  ⟨by have := New.size hn; have := h.1; omega, fun j hj => ⟨((ncell hn).1 _ _ h.1).trans (h.2 j hj).1, (h.2 j hj).2⟩⟩
def SamplesPost (w : World) (n : Nat) (s : Nat → Sm) (e : Ending) (w' : World) : Prop := ∃ v, e = .returned v ∧ w'.ownsRow w.heap.size 25 4 v n (flats n s) ∧ New w w'
theorem flats_snoc (k : Nat) (s : Nat → Sm) : flats (k + 1) s = flats k s ++ [.bool (s k).a, .bool (s k).b, .int .i64 (s k).g, .bool (s k).v] := by
  unfold flats
  rw [show (k + 1) * 4 = k * 4 + 1 + 1 + 1 + 1 by omega]
  simp only [List.range_succ, List.map_append, List.map_cons, List.map_nil]
  rw [flat0, show k * 4 + 1 + 1 = k * 4 + 2 by omega, show k * 4 + 2 + 1 = k * 4 + 3 by omega, flat1, flat2, flat3]
  simp
set_option maxHeartbeats 3200000 in
theorem samples_some (b off n cap : Nat) (X : Nat → Int) (w : World) (hn : n ≤ 100) (hB : Byts w b off n X) : Calls Try.prog 30 #[.slice (some ⟨b, off, none⟩) n cap] w (SamplesPost w n (fun j => smB (X j))) := by
  obtain ⟨i0, hi, hz0, hz1, hz2⟩ := info_parts info25
  have HB := Lib.hid hB
  clear hB
  go_enter Try.func30, Try.ntmps30
  go_wp2
  go_loopw [3, 4] (fun v i wr => ∃ (k : Nat) (v0 : Value), k ≤ n ∧ i = .int .i64 k ∧ v0 = v ∧ wr.ownsRow w.heap.size 25 4 v0 k (flats k fun j => smB (X j)) ∧ New w wr) (fun _ i _ => n - (intOf i).toNat)
  case atStart => exact ⟨0, _, by omega, rfl, rfl, World.ownsRow_nil _ _ _ _, new0 _⟩
  case round =>
    obtain ⟨k, v, hk, rfl, rfl, ho, hNw⟩ := hrel
    have HO := Lib.hid ho
    have HNw := Lib.hid hNw
    by_cases hlt : k < n
    · obtain ⟨c0, x0, x1⟩ := (HB.out.new hNw).2 k hlt
      have hbz : b < wr.heap.size := (HB.out.new hNw).1
      clear ho hNw
      go_wp2_with fail
      refine left_region (fun w' => w'.cell? ⟨b, off + k, none⟩ = some (.int .u8 (X k))) 28 (by kernel_rfl) c0 (fun hHeld => ?_)
      refine left_take (i := 0) (o := { dst := some 11, op := Op.move (Operand.tmp 3), type := 38, pos := "ref.go:186", after := #[], guard := none }) (v := ?va0) rfl rfl (by kernel_rfl) (by kernel_rfl) (by kernel_rfl) (by kernel_rfl) (fun _ _ _ h => h) (Or.inl ⟨by rfl, ?hy0⟩) hHeld ?rest0
      case hy0 => (rintro x t0; go_simp; (try with_reducible rfl))
      try simp only [Act.put, List.setIfInBounds_toArray, List.set_cons_zero, List.set_cons_succ]
      refine left_take (i := 1) (o := { dst := some 12, op := Op.move (Operand.tmp 0), type := 52, pos := "ref.go:186", after := #[], guard := none }) (v := ?va1) rfl rfl (by kernel_rfl) (by kernel_rfl) (by kernel_rfl) (by kernel_rfl) (fun _ _ _ h => h) (Or.inl ⟨by rfl, ?hy1⟩) hHeld ?rest1
      case hy1 => (rintro x t0; go_simp; (try with_reducible rfl))
      try simp only [Act.put, List.setIfInBounds_toArray, List.set_cons_zero, List.set_cons_succ]
      refine left_take (i := 2) (o := { dst := some 13, op := Op.move (Operand.tmp 4), type := 3, pos := "ref.go:186", after := #[], guard := none }) (v := ?va2) rfl rfl (by kernel_rfl) (by kernel_rfl) (by kernel_rfl) (by kernel_rfl) (fun _ _ _ h => h) (Or.inl ⟨by rfl, ?hy2⟩) hHeld ?rest2
      case hy2 => (rintro x t0; go_simp; (try with_reducible rfl))
      try simp only [Act.put, List.setIfInBounds_toArray, List.set_cons_zero, List.set_cons_succ]
      refine left_take (i := 3) (o := { dst := some 14, op := Op.indexAddr 52 (Operand.tmp 12) (Operand.tmp 13), type := 0, pos := "ref.go:186", after := #[{ on := 1, ground := Ground.data }, { on := 2, ground := Ground.data }], guard := none }) (v := ?va3) rfl rfl (by kernel_rfl) (by kernel_rfl) (by kernel_rfl) (by kernel_rfl) (fun _ _ _ h => h) (Or.inl ⟨by rfl, ?hy3⟩) hHeld ?rest3
      case hy3 => (rintro x t0; go_simp; (try with_reducible rfl))
      try simp only [Act.put, List.setIfInBounds_toArray, List.set_cons_zero, List.set_cons_succ]
      refine left_take (i := 4) (o := { dst := some 15, op := Op.load 5 (Operand.tmp 14), type := 5, pos := "ref.go:186", after := #[{ on := 3, ground := Ground.data }], guard := none }) (v := ?va4) rfl rfl (by kernel_rfl) (by kernel_rfl) (by kernel_rfl) (by kernel_rfl) (fun _ _ _ h => h) (Or.inl ⟨by rfl, ?hy4⟩) hHeld ?rest4
      case hy4 => (rintro x t0; go_simp; (try with_reducible rfl))
      try simp only [Act.put, List.setIfInBounds_toArray, List.set_cons_zero, List.set_cons_succ]
      refine left_take (i := 5) (o := { dst := some 16, op := Op.binOp BinOp.and 5 (Operand.tmp 15) (Operand.const (Value.int IntKind.u8 3)) 5, type := 5, pos := "ref.go:186", after := #[{ on := 4, ground := Ground.data }], guard := none }) (v := ?va5) rfl rfl (by kernel_rfl) (by kernel_rfl) (by kernel_rfl) (by kernel_rfl) (fun _ _ _ h => h) (Or.inl ⟨by rfl, ?hy5⟩) hHeld ?rest5
      case hy5 => (rintro x t0; go_simp; (try with_reducible rfl))
      try simp only [Act.put, List.setIfInBounds_toArray, List.set_cons_zero, List.set_cons_succ]
      refine left_take (i := 6) (o := { dst := some 17, op := Op.binOp BinOp.neq 5 (Operand.tmp 16) (Operand.const (Value.int IntKind.u8 0)) 5, type := 4, pos := "ref.go:186", after := #[{ on := 5, ground := Ground.data }], guard := none }) (v := ?va6) rfl rfl (by kernel_rfl) (by kernel_rfl) (by kernel_rfl) (by kernel_rfl) (fun _ _ _ h => h) (Or.inl ⟨by rfl, ?hy6⟩) hHeld ?rest6
      case hy6 => (rintro x t0; go_simp; (try with_reducible rfl))
      try simp only [Act.put, List.setIfInBounds_toArray, List.set_cons_zero, List.set_cons_succ]
      refine left_take (i := 7) (o := { dst := some 18, op := Op.move (Operand.tmp 0), type := 52, pos := "ref.go:186", after := #[], guard := none }) (v := ?va7) rfl rfl (by kernel_rfl) (by kernel_rfl) (by kernel_rfl) (by kernel_rfl) (fun _ _ _ h => h) (Or.inl ⟨by rfl, ?hy7⟩) hHeld ?rest7
      case hy7 => (rintro x t0; go_simp; (try with_reducible rfl))
      try simp only [Act.put, List.setIfInBounds_toArray, List.set_cons_zero, List.set_cons_succ]
      refine left_take (i := 8) (o := { dst := some 19, op := Op.move (Operand.tmp 4), type := 3, pos := "ref.go:186", after := #[], guard := none }) (v := ?va8) rfl rfl (by kernel_rfl) (by kernel_rfl) (by kernel_rfl) (by kernel_rfl) (fun _ _ _ h => h) (Or.inl ⟨by rfl, ?hy8⟩) hHeld ?rest8
      case hy8 => (rintro x t0; go_simp; (try with_reducible rfl))
      try simp only [Act.put, List.setIfInBounds_toArray, List.set_cons_zero, List.set_cons_succ]
      refine left_take (i := 9) (o := { dst := some 20, op := Op.indexAddr 52 (Operand.tmp 18) (Operand.tmp 19), type := 0, pos := "ref.go:186", after := #[{ on := 7, ground := Ground.data }, { on := 8, ground := Ground.data }], guard := none }) (v := ?va9) rfl rfl (by kernel_rfl) (by kernel_rfl) (by kernel_rfl) (by kernel_rfl) (fun _ _ _ h => h) (Or.inl ⟨by rfl, ?hy9⟩) hHeld ?rest9
      case hy9 => (rintro x t0; go_simp; (try with_reducible rfl))
      try simp only [Act.put, List.setIfInBounds_toArray, List.set_cons_zero, List.set_cons_succ]
      refine left_take (i := 10) (o := { dst := some 21, op := Op.load 5 (Operand.tmp 20), type := 5, pos := "ref.go:186", after := #[{ on := 9, ground := Ground.data }], guard := none }) (v := ?va10) rfl rfl (by kernel_rfl) (by kernel_rfl) (by kernel_rfl) (by kernel_rfl) (fun _ _ _ h => h) (Or.inl ⟨by rfl, ?hy10⟩) hHeld ?rest10
      case hy10 => (rintro x t0; go_simp; (try with_reducible rfl))
      try simp only [Act.put, List.setIfInBounds_toArray, List.set_cons_zero, List.set_cons_succ]
      refine left_take (i := 11) (o := { dst := some 22, op := Op.binOp BinOp.and 5 (Operand.tmp 21) (Operand.const (Value.int IntKind.u8 3)) 5, type := 5, pos := "ref.go:186", after := #[{ on := 10, ground := Ground.data }], guard := none }) (v := ?va11) rfl rfl (by kernel_rfl) (by kernel_rfl) (by kernel_rfl) (by kernel_rfl) (fun _ _ _ h => h) (Or.inl ⟨by rfl, ?hy11⟩) hHeld ?rest11
      case hy11 => (rintro x t0; go_simp; (try with_reducible rfl))
      try simp only [Act.put, List.setIfInBounds_toArray, List.set_cons_zero, List.set_cons_succ]
      refine left_take (i := 12) (o := { dst := some 23, op := Op.binOp BinOp.gtr 5 (Operand.tmp 22) (Operand.const (Value.int IntKind.u8 1)) 5, type := 4, pos := "ref.go:186", after := #[{ on := 11, ground := Ground.data }], guard := none }) (v := ?va12) rfl rfl (by kernel_rfl) (by kernel_rfl) (by kernel_rfl) (by kernel_rfl) (fun _ _ _ h => h) (Or.inl ⟨by rfl, ?hy12⟩) hHeld ?rest12
      case hy12 => (rintro x t0; go_simp; (try with_reducible rfl))
      try simp only [Act.put, List.setIfInBounds_toArray, List.set_cons_zero, List.set_cons_succ]
      refine left_take (i := 13) (o := { dst := some 24, op := Op.move (Operand.tmp 0), type := 52, pos := "ref.go:186", after := #[], guard := none }) (v := ?va13) rfl rfl (by kernel_rfl) (by kernel_rfl) (by kernel_rfl) (by kernel_rfl) (fun _ _ _ h => h) (Or.inl ⟨by rfl, ?hy13⟩) hHeld ?rest13
      case hy13 => (rintro x t0; go_simp; (try with_reducible rfl))
      try simp only [Act.put, List.setIfInBounds_toArray, List.set_cons_zero, List.set_cons_succ]
      refine left_take (i := 14) (o := { dst := some 25, op := Op.move (Operand.tmp 4), type := 3, pos := "ref.go:186", after := #[], guard := none }) (v := ?va14) rfl rfl (by kernel_rfl) (by kernel_rfl) (by kernel_rfl) (by kernel_rfl) (fun _ _ _ h => h) (Or.inl ⟨by rfl, ?hy14⟩) hHeld ?rest14
      case hy14 => (rintro x t0; go_simp; (try with_reducible rfl))
      try simp only [Act.put, List.setIfInBounds_toArray, List.set_cons_zero, List.set_cons_succ]
      refine left_take (i := 15) (o := { dst := some 26, op := Op.indexAddr 52 (Operand.tmp 24) (Operand.tmp 25), type := 0, pos := "ref.go:186", after := #[{ on := 13, ground := Ground.data }, { on := 14, ground := Ground.data }], guard := none }) (v := ?va15) rfl rfl (by kernel_rfl) (by kernel_rfl) (by kernel_rfl) (by kernel_rfl) (fun _ _ _ h => h) (Or.inl ⟨by rfl, ?hy15⟩) hHeld ?rest15
      case hy15 => (rintro x t0; go_simp; (try with_reducible rfl))
      try simp only [Act.put, List.setIfInBounds_toArray, List.set_cons_zero, List.set_cons_succ]
      refine left_take (i := 16) (o := { dst := some 27, op := Op.load 5 (Operand.tmp 26), type := 5, pos := "ref.go:186", after := #[{ on := 15, ground := Ground.data }], guard := none }) (v := ?va16) rfl rfl (by kernel_rfl) (by kernel_rfl) (by kernel_rfl) (by kernel_rfl) (fun _ _ _ h => h) (Or.inl ⟨by rfl, ?hy16⟩) hHeld ?rest16
      case hy16 => (rintro x t0; go_simp; (try with_reducible rfl))
      try simp only [Act.put, List.setIfInBounds_toArray, List.set_cons_zero, List.set_cons_succ]
      refine left_take (i := 17) (o := { dst := some 28, op := Op.binOp BinOp.and 5 (Operand.tmp 27) (Operand.const (Value.int IntKind.u8 12)) 5, type := 5, pos := "ref.go:186", after := #[{ on := 16, ground := Ground.data }], guard := none }) (v := ?va17) rfl rfl (by kernel_rfl) (by kernel_rfl) (by kernel_rfl) (by kernel_rfl) (fun _ _ _ h => h) (Or.inl ⟨by rfl, ?hy17⟩) hHeld ?rest17
      case hy17 => (rintro x t0; go_simp; (try with_reducible rfl))
      try simp only [Act.put, List.setIfInBounds_toArray, List.set_cons_zero, List.set_cons_succ]
      refine left_take (i := 18) (o := { dst := some 29, op := Op.binOp BinOp.neq 5 (Operand.tmp 28) (Operand.const (Value.int IntKind.u8 12)) 5, type := 4, pos := "ref.go:186", after := #[{ on := 17, ground := Ground.data }], guard := none }) (v := ?va18) rfl rfl (by kernel_rfl) (by kernel_rfl) (by kernel_rfl) (by kernel_rfl) (fun _ _ _ h => h) (Or.inl ⟨by rfl, ?hy18⟩) hHeld ?rest18
      case hy18 => (rintro x t0; go_simp; (try with_reducible rfl))
      try simp only [Act.put, List.setIfInBounds_toArray, List.set_cons_zero, List.set_cons_succ]
      refine left_take (i := 19) (o := { dst := some 30, op := Op.move (Operand.tmp 0), type := 52, pos := "ref.go:186", after := #[], guard := none }) (v := ?va19) rfl rfl (by kernel_rfl) (by kernel_rfl) (by kernel_rfl) (by kernel_rfl) (fun _ _ _ h => h) (Or.inl ⟨by rfl, ?hy19⟩) hHeld ?rest19
      case hy19 => (rintro x t0; go_simp; (try with_reducible rfl))
      try simp only [Act.put, List.setIfInBounds_toArray, List.set_cons_zero, List.set_cons_succ]
      refine left_take (i := 20) (o := { dst := some 31, op := Op.move (Operand.tmp 4), type := 3, pos := "ref.go:186", after := #[], guard := none }) (v := ?va20) rfl rfl (by kernel_rfl) (by kernel_rfl) (by kernel_rfl) (by kernel_rfl) (fun _ _ _ h => h) (Or.inl ⟨by rfl, ?hy20⟩) hHeld ?rest20
      case hy20 => (rintro x t0; go_simp; (try with_reducible rfl))
      try simp only [Act.put, List.setIfInBounds_toArray, List.set_cons_zero, List.set_cons_succ]
      refine left_take (i := 21) (o := { dst := some 32, op := Op.indexAddr 52 (Operand.tmp 30) (Operand.tmp 31), type := 0, pos := "ref.go:186", after := #[{ on := 19, ground := Ground.data }, { on := 20, ground := Ground.data }], guard := none }) (v := ?va21) rfl rfl (by kernel_rfl) (by kernel_rfl) (by kernel_rfl) (by kernel_rfl) (fun _ _ _ h => h) (Or.inl ⟨by rfl, ?hy21⟩) hHeld ?rest21
      case hy21 => (rintro x t0; go_simp; (try with_reducible rfl))
      try simp only [Act.put, List.setIfInBounds_toArray, List.set_cons_zero, List.set_cons_succ]
      refine left_take (i := 22) (o := { dst := some 33, op := Op.load 5 (Operand.tmp 32), type := 5, pos := "ref.go:186", after := #[{ on := 21, ground := Ground.data }], guard := none }) (v := ?va22) rfl rfl (by kernel_rfl) (by kernel_rfl) (by kernel_rfl) (by kernel_rfl) (fun _ _ _ h => h) (Or.inl ⟨by rfl, ?hy22⟩) hHeld ?rest22
      case hy22 => (rintro x t0; go_simp; (try with_reducible rfl))
      try simp only [Act.put, List.setIfInBounds_toArray, List.set_cons_zero, List.set_cons_succ]
      refine left_take (i := 23) (o := { dst := some 34, op := Op.binOp BinOp.shr 5 (Operand.tmp 33) (Operand.const (Value.int IntKind.u64 4)) 66, type := 5, pos := "ref.go:186", after := #[{ on := 22, ground := Ground.data }], guard := none }) (v := ?va23) rfl rfl (by kernel_rfl) (by kernel_rfl) (by kernel_rfl) (by kernel_rfl) (fun _ _ _ h => h) (Or.inl ⟨by rfl, ?hy23⟩) hHeld ?rest23
      case hy23 => (rintro x t0; go_simp; (try with_reducible rfl))
      try simp only [Act.put, List.setIfInBounds_toArray, List.set_cons_zero, List.set_cons_succ]
      refine left_take (i := 24) (o := { dst := some 35, op := Op.convert 5 3 (Operand.tmp 34), type := 3, pos := "ref.go:186", after := #[{ on := 23, ground := Ground.data }], guard := none }) (v := ?va24) rfl rfl (by kernel_rfl) (by kernel_rfl) (by kernel_rfl) (by kernel_rfl) (fun _ _ _ h => h) (Or.inl ⟨by rfl, ?hy24⟩) hHeld ?rest24
      case hy24 => (rintro x t0; go_simp; (try with_reducible rfl))
      try simp only [Act.put, List.setIfInBounds_toArray, List.set_cons_zero, List.set_cons_succ]
      refine left_take (i := 25) (o := { dst := some 36, op := Op.build 25 #[(0, Operand.tmp 17), (1, Operand.tmp 23), (3, Operand.tmp 29), (2, Operand.tmp 35)], type := 25, pos := "ref.go:186", after := #[{ on := 6, ground := Ground.data }, { on := 12, ground := Ground.data }, { on := 18, ground := Ground.data }, { on := 24, ground := Ground.data }], guard := none }) (v := ?va25) rfl rfl (by kernel_rfl) (by kernel_rfl) (by kernel_rfl) (by kernel_rfl) (fun _ _ _ h => h) (Or.inl ⟨by rfl, ?hy25⟩) hHeld ?rest25
      case hy25 => (rintro x t0; go_simp; (try with_reducible rfl))
      try simp only [Act.put, List.setIfInBounds_toArray, List.set_cons_zero, List.set_cons_succ]
      refine left_one (i := 26) (o := { dst := some 37, op := Op.buildSlice 38 1 #[(0, Operand.tmp 36)], type := 38, pos := "ref.go:186", after := #[{ on := 25, ground := Ground.data }], guard := none }) rfl (by kernel_rfl) (fun K hK => ?_)
      go_simp
      have cA : ∀ o : Obj, (wr.alloc o).cell? ⟨b, off + k, none⟩ = some (.int .u8 (X k)) := fun o => ((ncell ((new0 wr).alloc o)).1 _ _ hbz).trans c0
      refine hK.out _ _ (fun _ => cA _) ?_
      clear hK K
      try simp only [Act.put, List.setIfInBounds_toArray, List.set_cons_zero, List.set_cons_succ]
      refine left_one (i := 27) (o := { dst := some 38, op := Op.call { callee := Callee.builtin Builtin.append, args := #[Operand.tmp 11, Operand.tmp 37], argTypes := #[38, 38] }, type := 38, pos := "ref.go:186", after := #[{ on := 0, ground := Ground.data }, { on := 26, ground := Ground.data }], guard := none }) rfl (by kernel_rfl) (fun K hK => ?_)
      refine step_append_lies _ rfl (.tmp 11) (.tmp 37) 38 rfl w.heap.size 25 i0 (.agg #[.bool false, .bool false, .int .i64 0, .bool false]) 4 24 Try.underlying38 hi hz0 hz1 hz2 rfl (by decide) v k (flats k fun j => smB (X j)) rfl (HO.out.alloc _) ⟨wr.heap.size, 0, none⟩ 1 1 [.bool (smB (X k)).a, .bool (smB (X k)).b, .int .i64 (smB (X k)).g, .bool (smB (X k)).v] rfl rfl (by intro t u ht; match t, ht with | 0, ht | 1, ht | 2, ht | 3, ht => simp at ht; subst ht; simp [Addr.add, go_sem, smB]) (by intro u hu; simp at hu; rcases hu with rfl | rfl | rfl | rfl <;> rfl) (by decide) (by unfold maxLen; omega) (by omega) (by have := New.size HNw.out; simp; omega) _ rfl ?_
      intro g cp w3 hown hgrow _ _
      have R3 : w3.ownsRow w.heap.size 25 4 (.slice (some ⟨g, 0, none⟩) (k + 1) cp) (k + 1) (flats (k + 1) fun j => smB (X j)) := by rw [flats_snoc]; exact hown
      have N3 : New w w3 := Below.grown ((HNw.out.alloc _).drew) hgrow (by have := New.size HNw.out; simp; omega) (fun j hj => by have := HO.out.lt j hj; omega)
      refine hK.out _ _ (fun _ => ?_) ?_
      · exact hgrow.cell (cA _) (fun e => by have h1 := (HO.out.lt _ e.symm).1; have h2 : b < w.heap.size := HB.out.1; have h3 : w.heap.size ≤ b := h1; omega)
      clear hK K
      try simp only [Act.put, List.setIfInBounds_toArray, List.set_cons_zero, List.set_cons_succ]
      refine left_one (i := 28) rfl (by kernel_rfl) (fun K hK => ?_)
      go_simp
      refine hK.out _ _ (fun h => absurd rfl h) ?_
      clear hK K
      try simp only [Act.put, List.setIfInBounds_toArray, List.set_cons_zero, List.set_cons_succ]
      refine left_done (by kernel_rfl) ?_
      clear hown hgrow hHeld cA
      have R3 := Lib.hid R3
      have N3 := Lib.hid N3
      go_wp2_with fail
      go_roundw
      case rel => exact ⟨k + 1, _, by omega, by go_num, rfl, R3.out, N3.out⟩
      case measure => simp [intOf]; omega
    · have e : k = n := by omega
      subst e
      clear hlt hk ho hNw
      go_wp2
      go_ret
      exact ⟨_, rfl, HO.out, HNw.out⟩
end Go.Proofs.Ytjkfdmbhiooeiaa
