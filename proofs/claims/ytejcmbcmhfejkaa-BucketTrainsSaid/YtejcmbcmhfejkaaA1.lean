/-
  Rings: what is asked of numbers; the greatest common divisor.
-/
import Derived.Test.YtejcmbcmhfejkaaL0
namespace Go.Ev
open Go.Proofs
set_option linter.unusedVariables false
set_option linter.unusedSimpArgs false
set_option maxRecDepth 100000

namespace S
def rgB (h i : Int) : Bool := decide (1 ≤ h ∧ h ≤ 2000 ∧ 0 ≤ i ∧ i < h)
/-- The remainder that is not negative. -/
def mdl (n h : Int) : Int := Int.tmod (Int.tmod n h + h) h
def pas (h i t : Int) : Int := t + mdl (i - t) h
def gcdI (a c : Int) : Int := (Int.gcd a c : Int)
def perS (h1 h2 : Int) : Int × Int := if rgB h1 0 = true ∧ rgB h2 0 = true then (Int.tdiv h1 (gcdI h1 h2) * h2, 0) else (0, 6)
def facS (h1 i h2 t : Int) : Int × Int := if rgB h1 i = true ∧ rgB h2 0 = true ∧ 0 ≤ t ∧ t ≤ 1099511627776 then (Int.tmod (pas h1 i t) h2, 0) else (0, 6)
def hitB (h1 i h2 j t : Int) (k : Nat) : Bool := decide (Int.tmod (pas h1 i t + k * h1) h2 = j)
def meeS (h1 i h2 j t : Int) : Int × Int := if rgB h1 i = true ∧ rgB h2 j = true ∧ 0 ≤ t ∧ t ≤ 1099511627776 then (if idx (hitB h1 i h2 j t) 0 h2.toNat = -1 then (0, 10) else (pas h1 i t + idx (hitB h1 i h2 j t) 0 h2.toNat * h1, 0)) else (0, 6)
end S
theorem rg_ok {h i : Int} : S.rgB h i = true ↔ 1 ≤ h ∧ h ≤ 2000 ∧ 0 ≤ i ∧ i < h := decide_eq_true_iff
theorem tmod_lt {n h : Int} (hh : 0 < h) : -h < Int.tmod n h ∧ Int.tmod n h < h := ⟨Int.lt_tmod_of_pos n hh, Int.tmod_lt_of_pos n hh⟩
theorem tmod_ge {n h : Int} (hn : 0 ≤ n) : 0 ≤ Int.tmod n h := Int.tmod_nonneg h hn
theorem mdl_ok {n h : Int} (hh : 0 < h) : 0 ≤ S.mdl n h ∧ S.mdl n h < h := by
  have h1 := tmod_lt (n := n) hh
  have h2 := tmod_lt (n := Int.tmod n h + h) hh
  exact ⟨tmod_ge (by omega), h2.2⟩
theorem mul_bnd {k h : Int} (h1 : 0 ≤ k ∧ k ≤ 2000) (h2 : 0 ≤ h ∧ h ≤ 2000) : 0 ≤ k * h ∧ k * h ≤ 4000000 := by
  refine ⟨Int.mul_nonneg h1.1 h2.1, ?_⟩
  have := Int.mul_le_mul h1.2 h2.2 h2.1 (by omega)
  omega
theorem gcd_pos' {a c : Int} (h : 0 < a) : 0 < S.gcdI a c := by
  unfold S.gcdI
  have : 0 < Int.gcd a c := Int.gcd_pos_of_ne_zero_left c (by omega)
  omega
theorem div_bnd {h g : Int} (h1 : 1 ≤ h ∧ h ≤ 2000) (hg : 0 < g) : 0 ≤ Int.tdiv h g ∧ Int.tdiv h g ≤ 2000 := by
  rw [Int.tdiv_eq_ediv_of_nonneg (by omega)]
  exact ⟨Int.ediv_nonneg (by omega) (by omega), Int.le_trans (Int.ediv_le_self g (by omega)) h1.2⟩
inductive St41 where
  | h0 (x0 : Int) (x1 : Int)
abbrev Rt41 := Int
noncomputable def V41 (a : Int) (c : Int) (r : Rt41) : PV := PV.int IntKind.i64 r
noncomputable def N41 (a : Int) (c : Int) (r : Rt41) : List Blk := []
noncomputable def I41 (a : Int) (c : Int) : St41 → Hd
  | .h0 x0 x1 => ⟨hd Try.f41 0, [PV.int IntKind.i64 x0, PV.int IntKind.i64 x1], [[], []], 0⟩
noncomputable def q41 (a : Int) (c : Int) : St41 → Option (St41 ⊕ Rt41)
  | .h0 x0 x1 => bif (x1 != (0 : Int))
 then (bif (decide (x1 = (0 : Int)))
 then (none)
 else (some (.inl (.h0 (x1) (Int.tmod x0 x1)))))
 else (some (.inr (x0)))
noncomputable def p41 (a : Int) (c : Int) : Option (St41 ⊕ Rt41) := some (.inl (.h0 (a) (c)))
noncomputable def Te41 (test : Bool → Prop → Prop → Prop) (Kst : KS) (Kret : KR) (a : Int) (c : Int) : Prop :=
  Kst (hd Try.f41 0) ([PV.int IntKind.i64 a, PV.int IntKind.i64 c]) ([[]]) (0)
set_option maxRecDepth 100000 in
theorem te41 (test : Bool → Prop → Prop → Prop) (Kst : KS) (Kret : KR) (a : Int) (c : Int) : run test Try.env true noX true 400 ⟨41, [.cd (mkFn Try.f41).body], argT 0 [.int .i64 a, .int .i64 c], [[], []], 0⟩ (proj 0 [0, 1] Kst Kret) =
  Te41 test Kst Kret a c := by kernel_rfl
noncomputable def T41_0 (test : Bool → Prop → Prop → Prop) (Kst : KS) (Kret : KR) (a : Int) (c : Int) (x0 : Int) (x1 : Int) : Prop :=
  test (x1 != (0 : Int))
 (test (decide (x1 = (0 : Int)))
 (False)
 (Kst (hd Try.f41 0) ([PV.int IntKind.i64 x1, PV.int IntKind.i64 (Int.tmod x0 x1)]) ([[]]) (0)))
 (Kret (PV.int IntKind.i64 x0) ([[]]) (0))
set_option maxRecDepth 100000 in
theorem t41_0 (test : Bool → Prop → Prop → Prop) (Kst : KS) (Kret : KR) (a : Int) (c : Int) (x0 : Int) (x1 : Int) : run test Try.env true noX true 400 ⟨41, hd Try.f41 0, zipT [0, 1] [PV.int IntKind.i64 x0, PV.int IntKind.i64 x1], [[], []], 0⟩ (proj 0 [0, 1] Kst Kret) =
  T41_0 test Kst Kret a c x0 x1 := by kernel_rfl
attribute [local irreducible] Int.subNatNat in
set_option maxRecDepth 100000 in
theorem be41 (a : Int) (c : Int) (Kst : KS) (Kret : KR) (x : St41 ⊕ Rt41) (hS : HS 0 400 ((I41 a c)) Kst x) (hR : HR 0 400 ((V41 a c)) (fun r => [newL (0 + 1) ((N41 a c) r) ++ []]) Kret x) (h : (some (.inl (.h0 (a) (c))) : Option (St41 ⊕ Rt41)) = some x) : Te41 cond Kst Kret a c := by
  unfold Te41
  exact stop_at hS _ h (fun n => n) rfl rfl rfl ⟨(rn_int rfl), ⟨(rn_int rfl), trivial⟩⟩ rfl entl_nil
attribute [local irreducible] Int.subNatNat in
set_option maxRecDepth 100000 in
theorem b41_0 (a : Int) (c : Int) (Kst : KS) (Kret : KR) (x : St41 ⊕ Rt41) (hS : HS 0 400 ((I41 a c)) Kst x) (hR : HR 0 400 ((V41 a c)) (fun r => [newL (0 + 1) ((N41 a c) r) ++ []]) Kret x) (x0 : Int) (x1 : Int) (h : (bif (x1 != (0 : Int))
 then (bif (decide (x1 = (0 : Int)))
 then (none)
 else (some (.inl (.h0 (x1) (Int.tmod x0 x1)))))
 else (some (.inr (x0))) : Option (St41 ⊕ Rt41)) = some x) : T41_0 cond Kst Kret a c x0 x1 := by
  unfold T41_0
  exact bif_split h
   (fun c0 h => bif_split h
   (fun c1 h => no_some h)
   (fun c1 h => stop_at hS _ h (fun n => n) rfl rfl rfl ⟨(rn_int rfl), ⟨(rn_int rfl), trivial⟩⟩ rfl entl_nil))
   (fun c0 h => ret_at hR _ h (fun n => n) rfl rfl rfl (rn_int rfl) rfl entl_nil)
theorem a41 (a : Int) (c : Int) {r : Rt41} (h : Goes ((q41 a c)) ((p41 a c)) r) : CallR Try.prog 41 [.int .i64 a, .int .i64 c] [[]] 0 ((V41 a c) r) ((fun r => [newL (0 + 1) ((N41 a c) r) ++ []]) r) 400 ∧ ∃ F, Try.prog.funcs[41]? = some F ∧ F.body.isSome = true ∧ (F.name == "runtime.NumGoroutine") = false := by
  refine dec_calls (f := 41) (lo := 0) (hi := 400) (H := [[]]) (args := [.int .i64 a, .int .i64 c]) Try.envOk Try.mixed noX_ok ((I41 a c)) ((V41 a c)) (fun r => [newL (0 + 1) ((N41 a c) r) ++ []]) (fn := mkFn Try.f41) (ts := [0, 1]) (n := 400) rfl (by decide) (by simp) (names_of rfl) ?_ ?_ ?_ h
  · intro s; cases s <;> exact ⟨hd_ok _ _, by simp [I41], names_of rfl, Nat.le_of_ble_eq_true rfl⟩
  · intro Kst Kret x hS hR h
    exact Holds.eq (te41 cond Kst Kret a c) (be41 a c Kst Kret x hS hR h)
  · intro Kst Kret x hS hR s h
    cases s with
    | h0 x0 x1 => exact Holds.eq (t41_0 cond Kst Kret a c x0 x1) (b41_0 a c Kst Kret x hS hR x0 x1 h)
noncomputable def k41 : Con := ⟨41, [.one (.plain (.int .i64)), .one (.plain (.int .i64))], fun (x : Int × Int × Unit) => (fun (a : Int) (c : Int) => decide (0 ≤ a ∧ 0 ≤ c)) x.1 x.2.1, fun (x : Int × Int × Unit) => (fun (a : Int) (c : Int) => (V41 a c) (S.gcdI a c)) x.1 x.2.1, fun (x : Int × Int × Unit) => (fun (a : Int) (c : Int) => (N41 a c) (S.gcdI a c)) x.1 x.2.1, fun _ _ => .dead⟩
theorem s41' (a : Int) (c : Int) : ∀ (n m : Nat), Comes (q41 a c) (.h0 (m : Int) (n : Int)) ((Nat.gcd m n : Nat) : Int) := by
  intro n
  induction n using Nat.strongRecOn with
  | _ n ih =>
    intro m
    by_cases h0 : n = 0
    · subst h0
      refine Comes.done ?_
      unfold q41
      simp
    · have := ih (m % n) (Nat.mod_lt _ (by omega)) n
      rw [show Nat.gcd n (m % n) = Nat.gcd m n by rw [Nat.gcd_comm n, ← Nat.gcd_rec, Nat.gcd_comm]] at this
      refine Comes.next (s' := .h0 (n : Int) (Int.tmod (m : Int) (n : Int))) ?_ (by rw [show Int.tmod (m : Int) (n : Int) = ((m % n : Nat) : Int) from rfl]; exact this)
      unfold q41
      have e1 : (((n : Nat) : Int) != 0) = true := by simpa using h0
      have e2 : decide (((n : Nat) : Int) = 0) = false := decide_eq_false (by omega)
      simp only [e1, e2, cond_true, cond_false]
theorem s41 (a : Int) (c : Int) (hp : 0 ≤ a ∧ 0 ≤ c) : Goes ((q41 a c)) ((p41 a c)) (S.gcdI a c) := by
  obtain ⟨hp1, hp2⟩ := hp
  obtain ⟨m, rfl⟩ := Int.eq_ofNat_of_zero_le hp1
  obtain ⟨n, rfl⟩ := Int.eq_ofNat_of_zero_le hp2
  exact s41' _ _ n m

theorem k41_ok : k41.ok Try.prog := by
  intro x hx
  obtain ⟨a, c, _⟩ := x
  obtain ⟨h1, h2⟩ := a41 a c (s41 a c (of_dec hx rfl))
  exact ⟨⟨400, (by decide : 0 + 1 + 0 ≤ 400), h1⟩, h2⟩
noncomputable def xA (test : Bool → Prop → Prop → Prop) : Ext := consX test [k41]
theorem xA_ok : ExtOk Try.prog (xA cond) := consX_ok ⟨k41_ok, trivial⟩

end Go.Ev
