/-
  A function's contract from the reckoner's run.
-/
import Derived.Test.YtjgllldbpmmodaaEvS
namespace Go.Ev
open Go.RowKit
set_option linter.unusedSimpArgs false
set_option linter.unusedVariables false

theorem nthT_map (g : Nat → TyI) : ∀ (l : List Nat) (t : Nat) (i : TyI), nthT (l.map g) t = some i → ∃ u, l[t]? = some u ∧ i = g u
  | [], t, i, h => by simp [nthT] at h
  | a :: l, 0, i, h => by simp only [List.map_cons, nthT, Option.some.injEq] at h; exact ⟨a, rfl, h.symm⟩
  | a :: l, t + 1, i, h => by simp only [List.map_cons, nthT] at h; simpa using nthT_map g l t i h
def noX : Ext := fun _ _ _ _ _ no => no
theorem noX_ok {P : Program} : ExtOk P noX := fun f args H fr K no _ _ h => .inr h
def also (X Y : Ext) : Ext := fun f args H fr K no => X f args H fr K (Y f args H fr K no)
theorem also_ok {P : Program} {X Y : Ext} (hX : ExtOk P X) (hY : ExtOk P Y) : ExtOk P (also X Y) := fun f args H fr K no h1 h2 h => by
  rcases hX f args H fr K _ h1 h2 h with h | h
  · exact .inl h
  · exact hY f args H fr K no h1 h2 h
def fnOf (F : Func) : Option FnI := match F.body with
  | some _ => some (mkFn F)
  | none => none
theorem nthFn_map : ∀ (l : List Func) (t : Nat) (i : FnI), nthFn (l.map fnOf) t = some i → ∃ F, l[t]? = some F ∧ fnOf F = some i
  | [], t, i, h => by simp [nthFn] at h
  | a :: l, 0, i, h => by simp only [List.map_cons, nthFn] at h; exact ⟨a, rfl, h⟩
  | a :: l, t + 1, i, h => by simp only [List.map_cons, nthFn] at h; simpa using nthFn_map l t i h
def named (l : List Func) : Bool := l.all fun F => F.body.isNone || !(F.name == "runtime.NumGoroutine")
theorem envOk_of {P : Program} {tys : List TyI} {fns : List (Option FnI)} (n : Nat) (h1 : tys = (List.range n).map (mkTy P)) (h2 : fns = P.funcs.toList.map fnOf) (h3 : named P.funcs.toList = true) : EnvOk P ⟨tys, fns⟩ := by
  subst h1 h2
  constructor
  · intro t i h
    obtain ⟨u, h4, h5⟩ := nthT_map _ _ _ _ h
    have : t = u := by
      rw [List.getElem?_range] at h4
      · simpa using h4
      · by_cases hl : t < n
        · exact hl
        · rw [List.getElem?_eq_none (by simpa using hl)] at h4; cases h4
    rw [this]
    exact h5
  · intro f fn h
    obtain ⟨F, h4, h5⟩ := nthFn_map _ _ _ h
    have hF : P.funcs[f]? = some F := by simpa using h4
    have hmem : F ∈ P.funcs.toList := List.mem_of_getElem? h4
    have hn := List.all_eq_true.1 h3 F hmem
    unfold fnOf at h5
    split at h5
    · rename_i b hb
      cases h5
      refine ⟨F, hF, by simp [mkFn, hb], rfl, rfl, ?_⟩
      simpa [hb] using hn
    · cases h5

section
variable {P : Program} {E : Env} (ok : EnvOk P E) (hm : P.follows .mixedOrders = true) {X : Ext} (hX : ExtOk P X)
include ok hm hX
/-- The contract of a function whose run comes to one answer. -/
theorem call_ok {sy : Bool} {n : Nat} {f : FuncId} {args : List PV} {H : Heap} {fr : Nat} {v : PV} {H' : Heap} {fr' : Nat} (hne : H ≠ []) (hN : Names H fr)
    (h : enter E (run cond E sy X false n) f args H fr fun u J g => u = v ∧ J = H' ∧ g = fr') : Grow H H' fr fr' ∧ CallR P f args H fr v H' fr' := by
  have hh : HandOk P (handle E noX (run cond E sy X false n)) := handle_ok ok (X := noX) noX_ok fun c K => run_ok ok hX (drawn_ok ok hm) n false c K
  obtain ⟨u, J, g, ⟨rfl, rfl, rfl⟩, h1, h2, _⟩ := hh f args H fr (fun u J g => u = v ∧ J = H' ∧ g = fr') hne hN h
  exact ⟨h1, h2⟩
/-- As it is, for any question that has the answer. -/
theorem call_any {sy : Bool} {n : Nat} {f : FuncId} {args : List PV} {H : Heap} {fr : Nat} {K : Kon} (hne : H ≠ []) (hN : Names H fr)
    (h : enter E (run cond E sy X false n) f args H fr K) : ∃ v H' fr', K v H' fr' ∧ Grow H H' fr fr' ∧ CallR P f args H fr v H' fr' := by
  have hh : HandOk P (handle E noX (run cond E sy X false n)) := handle_ok ok (X := noX) noX_ok fun c K => run_ok ok hX (drawn_ok ok hm) n false c K
  obtain ⟨u, J, g, hk, h1, h2, _⟩ := hh f args H fr K hne hN h
  exact ⟨u, J, g, hk, h1, h2⟩
end
end Go.Ev
