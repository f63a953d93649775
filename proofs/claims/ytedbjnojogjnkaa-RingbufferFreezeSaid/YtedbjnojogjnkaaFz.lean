/-
  Lists of samples that lie between two places of the memory.
-/
import Derived.Test.YtedbjnojogjnkaaFr
namespace Go.Proofs.Ytedbjnojogjnkaa
open Go.RowKit
def MsO (lo hi : Nat) (w : World) (v : Value) (n : Nat) (M : Nat → Ms) : Prop := (n = 0 ∧ ∃ (A : Option Addr) (cap : Nat), v = .slice A 0 cap) ∨ ∃ (b off cap : Nat), v = .slice (some ⟨b, off, none⟩) n cap ∧ n ≤ cap ∧ lo ≤ b ∧ b < hi ∧ Mss w b off n M
theorem msO_own {w : World} {base n : Nat} {v : Value} {M : Nat → Ms} (h : w.ownsRow base 26 3 v n (flat n 3 (mF M))) : MsO base w.heap.size w v n M := by
  have h0 := msV_row (row_own h)
  rcases h0 with h0 | ⟨b, off, cap, rfl, hc, hs⟩
  · exact .inl h0
  · exact .inr ⟨b, off, cap, rfl, hc, (h.lt b rfl).1, hs.1, hs⟩
theorem MsO.set {lo hi : Nat} {w : World} {v : Value} {n : Nat} {M : Nat → Ms} (h : MsO lo hi w v n M) {a : Addr} (ha : a.block < lo ∨ hi ≤ a.block) (u : Value) : MsO lo hi (w.setCell a u) v n M := by
  rcases h with h | ⟨b, off, cap, rfl, hc, h1, h2, hs⟩
  · exact .inl h
  · refine .inr ⟨b, off, cap, rfl, hc, h1, h2, by simpa using hs.1, fun j hj => ?_⟩
    have far : ∀ o, (w.setCell a u).cell? ⟨b, o, none⟩ = w.cell? ⟨b, o, none⟩ := fun o => World.cell?_setCell_other _ _ _ _ (fun e => by
      have e' : a.block = b := by rw [e]
      omega)
    obtain ⟨c0, c1, c2⟩ := hs.2 j hj
    exact ⟨(far _).trans c0, (far _).trans c1, (far _).trans c2⟩
theorem MsO.alloc {lo hi : Nat} {w : World} {v : Value} {n : Nat} {M : Nat → Ms} (h : MsO lo hi w v n M) (o : Obj) : MsO lo hi (w.alloc o) v n M := by
  rcases h with h | ⟨b, off, cap, rfl, hc, h1, h2, hs⟩
  · exact .inl h
  · exact .inr ⟨b, off, cap, rfl, hc, h1, h2, hs.new ((new0 _).alloc _)⟩
theorem MsO.ms {lo hi : Nat} {w : World} {v : Value} {n : Nat} {M : Nat → Ms} (h : MsO lo hi w v n M) : MsV w v n M := by
  rcases h with h | ⟨b, off, cap, rfl, hc, h1, h2, hs⟩
  · exact .inl h
  · exact .inr ⟨b, off, cap, rfl, hc, hs⟩
theorem MsO.nms {lo lo' hi : Nat} {w : World} {v : Value} {n : Nat} {M : Nat → Ms} (hl : lo' ≤ lo) (h : MsO lo hi w v n M) : MsN lo' w v n M := by
  refine ⟨h.ms, fun b off c e h0 => ?_⟩
  rcases h with ⟨h, _⟩ | ⟨b', off', cap', h1, _, h2, _⟩
  · omega
  · rw [e] at h1; cases h1; omega
end Go.Proofs.Ytedbjnojogjnkaa
