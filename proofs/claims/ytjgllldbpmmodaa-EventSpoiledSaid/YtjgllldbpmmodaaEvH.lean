/-
  Small helps for proofs by the reckoner.
-/
import Derived.Test.YtjgllldbpmmodaaEvL
namespace Go.Ev
open Go.RowKit
set_option linter.unusedSimpArgs false
set_option linter.unusedVariables false

theorem cond_intro {b : Bool} {x y : Prop} (h1 : b = true → x) (h2 : b = false → y) : cond b x y := by
  cases b
  · exact h2 rfl
  · exact h1 rfl
theorem cond_yes {b : Bool} {x y : Prop} (hb : b = true) (h : x) : cond b x y := by subst hb; exact h
theorem cond_no {b : Bool} {x y : Prop} (hb : b = false) (h : y) : cond b x y := by subst hb; exact h
theorem lim64 (n : Int) : lim .i64 n = decide (-9223372036854775808 ≤ n ∧ n ≤ 9223372036854775807) := rfl

theorem lt_ok {a b : Nat} (h : Nat.blt a b = true) : a < b := by simpa [Nat.blt_eq] using h
theorem le_ok {a b : Nat} (h : Nat.ble a b = true) : a ≤ b := by simpa [Nat.ble_eq] using h
/-- A name from before. -/
theorem use_lo {r : Ren} {n : Nat} (h : Nat.blt n r.lo = true) : r.mp.use n := .inl (lt_ok h)
/-- A name of a head's own. -/
theorem use_own {r : Ren} {n : Nat} (h : Nat.blt n r.fr = true) : r.mp.use n := .inr (.inr (lt_ok h))
def ItsOk (k : List It) : Prop := ∀ x ∈ k, ItOk x
theorem heads_ok : ∀ (c : Code) (k : List It), ItsOk k → ∀ q ∈ heads c k, ItsOk q := by
  intro c
  induction c <;> intro k hk q hq
  case seq a b iha ihb =>
    simp only [heads, List.mem_append] at hq
    rcases hq with hq | hq
    · exact iha _ (by intro x hx; rcases List.mem_cons.1 hx with rfl | hx; trivial; exact hk x hx) q hq
    · exact ihb k hk q hq
  case cond x a b iha ihb =>
    simp only [heads, List.mem_append] at hq
    rcases hq with hq | hq
    · exact iha k hk q hq
    · exact ihb k hk q hq
  case block id b ih =>
    simp only [heads] at hq
    exact ih _ (by intro x hx; rcases List.mem_cons.1 hx with rfl | hx; trivial; exact hk x hx) q hq
  case scope b ih =>
    simp only [heads] at hq
    exact ih _ (by intro x hx; rcases List.mem_cons.1 hx with rfl | hx; trivial; exact hk x hx) q hq
  case loop b ih =>
    simp only [heads] at hq
    rcases List.mem_cons.1 hq with rfl | hq
    · intro x hx
      rcases List.mem_cons.1 hx with rfl | hx
      · trivial
      · rcases List.mem_cons.1 hx with rfl | hx
        · trivial
        · exact hk x hx
    · exact ih _ (by intro x hx; rcases List.mem_cons.1 hx with rfl | hx; trivial; exact hk x hx) q hq
  all_goals simp [heads] at hq
theorem nthK_ok : ∀ (l : List (List It)) (i : Nat), (∀ q ∈ l, ItsOk q) → ItsOk (nthK l i)
  | [], i, _ => by intro x hx; simp [nthK] at hx
  | k :: l, 0, h => h k List.mem_cons_self
  | k :: l, i + 1, h => nthK_ok l i fun q hq => h q (List.mem_cons_of_mem _ hq)
theorem hd_ok (F : Func) (i : Nat) : ItsOk (hd F i) := nthK_ok _ _ fun q hq => heads_ok _ [] (by intro x hx; cases hx) q hq

def below (fr : Nat) : Lvl → Bool
  | [] => true
  | (n, _) :: l => Nat.blt n fr && below fr l
theorem names_of {H : Heap} {fr : Nat} (h : below fr (flat H) = true) : Names H fr := by
  have key : ∀ (l : Lvl), below fr l = true → ∀ p ∈ l, p.1 < fr := by
    intro l
    induction l with
    | nil => intro _ p hp; cases hp
    | cons q l ih =>
      intro h p hp
      obtain ⟨n, e⟩ := q
      simp only [below, Bool.and_eq_true] at h
      rcases List.mem_cons.1 hp with rfl | hp
      · simpa [Nat.blt_eq] using h.1
      · exact ih h.2 p hp
  intro n e hn
  rw [hget_flat] at hn
  exact key _ h _ (lget_mem hn)
def injL (nm : Nat → Nat) : List Nat → Bool
  | [] => true
  | n :: l => l.all (fun m => Nat.beq n m || !(Nat.beq (nm n) (nm m))) && injL nm l
theorem injL_ok {nm : Nat → Nat} : ∀ {l : List Nat}, injL nm l = true → ∀ n ∈ l, ∀ m ∈ l, nm n = nm m → n = m
  | [], _, n, hn, _, _, _ => by cases hn
  | a :: l, h, n, hn, m, hm, e => by
    simp only [injL, Bool.and_eq_true, List.all_eq_true] at h
    have key : ∀ x ∈ l, nm a = nm x → a = x := fun x hx e => by
      have := h.1 x hx
      rcases Bool.or_eq_true _ _ ▸ this with h1 | h1
      · exact Nat.eq_of_beq_eq_true h1
      · rw [e, Nat.beq_refl] at h1; cases h1
    rcases List.mem_cons.1 hn with e1 | hn' <;> rcases List.mem_cons.1 hm with e2 | hm'
    · rw [e1, e2]
    · subst e1; exact key m hm' e
    · subst e2; exact (key n hn' e.symm).symm
    · exact injL_ok h.2 n hn' m hm' e
theorem HpR.mk' {r : Mp} {fresh : Nat → Prop} {H H' : Heap} (hi : injL r.nm ((flat H).map (·.1)) = true) (h : EntL r fresh H' (flat H)) : HpR r fresh H H' := HpR.of h (injL_ok hi)

theorem stop_intro {lo hi : Nat} {ι : Type} {I : ι → Hd} {good below : ι → Prop} {todo' : List It} {vals : List PV} {H' : Heap} {fr' : Nat} (j : ι) (ρ : Nat → Nat) {todo : List It} {V : List PV} {H : Heap} {fr : Nat} (e : I j = ⟨todo, V, H, fr⟩)
    (hf : Nat.ble fr' hi = true) (ht : todo' = todo) (hg : good j) (hb : below j) (hV : Rns (Ren.mp ⟨lo, hi, fr, ρ⟩) V vals) (hi' : injL (Ren.mp ⟨lo, hi, fr, ρ⟩).nm ((flat H).map (·.1)) = true) (hH : EntL (Ren.mp ⟨lo, hi, fr, ρ⟩) (fun n => fr' ≤ n ∧ n < hi) H' (flat H)) : StopR lo hi I good below todo' vals H' fr' := by
  refine ⟨le_ok hf, j, ρ, hg, hb, by rw [e]; exact ht, ?_, ?_⟩
  · rw [e]; exact hV
  · rw [e]; exact HpR.mk' hi' hH
theorem ret_intro {lo hi : Nat} {R : PV → Heap → Prop} {v' : PV} {H' : Heap} {fr' : Nat} (ρ : Nat → Nat) (v : PV) (H : Heap) (hR : R v H) (hf : Nat.ble fr' hi = true) (hv : Rn (Ren.mp ⟨lo, hi, hi, ρ⟩) v v') (hi' : injL (Ren.mp ⟨lo, hi, hi, ρ⟩).nm ((flat H).map (·.1)) = true)
    (hH : EntL (Ren.mp ⟨lo, hi, hi, ρ⟩) (fun n => fr' ≤ n ∧ n < hi) H' (flat H)) : RetR lo hi R v' H' fr' :=
  ⟨le_ok hf, ρ, v, H, hR, hv, HpR.mk' hi' hH⟩
def allB : Lvl → Bool
  | [] => true
  | (_, b, _) :: l => match b with
    | true => false
    | false => allB l
theorem allB_ok : ∀ {l : Lvl}, allB l = true → ∀ p ∈ l, p.2.1 = false
  | [], _, p, hp => by cases hp
  | (n, b, e) :: l, h, p, hp => by
    simp only [allB] at h
    cases b with
    | true => cases h
    | false =>
      rcases List.mem_cons.1 hp with rfl | hp
      · rfl
      · exact allB_ok h p hp
theorem hget_bor {H : Heap} (h : allB (flat H) = true) (n : Nat) (b : Blk) (hn : hget H n = some (true, b)) : b = .dead := by
  rw [hget_flat] at hn
  have := allB_ok h _ (lget_mem hn)
  cases this
/-- Memory that is only read: names may fall together. -/
theorem HpR.bor {r : Mp} {fresh : Nat → Prop} {H H' : Heap} (hi : allB (flat H) = true) (h : EntL r fresh H' (flat H)) : HpR r fresh H H' := by
  constructor
  · intro n e hn hd
    rw [hget_flat] at hn
    rcases h.mem _ (lget_mem hn) with h1 | ⟨h1, h2⟩
    · exact absurd h1 hd
    · exact ⟨h1, h2.imp (fun ⟨b', blk', q⟩ => ⟨(b', blk'), q⟩) id⟩
  · intro n m e e' hn hm ht _ _ _
    rw [hget_flat] at hn
    have := allB_ok hi _ (lget_mem hn)
    rw [ht] at this
    cases this
/-- Columns without names. -/
def plainC : List Col → Bool
  | [] => true
  | .val _ :: _ => false
  | _ :: l => plainC l
theorem rcs_plain {r : Mp} {n : Nat} : ∀ {cs : List Col}, plainC cs = true → Rcs r n cs cs
  | [], _ => trivial
  | .int k f :: l, h => ⟨fun j _ => rn_int rfl, rcs_plain (cs := l) h⟩
  | .bool f :: l, h => ⟨fun j _ => rn_bool rfl, rcs_plain (cs := l) h⟩
  | .str f :: l, h => ⟨fun j _ => rn_str rfl, rcs_plain (cs := l) h⟩
  | .val f :: l, h => by cases h
theorem rb_plain {r : Mp} {n : Nat} {cs : List Col} (h : plainC cs = true) : Rb r (.cols n cs) (.cols n cs) := rb_cols (Nat.le_refl _) (rcs_plain h)
/-- A block of plain columns that is there as it was. -/
theorem ent_plain {r : Mp} {fresh : Nat → Prop} {H' : Heap} {k n : Nat} {b b' : Bool} {cs : List Col} (hu : r.use k) (hg : hget H' (r.nm k) = some (b', .cols n cs)) (hb : b = true → b' = true) (h : plainC cs = true) :
    (Blk.cols n cs = .dead ∨ (r.use k ∧ ((∃ b' blk', hget H' (r.nm k) = some (b', blk') ∧ blk' ≠ .dead ∧ (b = true → b' = true) ∧ Rb r (.cols n cs) blk') ∨ fresh (r.nm k)))) :=
  .inr ⟨hu, .inl ⟨b', _, hg, by simp, hb, rb_plain h⟩⟩
theorem entl_plain {r : Mp} {fresh : Nat → Prop} {H' : Heap} {k n : Nat} {b b' : Bool} {cs : List Col} {l : Lvl} (hu : r.use k) (hg : hget H' (r.nm k) = some (b', .cols n cs)) (hb : b = true → b' = true) (h : plainC cs = true) (hl : EntL r fresh H' l) : EntL r fresh H' ((k, b, .cols n cs) :: l) :=
  ⟨ent_plain hu hg hb h, hl⟩
theorem entl_nil {r : Mp} {fresh : Nat → Prop} {H' : Heap} : EntL r fresh H' [] := trivial
theorem entl_blk {r : Mp} {fresh : Nat → Prop} {H' : Heap} {k : Nat} {b b' : Bool} {blk blk' : Blk} {l : Lvl} (hu : r.use k) (hg : hget H' (r.nm k) = some (b', blk')) (hd : blk' ≠ .dead) (hb : b = true → b' = true) (h : Rb r blk blk') (hl : EntL r fresh H' l) : EntL r fresh H' ((k, b, blk) :: l) :=
  ⟨.inr ⟨hu, .inl ⟨b', blk', hg, hd, hb, h⟩⟩, hl⟩
theorem entl_fresh {r : Mp} {fresh : Nat → Prop} {H' : Heap} {k : Nat} {b : Bool} {blk : Blk} {l : Lvl} (hu : r.use k) (hf : fresh (r.nm k)) (hl : EntL r fresh H' l) : EntL r fresh H' ((k, b, blk) :: l) :=
  ⟨.inr ⟨hu, .inr hf⟩, hl⟩
theorem HpR.mono {r : Mp} {f g : Nat → Prop} {H H' : Heap} (h : HpR r f H H') (hi : ∀ n, f n → g n) : HpR r g H H' :=
  ⟨fun n e h1 h2 => ⟨(h.ent n e h1 h2).1, (h.ent n e h1 h2).2.imp id (hi _)⟩, h.inj⟩
/-- A call's answer alone: memory as it was. -/
theorem frame0 {P : Program} {f : FuncId} {args0 args : List PV} {H0 H0' H : Heap} {fr0 fr0' fr : Nat} {v0 : PV} (C : CallR P f args0 H0 fr0 v0 H0' fr0') (hb : ∀ n b, hget H0 n = some (true, b) → b = .dead) (hN : Names H fr)
    (τ : Nat → Nat) (ha : Rns ⟨fun n => n < fr0, τ⟩ args0 args) (hH : HpR ⟨fun n => n < fr0, τ⟩ (fun _ => False) H0 H) (hv : ∀ r, Rn r v0 v0) : CallR P f args H fr v0 H fr :=
  frame C hb hN τ id (Nat.le_refl _) (by omega) ha (hH.mono fun _ h => h.elim) (hv _) fun n e h => .inl h
end Go.Ev
