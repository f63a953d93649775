/-
  The parts that the statement needs, 3 of 3.
-/
import Derived.Test.YtndklmcnndilgaaV1052
namespace Go.Ev
open Go.Proofs
open Go.IntWalk
set_option linter.unusedVariables false
set_option linter.unusedSimpArgs false
set_option maxRecDepth 100000
noncomputable def ifX (test : Bool → Prop → Prop → Prop) (c1 c2 : Con) (sel : SsJ c1.ss → Bool) : Ext := fun f args H fr K no => match Nat.beq f c1.f with
  | false => no
  | true => match rdSs H fr c1.ss args with
    | none => no
    | some (x, _) => test (sel x) (conX test c1 f args H fr K no) (conX test c2 f args H fr K no)
theorem ifX_ok  {P : Program} {c1 c2 : Con} {sel : SsJ c1.ss → Bool} (h1 : c1.ok P) (h2 : c2.ok P) : ExtOk P (ifX cond c1 c2 sel) := by
  intro f args H fr K no hne hN h
  unfold ifX at h
  split at h
  · exact .inr h
  · split at h
    · exact .inr h
    · rename_i x ns hx
      cases hs : sel x with
      | true => rw [hs] at h; exact conX_ok h1 f args H fr K no hne hN h
      | false => rw [hs] at h; exact conX_ok h2 f args H fr K no hne hN h
noncomputable def e146i  : SsJ k146.ss → Bool := fun (x : (ByteArray × (Nat × Nat × Nat × (Nat → Int) × Unit) × Int × Int × Unit) × (Nat × Nat × Nat × (Nat → Int) × Unit) × Unit) => (fun (cn : ByteArray) (aq nq mq : Nat) (tq : Nat → Int) (rp : Int) (fl : Int) (al nl ml : Nat) (tl : Nat → Int) => decide ((S.cyE cn nq (fun j => tq (j + aq)) rp fl) = 0 ∧ (S.setE nl (fun j => tl (j + al))) = 0)) x.1.1 x.1.2.1.1 x.1.2.1.2.1 x.1.2.1.2.2.1 x.1.2.1.2.2.2.1 x.1.2.2.1 x.1.2.2.2.1 x.2.1.1 x.2.1.2.1 x.2.1.2.2.1 x.2.1.2.2.2.1
noncomputable def xM3 (test : Bool → Prop → Prop → Prop) : Ext := also (ifX test k146 k146e e146i) (consX test [])
theorem xM3_ok  : ExtOk Try.prog (xM3 cond) := also_ok (ifX_ok k146_ok k146e_ok) (consX_ok trivial)
namespace S
def staS (e : Int) (n : Nat) (t : Nat → Int) (rp fl : Int) (ns : Nat) (x : Nat → Int) : Int × Int :=
  let a := behS e n t rp fl ns x
  if a.2.2.2.2 = 0 then ((if a.2.1 = true then 3 else if a.1 > 0 then 2 else if a.2.2.1 = true then 4 else 1), 0) else (0, a.2.2.2.2)
def nxtS (e : Int) (n : Nat) (t : Nat → Int) (rp fl : Int) (ns : Nat) (x : Nat → Int) : Int × Int :=
  let a := behS e n t rp fl ns x
  if a.2.2.2.2 = 0 then (if a.2.1 = true ∧ a.1 = 0 then (0, 8) else (at' (stpL n t rp fl) a.1.toNat, 0)) else (0, a.2.2.2.2)
end S
theorem beh_ce  {e : Int} {n : Nat} {t : Nat → Int} {rp fl : Int} {ns : Nat} {x : Nat → Int} : (S.behS e n t rp fl ns x).2.2.2.2 = S.cseE e (S.setE ns x) := by
  unfold S.behS S.cseE
  by_cases h1 : e = 0
  · rw [if_pos h1, if_pos h1]
    by_cases h2 : S.setE ns x = 0
    · rw [if_pos h2, h2]
    · rw [if_neg h2]
  · rw [if_neg h1, if_neg h1]
theorem cse_0  {c s : Int} : S.cseE c s = 0 ↔ c = 0 ∧ s = 0 := by
  unfold S.cseE
  constructor
  · intro h
    split at h
    · exact ⟨by assumption, h⟩
    · exact absurd h (by assumption)
  · rintro ⟨rfl, rfl⟩; rfl
theorem beh_in  {cn : ByteArray} {n : Nat} {t : Nat → Int} {rp fl : Int} {ns : Nat} {x : Nat → Int} (h : S.cyE cn n t rp fl = 0) (h2 : S.setE ns x = 0) :
    let a := S.behS (S.cyE cn n t rp fl) n t rp fl ns x
    let c := S.remS n t fl rp ns x
    c.1 = a.1 ∧ c.2.1 = a.2.1 ∧ (a.2.1 = false → c.2.2.2.1 = a.2.2.1) ∧ c.2.2.2.2 = S.stpL n t rp fl ∧ (0 ≤ a.1 ∧ a.1 < ((S.stpL n t rp fl).length : Int)) := by
  have hc := cy_ok h
  have hl2 : 2 ≤ (S.stpL n t rp fl).length := by
    rw [stp_len]
    have : 1 ≤ n * rp.toNat := Nat.mul_pos (by omega) (by omega)
    omega
  unfold S.behS S.remS
  rw [h, if_pos rfl, if_pos h2]
  obtain ⟨h1, h2, h3, h4⟩ := rem_beh (n := n) (nl := (S.stpL n t rp fl).length) (t := t) (l := fun j => S.at' (S.stpL n t rp fl) j) (x := x) (fl := fl) ns
  exact ⟨h1, h2, h4, rfl, beh_b hl2 ns⟩
abbrev St126  := Empty
abbrev Rt126  := Int × Int
noncomputable def V126 (cn : ByteArray) (aq nq mq : Nat) (tq : NI) (rp fl : Int) (al nl ml : Nat) (tl : NI) (r : Rt126) : PV := PV.tup [PV.int .i64 r.1, PV.int .i64 r.2]
noncomputable def N126 (cn : ByteArray) (aq nq mq : Nat) (tq : NI) (rp fl : Int) (al nl ml : Nat) (tl : NI) (r : Rt126) : List Blk := []
noncomputable def I126 (cn : ByteArray) (aq nq mq : Nat) (tq : NI) (rp fl : Int) (al nl ml : Nat) (tl : NI) : St126 → Hd := fun s => s.elim
noncomputable def q126 (cn : ByteArray) (aq nq mq : Nat) (tq : NI) (rp fl : Int) (al nl ml : Nat) (tl : NI) : St126 → Option (St126 ⊕ Rt126) := fun s => s.elim
noncomputable def p126 (cn : ByteArray) (aq nq mq : Nat) (tq : NI) (rp fl : Int) (al nl ml : Nat) (tl : NI) : Option (St126 ⊕ Rt126) := bif (decide ((aq + nq ≤ mq ∧ nq ≤ 1000000) ∧ al + nl ≤ ml ∧ nl ≤ 1000000)) then (bif (Prod.snd (Prod.snd (Prod.snd (Prod.snd (S.behS (S.cyE cn nq (fun j => tq (j + aq)) rp fl) nq (fun j => tq (j + aq)) rp fl nl fun j => tl (j + al))))) != 0) then (some (.inr ((0 : Int), Prod.snd (Prod.snd (Prod.snd (Prod.snd (S.behS (S.cyE cn nq (fun j => tq (j + aq)) rp fl) nq (fun j => tq (j + aq)) rp fl nl fun j => tl (j + al)))))))) else (bif (Prod.fst (Prod.snd (S.behS (S.cyE cn nq (fun j => tq (j + aq)) rp fl) nq (fun j => tq (j + aq)) rp fl nl fun j => tl (j + al)))) then (some (.inr ((3 : Int), (0 : Int)))) else (bif (decide (Prod.fst (S.behS (S.cyE cn nq (fun j => tq (j + aq)) rp fl) nq (fun j => tq (j + aq)) rp fl nl fun j => tl (j + al)) > 0)) then (some (.inr ((2 : Int), (0 : Int)))) else (bif (Prod.fst (Prod.snd (Prod.snd (S.behS (S.cyE cn nq (fun j => tq (j + aq)) rp fl) nq (fun j => tq (j + aq)) rp fl nl fun j => tl (j + al))))) then (some (.inr ((4 : Int), (0 : Int)))) else (some (.inr ((1 : Int), (0 : Int)))))))) else (none)
noncomputable abbrev u126_e_0 (mq : Nat) (tq : Nat → Int) (ml : Nat) (tl : Nat → Int) := ([[(1, false, Blk.cols ml [Col.int IntKind.i64 tl]), (0, false, Blk.cols mq [Col.int IntKind.i64 tq])]])
def Te126 (test : TT) (Kst : KS) (Kret : KR) (cn : ByteArray) (aq nq mq : Nat) (tq : NI) (rp fl : Int) (al nl ml : Nat) (tl : NI) : Prop := test (decide ((aq + nq ≤ mq ∧ nq ≤ 1000000) ∧ al + nl ≤ ml ∧ nl ≤ 1000000)) (test ((S.behS (S.cyE cn nq (fun j => tq (j + aq)) rp fl) nq (fun j => tq (j + aq)) rp fl nl fun j => tl (j + al)).2.2.2.2 != 0) (Kret (PV.tup [PV.int .i64 (0 : Int), PV.int .i64 (S.behS (S.cyE cn nq (fun j => tq (j + aq)) rp fl) nq (fun j => tq (j + aq)) rp fl nl fun j => tl (j + al)).2.2.2.2]) (u126_e_0 mq tq ml tl) (5)) (test (S.behS (S.cyE cn nq (fun j => tq (j + aq)) rp fl) nq (fun j => tq (j + aq)) rp fl nl fun j => tl (j + al)).2.1 (Kret (PV.tup [PV.int .i64 (3 : Int), PV.int .i64 (0 : Int)]) (u126_e_0 mq tq ml tl) (5)) (test (decide ((S.behS (S.cyE cn nq (fun j => tq (j + aq)) rp fl) nq (fun j => tq (j + aq)) rp fl nl fun j => tl (j + al)).1 > 0)) (Kret (PV.tup [PV.int .i64 (2 : Int), PV.int .i64 (0 : Int)]) (u126_e_0 mq tq ml tl) (5)) (test (S.behS (S.cyE cn nq (fun j => tq (j + aq)) rp fl) nq (fun j => tq (j + aq)) rp fl nl fun j => tl (j + al)).2.2.1 (Kret (PV.tup [PV.int .i64 (4 : Int), PV.int .i64 (0 : Int)]) (u126_e_0 mq tq ml tl) (5)) (Kret (PV.tup [PV.int .i64 (1 : Int), PV.int .i64 (0 : Int)]) (u126_e_0 mq tq ml tl) (5)))))) (False)
theorem te126 (test : TT) (Kst : KS) (Kret : KR) (cn : ByteArray) (aq nq mq : Nat) (tq : NI) (rp fl : Int) (al nl ml : Nat) (tl : NI) : run test Try.env true (xFA test) true 400 ⟨26, [.cd (mkFn Try.f26).body], argT 0 [.agg [.str cn, .loose ⟨0, 1, aq, 0⟩ nq, .int .i64 rp, .int .i64 fl], .loose ⟨1, 1, al, 0⟩ nl], [[], [(0, (false, .cols mq [.int .i64 tq])), (1, (false, .cols ml [.int .i64 tl]))]], 2⟩ (proj 2 [] Kst Kret) =
  Te126 test Kst Kret cn aq nq mq tq rp fl al nl ml tl := by kernel_rfl
noncomputable abbrev J126 (cn : ByteArray) (aq nq mq : Nat) (tq : NI) (rp : Int) (fl : Int) (al nl ml : Nat) (tl : NI) : Rt126 → Heap := fun r => [newL (2 + 1) ((N126 cn aq nq mq tq rp fl al nl ml tl) r) ++ [(0, (false, .cols mq [.int .i64 tq])), (1, (false, .cols ml [.int .i64 tl]))]]
attribute [local irreducible] Int.subNatNat in
theorem be126 (cn : ByteArray) (aq nq mq : Nat) (tq : NI) (rp fl : Int) (al nl ml : Nat) (tl : NI) (Kst : KS) (Kret : KR) (x : St126 ⊕ Rt126) (hS : HS 2 400 ((I126 cn aq nq mq tq rp fl al nl ml tl)) Kst x) (hR : HR 2 400 ((V126 cn aq nq mq tq rp fl al nl ml tl)) (J126 cn aq nq mq tq rp fl al nl ml tl) Kret x) (h : p126 cn aq nq mq tq rp fl al nl ml tl = some x) : Te126 cond Kst Kret cn aq nq mq tq rp fl al nl ml tl := by
  unfold Te126
  unfold p126 at h
  refine bif_split h (fun c0 h => bif_split h (fun c1 h => ?_) (fun c1 h => bif_split h (fun c2 h => ?_) (fun c2 h => bif_split h (fun c3 h => ?_) (fun c3 h => bif_split h (fun c4 h => ?_) (fun c4 h => ?_))))) (fun c0 h => no_some h)
  all_goals first
    | exact ret_at hR _ h (fun n => n) rfl rfl rfl (rn_tup ⟨(rn_int rfl), (rn_int rfl), trivial⟩) rfl (entl_bor (use_lo rfl) rfl rfl (entl_bor (use_lo rfl) rfl rfl entl_nil))
theorem a126 (cn : ByteArray) (aq nq mq : Nat) (tq : NI) (rp fl : Int) (al nl ml : Nat) (tl : NI) {r : Rt126} (h : Goes ((q126 cn aq nq mq tq rp fl al nl ml tl)) ((p126 cn aq nq mq tq rp fl al nl ml tl)) r) : CallR Try.prog 26 [.agg [.str cn, .loose ⟨0, 1, aq, 0⟩ nq, .int .i64 rp, .int .i64 fl], .loose ⟨1, 1, al, 0⟩ nl] [[(0, (false, .cols mq [.int .i64 tq])), (1, (false, .cols ml [.int .i64 tl]))]] 2 ((V126 cn aq nq mq tq rp fl al nl ml tl) r) ((J126 cn aq nq mq tq rp fl al nl ml tl) r) 400 ∧ ∃ F, Try.prog.funcs[26]? = some F ∧ F.body.isSome = true ∧ (F.name == "runtime.NumGoroutine") = false := by
  refine dec_calls (f := 26) (lo := 2) (hi := 400) (H := [[(0, (false, .cols mq [.int .i64 tq])), (1, (false, .cols ml [.int .i64 tl]))]]) (args := [.agg [.str cn, .loose ⟨0, 1, aq, 0⟩ nq, .int .i64 rp, .int .i64 fl], .loose ⟨1, 1, al, 0⟩ nl]) Try.envOk Try.mixed xFA_ok ((I126 cn aq nq mq tq rp fl al nl ml tl)) ((V126 cn aq nq mq tq rp fl al nl ml tl)) (J126 cn aq nq mq tq rp fl al nl ml tl) (fn := mkFn Try.f26) (ts := []) (n := 400) rfl (by decide) (by simp) (names_of rfl) ?_ ?_ ?_ h
  · intro s; exact s.elim
  · intro Kst Kret x hS hR h
    exact Holds.eq (te126 cond Kst Kret cn aq nq mq tq rp fl al nl ml tl) (be126 cn aq nq mq tq rp fl al nl ml tl Kst Kret x hS hR h)
  · intro Kst Kret x hS hR s h; exact s.elim
noncomputable abbrev w126 {α : Type} (g : ByteArray → Nat → Nat → Nat → (Nat → Int) → Int → Int → Nat → Nat → Nat → (Nat → Int) → α) (x : (ByteArray × (Nat × Nat × Nat × (Nat → Int) × Unit) × Int × Int × Unit) × (Nat × Nat × Nat × (Nat → Int) × Unit) × Unit) : α := g x.1.1 x.1.2.1.1 x.1.2.1.2.1 x.1.2.1.2.2.1 x.1.2.1.2.2.2.1 x.1.2.2.1 x.1.2.2.2.1 x.2.1.1 x.2.1.2.1 x.2.1.2.2.1 x.2.1.2.2.2.1
noncomputable def k126  : Con := ⟨26, [.agg [.plain (.str), .list [.int .i64], .plain (.int .i64), .plain (.int .i64)], .one (.list [.int .i64])], w126 (fun cn aq nq mq tq rp fl al nl ml tl => decide ((aq + nq ≤ mq ∧ nq ≤ 1000000) ∧ al + nl ≤ ml ∧ nl ≤ 1000000)), w126 (fun cn aq nq mq tq rp fl al nl ml tl => (V126 cn aq nq mq tq rp fl al nl ml tl) (S.staS (S.cyE cn nq (fun j => tq (j + aq)) rp fl) nq (fun j => tq (j + aq)) rp fl nl (fun j => tl (j + al)))), w126 (fun cn aq nq mq tq rp fl al nl ml tl => (N126 cn aq nq mq tq rp fl al nl ml tl) (S.staS (S.cyE cn nq (fun j => tq (j + aq)) rp fl) nq (fun j => tq (j + aq)) rp fl nl (fun j => tl (j + al)))), fun _ _ => .dead⟩
theorem s126 (cn : ByteArray) (aq nq mq : Nat) (tq : Nat → Int) (rp fl : Int) (al nl ml : Nat) (tl : Nat → Int) (hp : (aq + nq ≤ mq ∧ nq ≤ 1000000) ∧ al + nl ≤ ml ∧ nl ≤ 1000000) : Goes ((q126 cn aq nq mq tq rp fl al nl ml tl)) ((p126 cn aq nq mq tq rp fl al nl ml tl)) (S.staS (S.cyE cn nq (fun j => tq (j + aq)) rp fl) nq (fun j => tq (j + aq)) rp fl nl (fun j => tl (j + al))) := by
  have hp' := hp
  obtain ⟨⟨hp1, hp2⟩, hp3, hp4⟩ := hp
  have he := beh_ce (e := (S.cyE cn nq (fun j => tq (j + aq)) rp fl)) (n := nq) (t := (fun j => tq (j + aq))) (rp := rp) (fl := fl) (ns := nl) (x := (fun j => tl (j + al)))
  have hin := fun h1 h2 => (beh_in (cn := cn) (n := nq) (t := (fun j => tq (j + aq))) (rp := rp) (fl := fl) (ns := nl) (x := (fun j => tl (j + al))) h1 h2).2.2.2.2
  have hcy := fun h => cy_ok (cn := cn) (n := nq) (t := (fun j => tq (j + aq))) (rp := rp) (fl := fl) h
  unfold S.staS p126
  have hc0 : ∀ {c s : Int}, S.cseE c s = 0 ↔ c = 0 ∧ s = 0 := cse_0
  generalize S.behS _ _ _ _ _ _ _ = B at *
  obtain ⟨b1, b2, b3, b4, b5⟩ := B
  simp only at he hin ⊢
  refine goes_ok (decide_eq_true ⟨⟨hp1, hp2⟩, hp3, hp4⟩) ?_
  by_cases h5 : b5 = 0
  · rw [if_pos h5]
    refine goes_no (by simpa using h5) ?_
    obtain ⟨h6, h7⟩ := cse_0.mp (he.symm.trans h5)
    have hin := hin h6 h7
    have hcy := hcy h6
    generalize S.stpL nq (fun j => tq (j + aq)) rp fl = L at *
    clear he hc0
    cases b2 <;> cases b3
    all_goals
      repeat' (first | with_reducible refine goes_if (fun h => ?_) (fun h => ?_) <;> (try simp only [SH] at h) | exact goes_none.mpr (by omega))
      all_goals first
        | (exfalso; omega)
        | (refine goes_inr.mpr ?_; simp only [Bool.false_eq_true, if_false, if_true, true_and, false_and] <;> first | rfl | (rw [if_pos (by omega)]) | (rw [if_neg (by omega)]) | ((repeat' split) <;> first | rfl | (exfalso; omega)))
  · rw [if_neg h5]
    exact goes_ok (by simpa using h5) (goes_inr.mpr rfl)
theorem k126_ok  : k126.ok Try.prog := by
  intro x hx
  obtain ⟨⟨cn, ⟨aq, nq, mq, tq, _⟩, rp, fl, _⟩, ⟨al, nl, ml, tl, _⟩, _⟩ := x
  obtain ⟨h1, h2⟩ := a126 cn aq nq mq tq rp fl al nl ml tl (s126 cn aq nq mq tq rp fl al nl ml tl (of_dec hx rfl))
  exact ⟨⟨400, (by decide : 2 + 1 + 0 ≤ 400), h1⟩, h2⟩
abbrev St128  := Empty
abbrev Rt128  := Int × Int
noncomputable def V128 (cn : ByteArray) (aq nq mq : Nat) (tq : NI) (rp fl : Int) (al nl ml : Nat) (tl : NI) (r : Rt128) : PV := PV.tup [PV.int .i64 r.1, PV.int .i64 r.2]
noncomputable def N128 (cn : ByteArray) (aq nq mq : Nat) (tq : NI) (rp fl : Int) (al nl ml : Nat) (tl : NI) (r : Rt128) : List Blk := []
noncomputable def I128 (cn : ByteArray) (aq nq mq : Nat) (tq : NI) (rp fl : Int) (al nl ml : Nat) (tl : NI) : St128 → Hd := fun s => s.elim
noncomputable def q128 (cn : ByteArray) (aq nq mq : Nat) (tq : NI) (rp fl : Int) (al nl ml : Nat) (tl : NI) : St128 → Option (St128 ⊕ Rt128) := fun s => s.elim
noncomputable def p128 (cn : ByteArray) (aq nq mq : Nat) (tq : NI) (rp fl : Int) (al nl ml : Nat) (tl : NI) : Option (St128 ⊕ Rt128) := bif (decide ((aq + nq ≤ mq ∧ nq ≤ 1000000) ∧ al + nl ≤ ml ∧ nl ≤ 1000000)) then (bif (Prod.snd (Prod.snd (Prod.snd (Prod.snd (S.behS (S.cyE cn nq (fun j => tq (j + aq)) rp fl) nq (fun j => tq (j + aq)) rp fl nl fun j => tl (j + al))))) != 0) then (some (.inr ((0 : Int), Prod.snd (Prod.snd (Prod.snd (Prod.snd (S.behS (S.cyE cn nq (fun j => tq (j + aq)) rp fl) nq (fun j => tq (j + aq)) rp fl nl fun j => tl (j + al)))))))) else (bif (Prod.fst (Prod.snd (S.behS (S.cyE cn nq (fun j => tq (j + aq)) rp fl) nq (fun j => tq (j + aq)) rp fl nl fun j => tl (j + al)))) then (bif (Prod.fst (S.behS (S.cyE cn nq (fun j => tq (j + aq)) rp fl) nq (fun j => tq (j + aq)) rp fl nl fun j => tl (j + al)) == 0) then (some (.inr ((0 : Int), (8 : Int)))) else (bif (decide (aq + nq ≤ mq ∧ nq ≤ 20 ∧ (0 : Int) ≤ rp ∧ rp ≤ 9)) then (bif (decide ((0 : Int) ≤ Prod.fst (S.behS (S.cyE cn nq (fun j => tq (j + aq)) rp fl) nq (fun j => tq (j + aq)) rp fl nl fun j => tl (j + al)) ∧ Prod.fst (S.behS (S.cyE cn nq (fun j => tq (j + aq)) rp fl) nq (fun j => tq (j + aq)) rp fl nl fun j => tl (j + al)) < (↑(List.length (S.stpL nq (fun j => tq (j + aq)) rp fl)) : Int))) then (bif (decide (Int.toNat (Prod.fst (S.behS (S.cyE cn nq (fun j => tq (j + aq)) rp fl) nq (fun j => tq (j + aq)) rp fl nl fun j => tl (j + al))) < List.length (S.stpL nq (fun j => tq (j + aq)) rp fl))) then (some (.inr (S.at' (S.stpL nq (fun j => tq (j + aq)) rp fl) (Int.toNat (Prod.fst (S.behS (S.cyE cn nq (fun j => tq (j + aq)) rp fl) nq (fun j => tq (j + aq)) rp fl nl fun j => tl (j + al)))), (0 : Int)))) else (none)) else (none)) else (none))) else (bif (decide (aq + nq ≤ mq ∧ nq ≤ 20 ∧ (0 : Int) ≤ rp ∧ rp ≤ 9)) then (bif (decide ((0 : Int) ≤ Prod.fst (S.behS (S.cyE cn nq (fun j => tq (j + aq)) rp fl) nq (fun j => tq (j + aq)) rp fl nl fun j => tl (j + al)) ∧ Prod.fst (S.behS (S.cyE cn nq (fun j => tq (j + aq)) rp fl) nq (fun j => tq (j + aq)) rp fl nl fun j => tl (j + al)) < (↑(List.length (S.stpL nq (fun j => tq (j + aq)) rp fl)) : Int))) then (bif (decide (Int.toNat (Prod.fst (S.behS (S.cyE cn nq (fun j => tq (j + aq)) rp fl) nq (fun j => tq (j + aq)) rp fl nl fun j => tl (j + al))) < List.length (S.stpL nq (fun j => tq (j + aq)) rp fl))) then (some (.inr (S.at' (S.stpL nq (fun j => tq (j + aq)) rp fl) (Int.toNat (Prod.fst (S.behS (S.cyE cn nq (fun j => tq (j + aq)) rp fl) nq (fun j => tq (j + aq)) rp fl nl fun j => tl (j + al)))), (0 : Int)))) else (none)) else (none)) else (none)))) else (none)
noncomputable abbrev u128_e_0 (cn : ByteArray) (aq nq : Nat) (tq : Nat → Int) (rp fl : Int) (al nl : Nat) (tl : Nat → Int) := S.behS (S.cyE cn nq (fun j => tq (j + aq)) rp fl) nq (fun j => tq (j + aq)) rp fl nl fun j => tl (j + al)
noncomputable abbrev u128_e_1 (mq : Nat) (tq : Nat → Int) (ml : Nat) (tl : Nat → Int) := ([[(1, false, Blk.cols ml [Col.int IntKind.i64 tl]), (0, false, Blk.cols mq [Col.int IntKind.i64 tq])]])
def Te128 (test : TT) (Kst : KS) (Kret : KR) (cn : ByteArray) (aq nq mq : Nat) (tq : NI) (rp fl : Int) (al nl ml : Nat) (tl : NI) : Prop := test (decide ((aq + nq ≤ mq ∧ nq ≤ 1000000) ∧ al + nl ≤ ml ∧ nl ≤ 1000000)) (test ((u128_e_0 cn aq nq tq rp fl al nl tl).2.2.2.2 != 0) (Kret (PV.tup [PV.int .i64 (0 : Int), PV.int .i64 (u128_e_0 cn aq nq tq rp fl al nl tl).2.2.2.2]) (u128_e_1 mq tq ml tl) (5)) (test (u128_e_0 cn aq nq tq rp fl al nl tl).2.1 (test ((u128_e_0 cn aq nq tq rp fl al nl tl).1 == 0) (Kret (PV.tup [PV.int .i64 (0 : Int), PV.int .i64 (8 : Int)]) (u128_e_1 mq tq ml tl) (5)) (test (decide (aq + nq ≤ mq ∧ nq ≤ 20 ∧ (0 : Int) ≤ rp ∧ rp ≤ 9)) (test (decide ((0 : Int) ≤ (u128_e_0 cn aq nq tq rp fl al nl tl).1 ∧ (u128_e_0 cn aq nq tq rp fl al nl tl).1 < (↑(List.length (S.stpL nq (fun j => tq (j + aq)) rp fl)) : Int))) (test (decide (Int.toNat (u128_e_0 cn aq nq tq rp fl al nl tl).1 < List.length (S.stpL nq (fun j => tq (j + aq)) rp fl))) (Kret (PV.tup [PV.int .i64 (S.at' (S.stpL nq (fun j => tq (j + aq)) rp fl) (Int.toNat (u128_e_0 cn aq nq tq rp fl al nl tl).1)), PV.int .i64 (0 : Int)]) (u128_e_1 mq tq ml tl) (7)) (False)) (False)) (False))) (test (decide (aq + nq ≤ mq ∧ nq ≤ 20 ∧ (0 : Int) ≤ rp ∧ rp ≤ 9)) (test (decide ((0 : Int) ≤ (u128_e_0 cn aq nq tq rp fl al nl tl).1 ∧ (u128_e_0 cn aq nq tq rp fl al nl tl).1 < (↑(List.length (S.stpL nq (fun j => tq (j + aq)) rp fl)) : Int))) (test (decide (Int.toNat (u128_e_0 cn aq nq tq rp fl al nl tl).1 < List.length (S.stpL nq (fun j => tq (j + aq)) rp fl))) (Kret (PV.tup [PV.int .i64 (S.at' (S.stpL nq (fun j => tq (j + aq)) rp fl) (Int.toNat (u128_e_0 cn aq nq tq rp fl al nl tl).1)), PV.int .i64 (0 : Int)]) (u128_e_1 mq tq ml tl) (7)) (False)) (False)) (False)))) (False)
theorem te128 (test : TT) (Kst : KS) (Kret : KR) (cn : ByteArray) (aq nq mq : Nat) (tq : NI) (rp fl : Int) (al nl ml : Nat) (tl : NI) : run test Try.env true (xFA test) true 400 ⟨28, [.cd (mkFn Try.f28).body], argT 0 [.agg [.str cn, .loose ⟨0, 1, aq, 0⟩ nq, .int .i64 rp, .int .i64 fl], .loose ⟨1, 1, al, 0⟩ nl], [[], [(0, (false, .cols mq [.int .i64 tq])), (1, (false, .cols ml [.int .i64 tl]))]], 2⟩ (proj 2 [] Kst Kret) =
  Te128 test Kst Kret cn aq nq mq tq rp fl al nl ml tl := by kernel_rfl
noncomputable abbrev J128 (cn : ByteArray) (aq nq mq : Nat) (tq : NI) (rp : Int) (fl : Int) (al nl ml : Nat) (tl : NI) : Rt128 → Heap := fun r => [newL (2 + 1) ((N128 cn aq nq mq tq rp fl al nl ml tl) r) ++ [(0, (false, .cols mq [.int .i64 tq])), (1, (false, .cols ml [.int .i64 tl]))]]
attribute [local irreducible] Int.subNatNat in
theorem be128 (cn : ByteArray) (aq nq mq : Nat) (tq : NI) (rp fl : Int) (al nl ml : Nat) (tl : NI) (Kst : KS) (Kret : KR) (x : St128 ⊕ Rt128) (hS : HS 2 400 ((I128 cn aq nq mq tq rp fl al nl ml tl)) Kst x) (hR : HR 2 400 ((V128 cn aq nq mq tq rp fl al nl ml tl)) (J128 cn aq nq mq tq rp fl al nl ml tl) Kret x) (h : p128 cn aq nq mq tq rp fl al nl ml tl = some x) : Te128 cond Kst Kret cn aq nq mq tq rp fl al nl ml tl := by
  unfold Te128
  unfold p128 at h
  refine bif_split h (fun c0 h => bif_split h (fun c1 h => ?_) (fun c1 h => bif_split h (fun c2 h => bif_split h (fun c3 h => ?_) (fun c3 h => bif_split h (fun c4 h => bif_split h (fun c5 h => bif_split h (fun c6 h => ?_) (fun c6 h => ?_)) (fun c5 h => ?_)) (fun c4 h => ?_))) (fun c2 h => bif_split h (fun c3 h => bif_split h (fun c4 h => bif_split h (fun c5 h => ?_) (fun c5 h => ?_)) (fun c4 h => ?_)) (fun c3 h => ?_)))) (fun c0 h => ?_)
  all_goals first
    | exact no_some h
    | exact ret_at hR _ h (fun n => n) rfl rfl rfl (rn_tup ⟨(rn_int rfl), (rn_int rfl), trivial⟩) rfl (entl_bor (use_lo rfl) rfl rfl (entl_bor (use_lo rfl) rfl rfl entl_nil))
theorem a128 (cn : ByteArray) (aq nq mq : Nat) (tq : NI) (rp fl : Int) (al nl ml : Nat) (tl : NI) {r : Rt128} (h : Goes ((q128 cn aq nq mq tq rp fl al nl ml tl)) ((p128 cn aq nq mq tq rp fl al nl ml tl)) r) : CallR Try.prog 28 [.agg [.str cn, .loose ⟨0, 1, aq, 0⟩ nq, .int .i64 rp, .int .i64 fl], .loose ⟨1, 1, al, 0⟩ nl] [[(0, (false, .cols mq [.int .i64 tq])), (1, (false, .cols ml [.int .i64 tl]))]] 2 ((V128 cn aq nq mq tq rp fl al nl ml tl) r) ((J128 cn aq nq mq tq rp fl al nl ml tl) r) 400 ∧ ∃ F, Try.prog.funcs[28]? = some F ∧ F.body.isSome = true ∧ (F.name == "runtime.NumGoroutine") = false := by
  refine dec_calls (f := 28) (lo := 2) (hi := 400) (H := [[(0, (false, .cols mq [.int .i64 tq])), (1, (false, .cols ml [.int .i64 tl]))]]) (args := [.agg [.str cn, .loose ⟨0, 1, aq, 0⟩ nq, .int .i64 rp, .int .i64 fl], .loose ⟨1, 1, al, 0⟩ nl]) Try.envOk Try.mixed xFA_ok ((I128 cn aq nq mq tq rp fl al nl ml tl)) ((V128 cn aq nq mq tq rp fl al nl ml tl)) (J128 cn aq nq mq tq rp fl al nl ml tl) (fn := mkFn Try.f28) (ts := []) (n := 400) rfl (by decide) (by simp) (names_of rfl) ?_ ?_ ?_ h
  · intro s; exact s.elim
  · intro Kst Kret x hS hR h
    exact Holds.eq (te128 cond Kst Kret cn aq nq mq tq rp fl al nl ml tl) (be128 cn aq nq mq tq rp fl al nl ml tl Kst Kret x hS hR h)
  · intro Kst Kret x hS hR s h; exact s.elim
noncomputable abbrev w128 {α : Type} (g : ByteArray → Nat → Nat → Nat → (Nat → Int) → Int → Int → Nat → Nat → Nat → (Nat → Int) → α) (x : (ByteArray × (Nat × Nat × Nat × (Nat → Int) × Unit) × Int × Int × Unit) × (Nat × Nat × Nat × (Nat → Int) × Unit) × Unit) : α := g x.1.1 x.1.2.1.1 x.1.2.1.2.1 x.1.2.1.2.2.1 x.1.2.1.2.2.2.1 x.1.2.2.1 x.1.2.2.2.1 x.2.1.1 x.2.1.2.1 x.2.1.2.2.1 x.2.1.2.2.2.1
noncomputable def k128  : Con := ⟨28, [.agg [.plain (.str), .list [.int .i64], .plain (.int .i64), .plain (.int .i64)], .one (.list [.int .i64])], w128 (fun cn aq nq mq tq rp fl al nl ml tl => decide ((aq + nq ≤ mq ∧ nq ≤ 1000000) ∧ al + nl ≤ ml ∧ nl ≤ 1000000)), w128 (fun cn aq nq mq tq rp fl al nl ml tl => (V128 cn aq nq mq tq rp fl al nl ml tl) (S.nxtS (S.cyE cn nq (fun j => tq (j + aq)) rp fl) nq (fun j => tq (j + aq)) rp fl nl (fun j => tl (j + al)))), w128 (fun cn aq nq mq tq rp fl al nl ml tl => (N128 cn aq nq mq tq rp fl al nl ml tl) (S.nxtS (S.cyE cn nq (fun j => tq (j + aq)) rp fl) nq (fun j => tq (j + aq)) rp fl nl (fun j => tl (j + al)))), fun _ _ => .dead⟩
theorem s128 (cn : ByteArray) (aq nq mq : Nat) (tq : Nat → Int) (rp fl : Int) (al nl ml : Nat) (tl : Nat → Int) (hp : (aq + nq ≤ mq ∧ nq ≤ 1000000) ∧ al + nl ≤ ml ∧ nl ≤ 1000000) : Goes ((q128 cn aq nq mq tq rp fl al nl ml tl)) ((p128 cn aq nq mq tq rp fl al nl ml tl)) (S.nxtS (S.cyE cn nq (fun j => tq (j + aq)) rp fl) nq (fun j => tq (j + aq)) rp fl nl (fun j => tl (j + al))) := by
  have hp' := hp
  obtain ⟨⟨hp1, hp2⟩, hp3, hp4⟩ := hp
  have he := beh_ce (e := (S.cyE cn nq (fun j => tq (j + aq)) rp fl)) (n := nq) (t := (fun j => tq (j + aq))) (rp := rp) (fl := fl) (ns := nl) (x := (fun j => tl (j + al)))
  have hin := fun h1 h2 => (beh_in (cn := cn) (n := nq) (t := (fun j => tq (j + aq))) (rp := rp) (fl := fl) (ns := nl) (x := (fun j => tl (j + al))) h1 h2).2.2.2.2
  have hcy := fun h => cy_ok (cn := cn) (n := nq) (t := (fun j => tq (j + aq))) (rp := rp) (fl := fl) h
  unfold S.nxtS p128
  have hc0 : ∀ {c s : Int}, S.cseE c s = 0 ↔ c = 0 ∧ s = 0 := cse_0
  generalize S.behS _ _ _ _ _ _ _ = B at *
  obtain ⟨b1, b2, b3, b4, b5⟩ := B
  simp only at he hin ⊢
  refine goes_ok (decide_eq_true ⟨⟨hp1, hp2⟩, hp3, hp4⟩) ?_
  by_cases h5 : b5 = 0
  · rw [if_pos h5]
    refine goes_no (by simpa using h5) ?_
    obtain ⟨h6, h7⟩ := cse_0.mp (he.symm.trans h5)
    have hin := hin h6 h7
    have hcy := hcy h6
    generalize S.stpL nq (fun j => tq (j + aq)) rp fl = L at *
    clear he hc0
    cases b2 <;> cases b3
    all_goals
      repeat' (first | with_reducible refine goes_if (fun h => ?_) (fun h => ?_) <;> (try simp only [SH] at h) | exact goes_none.mpr (by omega))
      all_goals first
        | (exfalso; omega)
        | (refine goes_inr.mpr ?_; simp only [Bool.false_eq_true, if_false, if_true, true_and, false_and] <;> first | rfl | (rw [if_pos (by omega)]) | (rw [if_neg (by omega)]) | ((repeat' split) <;> first | rfl | (exfalso; omega)))
  · rw [if_neg h5]
    exact goes_ok (by simpa using h5) (goes_inr.mpr rfl)
theorem k128_ok  : k128.ok Try.prog := by
  intro x hx
  obtain ⟨⟨cn, ⟨aq, nq, mq, tq, _⟩, rp, fl, _⟩, ⟨al, nl, ml, tl, _⟩, _⟩ := x
  obtain ⟨h1, h2⟩ := a128 cn aq nq mq tq rp fl al nl ml tl (s128 cn aq nq mq tq rp fl al nl ml tl (of_dec hx rfl))
  exact ⟨⟨400, (by decide : 2 + 1 + 0 ≤ 400), h1⟩, h2⟩
abbrev St124  := Empty
abbrev Rt124  := Int × Int
noncomputable def V124 (cn : ByteArray) (aq nq mq : Nat) (tq : NI) (rp fl : Int) (al nl ml : Nat) (tl : NI) (r : Rt124) : PV := PV.tup [PV.int .i64 r.1, PV.int .i64 r.2]
noncomputable def N124 (cn : ByteArray) (aq nq mq : Nat) (tq : NI) (rp fl : Int) (al nl ml : Nat) (tl : NI) (r : Rt124) : List Blk := []
noncomputable def I124 (cn : ByteArray) (aq nq mq : Nat) (tq : NI) (rp fl : Int) (al nl ml : Nat) (tl : NI) : St124 → Hd := fun s => s.elim
noncomputable def q124 (cn : ByteArray) (aq nq mq : Nat) (tq : NI) (rp fl : Int) (al nl ml : Nat) (tl : NI) : St124 → Option (St124 ⊕ Rt124) := fun s => s.elim
noncomputable def p124 (cn : ByteArray) (aq nq mq : Nat) (tq : NI) (rp fl : Int) (al nl ml : Nat) (tl : NI) : Option (St124 ⊕ Rt124) := bif (decide (S.cyE cn nq (fun j => tq (j + aq)) rp fl = 0 ∧ (S.setE nl fun j => tl (j + al)) = 0)) then (bif (decide (((aq + nq ≤ mq ∧ nq ≤ 1000000) ∧ al + nl ≤ ml ∧ nl ≤ 1000000) ∧ S.cyE cn nq (fun j => tq (j + aq)) rp fl = 0 ∧ (S.setE nl fun j => tl (j + al)) = 0)) then (bif ((S.remS nq (fun j => tq (j + aq)) fl rp nl fun j => tl (j + al)).2.1) then (some (.inr ((3 : Int), (0 : Int)))) else (bif ((S.remS nq (fun j => tq (j + aq)) fl rp nl fun j => tl (j + al)).1 != 0) then (some (.inr ((2 : Int), (0 : Int)))) else (bif (Prod.fst (Prod.snd ((S.remS nq (fun j => tq (j + aq)) fl rp nl fun j => tl (j + al)).2.2))) then (some (.inr ((4 : Int), (0 : Int)))) else (some (.inr ((1 : Int), (0 : Int))))))) else (none)) else (bif (decide (((aq + nq ≤ mq ∧ nq ≤ 1000000) ∧ al + nl ≤ ml ∧ nl ≤ 1000000) ∧ ¬(S.cyE cn nq (fun j => tq (j + aq)) rp fl = 0 ∧ (S.setE nl fun j => tl (j + al)) = 0))) then (bif (S.cseE (S.cyE cn nq (fun j => tq (j + aq)) rp fl) (S.setE nl fun j => tl (j + al)) != 0) then (some (.inr ((0 : Int), S.cseE (S.cyE cn nq (fun j => tq (j + aq)) rp fl) (S.setE nl fun j => tl (j + al))))) else (none)) else (none))
noncomputable abbrev u124_e_0 (mq : Nat) (tq : Nat → Int) (ml : Nat) (tl : Nat → Int) := ([[(1, false, Blk.cols ml [Col.int IntKind.i64 tl]), (0, false, Blk.cols mq [Col.int IntKind.i64 tq])]])
def Te124 (test : TT) (Kst : KS) (Kret : KR) (cn : ByteArray) (aq nq mq : Nat) (tq : NI) (rp fl : Int) (al nl ml : Nat) (tl : NI) : Prop := test (decide (S.cyE cn nq (fun j => tq (j + aq)) rp fl = 0 ∧ (S.setE nl fun j => tl (j + al)) = 0)) (test (decide (((aq + nq ≤ mq ∧ nq ≤ 1000000) ∧ al + nl ≤ ml ∧ nl ≤ 1000000) ∧ S.cyE cn nq (fun j => tq (j + aq)) rp fl = 0 ∧ (S.setE nl fun j => tl (j + al)) = 0)) (test (false) (Kret (PV.tup [PV.int .i64 (0 : Int), PV.int .i64 (0 : Int)]) (u124_e_0 mq tq ml tl) (6)) (test (S.remS nq (fun j => tq (j + aq)) fl rp nl fun j => tl (j + al)).2.1 (Kret (PV.tup [PV.int .i64 (3 : Int), PV.int .i64 (0 : Int)]) (u124_e_0 mq tq ml tl) (6)) (test ((S.remS nq (fun j => tq (j + aq)) fl rp nl fun j => tl (j + al)).1 != 0) (Kret (PV.tup [PV.int .i64 (2 : Int), PV.int .i64 (0 : Int)]) (u124_e_0 mq tq ml tl) (6)) (test (S.remS nq (fun j => tq (j + aq)) fl rp nl fun j => tl (j + al)).2.2.2.1 (Kret (PV.tup [PV.int .i64 (4 : Int), PV.int .i64 (0 : Int)]) (u124_e_0 mq tq ml tl) (6)) (Kret (PV.tup [PV.int .i64 (1 : Int), PV.int .i64 (0 : Int)]) (u124_e_0 mq tq ml tl) (6)))))) (False)) (test (decide (((aq + nq ≤ mq ∧ nq ≤ 1000000) ∧ al + nl ≤ ml ∧ nl ≤ 1000000) ∧ ¬(S.cyE cn nq (fun j => tq (j + aq)) rp fl = 0 ∧ (S.setE nl fun j => tl (j + al)) = 0))) (test (S.cseE (S.cyE cn nq (fun j => tq (j + aq)) rp fl) (S.setE nl fun j => tl (j + al)) != 0) (Kret (PV.tup [PV.int .i64 (0 : Int), PV.int .i64 (S.cseE (S.cyE cn nq (fun j => tq (j + aq)) rp fl) (S.setE nl fun j => tl (j + al)))]) (u124_e_0 mq tq ml tl) (4)) (False)) (False))
theorem te124 (test : TT) (Kst : KS) (Kret : KR) (cn : ByteArray) (aq nq mq : Nat) (tq : NI) (rp fl : Int) (al nl ml : Nat) (tl : NI) : run test Try.env true (xM3 test) true 400 ⟨24, [.cd (mkFn Try.f24).body], argT 0 [.agg [.str cn, .loose ⟨0, 1, aq, 0⟩ nq, .int .i64 rp, .int .i64 fl], .loose ⟨1, 1, al, 0⟩ nl], [[], [(0, (false, .cols mq [.int .i64 tq])), (1, (false, .cols ml [.int .i64 tl]))]], 2⟩ (proj 2 [] Kst Kret) =
  Te124 test Kst Kret cn aq nq mq tq rp fl al nl ml tl := by kernel_rfl
noncomputable abbrev J124 (cn : ByteArray) (aq nq mq : Nat) (tq : NI) (rp : Int) (fl : Int) (al nl ml : Nat) (tl : NI) : Rt124 → Heap := fun r => [newL (2 + 1) ((N124 cn aq nq mq tq rp fl al nl ml tl) r) ++ [(0, (false, .cols mq [.int .i64 tq])), (1, (false, .cols ml [.int .i64 tl]))]]
attribute [local irreducible] Int.subNatNat in
theorem be124 (cn : ByteArray) (aq nq mq : Nat) (tq : NI) (rp fl : Int) (al nl ml : Nat) (tl : NI) (Kst : KS) (Kret : KR) (x : St124 ⊕ Rt124) (hS : HS 2 400 ((I124 cn aq nq mq tq rp fl al nl ml tl)) Kst x) (hR : HR 2 400 ((V124 cn aq nq mq tq rp fl al nl ml tl)) (J124 cn aq nq mq tq rp fl al nl ml tl) Kret x) (h : p124 cn aq nq mq tq rp fl al nl ml tl = some x) : Te124 cond Kst Kret cn aq nq mq tq rp fl al nl ml tl := by
  unfold Te124
  unfold p124 at h
  refine bif_split h (fun c0 h => bif_split h (fun c1 h => cond_no rfl (bif_split h (fun c2 h => ?_) (fun c2 h => bif_split h (fun c3 h => ?_) (fun c3 h => bif_split h (fun c4 h => ?_) (fun c4 h => ?_))))) (fun c1 h => ?_)) (fun c0 h => bif_split h (fun c1 h => bif_split h (fun c2 h => ?_) (fun c2 h => ?_)) (fun c1 h => ?_))
  all_goals first
    | exact ret_at hR _ h (fun n => n) rfl rfl rfl (rn_tup ⟨(rn_int rfl), (rn_int rfl), trivial⟩) rfl (entl_bor (use_lo rfl) rfl rfl (entl_bor (use_lo rfl) rfl rfl entl_nil))
    | exact no_some h
theorem a124 (cn : ByteArray) (aq nq mq : Nat) (tq : NI) (rp fl : Int) (al nl ml : Nat) (tl : NI) {r : Rt124} (h : Goes ((q124 cn aq nq mq tq rp fl al nl ml tl)) ((p124 cn aq nq mq tq rp fl al nl ml tl)) r) : CallR Try.prog 24 [.agg [.str cn, .loose ⟨0, 1, aq, 0⟩ nq, .int .i64 rp, .int .i64 fl], .loose ⟨1, 1, al, 0⟩ nl] [[(0, (false, .cols mq [.int .i64 tq])), (1, (false, .cols ml [.int .i64 tl]))]] 2 ((V124 cn aq nq mq tq rp fl al nl ml tl) r) ((J124 cn aq nq mq tq rp fl al nl ml tl) r) 400 ∧ ∃ F, Try.prog.funcs[24]? = some F ∧ F.body.isSome = true ∧ (F.name == "runtime.NumGoroutine") = false := by
  refine dec_calls (f := 24) (lo := 2) (hi := 400) (H := [[(0, (false, .cols mq [.int .i64 tq])), (1, (false, .cols ml [.int .i64 tl]))]]) (args := [.agg [.str cn, .loose ⟨0, 1, aq, 0⟩ nq, .int .i64 rp, .int .i64 fl], .loose ⟨1, 1, al, 0⟩ nl]) Try.envOk Try.mixed xM3_ok ((I124 cn aq nq mq tq rp fl al nl ml tl)) ((V124 cn aq nq mq tq rp fl al nl ml tl)) (J124 cn aq nq mq tq rp fl al nl ml tl) (fn := mkFn Try.f24) (ts := []) (n := 400) rfl (by decide) (by simp) (names_of rfl) ?_ ?_ ?_ h
  · intro s; exact s.elim
  · intro Kst Kret x hS hR h
    exact Holds.eq (te124 cond Kst Kret cn aq nq mq tq rp fl al nl ml tl) (be124 cn aq nq mq tq rp fl al nl ml tl Kst Kret x hS hR h)
  · intro Kst Kret x hS hR s h; exact s.elim
noncomputable abbrev w124 {α : Type} (g : ByteArray → Nat → Nat → Nat → (Nat → Int) → Int → Int → Nat → Nat → Nat → (Nat → Int) → α) (x : (ByteArray × (Nat × Nat × Nat × (Nat → Int) × Unit) × Int × Int × Unit) × (Nat × Nat × Nat × (Nat → Int) × Unit) × Unit) : α := g x.1.1 x.1.2.1.1 x.1.2.1.2.1 x.1.2.1.2.2.1 x.1.2.1.2.2.2.1 x.1.2.2.1 x.1.2.2.2.1 x.2.1.1 x.2.1.2.1 x.2.1.2.2.1 x.2.1.2.2.2.1
noncomputable def k124  : Con := ⟨24, [.agg [.plain (.str), .list [.int .i64], .plain (.int .i64), .plain (.int .i64)], .one (.list [.int .i64])], w124 (fun cn aq nq mq tq rp fl al nl ml tl => decide ((aq + nq ≤ mq ∧ nq ≤ 1000000) ∧ al + nl ≤ ml ∧ nl ≤ 1000000)), w124 (fun cn aq nq mq tq rp fl al nl ml tl => (V124 cn aq nq mq tq rp fl al nl ml tl) (S.staS (S.cyE cn nq (fun j => tq (j + aq)) rp fl) nq (fun j => tq (j + aq)) rp fl nl (fun j => tl (j + al)))), w124 (fun cn aq nq mq tq rp fl al nl ml tl => (N124 cn aq nq mq tq rp fl al nl ml tl) (S.staS (S.cyE cn nq (fun j => tq (j + aq)) rp fl) nq (fun j => tq (j + aq)) rp fl nl (fun j => tl (j + al)))), fun _ _ => .dead⟩
theorem s124 (cn : ByteArray) (aq nq mq : Nat) (tq : Nat → Int) (rp fl : Int) (al nl ml : Nat) (tl : Nat → Int) (hp : (aq + nq ≤ mq ∧ nq ≤ 1000000) ∧ al + nl ≤ ml ∧ nl ≤ 1000000) : Goes ((q124 cn aq nq mq tq rp fl al nl ml tl)) ((p124 cn aq nq mq tq rp fl al nl ml tl)) (S.staS (S.cyE cn nq (fun j => tq (j + aq)) rp fl) nq (fun j => tq (j + aq)) rp fl nl (fun j => tl (j + al))) := by
  obtain ⟨⟨hp1, hp2⟩, hp3, hp4⟩ := hp
  have he := beh_ce (e := (S.cyE cn nq (fun j => tq (j + aq)) rp fl)) (n := nq) (t := (fun j => tq (j + aq))) (rp := rp) (fl := fl) (ns := nl) (x := (fun j => tl (j + al)))
  have hin := fun h1 h2 => (beh_in (cn := cn) (n := nq) (t := (fun j => tq (j + aq))) (rp := rp) (fl := fl) (ns := nl) (x := (fun j => tl (j + al))) h1 h2)
  unfold S.staS p124
  by_cases h67 : (S.cyE cn nq (fun j => tq (j + aq)) rp fl) = 0 ∧ (S.setE nl (fun j => tl (j + al))) = 0
  · have hin := hin h67.1 h67.2
    refine goes_ok (decide_eq_true h67) ?_
    refine goes_ok (decide_eq_true ⟨⟨⟨hp1, hp2⟩, hp3, hp4⟩, h67⟩) ?_
    replace he := he.trans (cse_0.mpr h67)
    generalize S.behS _ _ _ _ _ _ _ = B at *
    generalize S.remS _ _ _ _ _ _ = C at *
    obtain ⟨b1, b2, b3, b4, b5⟩ := B
    obtain ⟨c1, c2, c3, c4, c5⟩ := C
    simp only at he hin ⊢
    obtain ⟨rfl, rfl, i3, rfl, i4⟩ := hin
    rw [if_pos he]
    generalize S.stpL nq (fun j => tq (j + aq)) rp fl = L at *
    cases c2
    · have i3 := i3 rfl
      subst i3
      cases c4
      all_goals
        repeat' (first | with_reducible refine goes_if (fun h => ?_) (fun h => ?_) <;> (try simp only [SH] at h) | exact goes_none.mpr (by omega))
        all_goals first
          | (exfalso; omega)
          | (refine goes_inr.mpr ?_; simp only [Bool.false_eq_true, if_false, if_true, true_and, false_and] <;> first | rfl | (rw [if_pos (by omega)]) | (rw [if_neg (by omega)]) | ((repeat' split) <;> first | rfl | (exfalso; omega)))
    · clear i3
      repeat' (first | with_reducible refine goes_if (fun h => ?_) (fun h => ?_) <;> (try simp only [SH] at h) | exact goes_none.mpr (by omega))
      all_goals first
          | (exfalso; omega)
          | (refine goes_inr.mpr ?_; simp only [Bool.false_eq_true, if_false, if_true, true_and, false_and] <;> first | rfl | (rw [if_pos (by omega)]) | (rw [if_neg (by omega)]) | ((repeat' split) <;> first | rfl | (exfalso; omega)))
  · have h5 : S.cseE (S.cyE cn nq (fun j => tq (j + aq)) rp fl) (S.setE nl (fun j => tl (j + al))) ≠ 0 := fun h => h67 (cse_0.mp h)
    show Goes _ _ (if (S.behS (S.cyE cn nq (fun j => tq (j + aq)) rp fl) nq (fun j => tq (j + aq)) rp fl nl (fun j => tl (j + al))).2.2.2.2 = 0 then _ else (0, (S.behS (S.cyE cn nq (fun j => tq (j + aq)) rp fl) nq (fun j => tq (j + aq)) rp fl nl (fun j => tl (j + al))).2.2.2.2))
    rw [if_neg (by rw [he]; exact h5), he]
    refine goes_no (decide_eq_false h67) ?_
    refine goes_ok (decide_eq_true ⟨⟨⟨hp1, hp2⟩, hp3, hp4⟩, h67⟩) ?_
    exact goes_ok (by simpa using h5) (goes_inr.mpr rfl)
theorem k124_ok  : k124.ok Try.prog := by
  intro x hx
  obtain ⟨⟨cn, ⟨aq, nq, mq, tq, _⟩, rp, fl, _⟩, ⟨al, nl, ml, tl, _⟩, _⟩ := x
  obtain ⟨h1, h2⟩ := a124 cn aq nq mq tq rp fl al nl ml tl (s124 cn aq nq mq tq rp fl al nl ml tl (of_dec hx rfl))
  exact ⟨⟨400, (by decide : 2 + 1 + 0 ≤ 400), h1⟩, h2⟩
abbrev St127  := Empty
abbrev Rt127  := Int × Int
noncomputable def V127 (cn : ByteArray) (aq nq mq : Nat) (tq : NI) (rp fl : Int) (al nl ml : Nat) (tl : NI) (r : Rt127) : PV := PV.tup [PV.int .i64 r.1, PV.int .i64 r.2]
noncomputable def N127 (cn : ByteArray) (aq nq mq : Nat) (tq : NI) (rp fl : Int) (al nl ml : Nat) (tl : NI) (r : Rt127) : List Blk := []
noncomputable def I127 (cn : ByteArray) (aq nq mq : Nat) (tq : NI) (rp fl : Int) (al nl ml : Nat) (tl : NI) : St127 → Hd := fun s => s.elim
noncomputable def q127 (cn : ByteArray) (aq nq mq : Nat) (tq : NI) (rp fl : Int) (al nl ml : Nat) (tl : NI) : St127 → Option (St127 ⊕ Rt127) := fun s => s.elim
noncomputable def p127 (cn : ByteArray) (aq nq mq : Nat) (tq : NI) (rp fl : Int) (al nl ml : Nat) (tl : NI) : Option (St127 ⊕ Rt127) := bif (decide (S.cyE cn nq (fun j => tq (j + aq)) rp fl = 0 ∧ (S.setE nl fun j => tl (j + al)) = 0)) then (bif (decide (((aq + nq ≤ mq ∧ nq ≤ 1000000) ∧ al + nl ≤ ml ∧ nl ≤ 1000000) ∧ S.cyE cn nq (fun j => tq (j + aq)) rp fl = 0 ∧ (S.setE nl fun j => tl (j + al)) = 0)) then (bif ((S.remS nq (fun j => tq (j + aq)) fl rp nl fun j => tl (j + al)).2.1) then (bif ((S.remS nq (fun j => tq (j + aq)) fl rp nl fun j => tl (j + al)).1 == 0) then (some (.inr ((0 : Int), (8 : Int)))) else (bif (decide ((0 : Int) ≤ (S.remS nq (fun j => tq (j + aq)) fl rp nl fun j => tl (j + al)).1 ∧ (S.remS nq (fun j => tq (j + aq)) fl rp nl fun j => tl (j + al)).1 < (↑(List.length (Prod.snd (Prod.snd (Prod.snd (Prod.snd (S.remS nq (fun j => tq (j + aq)) fl rp nl fun j => tl (j + al))))))) : Int))) then (bif (decide (Int.toNat ((S.remS nq (fun j => tq (j + aq)) fl rp nl fun j => tl (j + al)).1) < List.length (Prod.snd (Prod.snd (Prod.snd ((S.remS nq (fun j => tq (j + aq)) fl rp nl fun j => tl (j + al)).2)))))) then (some (.inr (S.at' (Prod.snd (Prod.snd ((S.remS nq (fun j => tq (j + aq)) fl rp nl fun j => tl (j + al)).2.2))) (Int.toNat ((S.remS nq (fun j => tq (j + aq)) fl rp nl fun j => tl (j + al)).1)), (0 : Int)))) else (none)) else (none))) else (bif (decide ((0 : Int) ≤ (S.remS nq (fun j => tq (j + aq)) fl rp nl fun j => tl (j + al)).1 ∧ (S.remS nq (fun j => tq (j + aq)) fl rp nl fun j => tl (j + al)).1 < (↑(List.length (Prod.snd (Prod.snd (Prod.snd (Prod.snd (S.remS nq (fun j => tq (j + aq)) fl rp nl fun j => tl (j + al))))))) : Int))) then (bif (decide (Int.toNat ((S.remS nq (fun j => tq (j + aq)) fl rp nl fun j => tl (j + al)).1) < List.length (Prod.snd (Prod.snd (Prod.snd ((S.remS nq (fun j => tq (j + aq)) fl rp nl fun j => tl (j + al)).2)))))) then (some (.inr (S.at' (Prod.snd (Prod.snd ((S.remS nq (fun j => tq (j + aq)) fl rp nl fun j => tl (j + al)).2.2))) (Int.toNat ((S.remS nq (fun j => tq (j + aq)) fl rp nl fun j => tl (j + al)).1)), (0 : Int)))) else (none)) else (none))) else (none)) else (bif (decide (((aq + nq ≤ mq ∧ nq ≤ 1000000) ∧ al + nl ≤ ml ∧ nl ≤ 1000000) ∧ ¬(S.cyE cn nq (fun j => tq (j + aq)) rp fl = 0 ∧ (S.setE nl fun j => tl (j + al)) = 0))) then (bif (S.cseE (S.cyE cn nq (fun j => tq (j + aq)) rp fl) (S.setE nl fun j => tl (j + al)) != 0) then (some (.inr ((0 : Int), S.cseE (S.cyE cn nq (fun j => tq (j + aq)) rp fl) (S.setE nl fun j => tl (j + al))))) else (none)) else (none))
noncomputable abbrev u127_e_0 (aq nq : Nat) (tq : Nat → Int) (rp fl : Int) (al nl : Nat) (tl : Nat → Int) := S.remS nq (fun j => tq (j + aq)) fl rp nl fun j => tl (j + al)
noncomputable abbrev u127_e_1 (mq : Nat) (tq : Nat → Int) (ml : Nat) (tl : Nat → Int) := ([[(1, false, Blk.cols ml [Col.int IntKind.i64 tl]), (0, false, Blk.cols mq [Col.int IntKind.i64 tq])]])
def Te127 (test : TT) (Kst : KS) (Kret : KR) (cn : ByteArray) (aq nq mq : Nat) (tq : NI) (rp fl : Int) (al nl ml : Nat) (tl : NI) : Prop := test (decide (S.cyE cn nq (fun j => tq (j + aq)) rp fl = 0 ∧ (S.setE nl fun j => tl (j + al)) = 0)) (test (decide (((aq + nq ≤ mq ∧ nq ≤ 1000000) ∧ al + nl ≤ ml ∧ nl ≤ 1000000) ∧ S.cyE cn nq (fun j => tq (j + aq)) rp fl = 0 ∧ (S.setE nl fun j => tl (j + al)) = 0)) (test (false) (Kret (PV.tup [PV.int .i64 (0 : Int), PV.int .i64 (0 : Int)]) (u127_e_1 mq tq ml tl) (6)) (test (u127_e_0 aq nq tq rp fl al nl tl).2.1 (test ((u127_e_0 aq nq tq rp fl al nl tl).1 == 0) (Kret (PV.tup [PV.int .i64 (0 : Int), PV.int .i64 (8 : Int)]) (u127_e_1 mq tq ml tl) (6)) (test (decide ((0 : Int) ≤ (u127_e_0 aq nq tq rp fl al nl tl).1 ∧ (u127_e_0 aq nq tq rp fl al nl tl).1 < (↑(List.length (u127_e_0 aq nq tq rp fl al nl tl).2.2.2.2) : Int))) (test (decide (Int.toNat (u127_e_0 aq nq tq rp fl al nl tl).1 < List.length (u127_e_0 aq nq tq rp fl al nl tl).2.2.2.2)) (Kret (PV.tup [PV.int .i64 (S.at' (u127_e_0 aq nq tq rp fl al nl tl).2.2.2.2 (Int.toNat (u127_e_0 aq nq tq rp fl al nl tl).1)), PV.int .i64 (0 : Int)]) (u127_e_1 mq tq ml tl) (6)) (False)) (False))) (test (decide ((0 : Int) ≤ (u127_e_0 aq nq tq rp fl al nl tl).1 ∧ (u127_e_0 aq nq tq rp fl al nl tl).1 < (↑(List.length (u127_e_0 aq nq tq rp fl al nl tl).2.2.2.2) : Int))) (test (decide (Int.toNat (u127_e_0 aq nq tq rp fl al nl tl).1 < List.length (u127_e_0 aq nq tq rp fl al nl tl).2.2.2.2)) (Kret (PV.tup [PV.int .i64 (S.at' (u127_e_0 aq nq tq rp fl al nl tl).2.2.2.2 (Int.toNat (u127_e_0 aq nq tq rp fl al nl tl).1)), PV.int .i64 (0 : Int)]) (u127_e_1 mq tq ml tl) (6)) (False)) (False)))) (False)) (test (decide (((aq + nq ≤ mq ∧ nq ≤ 1000000) ∧ al + nl ≤ ml ∧ nl ≤ 1000000) ∧ ¬(S.cyE cn nq (fun j => tq (j + aq)) rp fl = 0 ∧ (S.setE nl fun j => tl (j + al)) = 0))) (test (S.cseE (S.cyE cn nq (fun j => tq (j + aq)) rp fl) (S.setE nl fun j => tl (j + al)) != 0) (Kret (PV.tup [PV.int .i64 (0 : Int), PV.int .i64 (S.cseE (S.cyE cn nq (fun j => tq (j + aq)) rp fl) (S.setE nl fun j => tl (j + al)))]) (u127_e_1 mq tq ml tl) (4)) (False)) (False))
theorem te127 (test : TT) (Kst : KS) (Kret : KR) (cn : ByteArray) (aq nq mq : Nat) (tq : NI) (rp fl : Int) (al nl ml : Nat) (tl : NI) : run test Try.env true (xM3 test) true 400 ⟨27, [.cd (mkFn Try.f27).body], argT 0 [.agg [.str cn, .loose ⟨0, 1, aq, 0⟩ nq, .int .i64 rp, .int .i64 fl], .loose ⟨1, 1, al, 0⟩ nl], [[], [(0, (false, .cols mq [.int .i64 tq])), (1, (false, .cols ml [.int .i64 tl]))]], 2⟩ (proj 2 [] Kst Kret) =
  Te127 test Kst Kret cn aq nq mq tq rp fl al nl ml tl := by kernel_rfl
noncomputable abbrev J127 (cn : ByteArray) (aq nq mq : Nat) (tq : NI) (rp : Int) (fl : Int) (al nl ml : Nat) (tl : NI) : Rt127 → Heap := fun r => [newL (2 + 1) ((N127 cn aq nq mq tq rp fl al nl ml tl) r) ++ [(0, (false, .cols mq [.int .i64 tq])), (1, (false, .cols ml [.int .i64 tl]))]]
attribute [local irreducible] Int.subNatNat in
theorem be127 (cn : ByteArray) (aq nq mq : Nat) (tq : NI) (rp fl : Int) (al nl ml : Nat) (tl : NI) (Kst : KS) (Kret : KR) (x : St127 ⊕ Rt127) (hS : HS 2 400 ((I127 cn aq nq mq tq rp fl al nl ml tl)) Kst x) (hR : HR 2 400 ((V127 cn aq nq mq tq rp fl al nl ml tl)) (J127 cn aq nq mq tq rp fl al nl ml tl) Kret x) (h : p127 cn aq nq mq tq rp fl al nl ml tl = some x) : Te127 cond Kst Kret cn aq nq mq tq rp fl al nl ml tl := by
  unfold Te127
  unfold p127 at h
  refine bif_split h (fun c0 h => bif_split h (fun c1 h => cond_no rfl (bif_split h (fun c2 h => bif_split h (fun c3 h => ?_) (fun c3 h => bif_split h (fun c4 h => bif_split h (fun c5 h => ?_) (fun c5 h => ?_)) (fun c4 h => ?_))) (fun c2 h => bif_split h (fun c3 h => bif_split h (fun c4 h => ?_) (fun c4 h => ?_)) (fun c3 h => ?_)))) (fun c1 h => ?_)) (fun c0 h => bif_split h (fun c1 h => bif_split h (fun c2 h => ?_) (fun c2 h => ?_)) (fun c1 h => ?_))
  all_goals first
    | exact no_some h
    | exact ret_at hR _ h (fun n => n) rfl rfl rfl (rn_tup ⟨(rn_int rfl), (rn_int rfl), trivial⟩) rfl (entl_bor (use_lo rfl) rfl rfl (entl_bor (use_lo rfl) rfl rfl entl_nil))
theorem a127 (cn : ByteArray) (aq nq mq : Nat) (tq : NI) (rp fl : Int) (al nl ml : Nat) (tl : NI) {r : Rt127} (h : Goes ((q127 cn aq nq mq tq rp fl al nl ml tl)) ((p127 cn aq nq mq tq rp fl al nl ml tl)) r) : CallR Try.prog 27 [.agg [.str cn, .loose ⟨0, 1, aq, 0⟩ nq, .int .i64 rp, .int .i64 fl], .loose ⟨1, 1, al, 0⟩ nl] [[(0, (false, .cols mq [.int .i64 tq])), (1, (false, .cols ml [.int .i64 tl]))]] 2 ((V127 cn aq nq mq tq rp fl al nl ml tl) r) ((J127 cn aq nq mq tq rp fl al nl ml tl) r) 400 ∧ ∃ F, Try.prog.funcs[27]? = some F ∧ F.body.isSome = true ∧ (F.name == "runtime.NumGoroutine") = false := by
  refine dec_calls (f := 27) (lo := 2) (hi := 400) (H := [[(0, (false, .cols mq [.int .i64 tq])), (1, (false, .cols ml [.int .i64 tl]))]]) (args := [.agg [.str cn, .loose ⟨0, 1, aq, 0⟩ nq, .int .i64 rp, .int .i64 fl], .loose ⟨1, 1, al, 0⟩ nl]) Try.envOk Try.mixed xM3_ok ((I127 cn aq nq mq tq rp fl al nl ml tl)) ((V127 cn aq nq mq tq rp fl al nl ml tl)) (J127 cn aq nq mq tq rp fl al nl ml tl) (fn := mkFn Try.f27) (ts := []) (n := 400) rfl (by decide) (by simp) (names_of rfl) ?_ ?_ ?_ h
  · intro s; exact s.elim
  · intro Kst Kret x hS hR h
    exact Holds.eq (te127 cond Kst Kret cn aq nq mq tq rp fl al nl ml tl) (be127 cn aq nq mq tq rp fl al nl ml tl Kst Kret x hS hR h)
  · intro Kst Kret x hS hR s h; exact s.elim
noncomputable abbrev w127 {α : Type} (g : ByteArray → Nat → Nat → Nat → (Nat → Int) → Int → Int → Nat → Nat → Nat → (Nat → Int) → α) (x : (ByteArray × (Nat × Nat × Nat × (Nat → Int) × Unit) × Int × Int × Unit) × (Nat × Nat × Nat × (Nat → Int) × Unit) × Unit) : α := g x.1.1 x.1.2.1.1 x.1.2.1.2.1 x.1.2.1.2.2.1 x.1.2.1.2.2.2.1 x.1.2.2.1 x.1.2.2.2.1 x.2.1.1 x.2.1.2.1 x.2.1.2.2.1 x.2.1.2.2.2.1
noncomputable def k127  : Con := ⟨27, [.agg [.plain (.str), .list [.int .i64], .plain (.int .i64), .plain (.int .i64)], .one (.list [.int .i64])], w127 (fun cn aq nq mq tq rp fl al nl ml tl => decide ((aq + nq ≤ mq ∧ nq ≤ 1000000) ∧ al + nl ≤ ml ∧ nl ≤ 1000000)), w127 (fun cn aq nq mq tq rp fl al nl ml tl => (V127 cn aq nq mq tq rp fl al nl ml tl) (S.nxtS (S.cyE cn nq (fun j => tq (j + aq)) rp fl) nq (fun j => tq (j + aq)) rp fl nl (fun j => tl (j + al)))), w127 (fun cn aq nq mq tq rp fl al nl ml tl => (N127 cn aq nq mq tq rp fl al nl ml tl) (S.nxtS (S.cyE cn nq (fun j => tq (j + aq)) rp fl) nq (fun j => tq (j + aq)) rp fl nl (fun j => tl (j + al)))), fun _ _ => .dead⟩
theorem s127 (cn : ByteArray) (aq nq mq : Nat) (tq : Nat → Int) (rp fl : Int) (al nl ml : Nat) (tl : Nat → Int) (hp : (aq + nq ≤ mq ∧ nq ≤ 1000000) ∧ al + nl ≤ ml ∧ nl ≤ 1000000) : Goes ((q127 cn aq nq mq tq rp fl al nl ml tl)) ((p127 cn aq nq mq tq rp fl al nl ml tl)) (S.nxtS (S.cyE cn nq (fun j => tq (j + aq)) rp fl) nq (fun j => tq (j + aq)) rp fl nl (fun j => tl (j + al))) := by
  obtain ⟨⟨hp1, hp2⟩, hp3, hp4⟩ := hp
  have he := beh_ce (e := (S.cyE cn nq (fun j => tq (j + aq)) rp fl)) (n := nq) (t := (fun j => tq (j + aq))) (rp := rp) (fl := fl) (ns := nl) (x := (fun j => tl (j + al)))
  have hin := fun h1 h2 => (beh_in (cn := cn) (n := nq) (t := (fun j => tq (j + aq))) (rp := rp) (fl := fl) (ns := nl) (x := (fun j => tl (j + al))) h1 h2)
  unfold S.nxtS p127
  by_cases h67 : (S.cyE cn nq (fun j => tq (j + aq)) rp fl) = 0 ∧ (S.setE nl (fun j => tl (j + al))) = 0
  · have hin := hin h67.1 h67.2
    refine goes_ok (decide_eq_true h67) ?_
    refine goes_ok (decide_eq_true ⟨⟨⟨hp1, hp2⟩, hp3, hp4⟩, h67⟩) ?_
    replace he := he.trans (cse_0.mpr h67)
    generalize S.behS _ _ _ _ _ _ _ = B at *
    generalize S.remS _ _ _ _ _ _ = C at *
    obtain ⟨b1, b2, b3, b4, b5⟩ := B
    obtain ⟨c1, c2, c3, c4, c5⟩ := C
    simp only at he hin ⊢
    obtain ⟨rfl, rfl, i3, rfl, i4⟩ := hin
    rw [if_pos he]
    generalize S.stpL nq (fun j => tq (j + aq)) rp fl = L at *
    cases c2
    · have i3 := i3 rfl
      subst i3
      cases c4
      all_goals
        repeat' (first | with_reducible refine goes_if (fun h => ?_) (fun h => ?_) <;> (try simp only [SH] at h) | exact goes_none.mpr (by omega))
        all_goals first
          | (exfalso; omega)
          | (refine goes_inr.mpr ?_; simp only [Bool.false_eq_true, if_false, if_true, true_and, false_and] <;> first | rfl | (rw [if_pos (by omega)]) | (rw [if_neg (by omega)]) | ((repeat' split) <;> first | rfl | (exfalso; omega)))
    · clear i3
      repeat' (first | with_reducible refine goes_if (fun h => ?_) (fun h => ?_) <;> (try simp only [SH] at h) | exact goes_none.mpr (by omega))
      all_goals first
          | (exfalso; omega)
          | (refine goes_inr.mpr ?_; simp only [Bool.false_eq_true, if_false, if_true, true_and, false_and] <;> first | rfl | (rw [if_pos (by omega)]) | (rw [if_neg (by omega)]) | ((repeat' split) <;> first | rfl | (exfalso; omega)))
  · have h5 : S.cseE (S.cyE cn nq (fun j => tq (j + aq)) rp fl) (S.setE nl (fun j => tl (j + al))) ≠ 0 := fun h => h67 (cse_0.mp h)
    show Goes _ _ (if (S.behS (S.cyE cn nq (fun j => tq (j + aq)) rp fl) nq (fun j => tq (j + aq)) rp fl nl (fun j => tl (j + al))).2.2.2.2 = 0 then _ else (0, (S.behS (S.cyE cn nq (fun j => tq (j + aq)) rp fl) nq (fun j => tq (j + aq)) rp fl nl (fun j => tl (j + al))).2.2.2.2))
    rw [if_neg (by rw [he]; exact h5), he]
    refine goes_no (decide_eq_false h67) ?_
    refine goes_ok (decide_eq_true ⟨⟨⟨hp1, hp2⟩, hp3, hp4⟩, h67⟩) ?_
    exact goes_ok (by simpa using h5) (goes_inr.mpr rfl)
theorem k127_ok  : k127.ok Try.prog := by
  intro x hx
  obtain ⟨⟨cn, ⟨aq, nq, mq, tq, _⟩, rp, fl, _⟩, ⟨al, nl, ml, tl, _⟩, _⟩ := x
  obtain ⟨h1, h2⟩ := a127 cn aq nq mq tq rp fl al nl ml tl (s127 cn aq nq mq tq rp fl al nl ml tl (of_dec hx rfl))
  exact ⟨⟨400, (by decide : 2 + 1 + 0 ≤ 400), h1⟩, h2⟩
noncomputable def xC5s (test : Bool → Prop → Prop → Prop) : Ext := consX test [k111, k112, k114, k25, k124, k126, k127, k128]
theorem xC5s_ok  : ExtOk Try.prog (xC5s cond) := consX_ok ⟨k111_ok, k112_ok, k114_ok, k25_ok, k124_ok, k126_ok, k127_ok, k128_ok, trivial⟩
theorem curE_congr  {e : Int} {t t' : Nat → Int} : ∀ {k i n : Nat}, i + k ≤ n → (∀ j, j < n → t j = t' j) → S.curE e t i k = S.curE e t' i k
  | 0, _, _, _, _ => rfl
  | k + 1, i, n, hn, h => by
    simp only [S.curE]
    rw [h i (by omega), curE_congr (k := k) (i := i + 1) (n := n) (by omega) h]
    by_cases h0 : 0 < i
    · rw [h (i - 1) (by omega)]
    · simp only [h0, false_and, if_false]
theorem cy_mkl  {cn : ByteArray} {n : Nat} {t : Nat → Int} {rp fl : Int} : S.cyE cn n (fun j => S.at' (S.mkl n t) j) rp fl = S.cyE cn n t rp fl := by
  unfold S.cyE
  by_cases h : n < 2
  · simp only [h, if_true]
  · simp only [at_mkl (show n - 1 < n by omega), curE_congr (n := n) (t' := t) (show 0 + n ≤ n by omega) fun j hj => at_mkl hj]
theorem stp_mkl  {n : Nat} {t : Nat → Int} {rp fl : Int} : S.stpL n (fun j => S.at' (S.mkl n t) j) rp fl = S.stpL n t rp fl := by
  unfold S.stpL
  rw [mkl_congr fun j hj => ?_]
  have : 0 < n := by
    rcases Nat.eq_zero_or_pos n with h | h
    · rw [h, Nat.zero_mul] at hj; omega
    · exact h
  exact at_mkl (Nat.mod_lt _ this)
theorem few_n  {cn : ByteArray} {n l : Nat} (h : S.fewC cn n l = true) : n ≤ 25 ∧ l ≤ 510 := by have := of_decide_eq_true h; omega
theorem ahd_mkl  {n : Nat} {t : Nat → Int} {fl p x : Int} (hn : 0 < n) : S.ahdB n (fun j => S.at' (S.mkl n t) j) fl p x = S.ahdB n t fl p x := by
  unfold S.ahdB
  simp only [at_mkl (show n - 1 < n by omega)]
  rw [maxN_congr (t := fun j => S.at' (S.mkl n t) j) (u := t) fun j hj => at_mkl (by omega), minN_congr (t := fun j => S.at' (S.mkl n t) j) (u := t) fun j hj => at_mkl (by omega)]
theorem behK_mkl  {n nl : Nat} {t l x : Nat → Int} {fl : Int} (hn : 0 < n) : ∀ i, S.behK n (fun j => S.at' (S.mkl n t) j) fl nl l x i = S.behK n t fl nl l x i
  | 0 => rfl
  | i + 1 => by simp only [S.behK, behK_mkl hn i, S.setS, ahd_mkl hn]
theorem beh_mkl  {cn : ByteArray} {n ns : Nat} {t x : Nat → Int} {rp fl : Int} : S.behS (S.cyE cn n t rp fl) n (fun j => S.at' (S.mkl n t) j) rp fl ns x = S.behS (S.cyE cn n t rp fl) n t rp fl ns x := by
  unfold S.behS
  by_cases h : S.cyE cn n t rp fl = 0
  · have hc := cy_ok h
    rw [if_pos h, if_pos h, stp_mkl]
    simp only [behK_mkl (show 0 < n by omega)]
  · rw [if_neg h, if_neg h]
theorem sta_mkl  {cn : ByteArray} {n ns : Nat} {t x : Nat → Int} {rp fl : Int} : S.staS (S.cyE cn n t rp fl) n (fun j => S.at' (S.mkl n t) j) rp fl ns x = S.staS (S.cyE cn n t rp fl) n t rp fl ns x := by unfold S.staS; rw [beh_mkl]
theorem nxt_mkl  {cn : ByteArray} {n ns : Nat} {t x : Nat → Int} {rp fl : Int} : S.nxtS (S.cyE cn n t rp fl) n (fun j => S.at' (S.mkl n t) j) rp fl ns x = S.nxtS (S.cyE cn n t rp fl) n t rp fl ns x := by unfold S.nxtS; rw [beh_mkl, stp_mkl]
abbrev St105  := Empty
abbrev Rt105  := Bool
noncomputable def V105 (cn : ByteArray) (aq nq mq : Nat) (tq : NI) (rp fl : Int) (al nl ml : Nat) (tl : NI) (r : Rt105) : PV := PV.bool r
noncomputable def N105 (cn : ByteArray) (aq nq mq : Nat) (tq : NI) (rp fl : Int) (al nl ml : Nat) (tl : NI) (r : Rt105) : List Blk := []
noncomputable def I105 (cn : ByteArray) (aq nq mq : Nat) (tq : NI) (rp fl : Int) (al nl ml : Nat) (tl : NI) : St105 → Hd := fun s => s.elim
noncomputable def q105 (cn : ByteArray) (aq nq mq : Nat) (tq : NI) (rp fl : Int) (al nl ml : Nat) (tl : NI) : St105 → Option (St105 ⊕ Rt105) := fun s => s.elim
noncomputable def p105 (cn : ByteArray) (aq nq mq : Nat) (tq : NI) (rp fl : Int) (al nl ml : Nat) (tl : NI) : Option (St105 ⊕ Rt105) := bif (S.fewC cn nq nl) then (bif (decide (aq + nq ≤ mq ∧ nq ≤ 1000000)) then (bif (decide (al + nl ≤ ml ∧ nl ≤ 1000000)) then (bif (decide ((0 + List.length (S.mkl nq fun j => tq (j + aq)) ≤ List.length (S.mkl nq fun j => tq (j + aq)) ∧ List.length (S.mkl nq fun j => tq (j + aq)) ≤ 1000000) ∧ 0 + nl ≤ nl ∧ nl ≤ 1000000)) then (bif (decide ((aq + nq ≤ mq ∧ nq ≤ 1000000) ∧ al + nl ≤ ml ∧ nl ≤ 1000000)) then (bif (Prod.fst (S.staS (S.cyE cn (List.length (S.mkl nq fun j => tq (j + aq))) (fun j => S.at' (S.mkl nq fun j => tq (j + aq)) j) rp fl) (List.length (S.mkl nq fun j => tq (j + aq))) (fun j => S.at' (S.mkl nq fun j => tq (j + aq)) j) rp fl nl fun j => tl (j + al)) == Prod.fst (S.staS (S.cyE cn nq (fun j => tq (j + aq)) rp fl) nq (fun j => tq (j + aq)) rp fl nl fun j => tl (j + al))) then (bif (Prod.snd (S.staS (S.cyE cn (List.length (S.mkl nq fun j => tq (j + aq))) (fun j => S.at' (S.mkl nq fun j => tq (j + aq)) j) rp fl) (List.length (S.mkl nq fun j => tq (j + aq))) (fun j => S.at' (S.mkl nq fun j => tq (j + aq)) j) rp fl nl fun j => tl (j + al)) == Prod.snd (S.staS (S.cyE cn nq (fun j => tq (j + aq)) rp fl) nq (fun j => tq (j + aq)) rp fl nl fun j => tl (j + al))) then (bif (Prod.fst (S.nxtS (S.cyE cn (List.length (S.mkl nq fun j => tq (j + aq))) (fun j => S.at' (S.mkl nq fun j => tq (j + aq)) j) rp fl) (List.length (S.mkl nq fun j => tq (j + aq))) (fun j => S.at' (S.mkl nq fun j => tq (j + aq)) j) rp fl nl fun j => tl (j + al)) == Prod.fst (S.nxtS (S.cyE cn nq (fun j => tq (j + aq)) rp fl) nq (fun j => tq (j + aq)) rp fl nl fun j => tl (j + al))) then (bif (Prod.snd (S.nxtS (S.cyE cn (List.length (S.mkl nq fun j => tq (j + aq))) (fun j => S.at' (S.mkl nq fun j => tq (j + aq)) j) rp fl) (List.length (S.mkl nq fun j => tq (j + aq))) (fun j => S.at' (S.mkl nq fun j => tq (j + aq)) j) rp fl nl fun j => tl (j + al)) == Prod.snd (S.nxtS (S.cyE cn nq (fun j => tq (j + aq)) rp fl) nq (fun j => tq (j + aq)) rp fl nl fun j => tl (j + al))) then (some (.inr (true))) else (some (.inr (false)))) else (some (.inr (false)))) else (some (.inr (false)))) else (some (.inr (false)))) else (none)) else (none)) else (none)) else (none)) else (some (.inr (true)))
noncomputable abbrev u105_e_0 (mq : Nat) (tq : Nat → Int) (ml : Nat) (tl : Nat → Int) := ([[(1, false, Blk.cols ml [Col.int IntKind.i64 tl]), (0, false, Blk.cols mq [Col.int IntKind.i64 tq])]])
noncomputable abbrev u105_e_1 (cn : ByteArray) (aq nq : Nat) (tq : Nat → Int) (rp fl : Int) := S.cyE cn (List.length (S.mkl nq fun j => tq (j + aq))) (fun j => S.at' (S.mkl nq fun j => tq (j + aq)) j) rp fl
def Te105 (test : TT) (Kst : KS) (Kret : KR) (cn : ByteArray) (aq nq mq : Nat) (tq : NI) (rp fl : Int) (al nl ml : Nat) (tl : NI) : Prop := test (true) (test (true) (test (true) (test (S.fewC cn nq nl) (test (decide (aq + nq ≤ mq ∧ nq ≤ 1000000)) (test (decide (al + nl ≤ ml ∧ nl ≤ 1000000)) (test (decide ((0 + List.length (S.mkl nq fun j => tq (j + aq)) ≤ List.length (S.mkl nq fun j => tq (j + aq)) ∧ List.length (S.mkl nq fun j => tq (j + aq)) ≤ 1000000) ∧ 0 + nl ≤ nl ∧ nl ≤ 1000000)) (test (decide ((aq + nq ≤ mq ∧ nq ≤ 1000000) ∧ al + nl ≤ ml ∧ nl ≤ 1000000)) (test (decide (aq + nq ≤ mq ∧ nq ≤ 1000000)) (test (decide (al + nl ≤ ml ∧ nl ≤ 1000000)) (test (decide ((0 + List.length (S.mkl nq fun j => tq (j + aq)) ≤ List.length (S.mkl nq fun j => tq (j + aq)) ∧ List.length (S.mkl nq fun j => tq (j + aq)) ≤ 1000000) ∧ 0 + nl ≤ nl ∧ nl ≤ 1000000)) (test (decide ((aq + nq ≤ mq ∧ nq ≤ 1000000) ∧ al + nl ≤ ml ∧ nl ≤ 1000000)) (test ((S.staS (u105_e_1 cn aq nq tq rp fl) (List.length (S.mkl nq fun j => tq (j + aq))) (fun j => S.at' (S.mkl nq fun j => tq (j + aq)) j) rp fl nl fun j => tl (j + al)).1 == (S.staS (S.cyE cn nq (fun j => tq (j + aq)) rp fl) nq (fun j => tq (j + aq)) rp fl nl fun j => tl (j + al)).1) (test ((S.staS (u105_e_1 cn aq nq tq rp fl) (List.length (S.mkl nq fun j => tq (j + aq))) (fun j => S.at' (S.mkl nq fun j => tq (j + aq)) j) rp fl nl fun j => tl (j + al)).2 == (S.staS (S.cyE cn nq (fun j => tq (j + aq)) rp fl) nq (fun j => tq (j + aq)) rp fl nl fun j => tl (j + al)).2) (test ((S.nxtS (u105_e_1 cn aq nq tq rp fl) (List.length (S.mkl nq fun j => tq (j + aq))) (fun j => S.at' (S.mkl nq fun j => tq (j + aq)) j) rp fl nl fun j => tl (j + al)).1 == (S.nxtS (S.cyE cn nq (fun j => tq (j + aq)) rp fl) nq (fun j => tq (j + aq)) rp fl nl fun j => tl (j + al)).1) (test ((S.nxtS (u105_e_1 cn aq nq tq rp fl) (List.length (S.mkl nq fun j => tq (j + aq))) (fun j => S.at' (S.mkl nq fun j => tq (j + aq)) j) rp fl nl fun j => tl (j + al)).2 == (S.nxtS (S.cyE cn nq (fun j => tq (j + aq)) rp fl) nq (fun j => tq (j + aq)) rp fl nl fun j => tl (j + al)).2) (Kret (PV.tf true) (u105_e_0 mq tq ml tl) (17)) (Kret (PV.tf false) (u105_e_0 mq tq ml tl) (17))) (Kret (PV.tf false) (u105_e_0 mq tq ml tl) (17))) (Kret (PV.tf false) (u105_e_0 mq tq ml tl) (17))) (Kret (PV.tf false) (u105_e_0 mq tq ml tl) (17))) (False)) (False)) (False)) (False)) (False)) (False)) (False)) (False)) (test (true) (test (true) (Kret (PV.tf true) (u105_e_0 mq tq ml tl) (6)) (Kret (PV.tf false) (u105_e_0 mq tq ml tl) (6))) (False))) (False)) (test (true) (test (true) (Kret (PV.tf true) (u105_e_0 mq tq ml tl) (5)) (Kret (PV.tf false) (u105_e_0 mq tq ml tl) (5))) (False))) (False)
theorem te105 (test : TT) (Kst : KS) (Kret : KR) (cn : ByteArray) (aq nq mq : Nat) (tq : NI) (rp fl : Int) (al nl ml : Nat) (tl : NI) : run test Try.env true (xC5s test) true 400 ⟨5, [.cd (mkFn Try.f5).body], argT 0 [.agg [.str cn, .loose ⟨0, 1, aq, 0⟩ nq, .int .i64 rp, .int .i64 fl], .loose ⟨1, 1, al, 0⟩ nl], [[], [(0, (false, .cols mq [.int .i64 tq])), (1, (false, .cols ml [.int .i64 tl]))]], 2⟩ (proj 2 [] Kst Kret) =
  Te105 test Kst Kret cn aq nq mq tq rp fl al nl ml tl := by kernel_rfl
noncomputable abbrev J105 (cn : ByteArray) (aq nq mq : Nat) (tq : NI) (rp : Int) (fl : Int) (al nl ml : Nat) (tl : NI) : Rt105 → Heap := fun r => [newL (2 + 1) ((N105 cn aq nq mq tq rp fl al nl ml tl) r) ++ [(0, (false, .cols mq [.int .i64 tq])), (1, (false, .cols ml [.int .i64 tl]))]]
attribute [local irreducible] Int.subNatNat in
theorem be105 (cn : ByteArray) (aq nq mq : Nat) (tq : NI) (rp fl : Int) (al nl ml : Nat) (tl : NI) (Kst : KS) (Kret : KR) (x : St105 ⊕ Rt105) (hS : HS 2 400 ((I105 cn aq nq mq tq rp fl al nl ml tl)) Kst x) (hR : HR 2 400 ((V105 cn aq nq mq tq rp fl al nl ml tl)) (J105 cn aq nq mq tq rp fl al nl ml tl) Kret x) (h : p105 cn aq nq mq tq rp fl al nl ml tl = some x) : Te105 cond Kst Kret cn aq nq mq tq rp fl al nl ml tl := by
  unfold Te105
  unfold p105 at h
  refine cond_yes rfl (cond_yes rfl (cond_yes rfl (bif_split h (fun c0 h => bif_split h (fun c1 h => bif_split h (fun c2 h => bif_split h (fun c3 h => bif_split h (fun c4 h => cond_yes c1 (cond_yes c2 (cond_yes c3 (cond_yes c4 (bif_split h (fun c5 h => bif_split h (fun c6 h => bif_split h (fun c7 h => bif_split h (fun c8 h => ?_) (fun c8 h => ?_)) (fun c7 h => ?_)) (fun c6 h => ?_)) (fun c5 h => ?_)))))) (fun c4 h => ?_)) (fun c3 h => ?_)) (fun c2 h => ?_)) (fun c1 h => ?_)) (fun c0 h => cond_yes rfl (cond_yes rfl (ret_at hR _ h (fun n => n) rfl rfl rfl (rn_bool_tf rfl) rfl (entl_bor (use_lo rfl) rfl rfl (entl_bor (use_lo rfl) rfl rfl entl_nil))))))))
  all_goals first
    | exact ret_at hR _ h (fun n => n) rfl rfl rfl (rn_bool_tf rfl) rfl (entl_bor (use_lo rfl) rfl rfl (entl_bor (use_lo rfl) rfl rfl entl_nil))
    | exact no_some h
theorem a105 (cn : ByteArray) (aq nq mq : Nat) (tq : NI) (rp fl : Int) (al nl ml : Nat) (tl : NI) {r : Rt105} (h : Goes ((q105 cn aq nq mq tq rp fl al nl ml tl)) ((p105 cn aq nq mq tq rp fl al nl ml tl)) r) : CallR Try.prog 5 [.agg [.str cn, .loose ⟨0, 1, aq, 0⟩ nq, .int .i64 rp, .int .i64 fl], .loose ⟨1, 1, al, 0⟩ nl] [[(0, (false, .cols mq [.int .i64 tq])), (1, (false, .cols ml [.int .i64 tl]))]] 2 ((V105 cn aq nq mq tq rp fl al nl ml tl) r) ((J105 cn aq nq mq tq rp fl al nl ml tl) r) 400 ∧ ∃ F, Try.prog.funcs[5]? = some F ∧ F.body.isSome = true ∧ (F.name == "runtime.NumGoroutine") = false := by
  refine dec_calls (f := 5) (lo := 2) (hi := 400) (H := [[(0, (false, .cols mq [.int .i64 tq])), (1, (false, .cols ml [.int .i64 tl]))]]) (args := [.agg [.str cn, .loose ⟨0, 1, aq, 0⟩ nq, .int .i64 rp, .int .i64 fl], .loose ⟨1, 1, al, 0⟩ nl]) Try.envOk Try.mixed xC5s_ok ((I105 cn aq nq mq tq rp fl al nl ml tl)) ((V105 cn aq nq mq tq rp fl al nl ml tl)) (J105 cn aq nq mq tq rp fl al nl ml tl) (fn := mkFn Try.f5) (ts := []) (n := 400) rfl (by decide) (by simp) (names_of rfl) ?_ ?_ ?_ h
  · intro s; exact s.elim
  · intro Kst Kret x hS hR h
    exact Holds.eq (te105 cond Kst Kret cn aq nq mq tq rp fl al nl ml tl) (be105 cn aq nq mq tq rp fl al nl ml tl Kst Kret x hS hR h)
  · intro Kst Kret x hS hR s h; exact s.elim
noncomputable abbrev w105 {α : Type} (g : ByteArray → Nat → Nat → Nat → (Nat → Int) → Int → Int → Nat → Nat → Nat → (Nat → Int) → α) (x : (ByteArray × (Nat × Nat × Nat × (Nat → Int) × Unit) × Int × Int × Unit) × (Nat × Nat × Nat × (Nat → Int) × Unit) × Unit) : α := g x.1.1 x.1.2.1.1 x.1.2.1.2.1 x.1.2.1.2.2.1 x.1.2.1.2.2.2.1 x.1.2.2.1 x.1.2.2.2.1 x.2.1.1 x.2.1.2.1 x.2.1.2.2.1 x.2.1.2.2.2.1
noncomputable def k105  : Con := ⟨5, [.agg [.plain (.str), .list [.int .i64], .plain (.int .i64), .plain (.int .i64)], .one (.list [.int .i64])], w105 (fun cn aq nq mq tq rp fl al nl ml tl => decide (aq + nq ≤ mq ∧ al + nl ≤ ml)), w105 (fun cn aq nq mq tq rp fl al nl ml tl => (V105 cn aq nq mq tq rp fl al nl ml tl) (true)), w105 (fun cn aq nq mq tq rp fl al nl ml tl => (N105 cn aq nq mq tq rp fl al nl ml tl) (true)), fun _ _ => .dead⟩
theorem s105 (cn : ByteArray) (aq nq mq : Nat) (tq : Nat → Int) (rp fl : Int) (al nl ml : Nat) (tl : Nat → Int) (hp : aq + nq ≤ mq ∧ al + nl ≤ ml) : Goes ((q105 cn aq nq mq tq rp fl al nl ml tl)) ((p105 cn aq nq mq tq rp fl al nl ml tl)) (true) := by
  obtain ⟨hp1, hp3⟩ := hp
  unfold p105
  cases hf : S.fewC cn nq nl
  · exact goes_inr.mpr rfl
  have hq := few_n hf
  simp only [mkl_len, cy_mkl, sta_mkl, nxt_mkl, BEq.rfl]
  generalize S.staS (S.cyE cn nq (fun j => tq (j + aq)) rp fl) nq (fun j => tq (j + aq)) rp fl nl (fun j => tl (j + al)) = A
  generalize S.nxtS (S.cyE cn nq (fun j => tq (j + aq)) rp fl) nq (fun j => tq (j + aq)) rp fl nl (fun j => tl (j + al)) = B
  repeat' (first | with_reducible refine goes_if (fun h => ?_) (fun h => ?_) <;> (try simp only [SH] at h) | exact goes_none.mpr (by omega))
  all_goals first | (exfalso; omega) | exact goes_inr.mpr rfl | (exfalso; simp_all; done) | (exfalso; simp at h; done)
theorem k105_ok  : k105.ok Try.prog := by
  intro x hx
  obtain ⟨⟨cn, ⟨aq, nq, mq, tq, _⟩, rp, fl, _⟩, ⟨al, nl, ml, tl, _⟩, _⟩ := x
  obtain ⟨h1, h2⟩ := a105 cn aq nq mq tq rp fl al nl ml tl (s105 cn aq nq mq tq rp fl al nl ml tl (of_dec hx rfl))
  exact ⟨⟨400, (by decide : 2 + 1 + 0 ≤ 400), h1⟩, h2⟩
theorem pre105  {x : SsI k105.ss} (hx : ssFits k105.ss x) : k105.pre (ssj k105.ss x) = true := by
  obtain ⟨⟨cn, ⟨n, t, u1⟩, rp, fl, u2⟩, ⟨m, l, u3⟩, u4⟩ := x
  exact decide_eq_true ⟨Nat.le_of_eq (Nat.zero_add _), Nat.le_of_eq (Nat.zero_add _)⟩
end Go.Ev
