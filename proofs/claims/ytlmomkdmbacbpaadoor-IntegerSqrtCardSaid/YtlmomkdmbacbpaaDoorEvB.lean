/-
  Arguments take no more memory than there is: what the form's own reach says of the lists that came in.
-/
import Derived.Test.YtlmomkdmbacbpaaDoorEvC
namespace Go.Ev
open Go.RowKit Go.Deep Go.WideShapes Go.ChangeAt
set_option linter.unusedSimpArgs false
set_option linter.unusedVariables false
section
variable {H : Type} {enc : TypeId × Value → H} {P : Program} {w : World} {held : Bool}
/-- A slice is no longer than B. -/
def SmallC (P : Program) (B : Nat) : CK → Value → Prop
  | .list e, c => ∀ A n cap, c = .slice A n cap → 1 ≤ P.bytesOf e → n ≤ B
  | _, _ => True
theorem weightsEach_get {B : Nat} : ∀ {ts : List TypeId} {ds : List (DataW H)}, (DataW.weightsEach P ts ds).all (fun k => decide (k ≤ B)) = true → ∀ (i : Nat) (t : TypeId) (d : DataW H), ts[i]? = some t → ds[i]? = some d → (DataW.weights P t d).all (fun k => decide (k ≤ B)) = true
  | [], _, _, i, t, d, h, _ => by simp at h
  | _ :: _, [], _, i, t, d, _, h => by simp at h
  | t0 :: ts, d0 :: ds, h, i, t, d, h1, h2 => by
    rw [DataW.weightsEach, List.all_append, Bool.and_eq_true] at h
    cases i with
    | zero =>
      simp only [List.getElem?_cons_zero, Option.some.injEq] at h1 h2
      subst h1; subst h2
      exact h.1
    | succ i => exact weightsEach_get h.2 i t d (by simpa using h1) (by simpa using h2)
theorem weightsAll_get {B : Nat} {e : TypeId} : ∀ {ds : List (DataW H)}, (DataW.weightsAll P e ds).all (fun k => decide (k ≤ B)) = true → ∀ (i : Nat) (d : DataW H), ds[i]? = some d → (DataW.weights P e d).all (fun k => decide (k ≤ B)) = true
  | [], _, i, d, h => by simp at h
  | d0 :: ds, h, i, d, h2 => by
    rw [DataW.weightsAll, List.all_append, Bool.and_eq_true] at h
    cases i with
    | zero =>
      simp only [List.getElem?_cons_zero, Option.some.injEq] at h2
      subst h2
      exact h.1
    | succ i => exact weightsAll_get h.2 i d (by simpa using h2)
theorem flat_small {B : Nat} : ∀ {n : Nat} {t : TypeId} {ks : List CK} {cs : List Value} {fuel : Nat} {x : DataW H × List MemPlace}, flatOf P n t = some ks → DataW.trod enc P w 0 (fun _ => true) held fuel t cs = some x → (x.1.weights P t).all (fun k => decide (k ≤ B)) = true → CKs (SmallC P B) ks cs := by
  intro n
  induction n with
  | zero => intro t ks cs fuel x h; cases h
  | succ n ih =>
    intro t ks cs fuel x h ht hw
    simp only [flatOf] at h
    split at h
    · rename_i hu
      cases h
      obtain ⟨b, rfl, _⟩ := DataW.trod_bool hu ht
      exact .cons trivial .nil
    · rename_i k hu
      cases h
      obtain ⟨z, rfl, _, hw⟩ := DataW.trod_int hu ht
      exact .cons trivial .nil
    · rename_i hu
      cases h
      obtain ⟨s, rfl, _, hs⟩ := DataW.trod_string hu ht
      exact .cons trivial .nil
    · rename_i e hu
      cases h
      rcases Go.Deep.open_slice hu ht with ⟨h0, _⟩ | ⟨a, len, cap, k, m, Dd, Pl, hcs, hb, hl, hm, hk, hx, _⟩
      · subst h0
        refine .cons (fun A n cap e1 _ => ?_) .nil
        cases e1
        exact Nat.zero_le _
      · subst hcs
        refine .cons (fun A n0 cap0 e1 hbe => ?_) .nil
        simp only [Value.slice.injEq] at e1
        obtain ⟨-, e2, e3⟩ := e1
        simp only [if_true] at hk
        subst hx
        simp only [DataW.weights, hu, List.all_cons, Bool.and_eq_true, decide_eq_true_eq, List.length_map, List.length_range] at hw
        have h1 := hw.1
        have h2 : (len + (k - len)) * 1 ≤ (len + (k - len)) * P.bytesOf e := Nat.mul_le_mul_left _ hbe
        omega
    · rename_i fs hu
      split at h
      · rename_i l hj
        split at h
        · rename_i hc
          cases h
          obtain ⟨xs, m, _, rfl, hl, hx, hg⟩ := DataW.trod_struct hu ht
          have a := joinS_ok (R := SmallC P B) (cs := cs) hj fun f hf l hl => by
            obtain ⟨i, hi, rfl⟩ := List.getElem_of_mem hf
            have := hg i fs[i] (Array.getElem?_eq_getElem (by simpa using hi))
            rw [List.getElem?_eq_getElem (by simpa [hx] using hi)] at this
            refine ih hl this ?_
            simp only [DataW.weights, hu] at hw
            exact weightsEach_get hw i _ _ (by simp [List.getElem?_eq_getElem hi]) (by rw [List.getElem?_map, List.getElem?_eq_getElem (by simpa [hx] using hi)]; rfl)
          simp only [List.drop_zero] at a
          rw [Nat.eq_of_beq_eq_true hc, ← hl, List.take_length] at a
          exact a
        · cases h
      · cases h
    · rename_i m e hu
      split at h
      · rename_i l hj
        split at h
        · rename_i h1 h2
          cases h
          obtain ⟨xs, k, _, rfl, hl, hx, hg⟩ := DataW.trod_array hu ht
          have a := joinA_ok (R := SmallC P B) (cs := cs) (ks := l) (m := m) fun i hi => by
            have := hg i hi
            rw [List.getElem?_eq_getElem (by omega), ← Nat.eq_of_beq_eq_true h1] at this
            refine ih hj this ?_
            simp only [DataW.weights, hu] at hw
            exact weightsAll_get hw i _ (by rw [List.getElem?_map, List.getElem?_eq_getElem (by omega)]; rfl)
          rw [Nat.eq_of_beq_eq_true h2, ← hl, List.take_length] at a
          exact a
        · cases h
      · cases h
    · cases h
def AK.small (B : Nat) : (a : AK) → a.I → Prop
  | .list _, (n, _) => n ≤ B
  | .own _, (n, _) => n ≤ B
  | .plain _, _ => True
  | .cell _, _ => True
  | .win _, (n, _) => n ≤ B
def asSmall (B : Nat) : (l : List AK) → AsI l → Prop
  | [], _ => True
  | a :: l, (x, y) => a.small B x ∧ asSmall B l y
def Sh.small (B : Nat) : (s : Sh) → s.I → Prop
  | .one a, x => a.small B x
  | .agg l, x => asSmall B l x
  | .fn _ l, x => asSmall B l x
def ssSmall (B : Nat) : (l : List Sh) → SsI l → Prop
  | [], _ => True
  | s :: l, (x, y) => s.small B x ∧ ssSmall B l y
/-- Elements take memory. -/
def bytesC (P : Program) : List CK → Bool
  | [] => true
  | .list e :: l => Nat.ble 1 (P.bytesOf e) && bytesC P l
  | _ :: l => bytesC P l
def bytesT (P : Program) (n : Nat) : List TypeId → Bool
  | [] => true
  | t :: ts => (match flatOf P n t with | some ks => bytesC P ks | none => true) && bytesT P n ts
theorem ak_small {n B : Nat} {ck : CK} {a : AK} (ha : akOf P n ck = some a) {c : Value} (h : SmallC P B ck c) (hb : ∀ e, ck = .list e → 1 ≤ P.bytesOf e) {σ : Sg} {x : a.I} {nm : Nat} (hv : VR σ (a.pv x nm) c) : a.small B x := by
  cases a with
  | plain k => trivial
  | cell ks => trivial
  | own ks =>
    cases ck <;> simp only [akOf] at ha
    case list e =>
      (repeat' split at ha) <;> cases ha
    all_goals (split at ha <;> cases ha)
  | win ks =>
    cases ck <;> simp only [akOf] at ha
    case list e =>
      (repeat' split at ha) <;> cases ha
    all_goals (split at ha <;> cases ha)
  | list ks =>
    obtain ⟨n0, y⟩ := x
    cases ck <;> simp only [akOf] at ha
    case list e =>
      have hv : VR σ (.loose ⟨nm, lenD ks, 0, 0⟩ n0) c := hv
      cases hv with
      | loose _ _ A cap hc hr => exact h A n0 cap rfl (hb e rfl)
    all_goals (split at ha <;> cases ha)
theorem as_small {n B : Nat} : ∀ {cks : List CK} {al : List AK} {cs : List Value}, aksOf P n cks = some al → CKs (SmallC P B) cks cs → bytesC P cks = true → ∀ {σ : Sg} {x : AsI al} {nm : Nat}, VRs σ (asPV al x nm) cs → asSmall B al x
  | [], al, cs, h, hc, _, σ, x, nm, hv => by
    cases h
    trivial
  | ck :: l, al, cs, h, hc, hb, σ, x, nm, hv => by
    simp only [aksOf] at h
    split at h
    · rename_i a m h1 h2
      cases h
      obtain ⟨x, y⟩ := x
      cases hc with
      | cons hcell hl =>
        simp only [asPV] at hv
        cases hv with
        | cons _ _ _ _ q1 q2 =>
          refine ⟨ak_small h1 hcell (fun e he => ?_) q1, as_small h2 hl ?_ q2⟩
          · subst he
            simp only [bytesC, Bool.and_eq_true] at hb
            exact Nat.le_of_ble_eq_true hb.1
          · cases ck <;> simp only [bytesC, Bool.and_eq_true] at hb <;> first | exact hb | exact hb.2
    · cases h
theorem sh_small {n B : Nat} {t : TypeId} {s : Sh} (hs : shOf P n t = some s) {v : Value} {d : DataW H} {p : List MemPlace} (h : DataW.Trod enc P w 0 (fun _ => true) held t v d p) (hone : isAgg P t = false → v.cells = #[v]) (hagg : isAgg P t = true → ∃ cs, v = .agg cs)
    (hw : (d.weights P t).all (fun k => decide (k ≤ B)) = true) (hb : (match flatOf P n t with | some ks => bytesC P ks | none => true) = true) {σ : Sg} {x : s.I} {nm : Nat} (hv : VR σ (s.pv x nm) v) : s.small B x := by
  obtain ⟨fuel, hf⟩ := h
  unfold shOf typeAks at hs
  split at hs
  · rename_i l hl
    split at hl
    · rename_i cs hcs
      rw [hcs] at hb
      have hc := flat_small hcs hf hw
      split at hs
      · rename_i l' ha
        cases hs
        obtain ⟨c, rfl⟩ := hagg ha
        have hv : VR σ (.agg (asPV _ x nm)) (.agg c) := hv
        cases hv with
        | agg _ _ q => exact as_small hl hc hb q
      · rename_i a ha
        cases hs
        rw [hone ha] at hc
        exact (as_small (x := (x, ())) (nm := nm) hl hc hb (.cons _ _ _ _ hv .nil)).1
      · cases hs
    · cases hl
  · cases hs
theorem ss_small {n B : Nat} : ∀ {ts : List TypeId} {ss : List Sh} {vs : List Value} {ds : List (DataW H)} {ps : List MemPlace}, shsOf P n ts = some ss → DataW.TrodAll enc P w 0 (fun _ => true) held ts vs ds ps →
    (∀ (j : Nat) t v, ts[j]? = some t → vs[j]? = some v → (isAgg P t = false → v.cells = #[v]) ∧ (isAgg P t = true → ∃ cs, v = .agg cs)) → (DataW.weightsEach P ts ds).all (fun k => decide (k ≤ B)) = true → bytesT P n ts = true → ∀ {σ : Sg} {x : SsI ss} {nm : Nat}, VRs σ (ssPV ss x nm) vs → ssSmall B ss x
  | [], ss, [], [], ps, h, hA, hv, hw, hb, σ, x, nm, hr => by
    cases h
    trivial
  | t :: ts, ss, v :: vs, d :: ds, ps, h, hA, hv, hw, hb, σ, x, nm, hr => by
    obtain ⟨p, q, hT, hA, _⟩ := hA
    simp only [shsOf] at h
    split at h
    · rename_i s m h1 h2
      cases h
      obtain ⟨x, y⟩ := x
      simp only [ssPV] at hr
      rw [DataW.weightsEach, List.all_append, Bool.and_eq_true] at hw
      simp only [bytesT, Bool.and_eq_true] at hb
      cases hr with
      | cons _ _ _ _ q1 q2 =>
        exact ⟨sh_small h1 hT (hv 0 t v rfl rfl).1 (hv 0 t v rfl rfl).2 hw.1 hb.1 q1, ss_small h2 hA (fun j t v e1 e2 => hv (j + 1) t v (by simpa using e1) (by simpa using e2)) hw.2 hb.2 q2⟩
    · cases h
  | [], _, _ :: _, _, _, _, hA, _, _, _, _, _, _, _ => hA.elim
  | [], _, [], _ :: _, _, _, hA, _, _, _, _, _, _, _ => hA.elim
  | _ :: _, _, [], _, _, _, hA, _, _, _, _, _, _, _ => hA.elim
  | _ :: _, _, _ :: _, [], _, _, hA, _, _, _, _, _, _, _ => hA.elim
end
/-- From a law's contract to its call. -/
theorem linkQ {P : Program} {f : FuncId} {H : Type} {enc : TypeId × Value → H} {n : Nat} {ts : List TypeId} {ss : List Sh} {W : World} {args : Array Value} {ds : List (DataW H)} {ps : List MemPlace} {r : Reach} {b0 : Nat} (hss : shsOf P n ts = some ss)
    (hA : DataW.TrodAll enc P W 0 (fun _ => true) true ts args.toList ds ps) (hv : ∀ (j : Nat) t v, ts[j]? = some t → args[j]? = some v → Value.okWide P W r b0 t v)
    {Q : SsI ss → Prop} (hQ : ∀ (x : SsI ss) (σ : Sg), VRs σ (ssPV ss x 0) args.toList → Q x) (hc : ∀ (x : SsI ss), ssFits ss x → Q x → ∃ H' fr', CallR P f (ssPV ss x 0) [ssLvl ss x 0] (ssNext ss 0) (.bool true) H' fr') : Calls P f args W fun e W' => e = .returned (.bool true) ∧ Below W.heap.size W W' := by
  obtain ⟨x, ρ, h1, h2, h3, h4⟩ := ss_ok (w := W) (r := r) (b0 := b0) hss hA (fun j t v e1 e2 => by
    have hok := hv j t v e1 (by simpa using e2)
    refine ⟨hok, fun ha => ?_⟩
    unfold isAgg at ha
    unfold Value.okWide at hok
    split at ha
    · cases ha
    · cases ha
    · rename_i u1 u2
      split at hok
      · rename_i q _ _ hq; exact absurd hq (u1 _)
      · rename_i q _ _ hq; exact absurd hq (u2 _ _)
      · unfold Cell.okWide at hok
        cases v <;> first | rfl | (exfalso; revert hok; split <;> simp_all <;> unfold Cell.ok <;> split <;> simp_all)) 0
  let σ : Sg := fun k => if k < ssNext ss 0 then ρ k else none
  have hσ : ∀ k, k < ssNext ss 0 → σ k = ρ k := fun k hk => if_pos hk
  obtain ⟨H', fr', C⟩ := hc x h1 (hQ x σ (h2 σ fun k _ hk => hσ k hk))
  have hfl : ∀ n e, hget [ssLvl ss x 0] n = some e → (n, e) ∈ ssLvl ss x 0 := fun n e hn => by
    have := lget_mem (l := ssLvl ss x 0) (n := n) (e := e) (by simp only [hget] at hn; split at hn <;> simp_all)
    exact this
  have hno : ∀ n b, hget [ssLvl ss x 0] n = some (true, b) → False := fun n b hn => by
    have := (h4 _ (hfl _ _ hn)).2.2.1
    cases this
  have hsim : Sim σ W [ssLvl ss x 0] := by
    refine ⟨fun n e hn hd rb hrb => ?_, fun n m b e hn _ _ _ _ => (hno n b hn).elim⟩
    obtain ⟨q1, q2, q3, q4⟩ := h4 _ (hfl _ _ hn)
    rw [hσ n q2] at hrb
    obtain ⟨q5, q6⟩ := q4 rb hrb
    exact ⟨q5, blkR_mono (fun _ _ h => by cases h) q6, fun ht => by
      have : e.1 = false := q3
      rw [ht] at this; cases this⟩
  refine Calls.mono (C σ W args (h2 σ fun k _ hk => hσ k hk) hsim fun k hk _ => if_neg (by omega)) fun e W' he => ?_
  obtain ⟨v', σ', rfl, ho⟩ := he
  have hvt : v' = .bool true := by cases ho.v; rfl
  subst hvt
  exact ⟨rfl, ho.frm.os, ho.frm.tape, ho.frm.output, ho.frm.size, fun k hk => ho.frm.old k hk fun ⟨n, b, rb, q1, _⟩ => hno n b q1⟩
theorem one_cell_of {P : Program} {W : World} {r : Reach} {b0 : Nat} {t : TypeId} {v : Value} (hok : Value.okWide P W r b0 t v) : (isAgg P t = false → v.cells = #[v]) ∧ (isAgg P t = true → ∃ cs, v = .agg cs) := by
  refine ⟨fun ha => ?_, fun ha => isAgg_agg ha hok⟩
  unfold isAgg at ha
  unfold Value.okWide at hok
  split at ha
  · cases ha
  · cases ha
  · rename_i u1 u2
    split at hok
    · rename_i q _ _ hq; exact absurd hq (u1 _)
    · rename_i q _ _ hq; exact absurd hq (u2 _ _)
    · unfold Cell.okWide at hok
      cases v <;> first | rfl | (exfalso; revert hok; split <;> simp_all <;> unfold Cell.ok <;> split <;> simp_all)
/-- From a law's contract to its call, where what came in fits into memory. -/
theorem law_linkS {P : Program} {c : Con} (hc : c.ok P) (hres : ∀ x, c.res x = .bool true) {H : Type} {enc : TypeId × Value → H} {n : Nat} {ts : List TypeId} {W : World} {args : Array Value} {ds : List (DataW H)} {ps : List MemPlace} {r : Reach} {b0 : Nat} (hss : shsOf P n ts = some c.ss)
    (hb : bytesT P n ts = true) (hp : ∀ x, ssFits c.ss x → ssSmall reachBytes c.ss x → c.pre (ssj c.ss x) = true) (hA : DataW.TrodAll enc P W 0 (fun _ => true) true ts args.toList ds ps) (hv : ∀ (j : Nat) t v, ts[j]? = some t → args[j]? = some v → Value.okWide P W r b0 t v)
    (hw : (DataW.weightsEach P ts ds).all (fun k => decide (k ≤ reachBytes)) = true) :
    Calls P c.f args W fun e W' => e = .returned (.bool true) ∧ Below W.heap.size W W' :=
  linkQ (Q := fun x => ssSmall reachBytes c.ss x) hss hA hv (fun x σ hr => ss_small hss hA (fun j t v e1 e2 => one_cell_of (hv j t v e1 (by simpa using e2))) hw hb hr) fun x hx hq => by
    obtain ⟨⟨hi, _, C⟩, _⟩ := hc _ (hp x hx hq)
    rw [(ssj_eq _ _ _).1, (ssj_eq _ _ _).2, hres] at C
    exact ⟨_, _, C⟩
end Go.Ev
