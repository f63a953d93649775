/-
  A region that draws its order: the step from state to state, and the whole region.
-/
import Derived.Test.YtjgllldbpmmodaaEvF
namespace Go.Ev
open Go.RowKit
set_option linter.unusedSimpArgs false
set_option linter.unusedVariables false
set_option linter.unusedSectionVars false

section
variable {P : Program} {E : Env} {f : FuncId} {T : Tmps} {H : Heap} {fr0 : Nat} {all : List Oper} {rs : List Rec}

structure St (E : Env) (f : FuncId) (T : Tmps) (H : Heap) (fr0 : Nat) (rs : List Rec) (σ0 : Sg) (w0 : World) (p : Nat → Bool) (σ : Sg) (w : World) (a : Act) : Prop where
  ar : AR E f σ (selT p T rs) a
  sim : Sim σ w (selL p rs :: H)
  mon : Mono σ0 σ
  ext : ∀ x, x < fr0 ∨ frOf fr0 rs ≤ x → σ x = σ0 x
  frm : Frm w0 w (OwnB σ0 H) (OwnB σ (selL p rs :: H))
  free : ∀ i r, dn rs i = some r → p i = false → ∀ x, r.fr ≤ x → x < r.fr' → σ x = none

def plus (p : Nat → Bool) (i : Nat) : Nat → Bool := fun j => if j = i then true else p j

theorem st_skip (h : Good P E f T H fr0 all rs) (hN : Names H fr0) {p : Nat → Bool} (hp : Closed rs p) {i : Nat} {r : Rec} (hi : dn rs i = some r) (hpi : p i = false) (hl : r.d.l = []) (hv : r.d.v = .tup []) {σ0 : Sg} {w0 : World} {σ : Sg} {w : World} {a : Act} (s : St E f T H fr0 rs σ0 w0 p σ w a) (u : Value) (hu : u = undef) :
    St E f T H fr0 rs σ0 w0 (plus p i) σ w (a.put r.o.dst u) := by
  have hh : ∀ x, hget (selL (plus p i) rs :: H) x = hget (selL p rs :: H) x := fun x => by
    rw [hget_cons, hget_cons, show plus p i = fun j => if j = i then true else p j from rfl, sel_set hi hpi (fun j s' _ _ _ hx => by rw [hl] at hx; obtain ⟨e, he⟩ := hx; simp [lget] at he), hl]
    rfl
  obtain ⟨_, hdst, hfits, _⟩ := rec_all h hi
  refine ⟨?_, s.sim.congr hh, s.mon, s.ext, s.frm.mono (fun _ h => h) (fun k hk => OwnB.congr hh hk), fun j s' hj hpj => s.free j s' hj ?_⟩
  · have hT : ∀ t, tget (selT (plus p i) T rs) t = if r.d.dst = some t then r.d.v else tget (selT p T rs) t := fun t => selT_set hi hpi fun j s' hj hpj hij hd => by
      have h1 : bitOf s'.m i = false := by
        cases hb : bitOf s'.m i with
        | false => rfl
        | true => have := hp j s' hj hpj i hb; rw [hpi] at this; cases this
      have h2 : bitOf r.m j = false := by
        cases hb : bitOf r.m j with
        | false => rfl
        | true => have := bit_lt h i hi j hb; omega
      exact ((unord h hi hj (by omega) h2 h1).2.1 t hd).2
    cases hd : r.o.dst with
    | none =>
      refine ⟨s.ar.defers, s.ar.size, fun t => ?_⟩
      rw [hT, hdst, hd]
      simpa [Act.put] using s.ar.get t
    | some d =>
      rw [hd] at hfits
      simp only [fits] at hfits
      split at hfits
      · rename_i fn hf
        have := s.ar.put (d := d) (v := r.d.v) (u := u) hf (by simpa [Nat.blt_eq] using hfits) (by rw [hv, hu]; exact .tup _ _ .nil)
        refine ⟨this.defers, this.size, fun t => ?_⟩
        have h3 := this.get t
        rw [tget_cons] at h3
        rw [hT, hdst, hd]
        simpa using h3
      · cases hfits
  · unfold plus at hpj
    split at hpj
    · cases hpj
    · exact hpj

theorem st_yes (h : Good P E f T H fr0 all rs) (hN : Names H fr0) {p : Nat → Bool} (hp : Closed rs p) {i : Nat} {r : Rec} (hi : dn rs i = some r) (hpi : p i = false) (hq : ∀ j, bitOf r.m j = true → p j = true)
    (hg : Grow ([] :: tlD r.d.dry r.d.see (selL (bitOf r.m) rs) H) (r.d.l :: tlD r.d.dry r.d.see (selL (bitOf r.m) rs) H) r.fr r.fr') {σ0 : Sg} {w0 : World} {σ σ' : Sg} {w w' : World} {a : Act} {v' : Value} (s : St E f T H fr0 rs σ0 w0 p σ w a)
    (ho : Out σ w ([] :: tlD r.d.dry r.d.see (selL (bitOf r.m) rs) H) r.fr r.d.v (r.d.l :: tlD r.d.dry r.d.see (selL (bitOf r.m) rs) H) r.fr' σ' w' v') :
    St E f T H fr0 rs σ0 w0 (plus p i) σ' w' (a.put r.o.dst v') := by
  obtain ⟨_, hdst, hfits, hle, hfr0, hfrN, _⟩ := rec_all h hi
  have un : ∀ j s', dn rs j = some s' → p j = true → bitOf s'.m i = false := fun j s' hj hpj => by
    cases hb : bitOf s'.m i with
    | false => rfl
    | true => have := hp j s' hj hpj i hb; rw [hpi] at this; cases this
  -- what the new list says of a name
  have hh : ∀ x, hget (selL (plus p i) rs :: H) x = match lget r.d.l x with | some e => some e | none => hget (selL p rs :: H) x := fun x => by
    rw [hget_cons, hget_cons, show plus p i = fun j => if j = i then true else p j from rfl, sel_set hi hpi (fun j s' hj hpj hij hx => disj h hN hi hj (by omega) (by
      cases hb : bitOf r.m j with
      | false => rfl
      | true => have := bit_lt h i hi j hb; omega) (un j s' hj hpj) hx)]
    cases lget r.d.l x <;> rfl
  have hknow : ∀ {x e}, hget (tlD r.d.dry r.d.see (selL (bitOf r.m) rs) H) x = some e → hget (selL p rs :: H) x = some e := fun he => know h hN hp hi hpi hq he
  have hk0 : ∀ {x e}, hget ([] :: tlD r.d.dry r.d.see (selL (bitOf r.m) rs) H) x = some e → hget (selL p rs :: H) x = some e := fun he => hknow (by simpa [hget_cons, lget] using he)
  have hstay : ∀ {x e}, hget (selL p rs :: H) x = some e → σ' x = σ x := fun he => ho.ext _ (dom_out h hN hp hi hpi he)
  -- a name: of this operation, or from before
  have cases2 : ∀ {x e}, hget (selL (plus p i) rs :: H) x = some e → (hget (r.d.l :: tlD r.d.dry r.d.see (selL (bitOf r.m) rs) H) x = some e) ∨ (hget (selL p rs :: H) x = some e ∧ lget r.d.l x = none ∧ hget (tlD r.d.dry r.d.see (selL (bitOf r.m) rs) H) x = none) := fun {x e} he => by
    rw [hh] at he
    cases hl : lget r.d.l x with
    | some e' => rw [hl] at he; exact .inl (by rw [hget_cons, hl]; exact he)
    | none =>
      rw [hl] at he
      cases ht : hget (tlD r.d.dry r.d.see (selL (bitOf r.m) rs) H) x with
      | none => exact .inr ⟨he, rfl, rfl⟩
      | some e' =>
        have := hknow ht
        rw [this] at he
        cases he
        exact .inl (by rw [hget_cons, hl]; exact ht)
  have sub : ∀ k, OwnB σ ([] :: tlD r.d.dry r.d.see (selL (bitOf r.m) rs) H) k → OwnB σ (selL p rs :: H) k := fun k ⟨n, b, rb, h1, h2⟩ => ⟨n, b, rb, hk0 h1, h2⟩
  -- a block of a name that this operation does not know is not written
  have apartB : ∀ {x : Nat} {e : Bool × Blk} {rb : RB}, hget (selL p rs :: H) x = some e → e.2 ≠ .dead → hget (tlD r.d.dry r.d.see (selL (bitOf r.m) rs) H) x = none → σ x = some rb → ¬ OwnB σ ([] :: tlD r.d.dry r.d.see (selL (bitOf r.m) rs) H) rb.blk := fun {x e rb} he hd hx hr ⟨n, b, rb', h1, h2, h3, h4⟩ => by
    have hne : n ≠ x := fun e => by subst e; simp only [hget_cons, lget] at h1; rw [h1] at hx; cases hx
    exact s.sim.dist n x b e (hk0 h1) he h2 hd hne rb' rb h3 hr h4
  have own2 : ∀ {x : Nat} {b : Blk} {rb : RB}, hget (r.d.l :: tlD r.d.dry r.d.see (selL (bitOf r.m) rs) H) x = some (true, b) → b ≠ .dead → σ' x = some rb → w.heap.size ≤ rb.blk ∨ OwnB σ ([] :: tlD r.d.dry r.d.see (selL (bitOf r.m) rs) H) rb.blk := fun {x b rb} hx hd hr => ho.frm.own _ ⟨x, b, rb, hx, hd, hr, rfl⟩
  have simN : Sim σ' w' (selL (plus p i) rs :: H) := by
    constructor
    · intro x e he
      rcases cases2 he with h1 | ⟨h1, h2, h3⟩
      · exact ho.sim.ent x e h1
      · intro hd
        exact (s.sim.ent x e h1).keep ho.mon (hstay h1) ho.frm.size (fun rb hr hlt => ho.frm.old _ hlt (apartB h1 hd h3 hr)) hd
    · intro n m b e hn hm hb hd hne rb rs' hrn hrm
      rcases cases2 hn with h1 | ⟨h1, h2, h3⟩ <;> rcases cases2 hm with k1 | ⟨k1, k2, k3⟩
      · exact ho.sim.dist n m b e h1 k1 hb hd hne rb rs' hrn hrm
      · rw [hstay k1] at hrm
        rcases own2 h1 hb hrn with hs | hs
        · have := (s.sim.ent m e k1 hd rs' hrm).1
          omega
        · intro e1
          rw [e1] at hs
          exact apartB k1 hd k3 hrm hs
      · rw [hstay h1] at hrn
        obtain ⟨eb, eblk⟩ := e
        cases eb with
        | true =>
          rcases own2 k1 hd hrm with hs | hs
          · have := (s.sim.ent n _ h1 hb rb hrn).1
            omega
          · intro e1
            rw [← e1] at hs
            exact apartB h1 hb h3 hrn hs
        | false =>
          have h4 : hget (tlD r.d.dry r.d.see (selL (bitOf r.m) rs) H) m = some (false, eblk) := by
            rw [hget_cons] at k1
            cases hl : lget r.d.l m with
            | none => rw [hl] at k1; exact k1
            | some e' =>
              rw [hl] at k1
              cases k1
              have := (hg.lvl)
              obtain ⟨l0, q1, q2⟩ := this
              have e1 := q1 [] _ rfl
              simp only [List.append_nil, List.cons.injEq] at e1
              have := (q2 _ (e1.1 ▸ lget_mem hl)).2
              rcases this with h | h
              · cases h
              · exact absurd h hd
          have k4 := hknow h4
          rw [hstay k4] at hrm
          exact s.sim.dist n m b _ h1 k4 hb hd hne rb rs' hrn hrm
      · rw [hstay h1] at hrn
        rw [hstay k1] at hrm
        exact s.sim.dist n m b e h1 k1 hb hd hne rb rs' hrn hrm
  refine ⟨?_, simN, s.mon.trans ho.mon, fun x hx => (ho.ext x (by omega)).trans (s.ext x hx), ?_, fun j s' hj hpj x h1 h2 => ?_⟩
  · have hT : ∀ t, tget (selT (plus p i) T rs) t = if r.d.dst = some t then r.d.v else tget (selT p T rs) t := fun t => selT_set hi hpi fun j s' hj hpj hij hd => by
      have h2 : bitOf r.m j = false := by
        cases hb : bitOf r.m j with
        | false => rfl
        | true => have := bit_lt h i hi j hb; omega
      exact ((unord h hi hj (by omega) h2 (un j s' hj hpj)).2.1 t hd).2
    have ar' := s.ar.mono ho.mon
    cases hd : r.o.dst with
    | none =>
      refine ⟨ar'.defers, ar'.size, fun t => ?_⟩
      rw [hT, hdst, hd]
      simpa [Act.put] using ar'.get t
    | some d =>
      rw [hd] at hfits
      simp only [fits] at hfits
      split at hfits
      · rename_i fn hf
        have := ar'.put (d := d) (v := r.d.v) (u := v') hf (by simpa [Nat.blt_eq] using hfits) ho.v
        refine ⟨this.defers, this.size, fun t => ?_⟩
        have h3 := this.get t
        rw [tget_cons] at h3
        rw [hT, hdst, hd]
        simpa using h3
      · cases hfits
  · refine s.frm.trans ⟨ho.frm.os, ho.frm.tape, ho.frm.output, ho.frm.size, ho.frm.drawn, fun k hk hn => ho.frm.old k hk fun hs => hn (sub k hs), fun k hk => ?_⟩
    obtain ⟨n, b, rb, h1, h2, h3, h4⟩ := hk
    rcases cases2 h1 with h5 | ⟨h5, _, _⟩
    · rcases own2 h5 h2 h3 with h6 | h6
      · exact .inl (h4 ▸ h6)
      · exact .inr (h4 ▸ sub _ h6)
    · rw [hstay h5] at h3
      exact .inr ⟨n, b, rb, h5, h2, h3, h4⟩
  · unfold plus at hpj
    split at hpj
    · cases hpj
    · rename_i hne
      rw [ho.ext x ?_]
      · exact s.free j s' hj hpj x h1 h2
      · by_cases hx : x < r.fr ∨ r.fr' ≤ x
        · exact hx
        · exact absurd (fr_disj h hj hi h1 h2 (by omega) (by omega)) hne

/-- One operation of the region, when all that it waits for is done. -/
theorem st_step (h : Good P E f T H fr0 all rs) (hN : Names H fr0) {p : Nat → Bool} (hp : Closed rs p) {i : Nat} {r : Rec} (hi : dn rs i = some r) (hpi : p i = false) (hq : ∀ j, bitOf r.m j = true → p j = true) {σ0 : Sg} {w0 : World} {σ : Sg} {w : World} {a : Act} (s : St E f T H fr0 rs σ0 w0 p σ w a) {Q : Exit → Act → World → Prop} {K : Act → World → Prop}
    (hK : ∀ σ' w' a', St E f T H fr0 rs σ0 w0 (plus p i) σ' w' a' → K a' w') : wpOp P all.toArray Q i K a w := by
  obtain ⟨hget, hdst, hfits, hle, hfr0, hfrN, hdone⟩ := rec_all h hi
  have un : ∀ j s', dn rs j = some s' → p j = true → bitOf s'.m i = false := fun j s' hj hpj => by
    cases hb : bitOf s'.m i with
    | false => rfl
    | true => have := hp j s' hj hpj i hb; rw [hpi] at this; cases this
  have hlook : ∀ t ∈ r.o.looksAt all.toArray, VR σ (tget (selT (bitOf r.m) T rs) t) (a.tmps.getD t undef) := fun t ht => by
    rw [← selT_more (p := p) (q := bitOf r.m) (T := T) (t := t) (fun j s' _ => hq j) fun j s' hj hpj hqj hd => ?_]
    · exact s.ar.get t
    · have hne : i ≠ j := fun e => by subst e; rw [hpi] at hpj; cases hpj
      exact (unord h hi hj hne hqj (un j s' hj hpj)).2.2 t hd ht
  have hget' : all.toArray[i]? = some r.o := by simpa using hget
  unfold wpOp
  rw [hget']
  simp only
  rcases hdone with ⟨hw, hg, hop, -⟩ | ⟨hw, hl, hv, -⟩
  · rw [hw σ a hlook]
    simp only [if_true]
    refine .inl (hop σ w a K Q (fun x hx => ?_) ?_ (s.free i r hi hpi) fun σ' w' v' ho => hK _ _ _ (st_yes h hN hp hi hpi hq hg s ho))
    · cases x with
      | tmp t => exact hlook t (List.mem_append_left _ (List.mem_filterMap.2 ⟨.tmp t, by simpa using hx, rfl⟩))
      | const v => exact ofV_ok σ 1 v
      | global g => exact .unk _
      | func g => exact .fn _ _ _ _ _ .nil .nil
    · have hk0 : ∀ {x e}, Ev.hget ([] :: tlD r.d.dry r.d.see (selL (bitOf r.m) rs) H) x = some e → Ev.hget (selL p rs :: H) x = some e := fun he => know h hN hp hi hpi hq (by simpa [hget_cons, lget] using he)
      exact ⟨fun n e hn => s.sim.ent n e (hk0 hn), fun n m b e hn hm => s.sim.dist n m b e (hk0 hn) (hk0 hm)⟩
  · rw [hw σ a hlook]
    exact hK _ _ _ (st_skip h hN hp hi hpi hl hv s undef rfl)

theorem closed_plus {p : Nat → Bool} (hp : Closed rs p) {i : Nat} {r : Rec} (hi : dn rs i = some r) (hq : ∀ j, bitOf r.m j = true → p j = true) : Closed rs (plus p i) := by
  intro j s hj hpj k hk
  unfold plus at *
  split
  · rfl
  · split at hpj
    · rename_i e
      subst e
      rw [hi] at hj
      cases hj
      exact hq k hk
    · exact hp j s hj hpj k hk
def left (p : Nat → Bool) : Nat → Nat
  | 0 => 0
  | n + 1 => (if p n then 0 else 1) + left p n
theorem left_same {p q : Nat → Bool} : ∀ {n : Nat}, (∀ j, j < n → p j = q j) → left p n = left q n
  | 0, _ => rfl
  | n + 1, h => by simp only [left]; rw [h n (by omega), left_same fun j hj => h j (by omega)]
theorem left_plus {p : Nat → Bool} {i : Nat} (hi : p i = false) : ∀ {n : Nat}, i < n → left (plus p i) n + 1 = left p n
  | 0, h => by omega
  | n + 1, h => by
    simp only [left]
    by_cases e : i = n
    · subst e
      have : left (plus p i) i = left p i := left_same fun j hj => by simp [plus, Nat.ne_of_lt hj]
      rw [this, hi]
      simp [plus]
      omega
    · have h1 := left_plus (p := p) hi (n := n) (by omega)
      have h2 : plus p i n = p n := by unfold plus; rw [if_neg fun e' => e e'.symm]
      rw [h2]
      omega
theorem left_zero {p : Nat → Bool} : ∀ {n : Nat}, left p n = 0 → ∀ j, j < n → p j = true
  | n + 1, h, j, hj => by
    simp only [left] at h
    by_cases e : j = n
    · subst e
      cases hp : p j with
      | true => rfl
      | false => rw [hp] at h; simp at h
    · exact left_zero (n := n) (by omega) j (by omega)
/-- Whatever the order. -/
theorem st_any (h : Good P E f T H fr0 all rs) (hlen : rs.length = all.length) (hN : Names H fr0) {σ0 : Sg} {w0 : World} {Q : Exit → Act → World → Prop}
    (hQ : ∀ σ w a, St E f T H fr0 rs σ0 w0 (fun _ => true) σ w a → Q .normal a w) : ∀ (fuel : Nat) (listed : Array Bool) (σ : Sg) (w : World) (a : Act), listed.size = all.length → left (fun j => listed.getD j true) all.length ≤ fuel → Closed rs (fun j => listed.getD j true) → St E f T H fr0 rs σ0 w0 (fun j => listed.getD j true) σ w a → wpAny P .any all.toArray Q fuel listed a w := by
  have hall : ∀ (listed : Array Bool), (∀ j, j < all.length → listed.getD j true = true) → ∀ {σ w a}, St E f T H fr0 rs σ0 w0 (fun j => listed.getD j true) σ w a → St E f T H fr0 rs σ0 w0 (fun _ => true) σ w a := fun listed hl σ w a s => by
    have e1 : selL (fun j => listed.getD j true) rs = selL (fun _ => true) rs := selL_congr fun j hj => hl j (by omega)
    have e2 : selT (fun j => listed.getD j true) T rs = selT (fun _ => true) T rs := selT_congr T fun j hj => hl j (by omega)
    refine ⟨e2 ▸ s.ar, e1 ▸ s.sim, s.mon, s.ext, e1 ▸ s.frm, fun i r _ hp => by cases hp⟩
  -- one that is not listed and of the least number is ready
  have hready : ∀ (listed : Array Bool), listed.size = all.length → ∀ j, j < all.length → listed.getD j true = false → Region.ready .any all.toArray listed ≠ [] := by
    intro listed hs j
    induction j using Nat.strongRecOn with
    | _ j ih =>
      intro hj hl he
      obtain ⟨r, hr⟩ := dn_some (rs := rs) (i := j) (by omega)
      obtain ⟨rs1, rs2, e1, e2, hrec, -, -, -⟩ := good_at h hr
      have : j ∈ Region.ready .any all.toArray listed := by
        rw [mem_ready]
        refine ⟨hl, r.o, by simpa using (rec_all h hr).1, fun e hem hb => ?_⟩
        have hlt := hrec.edge e (by simpa using hem) hb
        cases hd : listed.getD e.on true with
        | true =>
          have h1 : e.on < listed.size := by omega
          simpa [h1] using hd
        | false => exact absurd he (ih e.on (by omega) (by omega) hd)
      rw [he] at this
      cases this
  have none_left : ∀ (listed : Array Bool), listed.size = all.length → Region.ready .any all.toArray listed = [] → ∀ j, j < all.length → listed.getD j true = true := fun listed hs he j hj => by
    cases hl : listed.getD j true with
    | true => rfl
    | false => exact absurd he (hready listed hs j hj hl)
  intro fuel
  induction fuel with
  | zero =>
    intro listed σ w a hs hleft hc s
    have hl := left_zero (Nat.le_zero.1 hleft)
    refine ⟨?_, hQ _ _ _ (hall listed hl s)⟩
    cases he : Region.ready .any all.toArray listed with
    | nil => rfl
    | cons j l =>
      have : j ∈ Region.ready .any all.toArray listed := by rw [he]; exact List.mem_cons_self
      obtain ⟨h1, o, ho, _⟩ := mem_ready.1 this
      have hlt : j < all.length := by
        have := (Array.getElem?_eq_some_iff.1 ho).1
        simpa using this
      rw [hl j hlt] at h1
      cases h1
  | succ fuel ih =>
    intro listed σ w a hs hleft hc s
    refine ⟨fun he => hQ _ _ _ (hall listed (none_left listed hs he) s), fun i hi => ?_⟩
    obtain ⟨h1, o, ho, hedges⟩ := mem_ready.1 hi
    have hlt : i < all.length := by
      have := (Array.getElem?_eq_some_iff.1 ho).1
      simpa using this
    obtain ⟨r, hr⟩ := dn_some (rs := rs) (i := i) (by omega)
    have hro := (rec_all h hr).1
    have : o = r.o := by
      have h2 : all[i]? = some o := by simpa using ho
      rw [hro] at h2
      exact (Option.some.inj h2).symm
    subst this
    have hq : ∀ j, bitOf r.m j = true → listed.getD j true = true := fun j hj => by
      obtain ⟨rs1, rs2, e1, e2, hrec, -, -, -⟩ := good_at h hr
      rw [hrec.hm] at hj
      obtain ⟨e, hem, hb, hj⟩ := bit_mask.1 hj
      have hon := hedges e (by simpa using hem) hb
      have hlt' := hrec.edge e hem hb
      have hon' : listed.getD e.on true = true := by
        have h1 : e.on < listed.size := by omega
        simpa [h1] using hon
      rcases hj with rfl | hj
      · exact hon'
      · obtain ⟨x, hx⟩ := dn_some hlt'
        rw [masks_get hx] at hj
        have hx' : dn rs e.on = some x := by
          rw [e1, show rs2 ++ r :: rs1 = (rs2 ++ [r]) ++ rs1 by simp, dn_app hlt']
          exact hx
        exact hc e.on x hx' hon' j hj
    have hset : (fun j => (listed.setIfInBounds i true).getD j true) = plus (fun j => listed.getD j true) i := by
      funext j
      unfold plus
      by_cases e : j = i
      · subst e
        simp
      · rw [getD_set_ne true (fun e' => e e'.symm)]
        simp [e]
    refine st_step h hN hc hr h1 hq s fun σ' w' a' s' => ?_
    refine ih (listed.setIfInBounds i true) σ' w' a' (by simpa using hs) ?_ ?_ ?_
    · rw [hset]
      have := left_plus (p := fun j => listed.getD j true) h1 hlt
      omega
    · rw [hset]
      exact closed_plus hc hr hq
    · rw [hset]
      exact s'

theorem drawn_ok (ok : EnvOk P E) (hm : P.follows .mixedOrders = true) : DrawnOk P E := by
  intro sy Y f T H all fr K hY hne hN h
  obtain ⟨rs, hg, hlen, hK⟩ := drawn_good (P := P) (T := T) (f := f) (all := all) (fr0 := fr) ok hY hN all [] K .nil ⟨[], rfl, rfl⟩ h
  refine ⟨_, _, _, hK, ?_, fun σ w a b cs k id ha hs hn hb => ?_⟩
  · refine ⟨frOf_le hg, ⟨selL (fun _ => true) rs, fun h t e => by subst e; rfl, fun p hp => ?_⟩, fun n e hn => ?_⟩
    · have key : ∀ {rs : List Rec}, (∀ j s, dn rs j = some s → ∀ p ∈ s.d.l, p.1 < frOf fr rs ∧ (p.2.1 = true ∨ p.2.2 = .dead)) → True := fun _ => trivial
      have : ∀ (q : List Rec), p ∈ selL (fun _ => true) q → ∃ j s, dn q j = some s ∧ p ∈ s.d.l := by
        intro q
        induction q with
        | nil => intro h; simp [selL] at h
        | cons r q ih =>
          intro h
          simp only [selL] at h
          rcases List.mem_append.1 h with h | h
          · exact ⟨q.length, r, by simp [dn], h⟩
          · obtain ⟨j, s, h1, h2⟩ := ih h
            exact ⟨j, s, by simp only [dn]; rw [if_neg (Nat.ne_of_lt (dn_lt h1))]; exact h1, h2⟩
      obtain ⟨j, s, hj, hps⟩ := this rs hp
      obtain ⟨rs1, rs2, e1, e2, hr, -, h5, -⟩ := good_at hg hj
      have := rec_lvl hr p hps
      exact ⟨by omega, this.2⟩
    · cases H with
      | nil => exact absurd rfl hne
      | cons h0 t =>
        simp only [hmerge] at hn
        rw [hget_merge] at hn
        cases hl : lget (selL (fun _ => true) rs) n with
        | none => rw [hl] at hn; exact .inl ⟨e, hn⟩
        | some e' =>
          obtain ⟨j, s, hj, _, hin⟩ := In.sel ⟨e', hl⟩
          cases hh : Ev.hget (h0 :: t) n with
          | some e2 => exact .inl ⟨e2, rfl⟩
          | none =>
            refine .inr ⟨?_, ?_⟩
            · have old : ∀ (i : Nat) {r : Rec}, dn rs i = some r → In r.d.l n → fr ≤ n := by
                intro i
                induction i using Nat.strongRecOn with
                | _ i ih =>
                  intro r hi hx
                  rcases (rec_all hg hi).2.2.2.2.2.2 with ⟨_, hgr, _, _⟩ | ⟨_, hl', _⟩
                  · obtain ⟨e, he⟩ := hx
                    rcases hgr.dom n e (by simp [hget_cons, he]) with ⟨e', he'⟩ | ⟨h1, h2⟩
                    · simp only [hget_cons, lget] at he'
                      obtain ⟨hdr, he'⟩ := tlD_get he'
                      rw [hget_cons, hh] at he'
                      cases hs : lget (selL (bitOf r.m) rs) n with
                      | none => rw [hs] at he'; cases he'
                      | some e2 =>
                        obtain ⟨j, s, hj, hp, hin⟩ := In.sel ⟨e2, hs⟩
                        exact ih j (bit_lt hg i hi j hp) hj hin
                    · have := (rec_all hg hi).2.2.2.2.1; omega
                  · rw [hl'] at hx
                    obtain ⟨e, he⟩ := hx
                    simp [lget] at he
              exact old j hj hin
            · obtain ⟨q1, q2⟩ := good_lt hg hj hin
              omega
  · have hb0 : ∀ j, j < rs.length → (Array.replicate all.length false).getD j true = false := fun j hj => by
      have : j < all.length := by omega
      simp [this]
    have e1 : selL (fun j => (Array.replicate all.length false).getD j true) rs = [] := by
      rw [selL_congr (q := fun _ => false) hb0]
      clear hg hlen hK hb0 hn
      induction rs with
      | nil => rfl
      | cons r rs ih => exact ih
    have e2 : selT (fun j => (Array.replicate all.length false).getD j true) T rs = T := by
      rw [selT_congr T (q := fun _ => false) hb0]
      clear hg hlen hK hb0 hn e1
      induction rs with
      | nil => rfl
      | cons r rs ih => simp only [selT]; exact ih
    have hs0 : Sim σ w.drew ([] :: H) := (hs.drew).congr fun n => by simp [hget_cons, lget]
    have s0 : St E f T H fr rs σ w.drew (fun j => (Array.replicate all.length false).getD j true) σ w.drew a := by
      refine ⟨by rw [e2]; exact ha, by rw [e1]; exact hs0, Mono.refl _, fun _ _ => rfl, (Frm.refl _ _).mono (fun _ h => h) (fun k hk => OwnB.congr (fun n => by rw [e1]; simp [hget_cons, lget]) hk), fun i r hi _ x h1 h2 => hn x ?_ ?_⟩
      · have := (rec_all hg hi).2.2.2.2.1; omega
      · have := (rec_all hg hi).2.2.2.2.2.1; omega
    have hc0 : Closed rs (fun j => (Array.replicate all.length false).getD j true) := fun i r hi hp => by
      have := hb0 i (dn_lt hi)
      simp only at hp
      rw [this] at hp; cases hp
    have hle : left (fun j => (Array.replicate all.length false).getD j true) all.length ≤ all.length := by
      have : ∀ (p : Nat → Bool) n, left p n ≤ n := fun p n => by
        induction n with
        | zero => exact Nat.le_refl _
        | succ n ih => simp only [left]; split <;> omega
      exact this _ _
    have hwp : (Code.region id all.toArray true).wp P (fun e a' w' => e = .normal ∧ ∃ σ', St E f T H fr rs σ w.drew (fun _ => true) σ' w' a') a w := by
      refine wp_region_any hm ?_
      have := st_any hg hlen hN (σ0 := σ) (w0 := w.drew) (Q := fun e a' w' => e = .normal ∧ ∃ σ', St E f T H fr rs σ w.drew (fun _ => true) σ' w' a') (fun σ' w' a' s => ⟨rfl, σ', s⟩) all.length (Array.replicate all.length false) σ w.drew a (by simp) hle hc0 s0
      simpa using this
    obtain ⟨e, a', w', ⟨rfl, σ', s⟩, harr⟩ := hwp b k cs
    have hmg : ∀ n, Ev.hget (hmerge (selL (fun _ => true) rs) H) n = Ev.hget (selL (fun _ => true) rs :: H) n := fun n => by
      cases H with
      | nil => exact absurd rfl hne
      | cons h0 t => simp only [hmerge]; rw [hget_merge]; rfl
    refine ⟨σ', w', a', harr, s.ar, .unk _, s.sim.congr hmg, s.mon, fun x hx => s.ext x hx, ?_⟩
    have h1 : Frm w w.drew (OwnB σ H) (OwnB σ H) := (Frm.refl w _).drew
    exact h1.trans (s.frm.mono (fun _ h => h) fun k hk => OwnB.congr hmg hk)
end
end Go.Ev
