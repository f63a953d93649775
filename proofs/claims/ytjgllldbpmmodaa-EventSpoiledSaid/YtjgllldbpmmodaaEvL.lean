/-
  Loops: heads with names of their own, and where a run from a head lands.
-/
import Derived.Test.YtjgllldbpmmodaaEvG
namespace Go.Ev
open Go.RowKit
set_option linter.unusedSimpArgs false
set_option linter.unusedVariables false
set_option linter.unusedSectionVars false

/-- The heads of a code's loops. -/
def heads : Code → List It → List (List It)
  | .seq a b, k => heads a (.cd b :: k) ++ heads b k
  | .cond _ a b, k => heads a k ++ heads b k
  | .block id b, k => heads b (.ib id :: k)
  | .scope b, k => heads b (.sc b :: k)
  | .loop b, k => (.cd b :: .il b :: k) :: heads b (.il b :: k)
  | _, _ => []
def nthK : List (List It) → Nat → List It
  | [], _ => []
  | k :: _, 0 => k
  | _ :: l, n + 1 => nthK l n
/-- The head of a function's loop. -/
def hd (F : Func) (i : Nat) : List It := nthK (heads (mkFn F).body []) i

/-- A change of names: which are in use, and what each was called. -/
structure Mp where
  use : Nat → Prop
  nm : Nat → Nat
def Tr (m : Mp) (σ τ : Sg) : Prop := ∀ n, m.use n → τ n = σ (m.nm n)
/-- What stands for a value under the new names. -/
def Rn (m : Mp) (v v' : PV) : Prop := ∀ σ τ u, Tr m σ τ → VR σ v' u → VR τ v u
def Rns (m : Mp) : List PV → List PV → Prop
  | [], [] => True
  | v :: l, v' :: l' => Rn m v v' ∧ Rns m l l'
  | _, _ => False
section
variable {r : Mp}
theorem rn_unk (v' : PV) : Rn r .unk v' := fun σ τ u _ h => .unk u
theorem rn_int {k : IntKind} {n m : Int} (h : n = m) : Rn r (.int k n) (.int k m) := fun σ τ u _ hu => by cases hu; rw [h]; exact .int k _
theorem rn_tf {a b : Bool} (h : a = b) : Rn r (.tf a) (.tf b) := fun σ τ u _ hu => by cases hu; rw [h]; exact .tf _
theorem rn_bool {a b : Bool} (h : a = b) : Rn r (.bool a) (.bool b) := fun σ τ u _ hu => by cases hu; rw [h]; exact .bool _
theorem rn_bool_tf {a b : Bool} (h : a = b) : Rn r (.bool a) (.tf b) := fun σ τ u _ hu => by cases hu; rw [h]; exact .bool _
theorem rn_tf_bool {a b : Bool} (h : a = b) : Rn r (.tf a) (.bool b) := fun σ τ u _ hu => by cases hu; rw [h]; exact .tf _
theorem rn_str {a b : ByteArray} (h : a = b) : Rn r (.str a) (.str b) := fun σ τ u _ hu => by cases hu; rw [h]; exact .str _
theorem rn_nilp : Rn r .nilp .nilp := fun σ τ u _ hu => by cases hu; exact .nilp
theorem rn_nils : Rn r .nils .nils := fun σ τ u _ hu => by cases hu; exact .nils
theorem rn_nilf : Rn r .nilf .nilf := fun σ τ u _ hu => by cases hu; exact .nilf
theorem rn_nili : Rn r .nili .nili := fun σ τ u _ hu => by cases hu; exact .nili
theorem rn_emp : Rn r .emp .emp := fun σ τ u _ hu => by cases hu; exact .emp _
theorem rn_emp_nils : Rn r .emp .nils := fun σ τ u _ hu => by cases hu; exact .emp _
theorem rn_own_nils {nm st n : Nat} (h : n = 0) : Rn r (.own nm st n) .nils := fun σ τ u _ hu => by cases hu; subst h; exact .own0 _ _ _
theorem rn_own_emp {nm st n : Nat} (h : n = 0) : Rn r (.own nm st n) .emp := fun σ τ u _ hu => by cases hu; subst h; exact .own0 _ _ _
theorem rn_loose_nils {a : PA} {n : Nat} (h : n = 0) : Rn r (.loose a n) .nils := fun σ τ u _ hu => by cases hu; subst h; exact .loose a 0 _ 0 (Nat.le_refl _) (fun h => by omega)
theorem rn_ptr {a b : PA} (hu : r.use a.nm) (hn : b.nm = r.nm a.nm) (hp : pos a = pos b) : Rn r (.ptr a) (.ptr b) := fun σ τ u ht h => by
  cases h with
  | ptr _ rb hr =>
    have := VR.ptr (σ := τ) a rb (by rw [ht _ hu, ← hn]; exact hr)
    unfold PA.at at *
    rw [← hp]
    exact this
theorem rn_own {nm nm' st n m : Nat} (hu : r.use nm) (hn : nm' = r.nm nm) (h : n = m) : Rn r (.own nm st n) (.own nm' st m) := fun σ τ u ht hx => by
  subst h
  cases hx with
  | own0 => exact .own0 _ _ _
  | own _ _ _ rb c h0 h1 h2 h3 => exact .own nm st n rb c (by rw [ht _ hu, ← hn]; exact h0) h1 h2 h3
theorem rn_own_sl {a : PA} {nm' st n m : Nat} (hu : r.use a.nm) (hn : nm' = r.nm a.nm) (hp : pos a = 0) (h : n = m) (h0 : 0 < m) : Rn r (.sl a n) (.own nm' st m) := fun σ τ u ht hx => by
  subst h
  cases hx with
  | own0 => omega
  | own _ _ _ rb c h2 h3 h4 h5 =>
    have := VR.sl (σ := τ) a n rb c h4 (by rw [ht _ hu, ← hn]; exact h2)
    unfold PA.at at this
    rw [hp] at this
    exact this
theorem rn_own_loose {a : PA} {nm' st n m : Nat} (hu : r.use a.nm) (hn : nm' = r.nm a.nm) (hp : pos a = 0) (h : n = m) : Rn r (.loose a n) (.own nm' st m) := fun σ τ u ht hx => by
  subst h
  cases hx with
  | own0 => exact .loose a 0 _ 0 (Nat.le_refl _) (fun h => by omega)
  | own _ _ _ rb c h2 h3 h4 h5 =>
    refine .loose a n _ c h4 fun _ => ⟨rb, by rw [ht _ hu, ← hn]; exact h2, ?_⟩
    unfold PA.at
    rw [hp]
    rfl
theorem rn_sl {a b : PA} {n m : Nat} (hu : r.use a.nm) (hn : b.nm = r.nm a.nm) (hp : pos a = pos b) (h : n = m) : Rn r (.sl a n) (.sl b m) := fun σ τ u ht hx => by
  subst h
  cases hx with
  | sl _ _ rb c hc hr =>
    have := VR.sl (σ := τ) a n rb c hc (by rw [ht _ hu, ← hn]; exact hr)
    unfold PA.at at *
    rw [← hp]
    exact this
theorem rn_loose_sl {a b : PA} {n m : Nat} (hu : r.use a.nm) (hn : b.nm = r.nm a.nm) (hp : pos a = pos b) (h : n = m) : Rn r (.loose a n) (.sl b m) := fun σ τ u ht hx => by
  subst h
  cases hx with
  | sl _ _ rb c hc hr =>
    refine .loose a n _ c hc fun _ => ⟨rb, by rw [ht _ hu, ← hn]; exact hr, ?_⟩
    unfold PA.at
    rw [hp]
theorem rn_loose {a b : PA} {n m : Nat} (hu : r.use a.nm) (hn : b.nm = r.nm a.nm) (hp : pos a = pos b) (h : n = m) : Rn r (.loose a n) (.loose b m) := fun σ τ u ht hx => by
  subst h
  cases hx with
  | loose _ _ A c hc hr =>
    refine .loose a n A c hc fun h0 => ?_
    obtain ⟨rb, h1, h2⟩ := hr h0
    refine ⟨rb, by rw [ht _ hu, ← hn]; exact h1, ?_⟩
    rw [h2]
    unfold PA.at
    rw [hp]
theorem Rns.ok : ∀ {l l' : List PV} {us : List Value}, Rns r l l' → ∀ {σ τ}, Tr r σ τ → VRs σ l' us → VRs τ l us
  | [], [], us, _, σ, τ, _, h => by cases h; exact .nil
  | v :: l, v' :: l', us, ⟨h1, h2⟩, σ, τ, ht, h => by
    cases h with
    | cons _ u _ m hv hl => exact .cons _ _ _ _ (h1 σ τ u ht hv) (h2.ok ht hl)
  | [], _ :: _, _, h, _, _, _, _ => h.elim
  | _ :: _, [], _, h, _, _, _, _ => h.elim
theorem rn_agg {l l' : List PV} (h : Rns r l l') : Rn r (.agg l) (.agg l') := fun σ τ u ht hx => by cases hx with | agg _ vs hv => exact .agg _ _ (h.ok ht hv)
theorem rn_tup {l l' : List PV} (h : Rns r l l') : Rn r (.tup l) (.tup l') := fun σ τ u ht hx => by cases hx with | tup _ vs hv => exact .tup _ _ (h.ok ht hv)
theorem rn_fn {f : Fn} {a a' b b' : List PV} (h1 : Rns r a a') (h2 : Rns r b b') : Rn r (.fn f a b) (.fn f a' b') := fun σ τ u ht hx => by cases hx with | fn _ _ _ va vb h3 h4 => exact .fn _ _ _ _ _ (h1.ok ht h3) (h2.ok ht h4)

/-- What stands for a block. -/
def Rb (r : Mp) (b b' : Blk) : Prop := ∀ σ τ w rb, Tr r σ τ → BlkR σ w rb b' → BlkR τ w rb b
theorem rb_ints {k : IntKind} {n n' : Nat} {f g : Nat → Int} (hn : n ≤ n') (h : ∀ o, o < n → f o = g o) : Rb r (.ints k n f) (.ints k n' g) := fun σ τ w rb _ hb o ho => by rw [h o ho]; exact hb o (by omega)
theorem rb_rows {st n n' : Nat} {F G : Nat → Nat → PV} (hn : n ≤ n') (h : ∀ j i, j < n → i < st → Rn r (F j i) (G j i)) : Rb r (.rows st n F) (.rows st n' G) := fun σ τ w rb ht hb j i hj hi => by
  obtain ⟨u, h1, h2⟩ := hb j i (by omega) hi
  exact ⟨u, h1, h j i hj hi σ τ u ht h2.1, h2.2⟩
def Rcs (r : Mp) (n : Nat) : List Col → List Col → Prop
  | [], [] => True
  | c :: cs, d :: ds => (∀ j, j < n → Rn r (colAt c j) (colAt d j)) ∧ Rcs r n cs ds
  | _, _ => False
theorem Rcs.ok {n : Nat} : ∀ {cs ds : List Col}, Rcs r n cs ds → lenc cs = lenc ds ∧ ∀ i c, nthc cs i = some c → ∃ d, nthc ds i = some d ∧ ∀ j, j < n → Rn r (colAt c j) (colAt d j)
  | [], [], _ => ⟨rfl, fun i c h => by simp [nthc] at h⟩
  | c :: cs, d :: ds, ⟨h1, h2⟩ => by
    obtain ⟨q1, q2⟩ := h2.ok
    refine ⟨by simp [lenc, q1], fun i x hx => ?_⟩
    cases i with
    | zero => simp only [nthc, Option.some.injEq] at hx; subst hx; exact ⟨d, rfl, h1⟩
    | succ i => exact q2 i x hx
  | [], _ :: _, h => h.elim
  | _ :: _, [], h => h.elim
theorem rb_cols {n n' : Nat} {cs ds : List Col} (hn : n ≤ n') (h : Rcs r n cs ds) : Rb r (.cols n cs) (.cols n' ds) := fun σ τ w rb ht hb j i c hj hi => by
  obtain ⟨q1, q2⟩ := h.ok
  obtain ⟨d, hd, hr⟩ := q2 i c hi
  obtain ⟨u, h1, h2⟩ := hb j i d (by omega) hd
  exact ⟨u, by rw [q1]; exact h1, hr j hj σ τ u ht h2.1, h2.2⟩
theorem rb_cells_cols {n : Nat} {cs : List Col} {l : List PV} (h : ∀ j i, j < n → i < lenc cs → ∃ v', nth l (j * lenc cs + i) = some v' ∧ Rn r (colsAt cs j i) v') : Rb r (.cols n cs) (.cells l) := fun σ τ w rb ht hb j i c hj hi => by
  obtain ⟨v', h1, h2⟩ := h j i hj (nthc_lt hi)
  obtain ⟨u, h3, h4⟩ := hb _ v' h1
  refine ⟨u, h3, ?_, h4.2⟩
  have := h2 σ τ u ht h4.1
  simpa only [colsAt, hi] using this
theorem Rns.nth : ∀ {l l' : List PV}, Rns r l l' → ∀ i v, nth l i = some v → ∃ v', nth l' i = some v' ∧ Rn r v v'
  | [], l', h, i, v, hi => by simp [Ev.nth] at hi
  | x :: l, [], h, i, v, hi => h.elim
  | x :: l, y :: l', h, 0, v, hi => by simp only [Ev.nth, Option.some.injEq] at hi; subst hi; exact ⟨y, rfl, h.1⟩
  | x :: l, y :: l', h, i + 1, v, hi => h.2.nth i v hi
theorem rb_cells {l l' : List PV} (h : Rns r l l') : Rb r (.cells l) (.cells l') := by
  intro σ τ w rb ht hb i v hi
  obtain ⟨v', h1, h2⟩ := h.nth i v hi
  obtain ⟨u, h3, h4⟩ := hb i v' h1
  exact ⟨u, h3, h2 σ τ u ht h4.1, h4.2⟩

/-- The memory under the new names; some names have nothing yet. -/
structure HpR (r : Mp) (fresh : Nat → Prop) (H H' : Heap) : Prop where
  ent : ∀ n e, hget H n = some e → e.2 ≠ .dead → r.use n ∧ ((∃ e', hget H' (r.nm n) = some e' ∧ e'.2 ≠ .dead ∧ (e.1 = true → e'.1 = true) ∧ Rb r e.2 e'.2) ∨ fresh (r.nm n))
  inj : ∀ n m e e', hget H n = some e → hget H m = some e' → e.1 = true → e.2 ≠ .dead → e'.2 ≠ .dead → n ≠ m → r.nm n ≠ r.nm m
theorem HpR.sim {fresh : Nat → Prop} {H H' : Heap} (h : HpR r fresh H H') {σ τ : Sg} (ht : Tr r σ τ) (hf : ∀ n, fresh n → σ n = none) {w : World} (s : Sim σ w H') : Sim τ w H := by
  have key : ∀ {n e rb}, hget H n = some e → e.2 ≠ .dead → τ n = some rb → σ (r.nm n) = some rb ∧ ∃ e', hget H' (r.nm n) = some e' ∧ e'.2 ≠ .dead ∧ (e.1 = true → e'.1 = true) ∧ Rb r e.2 e'.2 := fun {n e rb} hn hd hr => by
    obtain ⟨hu, hc⟩ := h.ent n e hn hd
    rw [ht n hu] at hr
    rcases hc with hc | hc
    · exact ⟨hr, hc⟩
    · rw [hf _ hc] at hr; cases hr
  constructor
  · intro n e hn hd rb hr
    obtain ⟨hr', e', h1, h2, h3, h4⟩ := key hn hd hr
    obtain ⟨q1, q2, q3⟩ := s.ent _ e' h1 h2 rb hr'
    exact ⟨q1, h4 σ τ w rb ht q2, fun ht => q3 (h3 ht)⟩
  · intro n m b e hn hm hb he hne rn rm hrn hrm
    obtain ⟨hn', e1, h1, h2, h3, _⟩ := key hn hb hrn
    obtain ⟨hm', e2, k1, k2, k3, _⟩ := key hm he hrm
    obtain ⟨eb, eblk⟩ := e1
    have : eb = true := h3 rfl
    subst this
    exact s.dist (r.nm n) (r.nm m) eblk e2 h1 k1 h2 k2 (h.inj n m _ _ hn hm rfl hb he hne) rn rm hn' hm'
theorem HpR.own {fresh : Nat → Prop} {H H' : Heap} (h : HpR r fresh H H') {σ τ : Sg} (ht : Tr r σ τ) (hf : ∀ n, fresh n → σ n = none) {k : Nat} (ho : OwnB τ H k) : OwnB σ H' k := by
  obtain ⟨n, b, rb, h1, h2, h3, h4⟩ := ho
  obtain ⟨hu, hc⟩ := h.ent n _ h1 h2
  rw [ht n hu] at h3
  rcases hc with ⟨e1, q1, q2, q3, _⟩ | hc
  · obtain ⟨eb, eblk⟩ := e1
    have : eb = true := q3 rfl
    subst this
    exact ⟨r.nm n, eblk, rb, q1, q2, h3, h4⟩
  · rw [hf _ hc] at h3; cases h3
/-- Memory as a list, one entry after the other. -/
def flat : Heap → Lvl
  | [] => []
  | l :: H => l ++ flat H
theorem hget_flat : ∀ (H : Heap) (n : Nat), hget H n = lget (flat H) n
  | [], n => rfl
  | l :: H, n => by
    simp only [hget_cons, flat, lget_append, hget_flat H n]
    cases lget l n <;> rfl
def EntL (r : Mp) (fresh : Nat → Prop) (H' : Heap) : Lvl → Prop
  | [] => True
  | (n, b, blk) :: l => (blk = .dead ∨ (r.use n ∧ ((∃ b' blk', hget H' (r.nm n) = some (b', blk') ∧ blk' ≠ .dead ∧ (b = true → b' = true) ∧ Rb r blk blk') ∨ fresh (r.nm n)))) ∧ EntL r fresh H' l
theorem EntL.mem {fresh : Nat → Prop} {H' : Heap} : ∀ {l : Lvl}, EntL r fresh H' l → ∀ p ∈ l, p.2.2 = .dead ∨ (r.use p.1 ∧ ((∃ b' blk', hget H' (r.nm p.1) = some (b', blk') ∧ blk' ≠ .dead ∧ (p.2.1 = true → b' = true) ∧ Rb r p.2.2 blk') ∨ fresh (r.nm p.1)))
  | [], _, p, hp => by cases hp
  | (n, b, blk) :: l, h, p, hp => by
    rcases List.mem_cons.1 hp with rfl | hp
    · exact h.1
    · exact h.2.mem p hp
theorem HpR.of {fresh : Nat → Prop} {H H' : Heap} (h : EntL r fresh H' (flat H)) (hi : ∀ n ∈ (flat H).map (·.1), ∀ m ∈ (flat H).map (·.1), r.nm n = r.nm m → n = m) : HpR r fresh H H' := by
  constructor
  · intro n e hn hd
    rw [hget_flat] at hn
    rcases h.mem _ (lget_mem hn) with h1 | ⟨h1, h2⟩
    · exact absurd h1 hd
    · refine ⟨h1, h2.imp (fun ⟨b', blk', q⟩ => ⟨(b', blk'), q⟩) id⟩
  · intro n m e e' hn hm _ _ _ hne hnm
    rw [hget_flat] at hn hm
    exact hne (hi n (List.mem_map.2 ⟨_, lget_mem hn, rfl⟩) m (List.mem_map.2 ⟨_, lget_mem hm, rfl⟩) hnm)
/-- The temporaries under the new names. -/
def TmR (r : Mp) (T' : Tmps) : Tmps → Prop
  | [] => True
  | (t, v) :: T => Rn r v (tget T' t) ∧ TmR r T' T
theorem TmR.get {T' : Tmps} : ∀ {T : Tmps}, TmR r T' T → ∀ t, Rn r (tget T t) (tget T' t)
  | [], _, t => rn_unk _
  | (k, v) :: T, h, t => by
    rw [tget_cons]
    split
    · rename_i e; subst e; exact h.1
    · exact h.2.get t
def tgets (T : Tmps) : List Nat → List PV
  | [] => []
  | t :: l => tget T t :: tgets T l
def zipT : List Nat → List PV → Tmps
  | t :: l, v :: vs => (t, v) :: zipT l vs
  | _, _ => []
theorem TmR.zip {T' : Tmps} : ∀ {ts : List Nat} {vs : List PV}, Rns r vs (tgets T' ts) → TmR r T' (zipT ts vs)
  | [], vs, _ => by cases vs <;> trivial
  | t :: ts, [], _ => trivial
  | t :: ts, v :: vs, h => ⟨h.1, TmR.zip h.2⟩
end

/-- Names from lo on and below hi, given anew: those below fr by what was there, none above. -/
structure Ren where
  lo : Nat
  hi : Nat
  fr : Nat
  ρ : Nat → Nat
def Ren.sg (r : Ren) (σ : Sg) : Sg := fun n => if n < r.lo ∨ r.hi ≤ n then σ n else if n < r.fr then σ (r.ρ n) else none
def Ren.mp (r : Ren) : Mp := ⟨fun n => n < r.lo ∨ r.hi ≤ n ∨ n < r.fr, fun n => if n < r.lo ∨ r.hi ≤ n then n else r.ρ n⟩
theorem Ren.tr (r : Ren) (σ : Sg) : Tr r.mp σ (r.sg σ) := by
  intro n hu
  unfold Ren.sg Ren.mp
  simp only
  split
  · rfl
  · rename_i h1
    rw [if_pos]
    rcases hu with h | h | h
    · exact absurd (.inl h) h1
    · exact absurd (.inr h) h1
    · exact h
section
variable (P : Program) (E : Env)
/-- Where a run comes to, in the names from lo on and below hi. -/
def Lands (c : Cfg) (lo hi : Nat) (R : PV → Heap → Prop) : Prop :=
  ∀ σ w a (b : Frame) cs, AR E c.fn σ c.T a → Sim σ w c.H → NoneIn σ c.fr hi → b.fn = c.fn → b.kind = .normal → ∃ σ' w' v' fm v H', Steps P (lone (b.at a (c.todo.map itm)) cs w) (lone fm cs w') ∧ fm.fn = c.fn ∧ fm.leaving P w' (.returned v') ∧ R v H' ∧ VR σ' v v' ∧ Sim σ' w' H' ∧ (∀ n, n < lo ∨ hi ≤ n → σ' n = σ n) ∧ Frm w w' (OwnB σ c.H) (OwnB σ' H')
/-- Memory, as far as some values lead to it. -/
def trim (lo : Nat) (vs : List PV) (H : Heap) : Heap := [pickH H (closeN H 3 (pnms vs (below0 lo)))]
theorem trim_get {lo : Nat} {vs : List PV} {H : Heap} {n : Nat} {e : Bool × Blk} (h : hget (trim lo vs H) n = some e) : hget H n = some e := by
  unfold trim at h
  rw [hget_cons] at h
  cases hq : lget (pickH H (closeN H 3 (pnms vs (below0 lo)))) n with
  | some e' => rw [hq] at h; cases h; exact pickH_get hq
  | none => rw [hq] at h; cases h
theorem HpR.untrim {r : Mp} {f : Nat → Prop} {lo : Nat} {vs : List PV} {H H' : Heap} (h : HpR r f H (trim lo vs H')) : HpR r f H H' :=
  ⟨fun n e h1 h2 => ⟨(h.ent n e h1 h2).1, (h.ent n e h1 h2).2.imp (fun ⟨e', q1, q2⟩ => ⟨e', trim_get q1, q2⟩) id⟩, h.inj⟩
/-- A leaf, as far as it is asked for: the temporaries ts of a head. -/
def proj (lo : Nat) (ts : List Nat) (Kst : List It → List PV → Heap → Nat → Prop) (Kret : PV → Heap → Nat → Prop) : Leaf → Prop
  | .ret v H fr => Kret v (trim lo [v] H) fr
  | .stop _ c => Kst c.todo (tgets c.T ts) (trim lo (tgets c.T ts) c.H) c.fr
/-- The head of a loop: where, the temporaries' values, memory, the next name. -/
structure Hd where
  todo : List It
  V : List PV
  H : Heap
  fr : Nat
def StopR (lo hi : Nat) {ι : Type} (I : ι → Hd) (good below : ι → Prop) : List It → List PV → Heap → Nat → Prop := fun todo vals H' fr' =>
  fr' ≤ hi ∧ ∃ (j : ι) (ρ : Nat → Nat), good j ∧ below j ∧ todo = (I j).todo ∧ Rns (Ren.mp ⟨lo, hi, (I j).fr, ρ⟩) (I j).V vals ∧ HpR (Ren.mp ⟨lo, hi, (I j).fr, ρ⟩) (fun n => fr' ≤ n ∧ n < hi) (I j).H H'
def RetR (lo hi : Nat) (R : PV → Heap → Prop) : PV → Heap → Nat → Prop := fun v' H' fr' =>
  fr' ≤ hi ∧ ∃ (ρ : Nat → Nat) (v : PV) (H : Heap), R v H ∧ Rn (Ren.mp ⟨lo, hi, hi, ρ⟩) v v' ∧ HpR (Ren.mp ⟨lo, hi, hi, ρ⟩) (fun n => fr' ≤ n ∧ n < hi) H H'
end
section
variable {P : Program} {E : Env} (ok : EnvOk P E) (hm : P.follows .mixedOrders = true) {X : Ext} (hX : ExtOk P X)
include ok hm hX
theorem lands_from {lo hi : Nat} {ι : Type} (I : ι → Hd) (good below : ι → Prop) {R : PV → Heap → Prop} {sy : Bool} {n : Nat} {ts : List Nat} (c : Cfg)
    (h2 : ∀ x ∈ c.todo, ItOk x) (h3 : c.H ≠ []) (h4 : Names c.H c.fr) (h5 : lo ≤ c.fr) (h6 : ∀ j, good j → lo ≤ (I j).fr)
    (h : run cond E sy X true n c (proj lo ts (StopR lo hi I good below) (RetR lo hi R))) (ih : ∀ j, good j → below j → Lands P E ⟨c.fn, (I j).todo, zipT ts (I j).V, (I j).H, (I j).fr⟩ lo hi R) : Lands P E c lo hi R := by
  obtain ⟨l, hl, hok⟩ := run_ok ok hX (drawn_ok ok hm) n true c _ h2 h3 h4 h
  intro σ w a b cs ha hs hn hb hbk
  cases l with
  | ret v' H' fr' =>
    obtain ⟨hf, ρ, v, H, hR, hv, hH⟩ := hl
    have hH := hH.untrim
    obtain ⟨hgr, hrun⟩ := hok
    obtain ⟨σ', w', u, fm, q1, q2, q3, q4⟩ := hrun σ w a b cs ha hs (hn.cut hf) hb hbk
    have htr := Ren.tr ⟨lo, hi, hi, ρ⟩ σ'
    have hfresh : ∀ m, fr' ≤ m ∧ m < hi → σ' m = none := fun m hm => by
      have := hgr.1
      rw [q4.ext m (by omega)]
      exact hn m (by omega) hm.2
    refine ⟨Ren.sg ⟨lo, hi, hi, ρ⟩ σ', w', u, fm, v, H, q1, q2, q3, hR, hv σ' _ u htr q4.v, hH.sim htr hfresh q4.sim, fun m hm => ?_, q4.frm.mono (fun _ h => h) fun k hk => hH.own htr hfresh hk⟩
    unfold Ren.sg
    rw [if_pos hm]
    have := hgr.1
    exact q4.ext m (by omega)
  | stop j c' =>
    obtain ⟨hf, j, ρ, hgj, hlt, htodo, hT, hH⟩ := hl
    have hH := hH.untrim
    obtain ⟨hfn, hgr, _, hrun⟩ := hok
    obtain ⟨σ', w', a', q1, q2, q3⟩ := hrun σ w a b cs ha hs (hn.cut hf) hb
    have j5 := h6 j hgj
    have hle := hgr.1
    have htr := Ren.tr ⟨lo, hi, (I j).fr, ρ⟩ σ'
    have hfresh : ∀ m, c'.fr ≤ m ∧ m < hi → σ' m = none := fun m hm => by
      rw [q3.ext m (by omega)]
      exact hn m (by omega) hm.2
    have e1 : ∀ m, m < lo ∨ hi ≤ m → Ren.sg ⟨lo, hi, (I j).fr, ρ⟩ σ' m = σ m := fun m hm => by
      unfold Ren.sg
      rw [if_pos hm]
      exact q3.ext m (by omega)
    obtain ⟨σ2, w2, u, fm, v, H, r1, r2, r3, r4, r5, r6, r7, r8⟩ := ih j hgj hlt (Ren.sg ⟨lo, hi, (I j).fr, ρ⟩ σ') w' a' b cs
      ⟨q2.defers, q2.size, fun t => (TmR.zip hT).get t σ' _ _ htr (q2.get t)⟩ (hH.sim htr hfresh q3.sim) (fun m h1 h2 => by
        unfold Ren.sg
        simp only at h1 ⊢
        rw [if_neg (by omega), if_neg (by omega)]) hb hbk
    refine ⟨σ2, w2, u, fm, v, H, ?_, r2, r3, r4, r5, r6, fun m hm => (r7 m hm).trans (e1 m hm), ?_⟩
    · rw [htodo] at q1
      exact q1.trans r1
    · exact q3.frm.trans (r8.mono (fun k hk => hH.own htr hfresh hk) fun _ h => h)
theorem lands {lo hi : Nat} {ι : Type} (I : ι → Hd) (good : ι → Prop) (μ : ι → Nat) {R : PV → Heap → Prop} {sy : Bool} {n : Nat} {f : FuncId} {ts : List Nat}
    (hI : ∀ i, good i → (∀ x ∈ (I i).todo, ItOk x) ∧ (I i).H ≠ [] ∧ Names (I i).H (I i).fr ∧ lo ≤ (I i).fr)
    (h : ∀ i, good i → run cond E sy X true n ⟨f, (I i).todo, zipT ts (I i).V, (I i).H, (I i).fr⟩ (proj lo ts (StopR lo hi I good (fun j => μ j < μ i)) (RetR lo hi R))) : ∀ i, good i → Lands P E ⟨f, (I i).todo, zipT ts (I i).V, (I i).H, (I i).fr⟩ lo hi R := by
  have key : ∀ (k : Nat) (i : ι), μ i = k → good i → Lands P E ⟨f, (I i).todo, zipT ts (I i).V, (I i).H, (I i).fr⟩ lo hi R := by
    intro k
    induction k using Nat.strongRecOn with
    | _ k ih =>
      intro i hk hg
      obtain ⟨h2, h3, h4, h5⟩ := hI i hg
      exact lands_from ok hm hX I good (fun j => μ j < μ i) ⟨f, (I i).todo, zipT ts (I i).V, (I i).H, (I i).fr⟩ h2 h3 h4 h5 (fun j hj => (hI j hj).2.2.2) (h i hg) fun j hj hlt => ih (μ j) (by omega) j rfl hj
  exact fun i hg => key _ i rfl hg
omit hm hX in
/-- The contract of a function, from where its run lands. -/
theorem calls_lands {f : FuncId} {fn : FnI} {args : List PV} {H H0 : Heap} {lo hi : Nat} {v0 : PV} (hf : nthFn E.fs f = some fn) (hl : lo ≤ hi)
    (h : Lands P E ⟨f, [.cd fn.body], argT 0 args, [] :: H, lo⟩ lo hi fun v H' => v = v0 ∧ ∀ n, hget H' n = hget H0 n) : CallR P f args H lo v0 H0 hi ∧ ∃ F, P.funcs[f]? = some F ∧ F.body.isSome = true ∧ (F.name == "runtime.NumGoroutine") = false := by
  obtain ⟨F, hF, hb, hnt, hres, hname⟩ := ok.fs _ _ hf
  refine ⟨fun σ w vals hv hsim hn => ?_, F, hF, by simp [hb], hname⟩
  intro cs
  let b : Frame := { (default : Frame) with fn := f, kind := .normal }
  have henter : Frame.enter P f vals .normal = b.at { tmps := vals ++ Array.replicate (F.ntmps - vals.size) undef, defers := [] } [.code fn.body] := by
    simp [Frame.enter, Frame.at, hF, hb, b]
  obtain ⟨σ', w', v', fm, v, H', q1, q2, q3, ⟨rfl, q4⟩, q5, q6, q7, q8⟩ := h σ w _ b cs (arg_ar ok hf hF hnt hv) (hsim.congr fun n => by simp [hget, lget]) hn rfl rfl
  refine ⟨.returned v', w', fm, ⟨v', σ', rfl, q5, q6.congr fun n => (q4 n).symm, fun n rb hr => ?_, q7, ?_⟩, ?_, q2, q3⟩
  · by_cases hc : n < lo ∨ hi ≤ n
    · rw [q7 n hc]; exact hr
    · rw [hn n (by omega) (by omega)] at hr; cases hr
  · exact q8.mono (fun k hk => OwnB.congr (fun n => by simp [hget, lget]) hk) (fun k hk => OwnB.congr (fun n => (q4 n).symm) hk)
  · rw [henter]
    exact q1
omit hm hX in
theorem calls_lands' {f : FuncId} {fn : FnI} {args : List PV} {H H0 : Heap} {lo hi : Nat} {v0 : PV} (hf : nthFn E.fs f = some fn) (hl : lo ≤ hi)
    (h : Lands P E ⟨f, [.cd fn.body], argT 0 args, [] :: H, lo⟩ lo hi fun v H' => v = v0 ∧ H' = H0) : CallR P f args H lo v0 H0 hi ∧ ∃ F, P.funcs[f]? = some F ∧ F.body.isSome = true ∧ (F.name == "runtime.NumGoroutine") = false :=
  calls_lands ok hf hl fun σ w a b cs h1 h2 h3 h4 h5 => by
    obtain ⟨σ', w', v', fm, v, H', q1, q2, q3, ⟨q4, q5⟩, q6⟩ := h σ w a b cs h1 h2 h3 h4 h5
    exact ⟨σ', w', v', fm, v, H', q1, q2, q3, ⟨q4, fun n => by rw [q5]⟩, q6⟩
/-- The contract of a function without loops. -/
theorem calls_ret {f : FuncId} {fn : FnI} {args : List PV} {H H0 : Heap} {lo hi : Nat} {v0 : PV} {sy : Bool} {n : Nat} (hf : nthFn E.fs f = some fn) (hl : lo ≤ hi) (hne : H ≠ []) (hN : Names H lo)
    (h : run cond E sy X true n ⟨f, [.cd fn.body], argT 0 args, [] :: H, lo⟩ (proj lo [] (fun _ _ _ _ => False) (RetR lo hi fun v H' => v = v0 ∧ H' = H0))) : CallR P f args H lo v0 H0 hi ∧ ∃ F, P.funcs[f]? = some F ∧ F.body.isSome = true ∧ (F.name == "runtime.NumGoroutine") = false := by
  refine calls_lands' ok hf hl ?_
  intro σ w a b cs ha hs hn hb hbk
  obtain ⟨l, hl', hok⟩ := run_ok ok hX (drawn_ok ok hm) n true ⟨f, [.cd fn.body], argT 0 args, [] :: H, lo⟩ _ (by intro i hi; simp at hi; subst hi; trivial) (by simp) (fun n e hn => hN n e (by simpa [hget, lget] using hn)) h
  cases l with
  | stop j c' => exact hl'.elim
  | ret v' H' fr' =>
    obtain ⟨hf', ρ, v, H2, hR, hv, hH⟩ := hl'
    have hH := hH.untrim
    obtain ⟨hgr, hrun⟩ := hok
    obtain ⟨σ', w', u, fm, q1, q2, q3, q4⟩ := hrun σ w a b cs ha hs (hn.cut hf') hb hbk
    have htr := Ren.tr ⟨lo, hi, hi, ρ⟩ σ'
    have hfresh : ∀ m, fr' ≤ m ∧ m < hi → σ' m = none := fun m hm => by
      have := hgr.1
      simp only at this
      rw [q4.ext m (by show m < lo ∨ fr' ≤ m; omega)]
      exact hn m (by show lo ≤ m; omega) hm.2
    refine ⟨Ren.sg ⟨lo, hi, hi, ρ⟩ σ', w', u, fm, v, H2, q1, q2, q3, hR, hv σ' _ u htr q4.v, hH.sim htr hfresh q4.sim, fun m hm => ?_, q4.frm.mono (fun _ h => h) fun k hk => hH.own htr hfresh hk⟩
    unfold Ren.sg
    rw [if_pos hm]
    have := hgr.1
    simp only at this
    exact q4.ext m (by show m < lo ∨ fr' ≤ m; omega)
/-- The contract of a function whose loops have heads I. -/
theorem calls_loop {lo hi : Nat} {ι : Type} (I : ι → Hd) (good : ι → Prop) {f : FuncId} {fn : FnI} {args : List PV} {H H0 : Heap} {v0 : PV} {sy : Bool} {n : Nat} {ts : List Nat} (hf : nthFn E.fs f = some fn) (hl : lo ≤ hi) (hN : Names H lo) (h6 : ∀ j, good j → lo ≤ (I j).fr)
    (h : run cond E sy X true n ⟨f, [.cd fn.body], argT 0 args, [] :: H, lo⟩ (proj lo ts (StopR lo hi I good fun _ => True) (RetR lo hi fun v H' => v = v0 ∧ H' = H0)))
    (hL : ∀ i, good i → Lands P E ⟨f, (I i).todo, zipT ts (I i).V, (I i).H, (I i).fr⟩ lo hi fun v H' => v = v0 ∧ H' = H0) : CallR P f args H lo v0 H0 hi ∧ ∃ F, P.funcs[f]? = some F ∧ F.body.isSome = true ∧ (F.name == "runtime.NumGoroutine") = false :=
  calls_lands' ok hf hl (lands_from ok hm hX I good (fun _ => True) ⟨f, [.cd fn.body], argT 0 args, [] :: H, lo⟩ (by intro i hi; simp at hi; subst hi; trivial) (by simp) (fun n e hn => hN n e (by simpa [hget, lget] using hn)) (Nat.le_refl _) h6 h fun j hj _ => hL j hj)
omit ok hm hX in
/-- A contract in names of its own, said of any memory. -/
theorem frame {f : FuncId} {args0 args : List PV} {H0 H0' H H' : Heap} {fr0 fr0' fr fr' : Nat} {v0 v : PV} (C : CallR P f args0 H0 fr0 v0 H0' fr0') (hb : ∀ n b, hget H0 n = some (true, b) → b = .dead) (hN : Names H fr)
    (τ inv : Nat → Nat) (hle : fr ≤ fr') (hd : fr' - fr ≤ fr0' - fr0) (ha : Rns ⟨fun n => n < fr0, τ⟩ args0 args) (hH : HpR ⟨fun n => n < fr0, τ⟩ (fun n => fr ≤ n ∧ n < fr') H0 H)
    (hv : Rn ⟨fun x => (fr ≤ x ∧ x < fr') ∨ (¬ (fr ≤ x ∧ x < fr') ∧ inv x < fr0 ∧ τ (inv x) = x), fun x => if fr ≤ x ∧ x < fr' then x - fr + fr0 else inv x⟩ v v0)
    (hh : ∀ n e, hget H' n = some e → hget H n = some e ∨ (fr ≤ n ∧ n < fr' ∧ (e.2 = .dead ∨ (e.1 = true ∧ ∃ b', hget H0' (n - fr + fr0) = some (true, b') ∧ b' ≠ .dead ∧ Rb ⟨fun x => (fr ≤ x ∧ x < fr') ∨ (¬ (fr ≤ x ∧ x < fr') ∧ inv x < fr0 ∧ τ (inv x) = x), fun x => if fr ≤ x ∧ x < fr' then x - fr + fr0 else inv x⟩ e.2 b')))) :
    CallR P f args H fr v H' fr' := by
  intro σ w vals hvals hs hn
  let σ0 : Sg := fun n => if n < fr0 then σ (τ n) else none
  have ht0 : Tr ⟨fun n => n < fr0, τ⟩ σ σ0 := fun n hu => by simp only [σ0]; rw [if_pos hu]
  refine Calls.mono (C σ0 w vals (ha.ok ht0 hvals) (hH.sim ht0 (fun n h => hn n h.1 h.2) hs) fun n h1 h2 => by simp only [σ0]; rw [if_neg (by omega)]) fun e w1 he => ?_
  obtain ⟨v', σ1, rfl, ho⟩ := he
  let σ' : Sg := fun x => if fr ≤ x ∧ x < fr' then σ1 (x - fr + fr0) else σ x
  have ht : Tr ⟨fun x => (fr ≤ x ∧ x < fr') ∨ (¬ (fr ≤ x ∧ x < fr') ∧ inv x < fr0 ∧ τ (inv x) = x), fun x => if fr ≤ x ∧ x < fr' then x - fr + fr0 else inv x⟩ σ1 σ' := fun x hu => by
    simp only [σ']
    rcases hu with h1 | ⟨h1, h2, h3⟩
    · rw [if_pos h1, if_pos h1]
    · rw [if_neg h1, if_neg h1, ho.ext _ (.inl h2)]
      simp only [σ0]
      rw [if_pos h2, h3]
  have hnone : ∀ k, ¬ OwnB σ0 H0 k := fun k ⟨n, b, rb, h1, h2, _⟩ => h2 (hb n b h1)
  have hkeep : ∀ k, k < w.heap.size → w1.heap[k]? = w.heap[k]? := fun k hk => ho.frm.old k hk (hnone k)
  have hout : ∀ x, x < fr ∨ fr' ≤ x → σ' x = σ x := fun x hx => by simp only [σ']; rw [if_neg (by omega)]
  have hin : ∀ x, fr ≤ x → x < fr' → σ' x = σ1 (x - fr + fr0) := fun x h1 h2 => by simp only [σ']; rw [if_pos ⟨h1, h2⟩]
  have hmono : Mono σ σ' := fun x rb hx => by
    by_cases h1 : fr ≤ x ∧ x < fr'
    · rw [hn x h1.1 h1.2] at hx; cases hx
    · rw [hout x (by omega)]; exact hx
  have hnew : ∀ {b : Blk} {rb : RB} {x : Nat}, hget H0' x = some (true, b) → b ≠ .dead → σ1 x = some rb → w.heap.size ≤ rb.blk := fun {b rb x} h1 h2 h3 => by
    rcases ho.frm.own rb.blk ⟨x, b, rb, h1, h2, h3, rfl⟩ with h | h
    · exact h
    · exact absurd h (hnone _)
  refine ⟨v', σ', rfl, hv σ1 σ' v' ht ho.v, ⟨fun n e hne => ?_, fun n m b e hne hme hb' he' hnm rn rm hrn hrm => ?_⟩, hmono, hout, ho.frm.os, ho.frm.tape, ho.frm.output, ho.frm.size, ho.frm.drawn, fun k hk _ => hkeep k hk, fun k hk => ?_⟩
  · rcases hh n e hne with h1 | ⟨h1, h2, h3⟩
    · exact (hs.ent n e h1).keep hmono (hout n (.inl (hN n e h1))) ho.frm.size fun rb _ hlt => hkeep _ hlt
    · intro hd' rb hrb
      rcases h3 with h3 | ⟨h3, b', h4, h5, h6⟩
      · exact absurd h3 hd'
      · rw [hin n h1 h2] at hrb
        obtain ⟨q1, q2, q3⟩ := ho.sim.ent _ _ h4 h5 rb hrb
        exact ⟨q1, h6 σ1 σ' w1 rb ht q2, fun _ => q3 rfl⟩
  · rcases hh n _ hne with h1 | ⟨h1, h2, h3⟩ <;> rcases hh m e hme with k1 | ⟨k1, k2, k3⟩
    · rw [hout n (.inl (hN n _ h1))] at hrn
      rw [hout m (.inl (hN m _ k1))] at hrm
      exact hs.dist n m b e h1 k1 hb' he' hnm rn rm hrn hrm
    · rw [hout n (.inl (hN n _ h1))] at hrn
      rw [hin m k1 k2] at hrm
      rcases k3 with k3 | ⟨k3, b', k4, k5, _⟩
      · exact absurd k3 he'
      · have := hnew k4 k5 hrm
        have := (hs.ent n _ h1 hb' rn hrn).1
        omega
    · rw [hin n h1 h2] at hrn
      rw [hout m (.inl (hN m _ k1))] at hrm
      rcases h3 with h3 | ⟨h3, b', h4, h5, _⟩
      · exact absurd h3 hb'
      · have := hnew h4 h5 hrn
        have := (hs.ent m _ k1 he' rm hrm).1
        omega
    · rw [hin n h1 h2] at hrn
      rw [hin m k1 k2] at hrm
      rcases h3 with h3 | ⟨h3, b', h4, h5, _⟩
      · exact absurd h3 hb'
      · rcases k3 with k3 | ⟨k3, b2, k4, k5, _⟩
        · exact absurd k3 he'
        · exact ho.sim.dist _ _ b' (true, b2) h4 k4 h5 k5 (by omega) rn rm hrn hrm
  · obtain ⟨n, b, rb, h1, h2, h3, rfl⟩ := hk
    rcases hh n _ h1 with h4 | ⟨h4, h5, h6⟩
    · rw [hout n (.inl (hN n _ h4))] at h3
      exact .inr ⟨n, b, rb, h4, h2, h3, rfl⟩
    · rw [hin n h4 h5] at h3
      rcases h6 with h6 | ⟨h6, b', h7, h8, _⟩
      · exact absurd h6 h2
      · exact .inl (hnew h7 h8 h3)
omit ok hm hX in
/-- A contract in names of its own, said of any memory; some blocks that it owns are changed. -/
theorem frameM {f : FuncId} {args0 args : List PV} {H0 H0' H H' : Heap} {fr0 fr0' fr fr' : Nat} {v0 v : PV} (C : CallR P f args0 H0 fr0 v0 H0' fr0') (hN : Names H fr)
    (τ inv : Nat → Nat) (hle : fr ≤ fr') (hd : fr' - fr ≤ fr0' - fr0) (ha : Rns ⟨fun n => n < fr0, τ⟩ args0 args) (hH : HpR ⟨fun n => n < fr0, τ⟩ (fun n => fr ≤ n ∧ n < fr') H0 H)
    (hv : Rn ⟨fun x => (fr ≤ x ∧ x < fr') ∨ (¬ (fr ≤ x ∧ x < fr') ∧ inv x < fr0 ∧ τ (inv x) = x), fun x => if fr ≤ x ∧ x < fr' then x - fr + fr0 else inv x⟩ v v0)
    (hh : ∀ n e, hget H' n = some e → (hget H n = some e ∧ ∀ m b, hget H0 m = some (true, b) → b ≠ .dead → τ m ≠ n) ∨ (fr ≤ n ∧ n < fr' ∧ (e.2 = .dead ∨ (e.1 = true ∧ ∃ b', hget H0' (n - fr + fr0) = some (true, b') ∧ b' ≠ .dead ∧ Rb ⟨fun x => (fr ≤ x ∧ x < fr') ∨ (¬ (fr ≤ x ∧ x < fr') ∧ inv x < fr0 ∧ τ (inv x) = x), fun x => if fr ≤ x ∧ x < fr' then x - fr + fr0 else inv x⟩ e.2 b')))
      ∨ e.2 = .dead ∨ (n < fr ∧ e.1 = true ∧ ∃ m b b', m < fr0 ∧ hget H0 m = some (true, b) ∧ b ≠ .dead ∧ τ m = n ∧ hget H0' m = some (true, b') ∧ b' ≠ .dead ∧ Rb ⟨fun x => (fr ≤ x ∧ x < fr') ∨ (¬ (fr ≤ x ∧ x < fr') ∧ inv x < fr0 ∧ τ (inv x) = x), fun x => if fr ≤ x ∧ x < fr' then x - fr + fr0 else inv x⟩ e.2 b')) :
    CallR P f args H fr v H' fr' := by
  intro σ w vals hvals hs hn
  let σ0 : Sg := fun n => if n < fr0 then σ (τ n) else none
  have ht0 : Tr ⟨fun n => n < fr0, τ⟩ σ σ0 := fun n hu => by simp only [σ0]; rw [if_pos hu]
  have hf0 : ∀ n, (fr ≤ n ∧ n < fr') → σ n = none := fun n h => hn n h.1 h.2
  refine Calls.mono (C σ0 w vals (ha.ok ht0 hvals) (hH.sim ht0 hf0 hs) fun n h1 h2 => by simp only [σ0]; rw [if_neg (by omega)]) fun e w1 he => ?_
  obtain ⟨v', σ1, rfl, ho⟩ := he
  let σ' : Sg := fun x => if fr ≤ x ∧ x < fr' then σ1 (x - fr + fr0) else σ x
  have ht : Tr ⟨fun x => (fr ≤ x ∧ x < fr') ∨ (¬ (fr ≤ x ∧ x < fr') ∧ inv x < fr0 ∧ τ (inv x) = x), fun x => if fr ≤ x ∧ x < fr' then x - fr + fr0 else inv x⟩ σ1 σ' := fun x hu => by
    simp only [σ']
    rcases hu with h1 | ⟨h1, h2, h3⟩
    · rw [if_pos h1, if_pos h1]
    · rw [if_neg h1, if_neg h1, ho.ext _ (.inl h2)]
      simp only [σ0]
      rw [if_pos h2, h3]
  have hown : ∀ k, OwnB σ0 H0 k → OwnB σ H k := fun k hk => hH.own ht0 hf0 hk
  have hout : ∀ x, x < fr ∨ fr' ≤ x → σ' x = σ x := fun x hx => by simp only [σ']; rw [if_neg (by omega)]
  have hin : ∀ x, fr ≤ x → x < fr' → σ' x = σ1 (x - fr + fr0) := fun x h1 h2 => by simp only [σ']; rw [if_pos ⟨h1, h2⟩]
  have hmono : Mono σ σ' := fun x rb hx => by
    by_cases h1 : fr ≤ x ∧ x < fr'
    · rw [hn x h1.1 h1.2] at hx; cases hx
    · rw [hout x (by omega)]; exact hx
  have hmut : ∀ m, m < fr0 → σ1 m = σ (τ m) := fun m hm => by
    rw [ho.ext _ (.inl hm)]
    simp only [σ0]
    rw [if_pos hm]
  -- an old block that is not changed lies apart from all that is owned
  have hap : ∀ {n : Nat} {e : Bool × Blk} {rb : RB}, hget H n = some e → e.2 ≠ .dead → σ n = some rb → (∀ m b, hget H0 m = some (true, b) → b ≠ .dead → τ m ≠ n) → ¬ OwnB σ0 H0 rb.blk := fun {n e rb} h1 h2 h3 h4 ⟨m, b, rb', q1, q2, q3, q4⟩ => by
    obtain ⟨hu, hc⟩ := hH.ent m _ q1 q2
    have hu : m < fr0 := hu
    simp only [σ0] at q3
    rw [if_pos hu] at q3
    rcases hc with ⟨e', r1, r2, r3, _⟩ | hc
    · obtain ⟨eb, eblk⟩ := e'
      have : eb = true := r3 rfl
      subst this
      exact hs.dist (τ m) n eblk e r1 h1 r2 h2 (h4 m b q1 q2) rb' rb q3 h3 q4
    · rw [hf0 _ hc] at q3; cases q3
  have hnew : ∀ {b : Blk} {rb : RB} {x : Nat}, hget H0' x = some (true, b) → b ≠ .dead → σ1 x = some rb → w.heap.size ≤ rb.blk ∨ OwnB σ0 H0 rb.blk := fun {b rb x} h1 h2 h3 => ho.frm.own rb.blk ⟨x, b, rb, h1, h2, h3, rfl⟩
  have far : ∀ {n : Nat} {e : Bool × Blk} {rb : RB} {b : Blk} {rb' : RB} {x : Nat}, hget H n = some e → e.2 ≠ .dead → σ n = some rb → (∀ m b, hget H0 m = some (true, b) → b ≠ .dead → τ m ≠ n) → hget H0' x = some (true, b) → b ≠ .dead → σ1 x = some rb' → rb.blk ≠ rb'.blk := fun {n e rb b rb' x} h1 h2 h3 h4 k1 k2 k3 he => by
    rcases hnew k1 k2 k3 with h | h
    · have := (hs.ent n _ h1 h2 rb h3).1
      omega
    · exact hap h1 h2 h3 h4 (he ▸ h)
  refine ⟨v', σ', rfl, hv σ1 σ' v' ht ho.v, ⟨fun n e hne => ?_, fun n m b e hne hme hb' he' hnm rn rm hrn hrm => ?_⟩, hmono, hout, ho.frm.os, ho.frm.tape, ho.frm.output, ho.frm.size, ho.frm.drawn, fun k hk hk' => ho.frm.old k hk fun h => hk' (hown k h), fun k hk => ?_⟩
  · rcases hh n e hne with ⟨h1, h0⟩ | ⟨h1, h2, h3⟩ | h3 | ⟨h1, h2, m, b, b', q1, q2, q3, q4, q5, q6, q7⟩
    · intro hd' rb hrb
      rw [hout n (.inl (hN n e h1))] at hrb
      refine (hs.ent n e h1).keep hmono (hout n (.inl (hN n e h1))) ho.frm.size (fun rb' hrb' hlt => ?_) hd' rb (by rw [hout n (.inl (hN n e h1))]; exact hrb)
      exact ho.frm.old _ hlt (hap h1 hd' hrb' h0)
    · intro hd' rb hrb
      rcases h3 with h3 | ⟨h3, b', h4, h5, h6⟩
      · exact absurd h3 hd'
      · rw [hin n h1 h2] at hrb
        obtain ⟨q1, q2, q3⟩ := ho.sim.ent _ _ h4 h5 rb hrb
        exact ⟨q1, h6 σ1 σ' w1 rb ht q2, fun _ => q3 rfl⟩
    · exact fun hd' => absurd h3 hd'
    · intro hd' rb hrb
      rw [hout n (.inl h1), ← q4, ← hmut m q1] at hrb
      obtain ⟨r1, r2, r3⟩ := ho.sim.ent _ _ q5 q6 rb hrb
      exact ⟨r1, q7 σ1 σ' w1 rb ht r2, fun _ => r3 rfl⟩
  · -- where a name's block comes from: an old one, or one of the call's
    have src : ∀ (n : Nat) (e : Bool × Blk) (rn : RB), hget H' n = some e → e.2 ≠ .dead → σ' n = some rn → (hget H n = some e ∧ σ n = some rn ∧ ∀ m b, hget H0 m = some (true, b) → b ≠ .dead → τ m ≠ n) ∨ (e.1 = true ∧ ∃ x b', hget H0' x = some (true, b') ∧ b' ≠ .dead ∧ σ1 x = some rn ∧ ((fr ≤ n ∧ x = n - fr + fr0) ∨ (n < fr ∧ x < fr0 ∧ τ x = n))) := fun n e rn h hd' hr => by
      rcases hh n e h with ⟨h1, h0⟩ | ⟨h1, h2, h3⟩ | h3 | ⟨h1, h2, m, b, b', q1, q2, q3, q4, q5, q6, q7⟩
      · rw [hout n (.inl (hN n e h1))] at hr
        exact .inl ⟨h1, hr, h0⟩
      · rcases h3 with h3 | ⟨h3, b', h4, h5, h6⟩
        · exact absurd h3 hd'
        · rw [hin n h1 h2] at hr
          exact .inr ⟨h3, _, b', h4, h5, hr, .inl ⟨h1, rfl⟩⟩
      · exact absurd h3 hd'
      · rw [hout n (.inl h1), ← q4, ← hmut m q1] at hr
        exact .inr ⟨h2, m, b', q5, q6, hr, .inr ⟨h1, q1, q4⟩⟩
    rcases src n _ rn hne hb' hrn with ⟨h1, h2, h3⟩ | ⟨h1, x, b', h2, h3, h4, h5⟩ <;> rcases src m _ rm hme he' hrm with ⟨k1, k2, k3⟩ | ⟨k1, y, c', k2, k3, k4, k5⟩
    · exact hs.dist n m b e h1 k1 hb' he' hnm rn rm h2 k2
    · exact far h1 hb' h2 h3 k2 k3 k4
    · exact fun hq => far k1 he' k2 k3 h2 h3 h4 hq.symm
    · exact ho.sim.dist x y b' (true, c') h2 k2 h3 k3 (by rcases h5 with ⟨h5, h6⟩ | ⟨h5, h6, h7⟩ <;> rcases k5 with ⟨k5, k6⟩ | ⟨k5, k6, k7⟩ <;> first | omega | (intro hxy; subst hxy; exact hnm (h7.symm.trans k7))) rn rm h4 k4
  · obtain ⟨n, b, rb, h1, h2, h3, rfl⟩ := hk
    rcases hh n _ h1 with ⟨h4, h0⟩ | ⟨h4, h5, h6⟩ | h6 | ⟨h4, h5, m, b1, b', q1, q2, q3, q4, q5, q6, q7⟩
    · rw [hout n (.inl (hN n _ h4))] at h3
      exact .inr ⟨n, b, rb, h4, h2, h3, rfl⟩
    · rw [hin n h4 h5] at h3
      rcases h6 with h6 | ⟨h6, b', h7, h8, _⟩
      · exact absurd h6 h2
      · exact (hnew h7 h8 h3).imp id (hown _)
    · exact absurd h6 h2
    · rw [hout n (.inl h4), ← q4, ← hmut m q1] at h3
      exact (hnew q5 q6 h3).imp id (hown _)
end
end Go.Ev
