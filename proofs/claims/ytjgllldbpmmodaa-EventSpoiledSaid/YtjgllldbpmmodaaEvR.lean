/-
  What a named value and a list of named blocks say of a world.
-/
import Derived.Test.YtjgllldbpmmodaaEv
import Derived.Laws.Sem
import Derived.Laws.World
import Derived.RowKit3
namespace Go.Ev
open Go.RowKit

/-- Where a named block lies: its number, the cell where it begins, how many cells are there. -/
structure RB where
  blk : Nat
  base : Nat
  cap : Nat

abbrev Sg := Nat → Option RB

def PA.at (rb : RB) (a : PA) : Addr := ⟨rb.blk, rb.base + pos a, none⟩

mutual
inductive VR (σ : Sg) : PV → Value → Prop
  | unk (v : Value) : VR σ .unk v
  | bool (b : Bool) : VR σ (.bool b) (.bool b)
  | tf (b : Bool) : VR σ (.tf b) (.bool b)
  | int (k : IntKind) (n : Int) : VR σ (.int k n) (.int k n)
  | str (s : ByteArray) : VR σ (.str s) (.string s)
  | ptr (a : PA) (rb : RB) (h : σ a.nm = some rb) : VR σ (.ptr a) (.pointer (some (a.at rb)))
  | nilp : VR σ .nilp (.pointer none)
  | nils : VR σ .nils (.slice none 0 0)
  | emp (A : Option Addr) : VR σ .emp (.slice A 0 0)
  | loose (a : PA) (n : Nat) (A : Option Addr) (c : Nat) (hc : n ≤ c) (h : 0 < n → ∃ rb, σ a.nm = some rb ∧ A = some (a.at rb)) : VR σ (.loose a n) (.slice A n c)
  | sl (a : PA) (n : Nat) (rb : RB) (c : Nat) (hc : n ≤ c) (h : σ a.nm = some rb) : VR σ (.sl a n) (.slice (some (a.at rb)) n c)
  | own0 (nm st : Nat) (A : Option Addr) : VR σ (.own nm st 0) (.slice A 0 0)
  | own (nm st n : Nat) (rb : RB) (c : Nat) (h : σ nm = some rb) (h0 : rb.base = rb.base) (hc : n ≤ c) (hr : c * st ≤ rb.cap) : VR σ (.own nm st n) (.slice (some ⟨rb.blk, rb.base, none⟩) n c)
  | agg (cs : List PV) (vs : Array Value) (h : VRs σ cs vs.toList) : VR σ (.agg cs) (.agg vs)
  | tup (cs : List PV) (vs : Array Value) (h : VRs σ cs vs.toList) : VR σ (.tup cs) (.tuple vs)
  | fn (f : Fn) (a b : List PV) (va vb : Array Value) (ha : VRs σ a va.toList) (hb : VRs σ b vb.toList) : VR σ (.fn f a b) (.func f va vb)
  | nilf : VR σ .nilf .nilFunc
  | ifc (t : TypeId) (v : PV) (u : Value) (h : VR σ v u) : VR σ (.ifc t v) (.iface t u)
  | nili : VR σ .nili .nilIface
  | zer (b : Bool) (A : Option Addr) (c : Nat) (h : A.isSome = b) : VR σ (.zer b) (.slice A 0 c)
inductive VRs (σ : Sg) : List PV → List Value → Prop
  | nil : VRs σ [] []
  | cons (v : PV) (u : Value) (l : List PV) (m : List Value) (h : VR σ v u) (hl : VRs σ l m) : VRs σ (v :: l) (u :: m)
end

def Mono (σ τ : Sg) : Prop := ∀ n r, σ n = some r → τ n = some r

mutual
theorem VR.mono {σ τ : Sg} (m : Mono σ τ) : ∀ {v u}, VR σ v u → VR τ v u
  | _, _, .unk v => .unk v
  | _, _, .bool b => .bool b
  | _, _, .tf b => .tf b
  | _, _, .int k n => .int k n
  | _, _, .str s => .str s
  | _, _, .ptr a rb h => .ptr a rb (m _ _ h)
  | _, _, .nilp => .nilp
  | _, _, .nils => .nils
  | _, _, .emp A => .emp A
  | _, _, .loose a n A c hc h => .loose a n A c hc fun h0 => let ⟨rb, h1, h2⟩ := h h0; ⟨rb, m _ _ h1, h2⟩
  | _, _, .sl a n rb c hc h => .sl a n rb c hc (m _ _ h)
  | _, _, .own0 nm st A => .own0 nm st A
  | _, _, .own nm st n rb c h h0 hc hr => .own nm st n rb c (m _ _ h) h0 hc hr
  | _, _, .agg cs vs h => .agg cs vs (VRs.mono m h)
  | _, _, .tup cs vs h => .tup cs vs (VRs.mono m h)
  | _, _, .fn f a b va vb ha hb => .fn f a b va vb (VRs.mono m ha) (VRs.mono m hb)
  | _, _, .nilf => .nilf
  | _, _, .ifc t v u h => .ifc t v u (VR.mono m h)
  | _, _, .nili => .nili
  | _, _, .zer b A c h => .zer b A c h
theorem VRs.mono {σ τ : Sg} (m : Mono σ τ) : ∀ {v u}, VRs σ v u → VRs τ v u
  | _, _, .nil => .nil
  | _, _, .cons v u l k h hl => .cons v u l k (VR.mono m h) (VRs.mono m hl)
end

theorem VRs.length {σ : Sg} : ∀ {cs : List PV} {vs : List Value}, VRs σ cs vs → vs.length = len cs
  | _, _, .nil => rfl
  | _, _, .cons _ _ _ _ _ hl => by simp [len, VRs.length hl]
theorem VRs.get {σ : Sg} : ∀ {cs : List PV} {vs : List Value}, VRs σ cs vs → ∀ {i v}, nth cs i = some v → ∃ u, vs[i]? = some u ∧ VR σ v u
  | _, _, .nil, i, v, h => by simp [nth] at h
  | _, _, .cons w u l m h hl, 0, v, e => by simp only [nth, Option.some.injEq] at e; subst e; exact ⟨u, rfl, h⟩
  | _, _, .cons w u l m h hl, i + 1, v, e => by simp only [nth] at e; obtain ⟨u', h1, h2⟩ := hl.get e; exact ⟨u', by simpa using h1, h2⟩
theorem VRs.append {σ : Sg} : ∀ {a b : List PV} {u v : List Value}, VRs σ a u → VRs σ b v → VRs σ (a ++ b) (u ++ v)
  | _, _, _, _, .nil, h => h
  | _, _, _, _, .cons w u l m h hl, k => .cons _ _ _ _ h (hl.append k)
theorem one_cell {σ : Sg} {v : PV} {u : Value} (h : VR σ v u) (h1 : one v = true) : u.oneCell' = true := by
  cases h <;> first | rfl | simp [one] at h1
theorem ones_cell {σ : Sg} : ∀ {cs : List PV} {vs : List Value}, VRs σ cs vs → ones cs = true → ∀ u ∈ vs, u.oneCell' = true
  | _, _, .nil, _ => by simp
  | _, _, .cons w u l m h hl, h1 => by
    simp only [ones] at h1
    cases hw : one w <;> rw [hw] at h1
    · cases h1
    · intro x hx
      rcases List.mem_cons.1 hx with rfl | hx
      · exact one_cell h hw
      · exact ones_cell hl h1 x hx

/-- A value of one cell. -/
def VR1 (σ : Sg) (v : PV) (u : Value) : Prop := VR σ v u ∧ u.oneCell' = true
theorem VR1.mono {σ τ : Sg} (m : Mono σ τ) {v : PV} {u : Value} (h : VR1 σ v u) : VR1 τ v u := ⟨h.1.mono m, h.2⟩
def BlkR (σ : Sg) (w : World) (rb : RB) : Blk → Prop
  | .dead => True
  | .cells cs => ∀ i v, nth cs i = some v → ∃ u, w.cell? ⟨rb.blk, rb.base + i, none⟩ = some u ∧ VR1 σ v u
  | .rows st n F => ∀ j i, j < n → i < st → ∃ u, w.cell? ⟨rb.blk, rb.base + pos ⟨0, st, j, i⟩, none⟩ = some u ∧ VR1 σ (F j i) u
  | .ints k n f => ∀ o, o < n → w.cell? ⟨rb.blk, rb.base + o, none⟩ = some (.int k (f o))
  | .cols n cs => ∀ j i c, j < n → nthc cs i = some c → ∃ u, w.cell? ⟨rb.blk, rb.base + (j * lenc cs + i), none⟩ = some u ∧ VR1 σ (colAt c j) u

def EntR (σ : Sg) (w : World) (n : Nat) (e : Bool × Blk) : Prop := e.2 ≠ .dead → ∀ rb, σ n = some rb →
  rb.blk < w.heap.size ∧ BlkR σ w rb e.2 ∧ (e.1 = true → rb.base = rb.base ∧ (∀ o, (w.cell? ⟨rb.blk, o, none⟩).isSome = true → w.frozen? ⟨rb.blk, o, none⟩ = false) ∧ ∀ o, o < rb.cap → ∃ u, w.cell? ⟨rb.blk, rb.base + o, none⟩ = some u)

structure Sim (σ : Sg) (w : World) (H : Heap) : Prop where
  ent : ∀ n e, hget H n = some e → EntR σ w n e
  dist : ∀ n m b e, hget H n = some (true, b) → hget H m = some e → b ≠ .dead → e.2 ≠ .dead → n ≠ m → ∀ r s, σ n = some r → σ m = some s → r.blk ≠ s.blk

def OwnB (σ : Sg) (H : Heap) (k : Nat) : Prop := ∃ n b rb, hget H n = some (true, b) ∧ b ≠ .dead ∧ σ n = some rb ∧ rb.blk = k

structure Frm (w w' : World) (A B : Nat → Prop) : Prop where
  os : w'.os = w.os
  tape : w'.tape = w.tape
  output : w'.output = w.output
  size : w.heap.size ≤ w'.heap.size
  drawn : w.drawn ≤ w'.drawn
  old : ∀ k, k < w.heap.size → ¬ A k → w'.heap[k]? = w.heap[k]?
  own : ∀ k, B k → w.heap.size ≤ k ∨ A k

structure Out (σ : Sg) (w : World) (H : Heap) (fr : Nat) (v : PV) (H' : Heap) (fr' : Nat) (σ' : Sg) (w' : World) (v' : Value) : Prop where
  v : VR σ' v v'
  sim : Sim σ' w' H'
  mon : Mono σ σ'
  ext : ∀ n, n < fr ∨ fr' ≤ n → σ' n = σ n
  frm : Frm w w' (OwnB σ H) (OwnB σ' H')

def NoneIn (σ : Sg) (fr fr' : Nat) : Prop := ∀ n, fr ≤ n → n < fr' → σ n = none

theorem lget_append (l m : Lvl) (n : Nat) : lget (l ++ m) n = match lget l n with | some e => some e | none => lget m n := by
  induction l with
  | nil => rfl
  | cons p l ih =>
    obtain ⟨k, e⟩ := p
    simp only [List.cons_append, lget]
    cases Nat.beq k n
    · exact ih
    · rfl
theorem hget_put_same (H : Heap) (n : Nat) (e : Bool × Blk) : hget (hput H n e) n = some e := by
  cases H <;> simp [hput, hget, lget]
theorem hget_put_other (H : Heap) (n m : Nat) (e : Bool × Blk) (h : n ≠ m) : hget (hput H n e) m = hget H m := by
  have : Nat.beq n m = false := by cases hb : Nat.beq n m; rfl; exact absurd (Nat.eq_of_beq_eq_true hb) h
  cases H <;> simp [hput, hget, lget, this]
/-- What a run adds to the blocks: a list in front of the first level; new names, or names that are there. -/
structure Grow (H H' : Heap) (fr fr' : Nat) : Prop where
  le : fr ≤ fr'
  lvl : ∃ l : Lvl, (∀ h t, H = h :: t → H' = (l ++ h) :: t) ∧ ∀ p ∈ l, p.1 < fr' ∧ (p.2.1 = true ∨ p.2.2 = .dead)
  dom : ∀ n e, hget H' n = some e → (∃ e', hget H n = some e') ∨ (fr ≤ n ∧ n < fr')

theorem Grow.refl (H : Heap) (fr : Nat) : Grow H H fr fr := ⟨Nat.le_refl _, ⟨[], fun _ _ h => h, by simp⟩, fun _ e h => .inl ⟨e, h⟩⟩
theorem Grow.trans {A B C : Heap} {a b c : Nat} (h : Grow A B a b) (k : Grow B C b c) : Grow A C a c := by
  obtain ⟨h1, ⟨l, h2, h3⟩, h4⟩ := h
  obtain ⟨k1, ⟨m, k2, k3⟩, k4⟩ := k
  refine ⟨Nat.le_trans h1 k1, ⟨m ++ l, fun g t e => ?_, fun p hp => ?_⟩, fun n e hn => ?_⟩
  · rw [k2 _ _ (h2 g t e), List.append_assoc]
  · rcases List.mem_append.1 hp with hp | hp
    · exact k3 p hp
    · exact ⟨Nat.lt_of_lt_of_le (h3 p hp).1 k1, (h3 p hp).2⟩
  · rcases k4 n e hn with ⟨e', he⟩ | h
    · rcases h4 n e' he with h | h
      · exact .inl h
      · exact .inr ⟨h.1, by omega⟩
    · exact .inr ⟨by omega, h.2⟩
theorem Grow.put (H : Heap) (n : Nat) (b : Blk) (w : Bool) (fr fr' : Nat) (h : fr ≤ fr') (hn : n < fr') (hw : w = true ∨ b = .dead) (hd : fr ≤ n ∨ ∃ e, hget H n = some e) : Grow H (hput H n (w, b)) fr fr' := by
  refine ⟨h, ⟨[(n, (w, b))], fun g t e => by subst e; rfl, fun p hp => ?_⟩, fun m e hm => ?_⟩
  · simp only [List.mem_singleton] at hp
    subst hp
    exact ⟨hn, hw⟩
  · by_cases h1 : n = m
    · subst h1
      exact hd.elim (fun h => .inr ⟨h, hn⟩) .inl
    · rw [hget_put_other _ _ _ _ h1] at hm
      exact .inl ⟨e, hm⟩

theorem hget_merge (l : Lvl) (h : Lvl) (t : Heap) (n : Nat) : hget ((l ++ h) :: t) n = match lget l n with | some e => some e | none => hget (h :: t) n := by
  simp only [hget, lget_append]
  cases lget l n <;> rfl

theorem Frm.refl (w : World) (A : Nat → Prop) : Frm w w A A := ⟨rfl, rfl, rfl, Nat.le_refl _, Nat.le_refl _, fun _ _ _ => rfl, fun _ h => .inr h⟩
theorem Frm.trans {a b c : World} {A B C : Nat → Prop} (h : Frm a b A B) (k : Frm b c B C) : Frm a c A C where
  os := k.os.trans h.os
  tape := k.tape.trans h.tape
  output := k.output.trans h.output
  size := Nat.le_trans h.size k.size
  drawn := Nat.le_trans h.drawn k.drawn
  old i hi hA := (k.old i (Nat.lt_of_lt_of_le hi h.size) fun hB => by
    rcases h.own i hB with h1 | h1
    · omega
    · exact hA h1).trans (h.old i hi hA)
  own i hi := by
    rcases k.own i hi with h1 | h1
    · exact .inl (Nat.le_trans h.size h1)
    · exact h.own i h1
theorem Frm.mono {a b : World} {A A' B B' : Nat → Prop} (h : Frm a b A B) (hA : ∀ k, A k → A' k) (hB : ∀ k, B' k → B k) : Frm a b A' B' :=
  ⟨h.os, h.tape, h.output, h.size, h.drawn, fun i hi hn => h.old i hi fun ha => hn (hA i ha), fun i hi => (h.own i (hB i hi)).imp id (hA i)⟩
theorem Frm.drew {a b : World} {A B : Nat → Prop} (h : Frm a b A B) : Frm a b.drew A B := ⟨h.os, h.tape, h.output, h.size, Nat.le_succ_of_le h.drawn, h.old, h.own⟩

theorem Mono.refl (σ : Sg) : Mono σ σ := fun _ _ h => h
theorem Mono.trans {a b c : Sg} (h : Mono a b) (k : Mono b c) : Mono a c := fun n r e => k n r (h n r e)

theorem BlkR.keep {σ σ' : Sg} {w w' : World} {rb : RB} {b : Blk} (h : BlkR σ w rb b) (m : Mono σ σ') (e : w'.heap[rb.blk]? = w.heap[rb.blk]?) : BlkR σ' w' rb b := by
  have ce : ∀ o, w'.cell? ⟨rb.blk, o, none⟩ = w.cell? ⟨rb.blk, o, none⟩ := fun o => World.cell?_of_block (a := ⟨rb.blk, o, none⟩) e
  cases b with
  | dead => trivial
  | cells cs => exact fun i v hv => let ⟨u, h1, h2⟩ := h i v hv; ⟨u, (ce _).trans h1, h2.mono m⟩
  | rows st n F => exact fun j i hj hi => let ⟨u, h1, h2⟩ := h j i hj hi; ⟨u, (ce _).trans h1, h2.mono m⟩
  | ints k n f => exact fun o ho => (ce _).trans (h o ho)
  | cols n cs => exact fun j i c hj hi => let ⟨u, h1, h2⟩ := h j i c hj hi; ⟨u, (ce _).trans h1, h2.mono m⟩
theorem EntR.keep {σ σ' : Sg} {w w' : World} {n : Nat} {e : Bool × Blk} (h : EntR σ w n e) (m : Mono σ σ') (hn : σ' n = σ n) (hs : w.heap.size ≤ w'.heap.size)
    (k : ∀ rb, σ n = some rb → rb.blk < w.heap.size → w'.heap[rb.blk]? = w.heap[rb.blk]?) : EntR σ' w' n e := by
  intro hd rb hrb
  rw [hn] at hrb
  obtain ⟨h1, h2, h3⟩ := h hd rb hrb
  have kb := k rb hrb h1
  refine ⟨Nat.lt_of_lt_of_le h1 hs, h2.keep m kb, fun hw => ?_⟩
  obtain ⟨h4, h5, h6⟩ := h3 hw
  exact ⟨h4, fun o hc => (World.frozen?_of_block (a := ⟨rb.blk, o, none⟩) kb).trans (h5 o (by rw [← World.cell?_of_block (a := ⟨rb.blk, o, none⟩) kb]; exact hc)), fun o ho => let ⟨u, hu⟩ := h6 o ho; ⟨u, (World.cell?_of_block (a := ⟨rb.blk, rb.base + o, none⟩) kb).trans hu⟩⟩

def sset (σ : Sg) (n : Nat) (rb : RB) : Sg := fun m => if m = n then some rb else σ m
theorem sset_mono {σ : Sg} {n : Nat} {rb : RB} (h : σ n = none) : Mono σ (sset σ n rb) := fun m r e => by
  unfold sset
  split
  · rename_i hm; subst hm; rw [h] at e; cases e
  · exact e
theorem sset_same (σ : Sg) (n : Nat) (rb : RB) : sset σ n rb n = some rb := by simp [sset]
theorem sset_other {σ : Sg} {n m : Nat} {rb : RB} (h : m ≠ n) : sset σ n rb m = σ m := by simp [sset, h]

/-- A new block under a new name; nothing that was there has changed, but for blocks that are gone from the list. -/
theorem Sim.new {σ : Sg} {w w' : World} {H : Heap} {n : Nat} {b : Blk} {rb : RB} (h : Sim σ w H) (hn : σ n = none) (hs : w.heap.size ≤ w'.heap.size)
    (hk : ∀ m e r, hget H m = some e → e.2 ≠ .dead → σ m = some r → r.blk ≠ rb.blk ∧ (r.blk < w.heap.size → w'.heap[r.blk]? = w.heap[r.blk]?))
    (hb : EntR (sset σ n rb) w' n (true, b)) : Sim (sset σ n rb) w' (hput H n (true, b)) := by
  constructor
  · intro m e hm
    by_cases e1 : n = m
    · subst e1
      rw [hget_put_same] at hm
      cases hm
      exact hb
    · rw [hget_put_other _ _ _ _ e1] at hm
      intro hd
      exact (h.ent m e hm).keep (sset_mono hn) (sset_other fun x => e1 x.symm) hs (fun r hr hl => (hk m e r hm hd hr).2 hl) hd
  · intro m k b' e hm hke hb' he hne r s hr hsk
    by_cases e1 : n = m
    · subst e1
      rw [sset_same] at hr
      cases hr
      rw [hget_put_other _ _ _ _ hne] at hke
      rw [sset_other fun x => hne x.symm] at hsk
      exact fun x => (hk k e s hke he hsk).1 x.symm
    · rw [hget_put_other _ _ _ _ e1] at hm
      rw [sset_other fun x => e1 x.symm] at hr
      by_cases e2 : n = k
      · subst e2
        rw [sset_same] at hsk
        cases hsk
        exact (hk m (true, b') r hm hb' hr).1
      · rw [hget_put_other _ _ _ _ e2] at hke
        rw [sset_other fun x => e2 x.symm] at hsk
        exact h.dist m k b' e hm hke hb' he hne r s hr hsk

theorem Sim.drew {σ : Sg} {w : World} {H : Heap} (h : Sim σ w H) : Sim σ w.drew H :=
  ⟨fun n e hn => (h.ent n e hn).keep (Mono.refl _) rfl (Nat.le_refl _) fun _ _ _ => rfl, h.dist⟩
theorem Sim.congr {σ : Sg} {w : World} {H H' : Heap} (h : Sim σ w H) (e : ∀ n, hget H' n = hget H n) : Sim σ w H' :=
  ⟨fun n b hn => h.ent n b ((e n).symm.trans hn), fun n m b k hn hm => h.dist n m b k ((e n).symm.trans hn) ((e m).symm.trans hm)⟩
theorem OwnB.congr {σ : Sg} {H H' : Heap} (e : ∀ n, hget H' n = hget H n) {k : Nat} (h : OwnB σ H' k) : OwnB σ H k :=
  let ⟨n, b, rb, h1, h2⟩ := h; ⟨n, b, rb, (e n).symm.trans h1, h2⟩

theorem cell_alloc_new (w : World) (cs : Array Value) (t : TypeId) (i : Nat) : (w.alloc (.cells cs t)).cell? ⟨w.heap.size, i, none⟩ = cs[i]? := World.cell?_alloc_new w cs t i
theorem heap_alloc (w : World) (o : Obj) (k : Nat) (h : k < w.heap.size) : (w.alloc o).heap[k]? = w.heap[k]? := by
  show (w.heap.push o)[k]? = _
  rw [Array.getElem?_push, if_neg (by omega)]

/-- A new block that holds these cells. -/
theorem out_new {σ : Sg} {w : World} {H : Heap} {fr : Nat} {b : Blk} {v : PV} {v' : Value} (vs : Array Value) (t : TypeId) (cap : Nat) (h : Sim σ w H) (hn : NoneIn σ fr (fr + 1)) (hc : cap ≤ vs.size)
    (hb : BlkR (sset σ fr ⟨w.heap.size, 0, cap⟩) (w.alloc (.cells vs t)) ⟨w.heap.size, 0, cap⟩ b)
    (hv : VR (sset σ fr ⟨w.heap.size, 0, cap⟩) v v') :
    Out σ w H fr v (hput H fr (true, b)) (fr + 1) (sset σ fr ⟨w.heap.size, 0, cap⟩) (w.alloc (.cells vs t)) v' := by
  have h0 : σ fr = none := hn fr (Nat.le_refl _) (by omega)
  refine ⟨hv, ?_, sset_mono h0, fun n hn => sset_other (by omega), ?_⟩
  · refine h.new h0 (by simp) (fun m e r hm hd' hr => ⟨?_, fun hl => heap_alloc _ _ _ hl⟩) fun _ rb hrb => ?_
    · have := (h.ent m e hm hd' r hr).1
      simp only
      omega
    · rw [sset_same] at hrb
      cases hrb
      refine ⟨by simp, hb, fun _ => ⟨rfl, fun o _ => World.frozen?_alloc_new w vs t o, fun o ho => ?_⟩⟩
      have : o < vs.size := Nat.lt_of_lt_of_le ho hc
      exact ⟨vs[o], by rw [Nat.zero_add, cell_alloc_new]; simp [this]⟩
  · refine ⟨rfl, rfl, rfl, by simp, Nat.le_refl _, fun k hk _ => heap_alloc _ _ _ hk, fun k hk => ?_⟩
    obtain ⟨n, b', rb, h1, h2, h3, h4⟩ := hk
    by_cases e1 : fr = n
    · subst e1
      rw [sset_same] at h3
      cases h3
      exact .inl (Nat.le_of_eq h4)
    · rw [hget_put_other _ _ _ _ e1] at h1
      rw [sset_other fun x => e1 x.symm] at h3
      exact .inr ⟨n, b', rb, h1, h2, h3, h4⟩
theorem Out.same {σ : Sg} {w : World} {H : Heap} {fr : Nat} {v : PV} {v' : Value} (h : Sim σ w H) (hv : VR σ v v') : Out σ w H fr v H fr σ w v' :=
  ⟨hv, h, Mono.refl _, fun _ _ => rfl, Frm.refl _ _⟩

end Go.Ev
