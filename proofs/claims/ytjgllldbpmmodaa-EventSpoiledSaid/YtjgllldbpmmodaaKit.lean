/-
  Small facts of any program: arguments read behind a call as before it, if the call has made new memory alone; the last step of a law's row; structs of plain fields, lists of numbers and of such structs.
-/
import Derived.Test.YtjgllldbpmmodaaRows
import Derived.ProofKit
import Derived.WideKeyArgs
import Derived.Below
import Derived.ChangeSame
import Derived.ChangeMaps5
import Derived.OpenShut
import Derived.Deep.Slices
import Derived.Stop.Joined
namespace Go.Proofs.Ytjgllldbpmmodaa
open Go.ChangeShapes Go.WideShapes Go.ChangeAt Go.RowKit Go.WideElems Go.Deep
section
variable {H : Type} {enc : TypeId × Value → H} {P : Program}

/-- What was read before the call reads so behind it. -/
theorem all_later (hl : laidOutB P = true) {W W' : World} (hb : Below W.heap.size W W') {sp : Nat → Bool} :
    ∀ {ts : List TypeId} {vs : List Value} {ds : List (DataW H)} {ps : List MemPlace}, (∀ t ∈ ts, P.readableRec t = true ∧ t < P.types.size) →
      DataW.TrodAll enc P W 0 (fun _ => true) true ts vs ds ps → (∀ p ∈ ps, p.block < W.heap.size) → (∀ p ∈ ps, sp p.block = true) → DataW.TrodAll enc P W' 0 sp true ts vs ds ps
  | [], [], [], _, _, h, _, _ => h
  | [], _ :: _, _, _, _, h, _, _ => h.elim
  | [], [], _ :: _, _, _, h, _, _ => h.elim
  | _ :: _, [], _, _, _, h, _, _ => h.elim
  | _ :: _, _ :: _, [], _, _, h, _, _ => h.elim
  | t :: ts, v :: vs, d :: ds, _, hr, ⟨p, q, h1, h2, rfl⟩, hlt, hs => by
    have ht := hr t (by simp)
    refine ⟨p, q, ?_, all_later hl hb (fun u hu => hr u (by simp [hu])) h2 (fun x hx => hlt x (by simp [hx])) (fun x hx => hs x (by simp [hx])), rfl⟩
    exact Trod_stays hl ht.1 ht.2 h1 (fun x hx => hb.same (hlt x (by simp [hx]))) (fun x hx => hs x (by simp [hx]))

/-- The last step of a law's row: the call has returned true, and made new memory alone. -/
theorem law_done {f : Func} {s : ChangeSpec} {W W' : World} {args : Array Value} {ds gs : List (DataW H)} {before : List MemPlace} {b : TypeId}
    (hl : laidOutB P = true) (hr : ∀ t ∈ f.params.toList, P.readableRec t = true ∧ t < P.types.size) (hres : f.resultTypes = #[b]) (hbool : P.underlying b = some .bool) (hvars : s.vars = [])
    (hW : DataW.Whole enc P f.params.toList s.vars false W args.toList ds gs before) (hfn : (s.fn H (ds ++ gs)) = { results := [.lit (.bool true)], args := ds }) (hb : Below W.heap.size W W') :
    s.post enc P f false true false false W args (.bool true) W' := by
  have hlt : ∀ p ∈ before, p.block < W.heap.size := fun p hp => hW.lt p hp
  have hW0 := hW
  obtain ⟨p, q, hA, hV, e, _, _⟩ := hW0
  rw [hvars] at hV
  obtain ⟨rfl, rfl⟩ := trodVars_none hV
  simp only [List.append_nil] at e
  subst e
  have hR : ∀ (w0 : Nat) (sp : Nat → Bool) (hd : Bool), DataW.TrodAll enc P W' w0 sp hd f.resultTypes.toList ((Value.bool true).resultList f.resultTypes.size) (s.fn H (ds ++ [])).results [] := fun w0 sp hd => by
    rw [hres, hfn]
    exact trodAll_mk1 (shut_bool hbool _)
  have hG : ∀ sp : Nat → Bool, (∀ x ∈ before, sp x.block = true) → DataW.TrodAll enc P W' 0 sp true f.params.toList args.toList (s.fn H (ds ++ [])).args before := fun sp hsp => by
    rw [hfn]
    exact all_later hl hb hr hA hlt hsp
  have hVr : ∀ sp : Nat → Bool, DataW.TrodVars enc P W' sp s.vars (s.fn H (ds ++ [])).vars [] := fun sp => by
    rw [hvars, hfn]
    exact rfl
  refine ⟨ds, [], before, [], before, [], hW, hR _ _ _, hG _ (fun x hx => by simpa using hlt x hx), hVr _, World.keptBut_mono (fun x hx => ⟨hx, ?_⟩) (hb.frame (· ∈ before)), fun h => by cases h⟩
  simpa using hx

/-- A value of a plain type is of that type. -/
def fits (d : TypeDesc) (v : Value) : Prop :=
  match d with
  | .int k => ∃ z, v = .int k z ∧ (Lit.int k z).wf = true
  | .bool => ∃ b, v = .bool b
  | .string => ∃ s, v = .string s
  | _ => True
theorem fits_of {w : World} {base fuel : Nat} {spare : Nat → Bool} {held : Bool} {t : TypeId} {d : TypeDesc} {c : Value} {x : DataW H × List MemPlace} (ht : P.underlying t = some d) (h : DataW.trod enc P w base spare held fuel t [c] = some x) : fits d c := by
  cases d with
  | int k =>
    obtain ⟨z, hz, _, hw⟩ := DataW.trod_int ht h
    exact ⟨z, by simpa using hz, hw⟩
  | bool =>
    obtain ⟨b, hb, _⟩ := DataW.trod_bool ht h
    exact ⟨b, by simpa using hb⟩
  | string =>
    obtain ⟨s, hs, _⟩ := DataW.trod_string ht h
    exact ⟨s, by simpa using hs⟩
  | _ => trivial

/-- The fields of a struct whose fields take one cell each. -/
theorem open_cells {w : World} {base fuel : Nat} {spare : Nat → Bool} {held : Bool} {t : TypeId} {fs : Array Field} {cs : List Value} {x : DataW H × List MemPlace}
    (hs : P.underlying t = some (.struct fs)) (hc : ∀ (i : Nat) (f : Field), fs[i]? = some f → f.offset = i ∧ P.cellsOf f.type = 1) (h : DataW.trod enc P w base spare held fuel t cs = some x) (hlen : cs.length = fs.size) :
    ∀ (i : Nat) (f : Field) (d : TypeDesc), fs[i]? = some f → P.underlying f.type = some d → ∃ c, cs[i]? = some c ∧ fits d c := by
  intro i f d hf hd
  obtain ⟨xs, n, _, _, _, hx, hg⟩ := DataW.trod_struct hs h
  have hi : i < fs.size := (Array.getElem?_eq_some_iff.1 hf).1
  obtain ⟨ho, h1⟩ := hc i f hf
  have hgi := hg i f hf
  rw [ho, h1, List.drop_eq_getElem_cons (by omega), List.getElem?_eq_getElem (by omega)] at hgi
  simp only [List.take_succ_cons, List.take_zero] at hgi
  exact ⟨cs[i], List.getElem?_eq_getElem (by omega), fits_of hd hgi⟩
theorem open_struct {w : World} {base : Nat} {spare : Nat → Bool} {held : Bool} {r : Reach} {b0 : Nat} {t : TypeId} {fs : Array Field} {v : Value} {d : DataW H} {p : List MemPlace}
    (hs : P.underlying t = some (.struct fs)) (hc : ∀ (i : Nat) (f : Field), fs[i]? = some f → f.offset = i ∧ P.cellsOf f.type = 1) (hC : P.cellsOf t = fs.size) (hv : Value.okWide P w r b0 t v) (h : DataW.Trod enc P w base spare held t v d p) :
    ∃ cs : Array Value, v = .agg cs ∧ cs.size = fs.size ∧ ∀ (i : Nat) (f : Field) (d : TypeDesc), fs[i]? = some f → P.underlying f.type = some d → ∃ c, cs[i]? = some c ∧ fits d c := by
  obtain ⟨cs, rfl, hsz⟩ := okWide_struct hs hv
  obtain ⟨fuel, hf⟩ := h
  have hlen : cs.toList.length = fs.size := by simp; omega
  refine ⟨cs, rfl, by simpa using hlen, fun i f d hfi hd => ?_⟩
  obtain ⟨c, h1, h2⟩ := open_cells hs hc hf hlen i f d hfi hd
  exact ⟨c, by simpa [Value.cells] using h1, h2⟩

/-- A list whose elements take m cells each, of which the i-th is of the plain type D i. -/
def RowV (w : World) (v : Value) (n m : Nat) (D : Nat → TypeDesc) : Prop := (n = 0 ∧ ∃ (A : Option Addr) (cap : Nat), v = .slice A 0 cap) ∨
  ∃ (b off cap : Nat), v = .slice (some ⟨b, off, none⟩) n cap ∧ (n ≤ cap ∧ b < w.heap.size) ∧ ∀ j, j < n → ∀ i, i < m → ∃ c, w.cell? ⟨b, off + (j * m + i), none⟩ = some c ∧ fits (D i) c
theorem open_rows {w : World} {base : Nat} {held : Bool} {r : Reach} {b0 : Nat} {t e : TypeId} {m : Nat} {D : Nat → TypeDesc} {v : Value} {d : DataW H} {p : List MemPlace}
    (ht : P.underlying t = some (.slice e)) (hm : 0 < m) (hC : P.cellsOf e = m)
    (hel : ∀ (cs : List Value) (fuel : Nat) (x : DataW H × List MemPlace), cs.length = m → DataW.trod enc P w base (fun _ => true) held fuel e cs = some x → ∀ i, i < m → ∃ c, cs[i]? = some c ∧ fits (D i) c)
    (hv : Value.okWide P w r b0 t v) (h : DataW.Trod enc P w base (fun _ => true) held t v d p) : ∃ (A : Option Addr) (n cap : Nat), v = .slice A n cap ∧ RowV w v n m D := by
  obtain ⟨A, len, cap, rfl⟩ := okWide_slice ht hv
  obtain ⟨fuel, hf⟩ := h
  rcases Go.Deep.open_slice ht hf with ⟨h0, _⟩ | ⟨a, len', cap', k, n, Dd, Pl, hcs, hb, hl, hcap, hk, _, hi⟩
  · have e : Value.slice A len cap = .slice none 0 0 := by simpa [Value.cells] using h0
    cases e
    exact ⟨none, 0, 0, rfl, .inl ⟨rfl, none, 0, rfl⟩⟩
  · have e : Value.slice A len cap = .slice (some a) len' cap' := by simpa [Value.cells] using hcs
    cases e
    simp only [if_true] at hk
    by_cases hz : len = 0
    · subst hz; exact ⟨some a, 0, cap, rfl, .inl ⟨rfl, some a, cap, rfl⟩⟩
    have key : ∀ j, j < len → ∀ i, i < m → ∃ c, w.cell? (a.add (j * m + i)) = some c ∧ fits (D i) c := fun j hj i hi' => by
      obtain ⟨cs', hc, ht'⟩ := hi j (by omega)
      rw [hC] at hc
      obtain ⟨_, hcl, hat⟩ := World.cells?_some hc
      obtain ⟨c, h1, h2⟩ := hel cs' n _ hcl ht' i hi'
      have := hat i hi'
      rw [Go.Deep.add_add, h1] at this
      exact ⟨c, this, h2⟩
    obtain ⟨b, off, spot⟩ := a
    have hspot : spot = none := by
      obtain ⟨c, hc, _⟩ := key 0 (by omega) 0 hm
      simp [Addr.add] at hc
      exact World.cell?_spot hc
    subst hspot
    have hadd : ∀ k, (⟨b, off, none⟩ : Addr).add k = ⟨b, off + k, none⟩ := fun k => by unfold Addr.add; split <;> simp_all
    obtain ⟨c0, hc0, _⟩ := key 0 (by omega) 0 hm
    refine ⟨_, len, cap, rfl, .inr ⟨b, off, cap, rfl, ⟨hl, (by have := World.block_lt_of_cell? w _ hc0; rwa [hadd] at this)⟩, fun j hj i hi' => ?_⟩⟩
    obtain ⟨c, h1, h2⟩ := key j hj i hi'
    rw [hadd] at h1
    exact ⟨c, h1, h2⟩
/-- A list of structs whose fields take one cell each. -/
theorem open_structs {w : World} {base : Nat} {held : Bool} {r : Reach} {b0 : Nat} {t e : TypeId} {fs : Array Field} {D : Nat → TypeDesc} {v : Value} {d : DataW H} {p : List MemPlace}
    (ht : P.underlying t = some (.slice e)) (hs : P.underlying e = some (.struct fs)) (hm : 0 < fs.size) (hC : P.cellsOf e = fs.size)
    (hc : ∀ (i : Nat) (f : Field), fs[i]? = some f → f.offset = i ∧ P.cellsOf f.type = 1 ∧ P.underlying f.type = some (D i))
    (hv : Value.okWide P w r b0 t v) (h : DataW.Trod enc P w base (fun _ => true) held t v d p) : ∃ (A : Option Addr) (n cap : Nat), v = .slice A n cap ∧ RowV w v n fs.size D :=
  open_rows ht hm hC (fun cs fuel x hl hx i hi =>
    open_cells hs (fun i f hf => ⟨(hc i f hf).1, (hc i f hf).2.1⟩) hx hl i fs[i] (D i) (Array.getElem?_eq_getElem hi) (hc i _ (Array.getElem?_eq_getElem hi)).2.2) hv h
/-- A list of plain values. -/
theorem open_plain {w : World} {base : Nat} {held : Bool} {r : Reach} {b0 : Nat} {t e : TypeId} {d0 : TypeDesc} {v : Value} {d : DataW H} {p : List MemPlace}
    (ht : P.underlying t = some (.slice e)) (he : P.underlying e = some d0) (hC : P.cellsOf e = 1)
    (hv : Value.okWide P w r b0 t v) (h : DataW.Trod enc P w base (fun _ => true) held t v d p) : ∃ (A : Option Addr) (n cap : Nat), v = .slice A n cap ∧ RowV w v n 1 (fun _ => d0) :=
  open_rows ht (by decide) hC (fun cs fuel x hl hx i hi => by
    obtain rfl : i = 0 := by omega
    match cs, hl with
    | [c], _ => exact ⟨c, rfl, fits_of he hx⟩) hv h
end
end Go.Proofs.Ytjgllldbpmmodaa
