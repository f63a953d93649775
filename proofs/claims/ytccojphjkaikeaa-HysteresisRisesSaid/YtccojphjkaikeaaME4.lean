/-
  The law of Rises.
-/
import Derived.Test.YtccojphjkaikeaaME1a
import Derived.Test.YtccojphjkaikeaaMB6
namespace Go.Ev
open Go.Proofs
set_option linter.unusedVariables false
set_option linter.unusedSimpArgs false
set_option maxRecDepth 100000
noncomputable def yE4 (test : Bool → Prop → Prop → Prop) : Ext := consX test [k12, k30, k24]
theorem yE4_ok : ExtOk Try.prog (yE4 cond) := consX_ok (l := [k12, k30, k24]) ⟨k12_ok, k30_ok, k24_ok, trivial⟩
theorem mdB_bit {o : Int} (h : 0 ≤ o) (j : Nat) (hj : j < 12) : S.mdB o j = o.toNat.testBit j := by
  obtain ⟨n, rfl⟩ := Int.eq_ofNat_of_zero_le h
  have hm : min (((j : Nat) : Int).toNat) (IntKind.bits .u32) = j := by simp only [Int.toNat_natCast]; show min j 32 = j; omega
  have e1 : S.shrB .u32 (n : Int) (j : Int) = ((n / 2 ^ j : Nat) : Int) := by
    unfold S.shrB
    rw [hm, Int.fdiv_eq_ediv_of_nonneg _ (by exact_mod_cast Nat.zero_le _)]
    simp
  have e2 : S.andB .u32 (((n / 2 ^ j : Nat) : Int)) 1 = ((n / 2 ^ j % 2 : Nat) : Int) := by
    unfold S.andB
    have : (BitVec.ofInt (IntKind.bits .u32) ((n / 2 ^ j : Nat) : Int) &&& BitVec.ofInt (IntKind.bits .u32) 1).toNat = n / 2 ^ j % 2 := by
      rw [BitVec.toNat_and, BitVec.ofInt_natCast, BitVec.toNat_ofNat]
      rw [show (BitVec.ofInt (IntKind.bits .u32) 1).toNat = 1 from by decide, Nat.and_one_is_mod]
      show n / 2 ^ j % 2 ^ 32 % 2 = _
      omega
    rw [this]
    have h2 : n / 2 ^ j % 2 < 2 := Nat.mod_lt _ (by decide)
    generalize n / 2 ^ j % 2 = q at h2
    match q, h2 with
    | 0, _ => rfl
    | 1, _ => rfl
  unfold S.mdB
  rw [e1, e2, Nat.testBit_eq_decide_div_mod_eq, Int.toNat_natCast]
  have h2 : n / 2 ^ j % 2 < 2 := Nat.mod_lt _ (by decide)
  generalize n / 2 ^ j % 2 = q at h2
  match q, h2 with
  | 0, _ => rfl
  | 1, _ => rfl
theorem orB_nat {o m : Int} (h : 0 ≤ o ∧ o ≤ 4294967295) (h' : 0 ≤ m ∧ m ≤ 4294967295) : S.orB .u32 o m = ((o.toNat ||| m.toNat : Nat) : Int) := by
  obtain ⟨a, rfl⟩ := Int.eq_ofNat_of_zero_le h.1
  obtain ⟨c, rfl⟩ := Int.eq_ofNat_of_zero_le h'.1
  have ha : a < 2 ^ 32 := by omega
  have hc : c < 2 ^ 32 := by omega
  unfold S.orB
  have : (BitVec.ofInt (IntKind.bits .u32) (a : Int) ||| BitVec.ofInt (IntKind.bits .u32) (c : Int)).toNat = a ||| c := by
    rw [BitVec.toNat_or, BitVec.ofInt_natCast, BitVec.toNat_ofNat, BitVec.ofInt_natCast, BitVec.toNat_ofNat]
    show a % 2 ^ 32 ||| c % 2 ^ 32 = _
    rw [Nat.mod_eq_of_lt ha, Nat.mod_eq_of_lt hc]
  rw [this, Int.toNat_natCast, Int.toNat_natCast]
  have hlt : a ||| c < 2 ^ 32 := Nat.or_lt_two_pow ha hc
  have hb : IntKind.bits .u32 = 32 := rfl
  have hs : IntKind.signed .u32 = false := rfl
  unfold IntKind.wrap
  simp only [hb, hs, Bool.false_and, Bool.false_eq_true, if_false, Int.reducePow]
  have h3 : a ||| c < 4294967296 := hlt
  omega
theorem bits_or {o m : Int} (h : 0 ≤ o ∧ o ≤ 4294967295) (h' : 0 ≤ m ∧ m ≤ 4294967295) {j : Nat} (hj : j < 12) (hb : S.mdB o j = true) : S.mdB (S.orB .u32 o m) j = true := by
  rw [orB_nat h h', mdB_bit (by omega) j hj, Int.toNat_natCast, Nat.testBit_or, ← mdB_bit h.1 j hj, hb]
  rfl

theorem fold_mono {u d : Int} {t t' : Nat → Int} {o o' : Bool} (hud : d < u) (ho : o = true → o' = true) : ∀ {n : Nat}, (∀ j, j < n → t j ≤ t' j) → S.aftN u d t o n = true → S.aftN u d t' o' n = true
  | 0, _, h => ho h
  | n + 1, hle, h => by
    have ih := fold_mono (n := n) hud ho (fun j hj => hle j (by omega))
    have hx := hle n (Nat.lt_succ_self _)
    simp only [S.aftN, S.aft, Bool.cond_eq_ite, decide_eq_true_eq] at h ⊢
    split at h
    · rw [if_pos (by omega)]
    · split at h
      · cases h
      · by_cases h3 : t' n ≥ u
        · rw [if_pos h3]
        · rw [if_neg h3, if_neg (by omega)]; exact ih h
theorem byte_rem {x : Int} (h : 0 ≤ x ∧ x ≤ 255) : 0 ≤ Int.tmod x 8 ∧ Int.tmod x 8 ≤ 7 := by
  rw [Int.tmod_eq_emod_of_nonneg h.1]; omega
inductive St10 where
  | h0 (x0 : Int) (x1 : List Int) (x2 : List Int)
  | h1 (x0 : Int) (x1 : Int) (x2 : List (Int × Int × Int)) (x3 : List Bool) (x4 : List (Int × Int × Int)) (x5 : List Bool)
abbrev Rt10 := Bool
noncomputable def V10 (ap np mp : Nat) (tp : Nat → Int) (vp : Nat → Int) (o : Int) (more : Int) (al nl ml : Nat) (tl : Nat → Int) (vl : Nat → Int) (r : Rt10) : PV := PV.bool r
noncomputable def N10 (ap np mp : Nat) (tp : Nat → Int) (vp : Nat → Int) (o : Int) (more : Int) (al nl ml : Nat) (tl : Nat → Int) (vl : Nat → Int) (r : Rt10) : List Blk := []
noncomputable def I10 (ap np mp : Nat) (tp : Nat → Int) (vp : Nat → Int) (o : Int) (more : Int) (al nl ml : Nat) (tl : Nat → Int) (vl : Nat → Int) : St10 → Hd
  | .h0 x0 x1 x2 => ⟨hd Try.f10 0, [PV.int IntKind.u32 more, PV.ptr (PA.mk (2) (0) (0) (0)),
 PV.own (3) (1) (List.length x1), PV.own (4) (1) (List.length x2),
 PV.unk, PV.unk, PV.loose (PA.mk (1) (2) al (0)) nl,
 PV.int IntKind.i64 (↑nl : Int), PV.int IntKind.i64 x0, PV.unk, PV.unk], [[(2, (true, Blk.cells [PV.loose (PA.mk (0) (2) ap (0)) np, PV.int IntKind.u32 o])), (3, (true, Blk.cols (List.length x1) [Col.int IntKind.i64 fun (j : Nat) => S.at' x1 j])), (4, (true, Blk.cols (List.length x2) [Col.int IntKind.i64 fun (j : Nat) => S.at' x2 j]))], [(0, (false, .cols mp [.int .u8 tp, .int .u8 vp])), (1, (false, .cols ml [.int .u8 tl, .int .u8 vl]))]], 5⟩
  | .h1 x0 x1 x2 x3 x4 x5 => ⟨hd Try.f10 1, [PV.unk, PV.unk, PV.unk, PV.unk,
 PV.ptr (PA.mk (2) (0) (0) (0)),
 PV.ptr (PA.mk (5) (0) (0) (0)), PV.unk, PV.unk, PV.unk,
 PV.int IntKind.i64 x0, PV.int IntKind.i64 x1], [[(2, (true, Blk.cells
 [PV.own (3) (3) (List.length x2), PV.own (4) (1) (List.length x3)])), (3, (true, Blk.cols (List.length x2)
 [Col.int IntKind.i64 fun (j : Nat) => (S.at' x2 j).1,
 Col.int IntKind.i64 fun (j : Nat) => (S.at' x2 j).2.1,
 Col.int IntKind.i64 fun (j : Nat) => (S.at' x2 j).2.2])), (4, (true, Blk.cols (List.length x3) [Col.bool fun (j : Nat) => S.at' x3 j])), (5, (true, Blk.cells
 [PV.own (6) (3) (List.length x4), PV.own (7) (1) (List.length x5)])), (6, (true, Blk.cols (List.length x4)
 [Col.int IntKind.i64 fun (j : Nat) => (S.at' x4 j).1,
 Col.int IntKind.i64 fun (j : Nat) => (S.at' x4 j).2.1,
 Col.int IntKind.i64 fun (j : Nat) => (S.at' x4 j).2.2])), (7, (true, Blk.cols (List.length x5) [Col.bool fun (j : Nat) => S.at' x5 j]))], [(0, (false, .cols mp [.int .u8 tp, .int .u8 vp])), (1, (false, .cols ml [.int .u8 tl, .int .u8 vl]))]], 8⟩
noncomputable def q10 (ap np mp : Nat) (tp : Nat → Int) (vp : Nat → Int) (o : Int) (more : Int) (al nl ml : Nat) (tl : Nat → Int) (vl : Nat → Int) : St10 → Option (St10 ⊕ Rt10)
  | .h0 x0 x1 x2 => bif (decide (x0 < (↑nl : Int)))
 then (bif (decide ((0 : Int) ≤ x0 ∧ x0 < (↑nl : Int)))
 then (bif (decide (Int.toNat x0 + al < ml))
 then (bif (lim IntKind.i64 (Int.tmod (tl (Int.toNat x0 + al)) (64 : Int)))
 then (bif (lim IntKind.i64 (Int.tmod (tl (Int.toNat x0 + al)) (64 : Int) - (4 : Int)))
 then (bif (decide (List.length x1 + 1 ≤ 1000000))
 then (bif (decide (List.length x1 ≤ List.length x1))
 then (bif (lim IntKind.i64 (Int.tmod (vl (Int.toNat x0 + al)) (8 : Int)))
 then (bif (lim IntKind.i64
 (Int.tmod (tl (Int.toNat x0 + al)) (64 : Int) - (4 : Int) + Int.tmod (vl (Int.toNat x0 + al)) (8 : Int)))
 then (bif (decide (List.length x2 + 1 ≤ 1000000))
 then (bif (decide (List.length x2 ≤ List.length x2))
 then (bif (lim IntKind.i64 (x0 + (1 : Int)))
 then (some (.inl (.h0 (x0 + (1 : Int)) (S.snoc x1 (Int.tmod (tl (Int.toNat x0 + al)) (64 : Int) - (4 : Int))) (S.snoc x2 (Int.tmod (tl (Int.toNat x0 + al)) (64 : Int) - (4 : Int) + Int.tmod (vl (Int.toNat x0 + al)) (8 : Int))))))
 else (none))
 else (none))
 else (none))
 else (none))
 else (none))
 else (none))
 else (none))
 else (none))
 else (none))
 else (none))
 else (none))
 else (bif (decide
 (ap + np ≤ mp ∧
 (S.bytes np fun (j : Nat) => tp (j + ap)) = true ∧
 (S.bytes np fun (j : Nat) => vp (j + ap)) = true))
 then (bif (decide
 (0 +
 List.length
 (S.mkl (S.mdN np) fun (j : Nat) =>
 S.mdR np (fun (j : Nat) => tp (j + ap)) (fun (j : Nat) => vp (j + ap)) j) ≤
 List.length
 (S.mkl (S.mdN np) fun (j : Nat) =>
 S.mdR np (fun (j : Nat) => tp (j + ap)) (fun (j : Nat) => vp (j + ap)) j) ∧
 List.length
 (S.mkl (S.mdN np) fun (j : Nat) =>
 S.mdR np (fun (j : Nat) => tp (j + ap)) (fun (j : Nat) => vp (j + ap)) j) ≤
 1000000 ∧
 0 + List.length (S.mkl (S.mdN np) fun (j : Nat) => S.mdB o j) ≤
 List.length (S.mkl (S.mdN np) fun (j : Nat) => S.mdB o j) ∧
 List.length (S.mkl (S.mdN np) fun (j : Nat) => S.mdB o j) ≤ 1000000 ∧
 0 + List.length x1 ≤ List.length x1 ∧ List.length x1 ≤ 1000000))
 then (bif (decide
 (0 +
 List.length
 (S.mkl (S.mdN np) fun (j : Nat) =>
 S.mdR np (fun (j : Nat) => tp (j + ap)) (fun (j : Nat) => vp (j + ap)) j) ≤
 List.length
 (S.mkl (S.mdN np) fun (j : Nat) =>
 S.mdR np (fun (j : Nat) => tp (j + ap)) (fun (j : Nat) => vp (j + ap)) j) ∧
 List.length
 (S.mkl (S.mdN np) fun (j : Nat) =>
 S.mdR np (fun (j : Nat) => tp (j + ap)) (fun (j : Nat) => vp (j + ap)) j) ≤
 1000000 ∧
 0 +
 List.length
 (S.mkl (S.mdN np) fun (j : Nat) => S.mdB (S.orB IntKind.u32 o more) j) ≤
 List.length
 (S.mkl (S.mdN np) fun (j : Nat) => S.mdB (S.orB IntKind.u32 o more) j) ∧
 List.length (S.mkl (S.mdN np) fun (j : Nat) => S.mdB (S.orB IntKind.u32 o more) j) ≤
 1000000 ∧
 0 + List.length x2 ≤ List.length x2 ∧ List.length x2 ≤ 1000000))
 then (bif (Prod.fst
 (S.histS
 (List.length
 (S.mkl (S.mdN np) fun (j : Nat) =>
 S.mdR np (fun (j : Nat) => tp (j + ap)) (fun (j : Nat) => vp (j + ap)) j))
 (fun (j : Nat) =>
 Prod.fst
 (S.at'
 (S.mkl (S.mdN np) fun (j : Nat) =>
 S.mdR np (fun (j : Nat) => tp (j + ap)) (fun (j : Nat) => vp (j + ap)) j)
 j))
 (fun (j : Nat) =>
 Prod.fst
 (Prod.snd
 (S.at'
 (S.mkl (S.mdN np) fun (j : Nat) =>
 S.mdR np (fun (j : Nat) => tp (j + ap)) (fun (j : Nat) => vp (j + ap)) j)
 j)))
 (fun (j : Nat) =>
 Prod.snd
 (Prod.snd
 (S.at'
 (S.mkl (S.mdN np) fun (j : Nat) =>
 S.mdR np (fun (j : Nat) => tp (j + ap)) (fun (j : Nat) => vp (j + ap)) j)
 j)))
 (List.length (S.mkl (S.mdN np) fun (j : Nat) => S.mdB o j))
 (fun (j : Nat) => S.at' (S.mkl (S.mdN np) fun (j : Nat) => S.mdB o j) j) (List.length x1)
 fun (j : Nat) => S.at' x1 j) !=
 (0 : Int))
 then (some (.inr (false)))
 else (bif (Prod.fst
 (S.histS
 (List.length
 (S.mkl (S.mdN np) fun (j : Nat) =>
 S.mdR np (fun (j : Nat) => tp (j + ap)) (fun (j : Nat) => vp (j + ap)) j))
 (fun (j : Nat) =>
 Prod.fst
 (S.at'
 (S.mkl (S.mdN np) fun (j : Nat) =>
 S.mdR np (fun (j : Nat) => tp (j + ap)) (fun (j : Nat) => vp (j + ap)) j)
 j))
 (fun (j : Nat) =>
 Prod.fst
 (Prod.snd
 (S.at'
 (S.mkl (S.mdN np) fun (j : Nat) =>
 S.mdR np (fun (j : Nat) => tp (j + ap)) (fun (j : Nat) => vp (j + ap)) j)
 j)))
 (fun (j : Nat) =>
 Prod.snd
 (Prod.snd
 (S.at'
 (S.mkl (S.mdN np) fun (j : Nat) =>
 S.mdR np (fun (j : Nat) => tp (j + ap)) (fun (j : Nat) => vp (j + ap)) j)
 j)))
 (List.length (S.mkl (S.mdN np) fun (j : Nat) => S.mdB (S.orB IntKind.u32 o more) j))
 (fun (j : Nat) =>
 S.at' (S.mkl (S.mdN np) fun (j : Nat) => S.mdB (S.orB IntKind.u32 o more) j) j)
 (List.length x2) fun (j : Nat) => S.at' x2 j) !=
 (0 : Int))
 then (some (.inr (false)))
 else (bif ((↑(List.length
 (Prod.snd
 (Prod.snd
 (S.histS
 (List.length
 (S.mkl (S.mdN np) fun (j : Nat) =>
 S.mdR np (fun (j : Nat) => tp (j + ap)) (fun (j : Nat) => vp (j + ap)) j))
 (fun (j : Nat) =>
 Prod.fst
 (S.at'
 (S.mkl (S.mdN np) fun (j : Nat) =>
 S.mdR np (fun (j : Nat) => tp (j + ap)) (fun (j : Nat) => vp (j + ap)) j)
 j))
 (fun (j : Nat) =>
 Prod.fst
 (Prod.snd
 (S.at'
 (S.mkl (S.mdN np) fun (j : Nat) =>
 S.mdR np (fun (j : Nat) => tp (j + ap)) (fun (j : Nat) => vp (j + ap)) j)
 j)))
 (fun (j : Nat) =>
 Prod.snd
 (Prod.snd
 (S.at'
 (S.mkl (S.mdN np) fun (j : Nat) =>
 S.mdR np (fun (j : Nat) => tp (j + ap)) (fun (j : Nat) => vp (j + ap)) j)
 j)))
 (List.length (S.mkl (S.mdN np) fun (j : Nat) => S.mdB o j))
 (fun (j : Nat) => S.at' (S.mkl (S.mdN np) fun (j : Nat) => S.mdB o j) j)
 (List.length x1) fun (j : Nat) => S.at' x1 j)))) :
 Int) !=
 (↑(List.length
 (Prod.snd
 (Prod.snd
 (S.histS
 (List.length
 (S.mkl (S.mdN np) fun (j : Nat) =>
 S.mdR np (fun (j : Nat) => tp (j + ap)) (fun (j : Nat) => vp (j + ap)) j))
 (fun (j : Nat) =>
 Prod.fst
 (S.at'
 (S.mkl (S.mdN np) fun (j : Nat) =>
 S.mdR np (fun (j : Nat) => tp (j + ap)) (fun (j : Nat) => vp (j + ap)) j)
 j))
 (fun (j : Nat) =>
 Prod.fst
 (Prod.snd
 (S.at'
 (S.mkl (S.mdN np) fun (j : Nat) =>
 S.mdR np (fun (j : Nat) => tp (j + ap)) (fun (j : Nat) => vp (j + ap)) j)
 j)))
 (fun (j : Nat) =>
 Prod.snd
 (Prod.snd
 (S.at'
 (S.mkl (S.mdN np) fun (j : Nat) =>
 S.mdR np (fun (j : Nat) => tp (j + ap)) (fun (j : Nat) => vp (j + ap)) j)
 j)))
 (List.length
 (S.mkl (S.mdN np) fun (j : Nat) => S.mdB (S.orB IntKind.u32 o more) j))
 (fun (j : Nat) =>
 S.at'
 (S.mkl (S.mdN np) fun (j : Nat) => S.mdB (S.orB IntKind.u32 o more) j) j)
 (List.length x2) fun (j : Nat) => S.at' x2 j)))) :
 Int))
 then (some (.inr (false)))
 else (some (.inl (.h1 ((↑(List.length
 (Prod.snd
 (Prod.snd
 (S.histS
 (List.length
 (S.mkl (S.mdN np) fun (j : Nat) =>
 S.mdR np (fun (j : Nat) => tp (j + ap)) (fun (j : Nat) => vp (j + ap)) j))
 (fun (j : Nat) =>
 Prod.fst
 (S.at'
 (S.mkl (S.mdN np) fun (j : Nat) =>
 S.mdR np (fun (j : Nat) => tp (j + ap)) (fun (j : Nat) => vp (j + ap)) j)
 j))
 (fun (j : Nat) =>
 Prod.fst
 (Prod.snd
 (S.at'
 (S.mkl (S.mdN np) fun (j : Nat) =>
 S.mdR np (fun (j : Nat) => tp (j + ap)) (fun (j : Nat) => vp (j + ap)) j)
 j)))
 (fun (j : Nat) =>
 Prod.snd
 (Prod.snd
 (S.at'
 (S.mkl (S.mdN np) fun (j : Nat) =>
 S.mdR np (fun (j : Nat) => tp (j + ap)) (fun (j : Nat) => vp (j + ap)) j)
 j)))
 (List.length (S.mkl (S.mdN np) fun (j : Nat) => S.mdB o j))
 (fun (j : Nat) => S.at' (S.mkl (S.mdN np) fun (j : Nat) => S.mdB o j) j)
 (List.length x1) fun (j : Nat) => S.at' x1 j)))) :
 Int)) ((0 : Int)) (Prod.fst
 (Prod.snd
 (S.histS
 (List.length
 (S.mkl (S.mdN np) fun (j : Nat) =>
 S.mdR np (fun (j : Nat) => tp (j + ap)) (fun (j : Nat) => vp (j + ap)) j))
 (fun (j : Nat) =>
 Prod.fst
 (S.at'
 (S.mkl (S.mdN np) fun (j : Nat) =>
 S.mdR np (fun (j : Nat) => tp (j + ap)) (fun (j : Nat) => vp (j + ap)) j)
 j))
 (fun (j : Nat) =>
 Prod.fst
 (Prod.snd
 (S.at'
 (S.mkl (S.mdN np) fun (j : Nat) =>
 S.mdR np (fun (j : Nat) => tp (j + ap)) (fun (j : Nat) => vp (j + ap)) j)
 j)))
 (fun (j : Nat) =>
 Prod.snd
 (Prod.snd
 (S.at'
 (S.mkl (S.mdN np) fun (j : Nat) =>
 S.mdR np (fun (j : Nat) => tp (j + ap)) (fun (j : Nat) => vp (j + ap)) j)
 j)))
 (List.length (S.mkl (S.mdN np) fun (j : Nat) => S.mdB o j))
 (fun (j : Nat) => S.at' (S.mkl (S.mdN np) fun (j : Nat) => S.mdB o j) j) (List.length x1)
 fun (j : Nat) => S.at' x1 j))) (Prod.snd
 (Prod.snd
 (S.histS
 (List.length
 (S.mkl (S.mdN np) fun (j : Nat) =>
 S.mdR np (fun (j : Nat) => tp (j + ap)) (fun (j : Nat) => vp (j + ap)) j))
 (fun (j : Nat) =>
 Prod.fst
 (S.at'
 (S.mkl (S.mdN np) fun (j : Nat) =>
 S.mdR np (fun (j : Nat) => tp (j + ap)) (fun (j : Nat) => vp (j + ap)) j)
 j))
 (fun (j : Nat) =>
 Prod.fst
 (Prod.snd
 (S.at'
 (S.mkl (S.mdN np) fun (j : Nat) =>
 S.mdR np (fun (j : Nat) => tp (j + ap)) (fun (j : Nat) => vp (j + ap)) j)
 j)))
 (fun (j : Nat) =>
 Prod.snd
 (Prod.snd
 (S.at'
 (S.mkl (S.mdN np) fun (j : Nat) =>
 S.mdR np (fun (j : Nat) => tp (j + ap)) (fun (j : Nat) => vp (j + ap)) j)
 j)))
 (List.length (S.mkl (S.mdN np) fun (j : Nat) => S.mdB o j))
 (fun (j : Nat) => S.at' (S.mkl (S.mdN np) fun (j : Nat) => S.mdB o j) j) (List.length x1)
 fun (j : Nat) => S.at' x1 j))) (Prod.fst
 (Prod.snd
 (S.histS
 (List.length
 (S.mkl (S.mdN np) fun (j : Nat) =>
 S.mdR np (fun (j : Nat) => tp (j + ap)) (fun (j : Nat) => vp (j + ap)) j))
 (fun (j : Nat) =>
 Prod.fst
 (S.at'
 (S.mkl (S.mdN np) fun (j : Nat) =>
 S.mdR np (fun (j : Nat) => tp (j + ap)) (fun (j : Nat) => vp (j + ap)) j)
 j))
 (fun (j : Nat) =>
 Prod.fst
 (Prod.snd
 (S.at'
 (S.mkl (S.mdN np) fun (j : Nat) =>
 S.mdR np (fun (j : Nat) => tp (j + ap)) (fun (j : Nat) => vp (j + ap)) j)
 j)))
 (fun (j : Nat) =>
 Prod.snd
 (Prod.snd
 (S.at'
 (S.mkl (S.mdN np) fun (j : Nat) =>
 S.mdR np (fun (j : Nat) => tp (j + ap)) (fun (j : Nat) => vp (j + ap)) j)
 j)))
 (List.length (S.mkl (S.mdN np) fun (j : Nat) => S.mdB (S.orB IntKind.u32 o more) j))
 (fun (j : Nat) =>
 S.at' (S.mkl (S.mdN np) fun (j : Nat) => S.mdB (S.orB IntKind.u32 o more) j) j)
 (List.length x2) fun (j : Nat) => S.at' x2 j))) (Prod.snd
 (Prod.snd
 (S.histS
 (List.length
 (S.mkl (S.mdN np) fun (j : Nat) =>
 S.mdR np (fun (j : Nat) => tp (j + ap)) (fun (j : Nat) => vp (j + ap)) j))
 (fun (j : Nat) =>
 Prod.fst
 (S.at'
 (S.mkl (S.mdN np) fun (j : Nat) =>
 S.mdR np (fun (j : Nat) => tp (j + ap)) (fun (j : Nat) => vp (j + ap)) j)
 j))
 (fun (j : Nat) =>
 Prod.fst
 (Prod.snd
 (S.at'
 (S.mkl (S.mdN np) fun (j : Nat) =>
 S.mdR np (fun (j : Nat) => tp (j + ap)) (fun (j : Nat) => vp (j + ap)) j)
 j)))
 (fun (j : Nat) =>
 Prod.snd
 (Prod.snd
 (S.at'
 (S.mkl (S.mdN np) fun (j : Nat) =>
 S.mdR np (fun (j : Nat) => tp (j + ap)) (fun (j : Nat) => vp (j + ap)) j)
 j)))
 (List.length (S.mkl (S.mdN np) fun (j : Nat) => S.mdB (S.orB IntKind.u32 o more) j))
 (fun (j : Nat) =>
 S.at' (S.mkl (S.mdN np) fun (j : Nat) => S.mdB (S.orB IntKind.u32 o more) j) j)
 (List.length x2) fun (j : Nat) => S.at' x2 j)))))))))
 else (none))
 else (none))
 else (none))
  | .h1 x0 x1 x2 x3 x4 x5 => bif (decide (x1 < x0))
 then (bif (decide ((0 : Int) ≤ x1 ∧ x1 < (↑(List.length x3) : Int)))
 then (bif (decide (Int.toNat x1 < List.length x3))
 then (bif (S.at' x3 (Int.toNat x1))
 then (bif (decide ((0 : Int) ≤ x1 ∧ x1 < (↑(List.length x5) : Int)))
 then (bif (decide (Int.toNat x1 < List.length x5))
 then (bif (S.at' x5 (Int.toNat x1))
 then (bif (lim IntKind.i64 (x1 + (1 : Int)))
 then (some (.inl (.h1 (x0) (x1 + (1 : Int)) (x2) (x3) (x4) (x5))))
 else (none))
 else (some (.inr (false))))
 else (none))
 else (none))
 else (bif (lim IntKind.i64 (x1 + (1 : Int)))
 then (some (.inl (.h1 (x0) (x1 + (1 : Int)) (x2) (x3) (x4) (x5))))
 else (none)))
 else (none))
 else (none))
 else (some (.inr (true)))
noncomputable def p10 (ap np mp : Nat) (tp : Nat → Int) (vp : Nat → Int) (o : Int) (more : Int) (al nl ml : Nat) (tl : Nat → Int) (vl : Nat → Int) : Option (St10 ⊕ Rt10) := bif (decide ((↑nl : Int) > (60 : Int)))
 then (some (.inr (true)))
 else (some (.inl (.h0 ((0 : Int)) ([]) ([]))))
noncomputable def Te10 (test : Bool → Prop → Prop → Prop) (Kst : KS) (Kret : KR) (ap np mp : Nat) (tp : Nat → Int) (vp : Nat → Int) (o : Int) (more : Int) (al nl ml : Nat) (tl : Nat → Int) (vl : Nat → Int) : Prop :=
  test (true)
 (test (true)
 (test (decide ((↑nl : Int) > (60 : Int)))
 (test (true)
 (test (true)
 (Kret (PV.tf true) ([[(1, false, Blk.cols ml [Col.int IntKind.u8 tl, Col.int IntKind.u8 vl]),
 (0, false, Blk.cols mp [Col.int IntKind.u8 tp, Col.int IntKind.u8 vp])]]) (5))
 (Kret (PV.tf false) ([[(1, false, Blk.cols ml [Col.int IntKind.u8 tl, Col.int IntKind.u8 vl]),
 (0, false, Blk.cols mp [Col.int IntKind.u8 tp, Col.int IntKind.u8 vp])]]) (5)))
 (False))
 (Kst (hd Try.f10 0) ([PV.int IntKind.u32 more, PV.ptr (PA.mk (2) (0) (0) (0)),
 PV.nils, PV.nils, PV.unk, PV.unk,
 PV.loose (PA.mk (1) (2) al (0)) nl, PV.int IntKind.i64 (↑nl : Int),
 PV.int IntKind.i64 (0 : Int), PV.unk, PV.unk]) ([[(1, false, Blk.cols ml [Col.int IntKind.u8 tl, Col.int IntKind.u8 vl]),
 (0, false, Blk.cols mp [Col.int IntKind.u8 tp, Col.int IntKind.u8 vp]),
 (2, true,
 Blk.cells
 [PV.loose (PA.mk (0) (2) ap (0)) np, PV.int IntKind.u32 o])]]) (4)))
 (test (true)
 (test (true)
 (Kret (PV.tf true) ([[(1, false, Blk.cols ml [Col.int IntKind.u8 tl, Col.int IntKind.u8 vl]),
 (0, false, Blk.cols mp [Col.int IntKind.u8 tp, Col.int IntKind.u8 vp])]]) (5))
 (Kret (PV.tf false) ([[(1, false, Blk.cols ml [Col.int IntKind.u8 tl, Col.int IntKind.u8 vl]),
 (0, false, Blk.cols mp [Col.int IntKind.u8 tp, Col.int IntKind.u8 vp])]]) (5)))
 (False)))
 (False)
set_option maxRecDepth 100000 in
theorem te10 (test : Bool → Prop → Prop → Prop) (Kst : KS) (Kret : KR) (ap np mp : Nat) (tp : Nat → Int) (vp : Nat → Int) (o : Int) (more : Int) (al nl ml : Nat) (tl : Nat → Int) (vl : Nat → Int) : run test Try.env true (yE4 test) true 400 ⟨10, [.cd (mkFn Try.f10).body], argT 0 [.agg [.loose ⟨0, 2, ap, 0⟩ np, .int .u32 o], .int .u32 more, .loose ⟨1, 2, al, 0⟩ nl], [[], [(0, (false, .cols mp [.int .u8 tp, .int .u8 vp])), (1, (false, .cols ml [.int .u8 tl, .int .u8 vl]))]], 2⟩ (proj 2 [1, 3, 7, 8, 12, 14, 25, 26, 27, 90, 91] Kst Kret) =
  Te10 test Kst Kret ap np mp tp vp o more al nl ml tl vl := by kernel_rfl
noncomputable def T10_0 (test : Bool → Prop → Prop → Prop) (Kst : KS) (Kret : KR) (ap np mp : Nat) (tp : Nat → Int) (vp : Nat → Int) (o : Int) (more : Int) (al nl ml : Nat) (tl : Nat → Int) (vl : Nat → Int) (x0 : Int) (x1 : List Int) (x2 : List Int) : Prop :=
  test (decide (x0 < (↑nl : Int)))
 (test (decide ((0 : Int) ≤ x0 ∧ x0 < (↑nl : Int)))
 (test (decide (Int.toNat x0 + al < ml))
 (test (decide (Int.toNat x0 + al < ml))
 (test (true)
 (test (false)
 (False)
 (test (lim IntKind.i64 (Int.tmod (tl (Int.toNat x0 + al)) (64 : Int)))
 (test (lim IntKind.i64 (Int.tmod (tl (Int.toNat x0 + al)) (64 : Int) - (4 : Int)))
 (test (decide (List.length x1 + 1 ≤ 1000000))
 (test (decide (List.length x1 ≤ List.length x1))
 (test (true)
 (test (true)
 (test (false)
 (False)
 (test (lim IntKind.i64 (Int.tmod (tl (Int.toNat x0 + al)) (64 : Int)))
 (test (lim IntKind.i64 (Int.tmod (tl (Int.toNat x0 + al)) (64 : Int) - (4 : Int)))
 (test (true)
 (test (false)
 (False)
 (test (lim IntKind.i64 (Int.tmod (vl (Int.toNat x0 + al)) (8 : Int)))
 (test (lim IntKind.i64
 (Int.tmod (tl (Int.toNat x0 + al)) (64 : Int) - (4 : Int) + Int.tmod (vl (Int.toNat x0 + al)) (8 : Int)))
 (test (decide (List.length x2 + 1 ≤ 1000000))
 (test (decide (List.length x2 ≤ List.length x2))
 (test (true)
 (test (lim IntKind.i64 (x0 + (1 : Int)))
 (Kst (hd Try.f10 0) ([PV.int IntKind.u32 more, PV.ptr (PA.mk (2) (0) (0) (0)),
 PV.own (7) (1) (List.length x1 + 1),
 PV.own (9) (1) (List.length x2 + 1), PV.unk, PV.unk,
 PV.loose (PA.mk (1) (2) al (0)) nl, PV.int IntKind.i64 (↑nl : Int),
 PV.int IntKind.i64 (x0 + (1 : Int)), PV.unk, PV.unk]) ([[(1, false, Blk.cols ml [Col.int IntKind.u8 tl, Col.int IntKind.u8 vl]),
 (0, false, Blk.cols mp [Col.int IntKind.u8 tp, Col.int IntKind.u8 vp]),
 (9, true,
 Blk.cols (List.length x2 + 1)
 [Col.int IntKind.i64 fun (j : Nat) =>
 bif Nat.blt j (List.length x2) then S.at' x2 j
 else
 Int.tmod (tl (Int.toNat x0 + al)) (64 : Int) - (4 : Int) + Int.tmod (vl (Int.toNat x0 + al)) (8 : Int)]),
 (7, true,
 Blk.cols (List.length x1 + 1)
 [Col.int IntKind.i64 fun (j : Nat) =>
 bif Nat.blt j (List.length x1) then S.at' x1 j
 else Int.tmod (tl (Int.toNat x0 + al)) (64 : Int) - (4 : Int)]),
 (2, true,
 Blk.cells
 [PV.loose (PA.mk (0) (2) ap (0)) np, PV.int IntKind.u32 o])]]) (10))
 (False))
 (False))
 (False))
 (False))
 (False))
 (False)))
 (False))
 (False))
 (False)))
 (False))
 (False))
 (False))
 (False))
 (False))
 (False)))
 (False))
 (False))
 (False))
 (False))
 (test (decide
 (ap + np ≤ mp ∧
 (S.bytes np fun (j : Nat) => tp (j + ap)) = true ∧
 (S.bytes np fun (j : Nat) => vp (j + ap)) = true))
 (test (decide
 (0 +
 List.length
 (S.mkl (S.mdN np) fun (j : Nat) =>
 S.mdR np (fun (j : Nat) => tp (j + ap)) (fun (j : Nat) => vp (j + ap)) j) ≤
 List.length
 (S.mkl (S.mdN np) fun (j : Nat) =>
 S.mdR np (fun (j : Nat) => tp (j + ap)) (fun (j : Nat) => vp (j + ap)) j) ∧
 List.length
 (S.mkl (S.mdN np) fun (j : Nat) =>
 S.mdR np (fun (j : Nat) => tp (j + ap)) (fun (j : Nat) => vp (j + ap)) j) ≤
 1000000 ∧
 0 + List.length (S.mkl (S.mdN np) fun (j : Nat) => S.mdB o j) ≤
 List.length (S.mkl (S.mdN np) fun (j : Nat) => S.mdB o j) ∧
 List.length (S.mkl (S.mdN np) fun (j : Nat) => S.mdB o j) ≤ 1000000 ∧
 0 + List.length x1 ≤ List.length x1 ∧ List.length x1 ≤ 1000000))
 (test (decide
 (ap + np ≤ mp ∧
 (S.bytes np fun (j : Nat) => tp (j + ap)) = true ∧
 (S.bytes np fun (j : Nat) => vp (j + ap)) = true))
 (test (decide
 (0 +
 List.length
 (S.mkl (S.mdN np) fun (j : Nat) =>
 S.mdR np (fun (j : Nat) => tp (j + ap)) (fun (j : Nat) => vp (j + ap)) j) ≤
 List.length
 (S.mkl (S.mdN np) fun (j : Nat) =>
 S.mdR np (fun (j : Nat) => tp (j + ap)) (fun (j : Nat) => vp (j + ap)) j) ∧
 List.length
 (S.mkl (S.mdN np) fun (j : Nat) =>
 S.mdR np (fun (j : Nat) => tp (j + ap)) (fun (j : Nat) => vp (j + ap)) j) ≤
 1000000 ∧
 0 +
 List.length
 (S.mkl (S.mdN np) fun (j : Nat) => S.mdB (S.orB IntKind.u32 o more) j) ≤
 List.length
 (S.mkl (S.mdN np) fun (j : Nat) => S.mdB (S.orB IntKind.u32 o more) j) ∧
 List.length (S.mkl (S.mdN np) fun (j : Nat) => S.mdB (S.orB IntKind.u32 o more) j) ≤
 1000000 ∧
 0 + List.length x2 ≤ List.length x2 ∧ List.length x2 ≤ 1000000))
 (test (Prod.fst
 (S.histS
 (List.length
 (S.mkl (S.mdN np) fun (j : Nat) =>
 S.mdR np (fun (j : Nat) => tp (j + ap)) (fun (j : Nat) => vp (j + ap)) j))
 (fun (j : Nat) =>
 Prod.fst
 (S.at'
 (S.mkl (S.mdN np) fun (j : Nat) =>
 S.mdR np (fun (j : Nat) => tp (j + ap)) (fun (j : Nat) => vp (j + ap)) j)
 j))
 (fun (j : Nat) =>
 Prod.fst
 (Prod.snd
 (S.at'
 (S.mkl (S.mdN np) fun (j : Nat) =>
 S.mdR np (fun (j : Nat) => tp (j + ap)) (fun (j : Nat) => vp (j + ap)) j)
 j)))
 (fun (j : Nat) =>
 Prod.snd
 (Prod.snd
 (S.at'
 (S.mkl (S.mdN np) fun (j : Nat) =>
 S.mdR np (fun (j : Nat) => tp (j + ap)) (fun (j : Nat) => vp (j + ap)) j)
 j)))
 (List.length (S.mkl (S.mdN np) fun (j : Nat) => S.mdB o j))
 (fun (j : Nat) => S.at' (S.mkl (S.mdN np) fun (j : Nat) => S.mdB o j) j) (List.length x1)
 fun (j : Nat) => S.at' x1 j) !=
 (0 : Int))
 (Kret (PV.tf false) ([[(1, false, Blk.cols ml [Col.int IntKind.u8 tl, Col.int IntKind.u8 vl]),
 (0, false, Blk.cols mp [Col.int IntKind.u8 tp, Col.int IntKind.u8 vp])]]) (20))
 (test (Prod.fst
 (S.histS
 (List.length
 (S.mkl (S.mdN np) fun (j : Nat) =>
 S.mdR np (fun (j : Nat) => tp (j + ap)) (fun (j : Nat) => vp (j + ap)) j))
 (fun (j : Nat) =>
 Prod.fst
 (S.at'
 (S.mkl (S.mdN np) fun (j : Nat) =>
 S.mdR np (fun (j : Nat) => tp (j + ap)) (fun (j : Nat) => vp (j + ap)) j)
 j))
 (fun (j : Nat) =>
 Prod.fst
 (Prod.snd
 (S.at'
 (S.mkl (S.mdN np) fun (j : Nat) =>
 S.mdR np (fun (j : Nat) => tp (j + ap)) (fun (j : Nat) => vp (j + ap)) j)
 j)))
 (fun (j : Nat) =>
 Prod.snd
 (Prod.snd
 (S.at'
 (S.mkl (S.mdN np) fun (j : Nat) =>
 S.mdR np (fun (j : Nat) => tp (j + ap)) (fun (j : Nat) => vp (j + ap)) j)
 j)))
 (List.length (S.mkl (S.mdN np) fun (j : Nat) => S.mdB (S.orB IntKind.u32 o more) j))
 (fun (j : Nat) =>
 S.at' (S.mkl (S.mdN np) fun (j : Nat) => S.mdB (S.orB IntKind.u32 o more) j) j)
 (List.length x2) fun (j : Nat) => S.at' x2 j) !=
 (0 : Int))
 (Kret (PV.tf false) ([[(1, false, Blk.cols ml [Col.int IntKind.u8 tl, Col.int IntKind.u8 vl]),
 (0, false, Blk.cols mp [Col.int IntKind.u8 tp, Col.int IntKind.u8 vp])]]) (20))
 (test ((↑(List.length
 (Prod.snd
 (Prod.snd
 (S.histS
 (List.length
 (S.mkl (S.mdN np) fun (j : Nat) =>
 S.mdR np (fun (j : Nat) => tp (j + ap)) (fun (j : Nat) => vp (j + ap)) j))
 (fun (j : Nat) =>
 Prod.fst
 (S.at'
 (S.mkl (S.mdN np) fun (j : Nat) =>
 S.mdR np (fun (j : Nat) => tp (j + ap)) (fun (j : Nat) => vp (j + ap)) j)
 j))
 (fun (j : Nat) =>
 Prod.fst
 (Prod.snd
 (S.at'
 (S.mkl (S.mdN np) fun (j : Nat) =>
 S.mdR np (fun (j : Nat) => tp (j + ap)) (fun (j : Nat) => vp (j + ap)) j)
 j)))
 (fun (j : Nat) =>
 Prod.snd
 (Prod.snd
 (S.at'
 (S.mkl (S.mdN np) fun (j : Nat) =>
 S.mdR np (fun (j : Nat) => tp (j + ap)) (fun (j : Nat) => vp (j + ap)) j)
 j)))
 (List.length (S.mkl (S.mdN np) fun (j : Nat) => S.mdB o j))
 (fun (j : Nat) => S.at' (S.mkl (S.mdN np) fun (j : Nat) => S.mdB o j) j)
 (List.length x1) fun (j : Nat) => S.at' x1 j)))) :
 Int) !=
 (↑(List.length
 (Prod.snd
 (Prod.snd
 (S.histS
 (List.length
 (S.mkl (S.mdN np) fun (j : Nat) =>
 S.mdR np (fun (j : Nat) => tp (j + ap)) (fun (j : Nat) => vp (j + ap)) j))
 (fun (j : Nat) =>
 Prod.fst
 (S.at'
 (S.mkl (S.mdN np) fun (j : Nat) =>
 S.mdR np (fun (j : Nat) => tp (j + ap)) (fun (j : Nat) => vp (j + ap)) j)
 j))
 (fun (j : Nat) =>
 Prod.fst
 (Prod.snd
 (S.at'
 (S.mkl (S.mdN np) fun (j : Nat) =>
 S.mdR np (fun (j : Nat) => tp (j + ap)) (fun (j : Nat) => vp (j + ap)) j)
 j)))
 (fun (j : Nat) =>
 Prod.snd
 (Prod.snd
 (S.at'
 (S.mkl (S.mdN np) fun (j : Nat) =>
 S.mdR np (fun (j : Nat) => tp (j + ap)) (fun (j : Nat) => vp (j + ap)) j)
 j)))
 (List.length
 (S.mkl (S.mdN np) fun (j : Nat) => S.mdB (S.orB IntKind.u32 o more) j))
 (fun (j : Nat) =>
 S.at'
 (S.mkl (S.mdN np) fun (j : Nat) => S.mdB (S.orB IntKind.u32 o more) j) j)
 (List.length x2) fun (j : Nat) => S.at' x2 j)))) :
 Int))
 (Kret (PV.tf false) ([[(1, false, Blk.cols ml [Col.int IntKind.u8 tl, Col.int IntKind.u8 vl]),
 (0, false, Blk.cols mp [Col.int IntKind.u8 tp, Col.int IntKind.u8 vp])]]) (20))
 (Kst (hd Try.f10 1) ([PV.int IntKind.u32 more, PV.ptr (PA.mk (2) (0) (0) (0)),
 PV.own (3) (1) (List.length x1), PV.own (4) (1) (List.length x2),
 PV.ptr (PA.mk (12) (0) (0) (0)),
 PV.ptr (PA.mk (19) (0) (0) (0)),
 PV.loose (PA.mk (1) (2) al (0)) nl, PV.int IntKind.i64 (↑nl : Int),
 PV.int IntKind.i64 x0,
 PV.int IntKind.i64
 (↑(List.length
 (Prod.snd
 (Prod.snd
 (S.histS
 (List.length
 (S.mkl (S.mdN np) fun (j : Nat) =>
 S.mdR np (fun (j : Nat) => tp (j + ap)) (fun (j : Nat) => vp (j + ap)) j))
 (fun (j : Nat) =>
 Prod.fst
 (S.at'
 (S.mkl (S.mdN np) fun (j : Nat) =>
 S.mdR np (fun (j : Nat) => tp (j + ap)) (fun (j : Nat) => vp (j + ap)) j)
 j))
 (fun (j : Nat) =>
 Prod.fst
 (Prod.snd
 (S.at'
 (S.mkl (S.mdN np) fun (j : Nat) =>
 S.mdR np (fun (j : Nat) => tp (j + ap)) (fun (j : Nat) => vp (j + ap)) j)
 j)))
 (fun (j : Nat) =>
 Prod.snd
 (Prod.snd
 (S.at'
 (S.mkl (S.mdN np) fun (j : Nat) =>
 S.mdR np (fun (j : Nat) => tp (j + ap)) (fun (j : Nat) => vp (j + ap)) j)
 j)))
 (List.length (S.mkl (S.mdN np) fun (j : Nat) => S.mdB o j))
 (fun (j : Nat) => S.at' (S.mkl (S.mdN np) fun (j : Nat) => S.mdB o j) j)
 (List.length x1) fun (j : Nat) => S.at' x1 j)))) :
 Int),
 PV.int IntKind.i64 (0 : Int)]) ([[(1, false, Blk.cols ml [Col.int IntKind.u8 tl, Col.int IntKind.u8 vl]),
 (0, false, Blk.cols mp [Col.int IntKind.u8 tp, Col.int IntKind.u8 vp]),
 (19, true,
 Blk.cells
 [PV.own (17) (3)
 (List.length
 (Prod.fst
 (Prod.snd
 (S.histS
 (List.length
 (S.mkl (S.mdN np) fun (j : Nat) =>
 S.mdR np (fun (j : Nat) => tp (j + ap)) (fun (j : Nat) => vp (j + ap)) j))
 (fun (j : Nat) =>
 Prod.fst
 (S.at'
 (S.mkl (S.mdN np) fun (j : Nat) =>
 S.mdR np (fun (j : Nat) => tp (j + ap)) (fun (j : Nat) => vp (j + ap)) j)
 j))
 (fun (j : Nat) =>
 Prod.fst
 (Prod.snd
 (S.at'
 (S.mkl (S.mdN np) fun (j : Nat) =>
 S.mdR np (fun (j : Nat) => tp (j + ap)) (fun (j : Nat) => vp (j + ap)) j)
 j)))
 (fun (j : Nat) =>
 Prod.snd
 (Prod.snd
 (S.at'
 (S.mkl (S.mdN np) fun (j : Nat) =>
 S.mdR np (fun (j : Nat) => tp (j + ap)) (fun (j : Nat) => vp (j + ap)) j)
 j)))
 (List.length
 (S.mkl (S.mdN np) fun (j : Nat) => S.mdB (S.orB IntKind.u32 o more) j))
 (fun (j : Nat) =>
 S.at'
 (S.mkl (S.mdN np) fun (j : Nat) =>
 S.mdB (S.orB IntKind.u32 o more) j)
 j)
 (List.length x2) fun (j : Nat) => S.at' x2 j)))),
 PV.own (18) (1)
 (List.length
 (Prod.snd
 (Prod.snd
 (S.histS
 (List.length
 (S.mkl (S.mdN np) fun (j : Nat) =>
 S.mdR np (fun (j : Nat) => tp (j + ap)) (fun (j : Nat) => vp (j + ap)) j))
 (fun (j : Nat) =>
 Prod.fst
 (S.at'
 (S.mkl (S.mdN np) fun (j : Nat) =>
 S.mdR np (fun (j : Nat) => tp (j + ap)) (fun (j : Nat) => vp (j + ap)) j)
 j))
 (fun (j : Nat) =>
 Prod.fst
 (Prod.snd
 (S.at'
 (S.mkl (S.mdN np) fun (j : Nat) =>
 S.mdR np (fun (j : Nat) => tp (j + ap)) (fun (j : Nat) => vp (j + ap)) j)
 j)))
 (fun (j : Nat) =>
 Prod.snd
 (Prod.snd
 (S.at'
 (S.mkl (S.mdN np) fun (j : Nat) =>
 S.mdR np (fun (j : Nat) => tp (j + ap)) (fun (j : Nat) => vp (j + ap)) j)
 j)))
 (List.length
 (S.mkl (S.mdN np) fun (j : Nat) => S.mdB (S.orB IntKind.u32 o more) j))
 (fun (j : Nat) =>
 S.at'
 (S.mkl (S.mdN np) fun (j : Nat) =>
 S.mdB (S.orB IntKind.u32 o more) j)
 j)
 (List.length x2) fun (j : Nat) => S.at' x2 j))))]),
 (12, true,
 Blk.cells
 [PV.own (10) (3)
 (List.length
 (Prod.fst
 (Prod.snd
 (S.histS
 (List.length
 (S.mkl (S.mdN np) fun (j : Nat) =>
 S.mdR np (fun (j : Nat) => tp (j + ap)) (fun (j : Nat) => vp (j + ap)) j))
 (fun (j : Nat) =>
 Prod.fst
 (S.at'
 (S.mkl (S.mdN np) fun (j : Nat) =>
 S.mdR np (fun (j : Nat) => tp (j + ap)) (fun (j : Nat) => vp (j + ap)) j)
 j))
 (fun (j : Nat) =>
 Prod.fst
 (Prod.snd
 (S.at'
 (S.mkl (S.mdN np) fun (j : Nat) =>
 S.mdR np (fun (j : Nat) => tp (j + ap)) (fun (j : Nat) => vp (j + ap)) j)
 j)))
 (fun (j : Nat) =>
 Prod.snd
 (Prod.snd
 (S.at'
 (S.mkl (S.mdN np) fun (j : Nat) =>
 S.mdR np (fun (j : Nat) => tp (j + ap)) (fun (j : Nat) => vp (j + ap)) j)
 j)))
 (List.length (S.mkl (S.mdN np) fun (j : Nat) => S.mdB o j))
 (fun (j : Nat) => S.at' (S.mkl (S.mdN np) fun (j : Nat) => S.mdB o j) j)
 (List.length x1) fun (j : Nat) => S.at' x1 j)))),
 PV.own (11) (1)
 (List.length
 (Prod.snd
 (Prod.snd
 (S.histS
 (List.length
 (S.mkl (S.mdN np) fun (j : Nat) =>
 S.mdR np (fun (j : Nat) => tp (j + ap)) (fun (j : Nat) => vp (j + ap)) j))
 (fun (j : Nat) =>
 Prod.fst
 (S.at'
 (S.mkl (S.mdN np) fun (j : Nat) =>
 S.mdR np (fun (j : Nat) => tp (j + ap)) (fun (j : Nat) => vp (j + ap)) j)
 j))
 (fun (j : Nat) =>
 Prod.fst
 (Prod.snd
 (S.at'
 (S.mkl (S.mdN np) fun (j : Nat) =>
 S.mdR np (fun (j : Nat) => tp (j + ap)) (fun (j : Nat) => vp (j + ap)) j)
 j)))
 (fun (j : Nat) =>
 Prod.snd
 (Prod.snd
 (S.at'
 (S.mkl (S.mdN np) fun (j : Nat) =>
 S.mdR np (fun (j : Nat) => tp (j + ap)) (fun (j : Nat) => vp (j + ap)) j)
 j)))
 (List.length (S.mkl (S.mdN np) fun (j : Nat) => S.mdB o j))
 (fun (j : Nat) => S.at' (S.mkl (S.mdN np) fun (j : Nat) => S.mdB o j) j)
 (List.length x1) fun (j : Nat) => S.at' x1 j))))]),
 (4, true,
 Blk.cols (List.length x2) [Col.int IntKind.i64 fun (j : Nat) => S.at' x2 j]),
 (3, true,
 Blk.cols (List.length x1) [Col.int IntKind.i64 fun (j : Nat) => S.at' x1 j]),
 (2, true,
 Blk.cells
 [PV.loose (PA.mk (0) (2) ap (0)) np,
 PV.int IntKind.u32 (S.orB IntKind.u32 o more)]),
 (11, true,
 Blk.cols
 (List.length
 (Prod.snd
 (Prod.snd
 (S.histS
 (List.length
 (S.mkl (S.mdN np) fun (j : Nat) =>
 S.mdR np (fun (j : Nat) => tp (j + ap)) (fun (j : Nat) => vp (j + ap)) j))
 (fun (j : Nat) =>
 Prod.fst
 (S.at'
 (S.mkl (S.mdN np) fun (j : Nat) =>
 S.mdR np (fun (j : Nat) => tp (j + ap)) (fun (j : Nat) => vp (j + ap)) j)
 j))
 (fun (j : Nat) =>
 Prod.fst
 (Prod.snd
 (S.at'
 (S.mkl (S.mdN np) fun (j : Nat) =>
 S.mdR np (fun (j : Nat) => tp (j + ap)) (fun (j : Nat) => vp (j + ap)) j)
 j)))
 (fun (j : Nat) =>
 Prod.snd
 (Prod.snd
 (S.at'
 (S.mkl (S.mdN np) fun (j : Nat) =>
 S.mdR np (fun (j : Nat) => tp (j + ap)) (fun (j : Nat) => vp (j + ap)) j)
 j)))
 (List.length (S.mkl (S.mdN np) fun (j : Nat) => S.mdB o j))
 (fun (j : Nat) => S.at' (S.mkl (S.mdN np) fun (j : Nat) => S.mdB o j) j)
 (List.length x1) fun (j : Nat) => S.at' x1 j))))
 [Col.bool fun (j : Nat) =>
 S.at'
 (Prod.snd
 (Prod.snd
 (S.histS
 (List.length
 (S.mkl (S.mdN np) fun (j : Nat) =>
 S.mdR np (fun (j : Nat) => tp (j + ap)) (fun (j : Nat) => vp (j + ap)) j))
 (fun (j : Nat) =>
 Prod.fst
 (S.at'
 (S.mkl (S.mdN np) fun (j : Nat) =>
 S.mdR np (fun (j : Nat) => tp (j + ap)) (fun (j : Nat) => vp (j + ap)) j)
 j))
 (fun (j : Nat) =>
 Prod.fst
 (Prod.snd
 (S.at'
 (S.mkl (S.mdN np) fun (j : Nat) =>
 S.mdR np (fun (j : Nat) => tp (j + ap)) (fun (j : Nat) => vp (j + ap)) j)
 j)))
 (fun (j : Nat) =>
 Prod.snd
 (Prod.snd
 (S.at'
 (S.mkl (S.mdN np) fun (j : Nat) =>
 S.mdR np (fun (j : Nat) => tp (j + ap)) (fun (j : Nat) => vp (j + ap)) j)
 j)))
 (List.length (S.mkl (S.mdN np) fun (j : Nat) => S.mdB o j))
 (fun (j : Nat) => S.at' (S.mkl (S.mdN np) fun (j : Nat) => S.mdB o j) j)
 (List.length x1) fun (j : Nat) => S.at' x1 j)))
 j]),
 (10, true,
 Blk.cols
 (List.length
 (Prod.fst
 (Prod.snd
 (S.histS
 (List.length
 (S.mkl (S.mdN np) fun (j : Nat) =>
 S.mdR np (fun (j : Nat) => tp (j + ap)) (fun (j : Nat) => vp (j + ap)) j))
 (fun (j : Nat) =>
 Prod.fst
 (S.at'
 (S.mkl (S.mdN np) fun (j : Nat) =>
 S.mdR np (fun (j : Nat) => tp (j + ap)) (fun (j : Nat) => vp (j + ap)) j)
 j))
 (fun (j : Nat) =>
 Prod.fst
 (Prod.snd
 (S.at'
 (S.mkl (S.mdN np) fun (j : Nat) =>
 S.mdR np (fun (j : Nat) => tp (j + ap)) (fun (j : Nat) => vp (j + ap)) j)
 j)))
 (fun (j : Nat) =>
 Prod.snd
 (Prod.snd
 (S.at'
 (S.mkl (S.mdN np) fun (j : Nat) =>
 S.mdR np (fun (j : Nat) => tp (j + ap)) (fun (j : Nat) => vp (j + ap)) j)
 j)))
 (List.length (S.mkl (S.mdN np) fun (j : Nat) => S.mdB o j))
 (fun (j : Nat) => S.at' (S.mkl (S.mdN np) fun (j : Nat) => S.mdB o j) j)
 (List.length x1) fun (j : Nat) => S.at' x1 j))))
 [Col.int IntKind.i64 fun (j : Nat) =>
 Prod.fst
 (S.at'
 (Prod.fst
 (Prod.snd
 (S.histS
 (List.length
 (S.mkl (S.mdN np) fun (j : Nat) =>
 S.mdR np (fun (j : Nat) => tp (j + ap)) (fun (j : Nat) => vp (j + ap)) j))
 (fun (j : Nat) =>
 Prod.fst
 (S.at'
 (S.mkl (S.mdN np) fun (j : Nat) =>
 S.mdR np (fun (j : Nat) => tp (j + ap)) (fun (j : Nat) => vp (j + ap)) j)
 j))
 (fun (j : Nat) =>
 Prod.fst
 (Prod.snd
 (S.at'
 (S.mkl (S.mdN np) fun (j : Nat) =>
 S.mdR np (fun (j : Nat) => tp (j + ap)) (fun (j : Nat) => vp (j + ap)) j)
 j)))
 (fun (j : Nat) =>
 Prod.snd
 (Prod.snd
 (S.at'
 (S.mkl (S.mdN np) fun (j : Nat) =>
 S.mdR np (fun (j : Nat) => tp (j + ap)) (fun (j : Nat) => vp (j + ap)) j)
 j)))
 (List.length (S.mkl (S.mdN np) fun (j : Nat) => S.mdB o j))
 (fun (j : Nat) => S.at' (S.mkl (S.mdN np) fun (j : Nat) => S.mdB o j) j)
 (List.length x1) fun (j : Nat) => S.at' x1 j)))
 j),
 Col.int IntKind.i64 fun (j : Nat) =>
 Prod.fst
 (Prod.snd
 (S.at'
 (Prod.fst
 (Prod.snd
 (S.histS
 (List.length
 (S.mkl (S.mdN np) fun (j : Nat) =>
 S.mdR np (fun (j : Nat) => tp (j + ap)) (fun (j : Nat) => vp (j + ap)) j))
 (fun (j : Nat) =>
 Prod.fst
 (S.at'
 (S.mkl (S.mdN np) fun (j : Nat) =>
 S.mdR np (fun (j : Nat) => tp (j + ap)) (fun (j : Nat) => vp (j + ap)) j)
 j))
 (fun (j : Nat) =>
 Prod.fst
 (Prod.snd
 (S.at'
 (S.mkl (S.mdN np) fun (j : Nat) =>
 S.mdR np (fun (j : Nat) => tp (j + ap)) (fun (j : Nat) => vp (j + ap)) j)
 j)))
 (fun (j : Nat) =>
 Prod.snd
 (Prod.snd
 (S.at'
 (S.mkl (S.mdN np) fun (j : Nat) =>
 S.mdR np (fun (j : Nat) => tp (j + ap)) (fun (j : Nat) => vp (j + ap)) j)
 j)))
 (List.length (S.mkl (S.mdN np) fun (j : Nat) => S.mdB o j))
 (fun (j : Nat) => S.at' (S.mkl (S.mdN np) fun (j : Nat) => S.mdB o j) j)
 (List.length x1) fun (j : Nat) => S.at' x1 j)))
 j)),
 Col.int IntKind.i64 fun (j : Nat) =>
 Prod.snd
 (Prod.snd
 (S.at'
 (Prod.fst
 (Prod.snd
 (S.histS
 (List.length
 (S.mkl (S.mdN np) fun (j : Nat) =>
 S.mdR np (fun (j : Nat) => tp (j + ap)) (fun (j : Nat) => vp (j + ap)) j))
 (fun (j : Nat) =>
 Prod.fst
 (S.at'
 (S.mkl (S.mdN np) fun (j : Nat) =>
 S.mdR np (fun (j : Nat) => tp (j + ap)) (fun (j : Nat) => vp (j + ap)) j)
 j))
 (fun (j : Nat) =>
 Prod.fst
 (Prod.snd
 (S.at'
 (S.mkl (S.mdN np) fun (j : Nat) =>
 S.mdR np (fun (j : Nat) => tp (j + ap)) (fun (j : Nat) => vp (j + ap)) j)
 j)))
 (fun (j : Nat) =>
 Prod.snd
 (Prod.snd
 (S.at'
 (S.mkl (S.mdN np) fun (j : Nat) =>
 S.mdR np (fun (j : Nat) => tp (j + ap)) (fun (j : Nat) => vp (j + ap)) j)
 j)))
 (List.length (S.mkl (S.mdN np) fun (j : Nat) => S.mdB o j))
 (fun (j : Nat) => S.at' (S.mkl (S.mdN np) fun (j : Nat) => S.mdB o j) j)
 (List.length x1) fun (j : Nat) => S.at' x1 j)))
 j))]),
 (18, true,
 Blk.cols
 (List.length
 (Prod.snd
 (Prod.snd
 (S.histS
 (List.length
 (S.mkl (S.mdN np) fun (j : Nat) =>
 S.mdR np (fun (j : Nat) => tp (j + ap)) (fun (j : Nat) => vp (j + ap)) j))
 (fun (j : Nat) =>
 Prod.fst
 (S.at'
 (S.mkl (S.mdN np) fun (j : Nat) =>
 S.mdR np (fun (j : Nat) => tp (j + ap)) (fun (j : Nat) => vp (j + ap)) j)
 j))
 (fun (j : Nat) =>
 Prod.fst
 (Prod.snd
 (S.at'
 (S.mkl (S.mdN np) fun (j : Nat) =>
 S.mdR np (fun (j : Nat) => tp (j + ap)) (fun (j : Nat) => vp (j + ap)) j)
 j)))
 (fun (j : Nat) =>
 Prod.snd
 (Prod.snd
 (S.at'
 (S.mkl (S.mdN np) fun (j : Nat) =>
 S.mdR np (fun (j : Nat) => tp (j + ap)) (fun (j : Nat) => vp (j + ap)) j)
 j)))
 (List.length
 (S.mkl (S.mdN np) fun (j : Nat) => S.mdB (S.orB IntKind.u32 o more) j))
 (fun (j : Nat) =>
 S.at'
 (S.mkl (S.mdN np) fun (j : Nat) => S.mdB (S.orB IntKind.u32 o more) j) j)
 (List.length x2) fun (j : Nat) => S.at' x2 j))))
 [Col.bool fun (j : Nat) =>
 S.at'
 (Prod.snd
 (Prod.snd
 (S.histS
 (List.length
 (S.mkl (S.mdN np) fun (j : Nat) =>
 S.mdR np (fun (j : Nat) => tp (j + ap)) (fun (j : Nat) => vp (j + ap)) j))
 (fun (j : Nat) =>
 Prod.fst
 (S.at'
 (S.mkl (S.mdN np) fun (j : Nat) =>
 S.mdR np (fun (j : Nat) => tp (j + ap)) (fun (j : Nat) => vp (j + ap)) j)
 j))
 (fun (j : Nat) =>
 Prod.fst
 (Prod.snd
 (S.at'
 (S.mkl (S.mdN np) fun (j : Nat) =>
 S.mdR np (fun (j : Nat) => tp (j + ap)) (fun (j : Nat) => vp (j + ap)) j)
 j)))
 (fun (j : Nat) =>
 Prod.snd
 (Prod.snd
 (S.at'
 (S.mkl (S.mdN np) fun (j : Nat) =>
 S.mdR np (fun (j : Nat) => tp (j + ap)) (fun (j : Nat) => vp (j + ap)) j)
 j)))
 (List.length
 (S.mkl (S.mdN np) fun (j : Nat) => S.mdB (S.orB IntKind.u32 o more) j))
 (fun (j : Nat) =>
 S.at'
 (S.mkl (S.mdN np) fun (j : Nat) =>
 S.mdB (S.orB IntKind.u32 o more) j)
 j)
 (List.length x2) fun (j : Nat) => S.at' x2 j)))
 j]),
 (17, true,
 Blk.cols
 (List.length
 (Prod.fst
 (Prod.snd
 (S.histS
 (List.length
 (S.mkl (S.mdN np) fun (j : Nat) =>
 S.mdR np (fun (j : Nat) => tp (j + ap)) (fun (j : Nat) => vp (j + ap)) j))
 (fun (j : Nat) =>
 Prod.fst
 (S.at'
 (S.mkl (S.mdN np) fun (j : Nat) =>
 S.mdR np (fun (j : Nat) => tp (j + ap)) (fun (j : Nat) => vp (j + ap)) j)
 j))
 (fun (j : Nat) =>
 Prod.fst
 (Prod.snd
 (S.at'
 (S.mkl (S.mdN np) fun (j : Nat) =>
 S.mdR np (fun (j : Nat) => tp (j + ap)) (fun (j : Nat) => vp (j + ap)) j)
 j)))
 (fun (j : Nat) =>
 Prod.snd
 (Prod.snd
 (S.at'
 (S.mkl (S.mdN np) fun (j : Nat) =>
 S.mdR np (fun (j : Nat) => tp (j + ap)) (fun (j : Nat) => vp (j + ap)) j)
 j)))
 (List.length
 (S.mkl (S.mdN np) fun (j : Nat) => S.mdB (S.orB IntKind.u32 o more) j))
 (fun (j : Nat) =>
 S.at'
 (S.mkl (S.mdN np) fun (j : Nat) => S.mdB (S.orB IntKind.u32 o more) j) j)
 (List.length x2) fun (j : Nat) => S.at' x2 j))))
 [Col.int IntKind.i64 fun (j : Nat) =>
 Prod.fst
 (S.at'
 (Prod.fst
 (Prod.snd
 (S.histS
 (List.length
 (S.mkl (S.mdN np) fun (j : Nat) =>
 S.mdR np (fun (j : Nat) => tp (j + ap)) (fun (j : Nat) => vp (j + ap)) j))
 (fun (j : Nat) =>
 Prod.fst
 (S.at'
 (S.mkl (S.mdN np) fun (j : Nat) =>
 S.mdR np (fun (j : Nat) => tp (j + ap)) (fun (j : Nat) => vp (j + ap)) j)
 j))
 (fun (j : Nat) =>
 Prod.fst
 (Prod.snd
 (S.at'
 (S.mkl (S.mdN np) fun (j : Nat) =>
 S.mdR np (fun (j : Nat) => tp (j + ap)) (fun (j : Nat) => vp (j + ap)) j)
 j)))
 (fun (j : Nat) =>
 Prod.snd
 (Prod.snd
 (S.at'
 (S.mkl (S.mdN np) fun (j : Nat) =>
 S.mdR np (fun (j : Nat) => tp (j + ap)) (fun (j : Nat) => vp (j + ap)) j)
 j)))
 (List.length
 (S.mkl (S.mdN np) fun (j : Nat) =>
 S.mdB (S.orB IntKind.u32 o more) j))
 (fun (j : Nat) =>
 S.at'
 (S.mkl (S.mdN np) fun (j : Nat) =>
 S.mdB (S.orB IntKind.u32 o more) j)
 j)
 (List.length x2) fun (j : Nat) => S.at' x2 j)))
 j),
 Col.int IntKind.i64 fun (j : Nat) =>
 Prod.fst
 (Prod.snd
 (S.at'
 (Prod.fst
 (Prod.snd
 (S.histS
 (List.length
 (S.mkl (S.mdN np) fun (j : Nat) =>
 S.mdR np (fun (j : Nat) => tp (j + ap)) (fun (j : Nat) => vp (j + ap)) j))
 (fun (j : Nat) =>
 Prod.fst
 (S.at'
 (S.mkl (S.mdN np) fun (j : Nat) =>
 S.mdR np (fun (j : Nat) => tp (j + ap)) (fun (j : Nat) => vp (j + ap)) j)
 j))
 (fun (j : Nat) =>
 Prod.fst
 (Prod.snd
 (S.at'
 (S.mkl (S.mdN np) fun (j : Nat) =>
 S.mdR np (fun (j : Nat) => tp (j + ap)) (fun (j : Nat) => vp (j + ap)) j)
 j)))
 (fun (j : Nat) =>
 Prod.snd
 (Prod.snd
 (S.at'
 (S.mkl (S.mdN np) fun (j : Nat) =>
 S.mdR np (fun (j : Nat) => tp (j + ap)) (fun (j : Nat) => vp (j + ap)) j)
 j)))
 (List.length
 (S.mkl (S.mdN np) fun (j : Nat) =>
 S.mdB (S.orB IntKind.u32 o more) j))
 (fun (j : Nat) =>
 S.at'
 (S.mkl (S.mdN np) fun (j : Nat) =>
 S.mdB (S.orB IntKind.u32 o more) j)
 j)
 (List.length x2) fun (j : Nat) => S.at' x2 j)))
 j)),
 Col.int IntKind.i64 fun (j : Nat) =>
 Prod.snd
 (Prod.snd
 (S.at'
 (Prod.fst
 (Prod.snd
 (S.histS
 (List.length
 (S.mkl (S.mdN np) fun (j : Nat) =>
 S.mdR np (fun (j : Nat) => tp (j + ap)) (fun (j : Nat) => vp (j + ap)) j))
 (fun (j : Nat) =>
 Prod.fst
 (S.at'
 (S.mkl (S.mdN np) fun (j : Nat) =>
 S.mdR np (fun (j : Nat) => tp (j + ap)) (fun (j : Nat) => vp (j + ap)) j)
 j))
 (fun (j : Nat) =>
 Prod.fst
 (Prod.snd
 (S.at'
 (S.mkl (S.mdN np) fun (j : Nat) =>
 S.mdR np (fun (j : Nat) => tp (j + ap)) (fun (j : Nat) => vp (j + ap)) j)
 j)))
 (fun (j : Nat) =>
 Prod.snd
 (Prod.snd
 (S.at'
 (S.mkl (S.mdN np) fun (j : Nat) =>
 S.mdR np (fun (j : Nat) => tp (j + ap)) (fun (j : Nat) => vp (j + ap)) j)
 j)))
 (List.length
 (S.mkl (S.mdN np) fun (j : Nat) =>
 S.mdB (S.orB IntKind.u32 o more) j))
 (fun (j : Nat) =>
 S.at'
 (S.mkl (S.mdN np) fun (j : Nat) =>
 S.mdB (S.orB IntKind.u32 o more) j)
 j)
 (List.length x2) fun (j : Nat) => S.at' x2 j)))
 j))])]]) (20)))))
 (False))
 (False))
 (False))
 (False))
set_option maxRecDepth 100000 in
theorem t10_0 (test : Bool → Prop → Prop → Prop) (Kst : KS) (Kret : KR) (ap np mp : Nat) (tp : Nat → Int) (vp : Nat → Int) (o : Int) (more : Int) (al nl ml : Nat) (tl : Nat → Int) (vl : Nat → Int) (x0 : Int) (x1 : List Int) (x2 : List Int) : run test Try.env true (yE4 test) true 400 ⟨10, hd Try.f10 0, zipT [1, 3, 7, 8, 12, 14, 25, 26, 27, 90, 91] [PV.int IntKind.u32 more, PV.ptr (PA.mk (2) (0) (0) (0)),
 PV.own (3) (1) (List.length x1), PV.own (4) (1) (List.length x2),
 PV.unk, PV.unk, PV.loose (PA.mk (1) (2) al (0)) nl,
 PV.int IntKind.i64 (↑nl : Int), PV.int IntKind.i64 x0, PV.unk, PV.unk], [[(2, (true, Blk.cells [PV.loose (PA.mk (0) (2) ap (0)) np, PV.int IntKind.u32 o])), (3, (true, Blk.cols (List.length x1) [Col.int IntKind.i64 fun (j : Nat) => S.at' x1 j])), (4, (true, Blk.cols (List.length x2) [Col.int IntKind.i64 fun (j : Nat) => S.at' x2 j]))], [(0, (false, .cols mp [.int .u8 tp, .int .u8 vp])), (1, (false, .cols ml [.int .u8 tl, .int .u8 vl]))]], 5⟩ (proj 2 [1, 3, 7, 8, 12, 14, 25, 26, 27, 90, 91] Kst Kret) =
  T10_0 test Kst Kret ap np mp tp vp o more al nl ml tl vl x0 x1 x2 := by kernel_rfl
noncomputable def T10_1 (test : Bool → Prop → Prop → Prop) (Kst : KS) (Kret : KR) (ap np mp : Nat) (tp : Nat → Int) (vp : Nat → Int) (o : Int) (more : Int) (al nl ml : Nat) (tl : Nat → Int) (vl : Nat → Int) (x0 : Int) (x1 : Int) (x2 : List (Int × Int × Int)) (x3 : List Bool) (x4 : List (Int × Int × Int)) (x5 : List Bool) : Prop :=
  test (decide (x1 < x0))
 (test (decide ((0 : Int) ≤ x1 ∧ x1 < (↑(List.length x3) : Int)))
 (test (decide (Int.toNat x1 < List.length x3))
 (test (S.at' x3 (Int.toNat x1))
 (test (decide ((0 : Int) ≤ x1 ∧ x1 < (↑(List.length x5) : Int)))
 (test (decide (Int.toNat x1 < List.length x5))
 (test (S.at' x5 (Int.toNat x1))
 (test (lim IntKind.i64 (x1 + (1 : Int)))
 (Kst (hd Try.f10 1) ([PV.unk, PV.unk, PV.unk, PV.unk,
 PV.ptr (PA.mk (2) (0) (0) (0)),
 PV.ptr (PA.mk (5) (0) (0) (0)), PV.unk, PV.unk, PV.unk,
 PV.int IntKind.i64 x0, PV.int IntKind.i64 (x1 + (1 : Int))]) ([[(1, false, Blk.cols ml [Col.int IntKind.u8 tl, Col.int IntKind.u8 vl]),
 (0, false, Blk.cols mp [Col.int IntKind.u8 tp, Col.int IntKind.u8 vp]),
 (5, true,
 Blk.cells
 [PV.own (6) (3) (List.length x4), PV.own (7) (1) (List.length x5)]),
 (2, true,
 Blk.cells
 [PV.own (3) (3) (List.length x2), PV.own (4) (1) (List.length x3)]),
 (4, true, Blk.cols (List.length x3) [Col.bool fun (j : Nat) => S.at' x3 j]),
 (3, true,
 Blk.cols (List.length x2)
 [Col.int IntKind.i64 fun (j : Nat) => (S.at' x2 j).1,
 Col.int IntKind.i64 fun (j : Nat) => (S.at' x2 j).2.1,
 Col.int IntKind.i64 fun (j : Nat) => (S.at' x2 j).2.2]),
 (7, true, Blk.cols (List.length x5) [Col.bool fun (j : Nat) => S.at' x5 j]),
 (6, true,
 Blk.cols (List.length x4)
 [Col.int IntKind.i64 fun (j : Nat) => (S.at' x4 j).1,
 Col.int IntKind.i64 fun (j : Nat) => (S.at' x4 j).2.1,
 Col.int IntKind.i64 fun (j : Nat) => (S.at' x4 j).2.2])]]) (8))
 (False))
 (Kret (PV.tf false) ([[(1, false, Blk.cols ml [Col.int IntKind.u8 tl, Col.int IntKind.u8 vl]),
 (0, false, Blk.cols mp [Col.int IntKind.u8 tp, Col.int IntKind.u8 vp])]]) (8)))
 (False))
 (False))
 (test (lim IntKind.i64 (x1 + (1 : Int)))
 (Kst (hd Try.f10 1) ([PV.unk, PV.unk, PV.unk, PV.unk,
 PV.ptr (PA.mk (2) (0) (0) (0)),
 PV.ptr (PA.mk (5) (0) (0) (0)), PV.unk, PV.unk, PV.unk,
 PV.int IntKind.i64 x0, PV.int IntKind.i64 (x1 + (1 : Int))]) ([[(1, false, Blk.cols ml [Col.int IntKind.u8 tl, Col.int IntKind.u8 vl]),
 (0, false, Blk.cols mp [Col.int IntKind.u8 tp, Col.int IntKind.u8 vp]),
 (5, true,
 Blk.cells
 [PV.own (6) (3) (List.length x4), PV.own (7) (1) (List.length x5)]),
 (2, true,
 Blk.cells
 [PV.own (3) (3) (List.length x2), PV.own (4) (1) (List.length x3)]),
 (4, true, Blk.cols (List.length x3) [Col.bool fun (j : Nat) => S.at' x3 j]),
 (3, true,
 Blk.cols (List.length x2)
 [Col.int IntKind.i64 fun (j : Nat) => (S.at' x2 j).1,
 Col.int IntKind.i64 fun (j : Nat) => (S.at' x2 j).2.1,
 Col.int IntKind.i64 fun (j : Nat) => (S.at' x2 j).2.2]),
 (7, true, Blk.cols (List.length x5) [Col.bool fun (j : Nat) => S.at' x5 j]),
 (6, true,
 Blk.cols (List.length x4)
 [Col.int IntKind.i64 fun (j : Nat) => (S.at' x4 j).1,
 Col.int IntKind.i64 fun (j : Nat) => (S.at' x4 j).2.1,
 Col.int IntKind.i64 fun (j : Nat) => (S.at' x4 j).2.2])]]) (8))
 (False)))
 (False))
 (False))
 (Kret (PV.tf true) ([[(1, false, Blk.cols ml [Col.int IntKind.u8 tl, Col.int IntKind.u8 vl]),
 (0, false, Blk.cols mp [Col.int IntKind.u8 tp, Col.int IntKind.u8 vp])]]) (8))
set_option maxRecDepth 100000 in
theorem t10_1 (test : Bool → Prop → Prop → Prop) (Kst : KS) (Kret : KR) (ap np mp : Nat) (tp : Nat → Int) (vp : Nat → Int) (o : Int) (more : Int) (al nl ml : Nat) (tl : Nat → Int) (vl : Nat → Int) (x0 : Int) (x1 : Int) (x2 : List (Int × Int × Int)) (x3 : List Bool) (x4 : List (Int × Int × Int)) (x5 : List Bool) : run test Try.env true (yE4 test) true 400 ⟨10, hd Try.f10 1, zipT [1, 3, 7, 8, 12, 14, 25, 26, 27, 90, 91] [PV.unk, PV.unk, PV.unk, PV.unk,
 PV.ptr (PA.mk (2) (0) (0) (0)),
 PV.ptr (PA.mk (5) (0) (0) (0)), PV.unk, PV.unk, PV.unk,
 PV.int IntKind.i64 x0, PV.int IntKind.i64 x1], [[(2, (true, Blk.cells
 [PV.own (3) (3) (List.length x2), PV.own (4) (1) (List.length x3)])), (3, (true, Blk.cols (List.length x2)
 [Col.int IntKind.i64 fun (j : Nat) => (S.at' x2 j).1,
 Col.int IntKind.i64 fun (j : Nat) => (S.at' x2 j).2.1,
 Col.int IntKind.i64 fun (j : Nat) => (S.at' x2 j).2.2])), (4, (true, Blk.cols (List.length x3) [Col.bool fun (j : Nat) => S.at' x3 j])), (5, (true, Blk.cells
 [PV.own (6) (3) (List.length x4), PV.own (7) (1) (List.length x5)])), (6, (true, Blk.cols (List.length x4)
 [Col.int IntKind.i64 fun (j : Nat) => (S.at' x4 j).1,
 Col.int IntKind.i64 fun (j : Nat) => (S.at' x4 j).2.1,
 Col.int IntKind.i64 fun (j : Nat) => (S.at' x4 j).2.2])), (7, (true, Blk.cols (List.length x5) [Col.bool fun (j : Nat) => S.at' x5 j]))], [(0, (false, .cols mp [.int .u8 tp, .int .u8 vp])), (1, (false, .cols ml [.int .u8 tl, .int .u8 vl]))]], 8⟩ (proj 2 [1, 3, 7, 8, 12, 14, 25, 26, 27, 90, 91] Kst Kret) =
  T10_1 test Kst Kret ap np mp tp vp o more al nl ml tl vl x0 x1 x2 x3 x4 x5 := by kernel_rfl
set_option maxRecDepth 100000 in
theorem be10 (ap np mp : Nat) (tp : Nat → Int) (vp : Nat → Int) (o : Int) (more : Int) (al nl ml : Nat) (tl : Nat → Int) (vl : Nat → Int) (Kst : KS) (Kret : KR) (x : St10 ⊕ Rt10) (hS : HS 2 400 ((I10 ap np mp tp vp o more al nl ml tl vl)) Kst x) (hR : HR 2 400 ((V10 ap np mp tp vp o more al nl ml tl vl)) (fun r => [newL (2 + 1) ((N10 ap np mp tp vp o more al nl ml tl vl) r) ++ [(0, (false, .cols mp [.int .u8 tp, .int .u8 vp])), (1, (false, .cols ml [.int .u8 tl, .int .u8 vl]))]]) Kret x) (h : (bif (decide ((↑nl : Int) > (60 : Int)))
 then (some (.inr (true)))
 else (some (.inl (.h0 ((0 : Int)) ([]) ([])))) : Option (St10 ⊕ Rt10)) = some x) : Te10 cond Kst Kret ap np mp tp vp o more al nl ml tl vl := by
  unfold Te10
  exact cond_yes rfl (cond_yes rfl (bif_split h
   (fun c0 h => cond_yes rfl (cond_yes rfl (ret_at hR _ h (fun n => n) rfl rfl rfl (rn_bool_tf rfl) rfl (entl_bor (use_lo rfl) rfl rfl (entl_bor (use_lo rfl) rfl rfl entl_nil)))))
   (fun c0 h => stop_at hS _ h (fun n => bif Nat.beq n 2 then 2 else bif Nat.beq n 3 then 399 else bif Nat.beq n 4 then 398 else n) rfl rfl rfl ⟨(rn_int rfl), ⟨(rn_ptr (use_own rfl) rfl rfl), ⟨(rn_own_nils rfl), ⟨(rn_own_nils rfl), ⟨(rn_unk _), ⟨(rn_unk _), ⟨(rn_loose (use_lo rfl) rfl rfl rfl), ⟨(rn_int rfl), ⟨(rn_int rfl), ⟨(rn_unk _), ⟨(rn_unk _), trivial⟩⟩⟩⟩⟩⟩⟩⟩⟩⟩⟩ rfl (entl_b (use_own rfl) rfl (by simp) (rb_cells ⟨(rn_loose (use_lo rfl) rfl rfl rfl), (rn_int rfl), trivial⟩) (entl_fresh (use_own rfl) (fresh_ok rfl) (entl_fresh (use_own rfl) (fresh_ok rfl) (entl_bor (use_lo rfl) rfl rfl (entl_bor (use_lo rfl) rfl rfl entl_nil))))))))
set_option maxRecDepth 100000 in
theorem b10_0 (ap np mp : Nat) (tp : Nat → Int) (vp : Nat → Int) (o : Int) (more : Int) (al nl ml : Nat) (tl : Nat → Int) (vl : Nat → Int) (Kst : KS) (Kret : KR) (x : St10 ⊕ Rt10) (hS : HS 2 400 ((I10 ap np mp tp vp o more al nl ml tl vl)) Kst x) (hR : HR 2 400 ((V10 ap np mp tp vp o more al nl ml tl vl)) (fun r => [newL (2 + 1) ((N10 ap np mp tp vp o more al nl ml tl vl) r) ++ [(0, (false, .cols mp [.int .u8 tp, .int .u8 vp])), (1, (false, .cols ml [.int .u8 tl, .int .u8 vl]))]]) Kret x) (x0 : Int) (x1 : List Int) (x2 : List Int) (h : (bif (decide (x0 < (↑nl : Int)))
 then (bif (decide ((0 : Int) ≤ x0 ∧ x0 < (↑nl : Int)))
 then (bif (decide (Int.toNat x0 + al < ml))
 then (bif (lim IntKind.i64 (Int.tmod (tl (Int.toNat x0 + al)) (64 : Int)))
 then (bif (lim IntKind.i64 (Int.tmod (tl (Int.toNat x0 + al)) (64 : Int) - (4 : Int)))
 then (bif (decide (List.length x1 + 1 ≤ 1000000))
 then (bif (decide (List.length x1 ≤ List.length x1))
 then (bif (lim IntKind.i64 (Int.tmod (vl (Int.toNat x0 + al)) (8 : Int)))
 then (bif (lim IntKind.i64
 (Int.tmod (tl (Int.toNat x0 + al)) (64 : Int) - (4 : Int) + Int.tmod (vl (Int.toNat x0 + al)) (8 : Int)))
 then (bif (decide (List.length x2 + 1 ≤ 1000000))
 then (bif (decide (List.length x2 ≤ List.length x2))
 then (bif (lim IntKind.i64 (x0 + (1 : Int)))
 then (some (.inl (.h0 (x0 + (1 : Int)) (S.snoc x1 (Int.tmod (tl (Int.toNat x0 + al)) (64 : Int) - (4 : Int))) (S.snoc x2 (Int.tmod (tl (Int.toNat x0 + al)) (64 : Int) - (4 : Int) + Int.tmod (vl (Int.toNat x0 + al)) (8 : Int))))))
 else (none))
 else (none))
 else (none))
 else (none))
 else (none))
 else (none))
 else (none))
 else (none))
 else (none))
 else (none))
 else (none))
 else (bif (decide
 (ap + np ≤ mp ∧
 (S.bytes np fun (j : Nat) => tp (j + ap)) = true ∧
 (S.bytes np fun (j : Nat) => vp (j + ap)) = true))
 then (bif (decide
 (0 +
 List.length
 (S.mkl (S.mdN np) fun (j : Nat) =>
 S.mdR np (fun (j : Nat) => tp (j + ap)) (fun (j : Nat) => vp (j + ap)) j) ≤
 List.length
 (S.mkl (S.mdN np) fun (j : Nat) =>
 S.mdR np (fun (j : Nat) => tp (j + ap)) (fun (j : Nat) => vp (j + ap)) j) ∧
 List.length
 (S.mkl (S.mdN np) fun (j : Nat) =>
 S.mdR np (fun (j : Nat) => tp (j + ap)) (fun (j : Nat) => vp (j + ap)) j) ≤
 1000000 ∧
 0 + List.length (S.mkl (S.mdN np) fun (j : Nat) => S.mdB o j) ≤
 List.length (S.mkl (S.mdN np) fun (j : Nat) => S.mdB o j) ∧
 List.length (S.mkl (S.mdN np) fun (j : Nat) => S.mdB o j) ≤ 1000000 ∧
 0 + List.length x1 ≤ List.length x1 ∧ List.length x1 ≤ 1000000))
 then (bif (decide
 (0 +
 List.length
 (S.mkl (S.mdN np) fun (j : Nat) =>
 S.mdR np (fun (j : Nat) => tp (j + ap)) (fun (j : Nat) => vp (j + ap)) j) ≤
 List.length
 (S.mkl (S.mdN np) fun (j : Nat) =>
 S.mdR np (fun (j : Nat) => tp (j + ap)) (fun (j : Nat) => vp (j + ap)) j) ∧
 List.length
 (S.mkl (S.mdN np) fun (j : Nat) =>
 S.mdR np (fun (j : Nat) => tp (j + ap)) (fun (j : Nat) => vp (j + ap)) j) ≤
 1000000 ∧
 0 +
 List.length
 (S.mkl (S.mdN np) fun (j : Nat) => S.mdB (S.orB IntKind.u32 o more) j) ≤
 List.length
 (S.mkl (S.mdN np) fun (j : Nat) => S.mdB (S.orB IntKind.u32 o more) j) ∧
 List.length (S.mkl (S.mdN np) fun (j : Nat) => S.mdB (S.orB IntKind.u32 o more) j) ≤
 1000000 ∧
 0 + List.length x2 ≤ List.length x2 ∧ List.length x2 ≤ 1000000))
 then (bif (Prod.fst
 (S.histS
 (List.length
 (S.mkl (S.mdN np) fun (j : Nat) =>
 S.mdR np (fun (j : Nat) => tp (j + ap)) (fun (j : Nat) => vp (j + ap)) j))
 (fun (j : Nat) =>
 Prod.fst
 (S.at'
 (S.mkl (S.mdN np) fun (j : Nat) =>
 S.mdR np (fun (j : Nat) => tp (j + ap)) (fun (j : Nat) => vp (j + ap)) j)
 j))
 (fun (j : Nat) =>
 Prod.fst
 (Prod.snd
 (S.at'
 (S.mkl (S.mdN np) fun (j : Nat) =>
 S.mdR np (fun (j : Nat) => tp (j + ap)) (fun (j : Nat) => vp (j + ap)) j)
 j)))
 (fun (j : Nat) =>
 Prod.snd
 (Prod.snd
 (S.at'
 (S.mkl (S.mdN np) fun (j : Nat) =>
 S.mdR np (fun (j : Nat) => tp (j + ap)) (fun (j : Nat) => vp (j + ap)) j)
 j)))
 (List.length (S.mkl (S.mdN np) fun (j : Nat) => S.mdB o j))
 (fun (j : Nat) => S.at' (S.mkl (S.mdN np) fun (j : Nat) => S.mdB o j) j) (List.length x1)
 fun (j : Nat) => S.at' x1 j) !=
 (0 : Int))
 then (some (.inr (false)))
 else (bif (Prod.fst
 (S.histS
 (List.length
 (S.mkl (S.mdN np) fun (j : Nat) =>
 S.mdR np (fun (j : Nat) => tp (j + ap)) (fun (j : Nat) => vp (j + ap)) j))
 (fun (j : Nat) =>
 Prod.fst
 (S.at'
 (S.mkl (S.mdN np) fun (j : Nat) =>
 S.mdR np (fun (j : Nat) => tp (j + ap)) (fun (j : Nat) => vp (j + ap)) j)
 j))
 (fun (j : Nat) =>
 Prod.fst
 (Prod.snd
 (S.at'
 (S.mkl (S.mdN np) fun (j : Nat) =>
 S.mdR np (fun (j : Nat) => tp (j + ap)) (fun (j : Nat) => vp (j + ap)) j)
 j)))
 (fun (j : Nat) =>
 Prod.snd
 (Prod.snd
 (S.at'
 (S.mkl (S.mdN np) fun (j : Nat) =>
 S.mdR np (fun (j : Nat) => tp (j + ap)) (fun (j : Nat) => vp (j + ap)) j)
 j)))
 (List.length (S.mkl (S.mdN np) fun (j : Nat) => S.mdB (S.orB IntKind.u32 o more) j))
 (fun (j : Nat) =>
 S.at' (S.mkl (S.mdN np) fun (j : Nat) => S.mdB (S.orB IntKind.u32 o more) j) j)
 (List.length x2) fun (j : Nat) => S.at' x2 j) !=
 (0 : Int))
 then (some (.inr (false)))
 else (bif ((↑(List.length
 (Prod.snd
 (Prod.snd
 (S.histS
 (List.length
 (S.mkl (S.mdN np) fun (j : Nat) =>
 S.mdR np (fun (j : Nat) => tp (j + ap)) (fun (j : Nat) => vp (j + ap)) j))
 (fun (j : Nat) =>
 Prod.fst
 (S.at'
 (S.mkl (S.mdN np) fun (j : Nat) =>
 S.mdR np (fun (j : Nat) => tp (j + ap)) (fun (j : Nat) => vp (j + ap)) j)
 j))
 (fun (j : Nat) =>
 Prod.fst
 (Prod.snd
 (S.at'
 (S.mkl (S.mdN np) fun (j : Nat) =>
 S.mdR np (fun (j : Nat) => tp (j + ap)) (fun (j : Nat) => vp (j + ap)) j)
 j)))
 (fun (j : Nat) =>
 Prod.snd
 (Prod.snd
 (S.at'
 (S.mkl (S.mdN np) fun (j : Nat) =>
 S.mdR np (fun (j : Nat) => tp (j + ap)) (fun (j : Nat) => vp (j + ap)) j)
 j)))
 (List.length (S.mkl (S.mdN np) fun (j : Nat) => S.mdB o j))
 (fun (j : Nat) => S.at' (S.mkl (S.mdN np) fun (j : Nat) => S.mdB o j) j)
 (List.length x1) fun (j : Nat) => S.at' x1 j)))) :
 Int) !=
 (↑(List.length
 (Prod.snd
 (Prod.snd
 (S.histS
 (List.length
 (S.mkl (S.mdN np) fun (j : Nat) =>
 S.mdR np (fun (j : Nat) => tp (j + ap)) (fun (j : Nat) => vp (j + ap)) j))
 (fun (j : Nat) =>
 Prod.fst
 (S.at'
 (S.mkl (S.mdN np) fun (j : Nat) =>
 S.mdR np (fun (j : Nat) => tp (j + ap)) (fun (j : Nat) => vp (j + ap)) j)
 j))
 (fun (j : Nat) =>
 Prod.fst
 (Prod.snd
 (S.at'
 (S.mkl (S.mdN np) fun (j : Nat) =>
 S.mdR np (fun (j : Nat) => tp (j + ap)) (fun (j : Nat) => vp (j + ap)) j)
 j)))
 (fun (j : Nat) =>
 Prod.snd
 (Prod.snd
 (S.at'
 (S.mkl (S.mdN np) fun (j : Nat) =>
 S.mdR np (fun (j : Nat) => tp (j + ap)) (fun (j : Nat) => vp (j + ap)) j)
 j)))
 (List.length
 (S.mkl (S.mdN np) fun (j : Nat) => S.mdB (S.orB IntKind.u32 o more) j))
 (fun (j : Nat) =>
 S.at'
 (S.mkl (S.mdN np) fun (j : Nat) => S.mdB (S.orB IntKind.u32 o more) j) j)
 (List.length x2) fun (j : Nat) => S.at' x2 j)))) :
 Int))
 then (some (.inr (false)))
 else (some (.inl (.h1 ((↑(List.length
 (Prod.snd
 (Prod.snd
 (S.histS
 (List.length
 (S.mkl (S.mdN np) fun (j : Nat) =>
 S.mdR np (fun (j : Nat) => tp (j + ap)) (fun (j : Nat) => vp (j + ap)) j))
 (fun (j : Nat) =>
 Prod.fst
 (S.at'
 (S.mkl (S.mdN np) fun (j : Nat) =>
 S.mdR np (fun (j : Nat) => tp (j + ap)) (fun (j : Nat) => vp (j + ap)) j)
 j))
 (fun (j : Nat) =>
 Prod.fst
 (Prod.snd
 (S.at'
 (S.mkl (S.mdN np) fun (j : Nat) =>
 S.mdR np (fun (j : Nat) => tp (j + ap)) (fun (j : Nat) => vp (j + ap)) j)
 j)))
 (fun (j : Nat) =>
 Prod.snd
 (Prod.snd
 (S.at'
 (S.mkl (S.mdN np) fun (j : Nat) =>
 S.mdR np (fun (j : Nat) => tp (j + ap)) (fun (j : Nat) => vp (j + ap)) j)
 j)))
 (List.length (S.mkl (S.mdN np) fun (j : Nat) => S.mdB o j))
 (fun (j : Nat) => S.at' (S.mkl (S.mdN np) fun (j : Nat) => S.mdB o j) j)
 (List.length x1) fun (j : Nat) => S.at' x1 j)))) :
 Int)) ((0 : Int)) (Prod.fst
 (Prod.snd
 (S.histS
 (List.length
 (S.mkl (S.mdN np) fun (j : Nat) =>
 S.mdR np (fun (j : Nat) => tp (j + ap)) (fun (j : Nat) => vp (j + ap)) j))
 (fun (j : Nat) =>
 Prod.fst
 (S.at'
 (S.mkl (S.mdN np) fun (j : Nat) =>
 S.mdR np (fun (j : Nat) => tp (j + ap)) (fun (j : Nat) => vp (j + ap)) j)
 j))
 (fun (j : Nat) =>
 Prod.fst
 (Prod.snd
 (S.at'
 (S.mkl (S.mdN np) fun (j : Nat) =>
 S.mdR np (fun (j : Nat) => tp (j + ap)) (fun (j : Nat) => vp (j + ap)) j)
 j)))
 (fun (j : Nat) =>
 Prod.snd
 (Prod.snd
 (S.at'
 (S.mkl (S.mdN np) fun (j : Nat) =>
 S.mdR np (fun (j : Nat) => tp (j + ap)) (fun (j : Nat) => vp (j + ap)) j)
 j)))
 (List.length (S.mkl (S.mdN np) fun (j : Nat) => S.mdB o j))
 (fun (j : Nat) => S.at' (S.mkl (S.mdN np) fun (j : Nat) => S.mdB o j) j) (List.length x1)
 fun (j : Nat) => S.at' x1 j))) (Prod.snd
 (Prod.snd
 (S.histS
 (List.length
 (S.mkl (S.mdN np) fun (j : Nat) =>
 S.mdR np (fun (j : Nat) => tp (j + ap)) (fun (j : Nat) => vp (j + ap)) j))
 (fun (j : Nat) =>
 Prod.fst
 (S.at'
 (S.mkl (S.mdN np) fun (j : Nat) =>
 S.mdR np (fun (j : Nat) => tp (j + ap)) (fun (j : Nat) => vp (j + ap)) j)
 j))
 (fun (j : Nat) =>
 Prod.fst
 (Prod.snd
 (S.at'
 (S.mkl (S.mdN np) fun (j : Nat) =>
 S.mdR np (fun (j : Nat) => tp (j + ap)) (fun (j : Nat) => vp (j + ap)) j)
 j)))
 (fun (j : Nat) =>
 Prod.snd
 (Prod.snd
 (S.at'
 (S.mkl (S.mdN np) fun (j : Nat) =>
 S.mdR np (fun (j : Nat) => tp (j + ap)) (fun (j : Nat) => vp (j + ap)) j)
 j)))
 (List.length (S.mkl (S.mdN np) fun (j : Nat) => S.mdB o j))
 (fun (j : Nat) => S.at' (S.mkl (S.mdN np) fun (j : Nat) => S.mdB o j) j) (List.length x1)
 fun (j : Nat) => S.at' x1 j))) (Prod.fst
 (Prod.snd
 (S.histS
 (List.length
 (S.mkl (S.mdN np) fun (j : Nat) =>
 S.mdR np (fun (j : Nat) => tp (j + ap)) (fun (j : Nat) => vp (j + ap)) j))
 (fun (j : Nat) =>
 Prod.fst
 (S.at'
 (S.mkl (S.mdN np) fun (j : Nat) =>
 S.mdR np (fun (j : Nat) => tp (j + ap)) (fun (j : Nat) => vp (j + ap)) j)
 j))
 (fun (j : Nat) =>
 Prod.fst
 (Prod.snd
 (S.at'
 (S.mkl (S.mdN np) fun (j : Nat) =>
 S.mdR np (fun (j : Nat) => tp (j + ap)) (fun (j : Nat) => vp (j + ap)) j)
 j)))
 (fun (j : Nat) =>
 Prod.snd
 (Prod.snd
 (S.at'
 (S.mkl (S.mdN np) fun (j : Nat) =>
 S.mdR np (fun (j : Nat) => tp (j + ap)) (fun (j : Nat) => vp (j + ap)) j)
 j)))
 (List.length (S.mkl (S.mdN np) fun (j : Nat) => S.mdB (S.orB IntKind.u32 o more) j))
 (fun (j : Nat) =>
 S.at' (S.mkl (S.mdN np) fun (j : Nat) => S.mdB (S.orB IntKind.u32 o more) j) j)
 (List.length x2) fun (j : Nat) => S.at' x2 j))) (Prod.snd
 (Prod.snd
 (S.histS
 (List.length
 (S.mkl (S.mdN np) fun (j : Nat) =>
 S.mdR np (fun (j : Nat) => tp (j + ap)) (fun (j : Nat) => vp (j + ap)) j))
 (fun (j : Nat) =>
 Prod.fst
 (S.at'
 (S.mkl (S.mdN np) fun (j : Nat) =>
 S.mdR np (fun (j : Nat) => tp (j + ap)) (fun (j : Nat) => vp (j + ap)) j)
 j))
 (fun (j : Nat) =>
 Prod.fst
 (Prod.snd
 (S.at'
 (S.mkl (S.mdN np) fun (j : Nat) =>
 S.mdR np (fun (j : Nat) => tp (j + ap)) (fun (j : Nat) => vp (j + ap)) j)
 j)))
 (fun (j : Nat) =>
 Prod.snd
 (Prod.snd
 (S.at'
 (S.mkl (S.mdN np) fun (j : Nat) =>
 S.mdR np (fun (j : Nat) => tp (j + ap)) (fun (j : Nat) => vp (j + ap)) j)
 j)))
 (List.length (S.mkl (S.mdN np) fun (j : Nat) => S.mdB (S.orB IntKind.u32 o more) j))
 (fun (j : Nat) =>
 S.at' (S.mkl (S.mdN np) fun (j : Nat) => S.mdB (S.orB IntKind.u32 o more) j) j)
 (List.length x2) fun (j : Nat) => S.at' x2 j)))))))))
 else (none))
 else (none))
 else (none)) : Option (St10 ⊕ Rt10)) = some x) : T10_0 cond Kst Kret ap np mp tp vp o more al nl ml tl vl x0 x1 x2 := by
  unfold T10_0
  exact bif_split h
   (fun c0 h => bif_split h
   (fun c1 h => bif_split h
   (fun c2 h => cond_yes c2 (cond_yes rfl (cond_no rfl (bif_split h
   (fun c3 h => bif_split h
   (fun c4 h => bif_split h
   (fun c5 h => bif_split h
   (fun c6 h => cond_yes rfl (cond_yes rfl (cond_no rfl (cond_yes c3 (cond_yes c4 (cond_yes rfl (cond_no rfl (bif_split h
   (fun c7 h => bif_split h
   (fun c8 h => bif_split h
   (fun c9 h => bif_split h
   (fun c10 h => cond_yes rfl (bif_split h
   (fun c11 h => stop_at hS _ h (fun n => bif Nat.beq n 2 then 2 else bif Nat.beq n 3 then 7 else bif Nat.beq n 4 then 9 else n) rfl rfl rfl ⟨(rn_int rfl), ⟨(rn_ptr (use_own rfl) rfl rfl), ⟨(rn_own (use_own rfl) rfl (snoc_len' rfl)), ⟨(rn_own (use_own rfl) rfl (snoc_len' rfl)), ⟨(rn_unk _), ⟨(rn_unk _), ⟨(rn_loose (use_lo rfl) rfl rfl rfl), ⟨(rn_int rfl), ⟨(rn_int rfl), ⟨(rn_unk _), ⟨(rn_unk _), trivial⟩⟩⟩⟩⟩⟩⟩⟩⟩⟩⟩ rfl (entl_b (use_own rfl) rfl (by simp) (rb_cells ⟨(rn_loose (use_lo rfl) rfl rfl rfl), (rn_int rfl), trivial⟩) (entl_new (use_own rfl) rfl (Nat.le_of_eq (snoc_len' rfl)) (rcs_int (col_snoc' (fun (t : Int) => t) rfl (fun _ _ => rfl)) rcs_nil) (entl_new (use_own rfl) rfl (Nat.le_of_eq (snoc_len' rfl)) (rcs_int (col_snoc' (fun (t : Int) => t) rfl (fun _ _ => rfl)) rcs_nil) (entl_bor (use_lo rfl) rfl rfl (entl_bor (use_lo rfl) rfl rfl entl_nil))))))
   (fun c11 h => no_some h)))
   (fun c10 h => no_some h))
   (fun c9 h => no_some h))
   (fun c8 h => no_some h))
   (fun c7 h => no_some h)))))))))
   (fun c6 h => no_some h))
   (fun c5 h => no_some h))
   (fun c4 h => no_some h))
   (fun c3 h => no_some h)))))
   (fun c2 h => no_some h))
   (fun c1 h => no_some h))
   (fun c0 h => bif_split h
   (fun c1 h => bif_split h
   (fun c2 h => cond_yes c1 (bif_split h
   (fun c3 h => bif_split h
   (fun c4 h => ret_at hR _ h (fun n => n) rfl rfl rfl (rn_bool_tf rfl) rfl (entl_bor (use_lo rfl) rfl rfl (entl_bor (use_lo rfl) rfl rfl entl_nil)))
   (fun c4 h => bif_split h
   (fun c5 h => ret_at hR _ h (fun n => n) rfl rfl rfl (rn_bool_tf rfl) rfl (entl_bor (use_lo rfl) rfl rfl (entl_bor (use_lo rfl) rfl rfl entl_nil)))
   (fun c5 h => bif_split h
   (fun c6 h => ret_at hR _ h (fun n => n) rfl rfl rfl (rn_bool_tf rfl) rfl (entl_bor (use_lo rfl) rfl rfl (entl_bor (use_lo rfl) rfl rfl entl_nil)))
   (fun c6 h => stop_at hS _ h (fun n => bif Nat.beq n 2 then 12 else bif Nat.beq n 3 then 10 else bif Nat.beq n 4 then 11 else bif Nat.beq n 5 then 19 else bif Nat.beq n 6 then 17 else bif Nat.beq n 7 then 18 else n) rfl rfl rfl ⟨(rn_unk _), ⟨(rn_unk _), ⟨(rn_unk _), ⟨(rn_unk _), ⟨(rn_ptr (use_own rfl) rfl rfl), ⟨(rn_ptr (use_own rfl) rfl rfl), ⟨(rn_unk _), ⟨(rn_unk _), ⟨(rn_unk _), ⟨(rn_int rfl), ⟨(rn_int rfl), trivial⟩⟩⟩⟩⟩⟩⟩⟩⟩⟩⟩ rfl (entl_b (use_own rfl) rfl (by simp) (rb_cells ⟨(rn_own (use_own rfl) rfl rfl), (rn_own (use_own rfl) rfl rfl), trivial⟩) (entl_new (use_own rfl) rfl (Nat.le_of_eq rfl) (rcs_int (fun _ _ => rfl) (rcs_int (fun _ _ => rfl) (rcs_int (fun _ _ => rfl) rcs_nil))) (entl_new (use_own rfl) rfl (Nat.le_of_eq rfl) (rcs_bool (fun _ _ => rfl) rcs_nil) (entl_b (use_own rfl) rfl (by simp) (rb_cells ⟨(rn_own (use_own rfl) rfl rfl), (rn_own (use_own rfl) rfl rfl), trivial⟩) (entl_new (use_own rfl) rfl (Nat.le_of_eq rfl) (rcs_int (fun _ _ => rfl) (rcs_int (fun _ _ => rfl) (rcs_int (fun _ _ => rfl) rcs_nil))) (entl_new (use_own rfl) rfl (Nat.le_of_eq rfl) (rcs_bool (fun _ _ => rfl) rcs_nil) (entl_bor (use_lo rfl) rfl rfl (entl_bor (use_lo rfl) rfl rfl entl_nil))))))))))))
   (fun c3 h => no_some h)))
   (fun c2 h => no_some h))
   (fun c1 h => no_some h))
set_option maxRecDepth 100000 in
theorem b10_1 (ap np mp : Nat) (tp : Nat → Int) (vp : Nat → Int) (o : Int) (more : Int) (al nl ml : Nat) (tl : Nat → Int) (vl : Nat → Int) (Kst : KS) (Kret : KR) (x : St10 ⊕ Rt10) (hS : HS 2 400 ((I10 ap np mp tp vp o more al nl ml tl vl)) Kst x) (hR : HR 2 400 ((V10 ap np mp tp vp o more al nl ml tl vl)) (fun r => [newL (2 + 1) ((N10 ap np mp tp vp o more al nl ml tl vl) r) ++ [(0, (false, .cols mp [.int .u8 tp, .int .u8 vp])), (1, (false, .cols ml [.int .u8 tl, .int .u8 vl]))]]) Kret x) (x0 : Int) (x1 : Int) (x2 : List (Int × Int × Int)) (x3 : List Bool) (x4 : List (Int × Int × Int)) (x5 : List Bool) (h : (bif (decide (x1 < x0))
 then (bif (decide ((0 : Int) ≤ x1 ∧ x1 < (↑(List.length x3) : Int)))
 then (bif (decide (Int.toNat x1 < List.length x3))
 then (bif (S.at' x3 (Int.toNat x1))
 then (bif (decide ((0 : Int) ≤ x1 ∧ x1 < (↑(List.length x5) : Int)))
 then (bif (decide (Int.toNat x1 < List.length x5))
 then (bif (S.at' x5 (Int.toNat x1))
 then (bif (lim IntKind.i64 (x1 + (1 : Int)))
 then (some (.inl (.h1 (x0) (x1 + (1 : Int)) (x2) (x3) (x4) (x5))))
 else (none))
 else (some (.inr (false))))
 else (none))
 else (none))
 else (bif (lim IntKind.i64 (x1 + (1 : Int)))
 then (some (.inl (.h1 (x0) (x1 + (1 : Int)) (x2) (x3) (x4) (x5))))
 else (none)))
 else (none))
 else (none))
 else (some (.inr (true))) : Option (St10 ⊕ Rt10)) = some x) : T10_1 cond Kst Kret ap np mp tp vp o more al nl ml tl vl x0 x1 x2 x3 x4 x5 := by
  unfold T10_1
  exact bif_split h
   (fun c0 h => bif_split h
   (fun c1 h => bif_split h
   (fun c2 h => bif_split h
   (fun c3 h => bif_split h
   (fun c4 h => bif_split h
   (fun c5 h => bif_split h
   (fun c6 h => bif_split h
   (fun c7 h => stop_at hS _ h (fun n => bif Nat.beq n 2 then 2 else bif Nat.beq n 3 then 3 else bif Nat.beq n 4 then 4 else bif Nat.beq n 5 then 5 else bif Nat.beq n 6 then 6 else bif Nat.beq n 7 then 7 else n) rfl rfl rfl ⟨(rn_unk _), ⟨(rn_unk _), ⟨(rn_unk _), ⟨(rn_unk _), ⟨(rn_ptr (use_own rfl) rfl rfl), ⟨(rn_ptr (use_own rfl) rfl rfl), ⟨(rn_unk _), ⟨(rn_unk _), ⟨(rn_unk _), ⟨(rn_int rfl), ⟨(rn_int rfl), trivial⟩⟩⟩⟩⟩⟩⟩⟩⟩⟩⟩ rfl (entl_b (use_own rfl) rfl (by simp) (rb_cells ⟨(rn_own (use_own rfl) rfl rfl), (rn_own (use_own rfl) rfl rfl), trivial⟩) (entl_new (use_own rfl) rfl (Nat.le_of_eq rfl) (rcs_int (fun _ _ => rfl) (rcs_int (fun _ _ => rfl) (rcs_int (fun _ _ => rfl) rcs_nil))) (entl_new (use_own rfl) rfl (Nat.le_of_eq rfl) (rcs_bool (fun _ _ => rfl) rcs_nil) (entl_b (use_own rfl) rfl (by simp) (rb_cells ⟨(rn_own (use_own rfl) rfl rfl), (rn_own (use_own rfl) rfl rfl), trivial⟩) (entl_new (use_own rfl) rfl (Nat.le_of_eq rfl) (rcs_int (fun _ _ => rfl) (rcs_int (fun _ _ => rfl) (rcs_int (fun _ _ => rfl) rcs_nil))) (entl_new (use_own rfl) rfl (Nat.le_of_eq rfl) (rcs_bool (fun _ _ => rfl) rcs_nil) (entl_bor (use_lo rfl) rfl rfl (entl_bor (use_lo rfl) rfl rfl entl_nil)))))))))
   (fun c7 h => no_some h))
   (fun c6 h => ret_at hR _ h (fun n => n) rfl rfl rfl (rn_bool_tf rfl) rfl (entl_bor (use_lo rfl) rfl rfl (entl_bor (use_lo rfl) rfl rfl entl_nil))))
   (fun c5 h => no_some h))
   (fun c4 h => no_some h))
   (fun c3 h => bif_split h
   (fun c4 h => stop_at hS _ h (fun n => bif Nat.beq n 2 then 2 else bif Nat.beq n 3 then 3 else bif Nat.beq n 4 then 4 else bif Nat.beq n 5 then 5 else bif Nat.beq n 6 then 6 else bif Nat.beq n 7 then 7 else n) rfl rfl rfl ⟨(rn_unk _), ⟨(rn_unk _), ⟨(rn_unk _), ⟨(rn_unk _), ⟨(rn_ptr (use_own rfl) rfl rfl), ⟨(rn_ptr (use_own rfl) rfl rfl), ⟨(rn_unk _), ⟨(rn_unk _), ⟨(rn_unk _), ⟨(rn_int rfl), ⟨(rn_int rfl), trivial⟩⟩⟩⟩⟩⟩⟩⟩⟩⟩⟩ rfl (entl_b (use_own rfl) rfl (by simp) (rb_cells ⟨(rn_own (use_own rfl) rfl rfl), (rn_own (use_own rfl) rfl rfl), trivial⟩) (entl_new (use_own rfl) rfl (Nat.le_of_eq rfl) (rcs_int (fun _ _ => rfl) (rcs_int (fun _ _ => rfl) (rcs_int (fun _ _ => rfl) rcs_nil))) (entl_new (use_own rfl) rfl (Nat.le_of_eq rfl) (rcs_bool (fun _ _ => rfl) rcs_nil) (entl_b (use_own rfl) rfl (by simp) (rb_cells ⟨(rn_own (use_own rfl) rfl rfl), (rn_own (use_own rfl) rfl rfl), trivial⟩) (entl_new (use_own rfl) rfl (Nat.le_of_eq rfl) (rcs_int (fun _ _ => rfl) (rcs_int (fun _ _ => rfl) (rcs_int (fun _ _ => rfl) rcs_nil))) (entl_new (use_own rfl) rfl (Nat.le_of_eq rfl) (rcs_bool (fun _ _ => rfl) rcs_nil) (entl_bor (use_lo rfl) rfl rfl (entl_bor (use_lo rfl) rfl rfl entl_nil)))))))))
   (fun c4 h => no_some h)))
   (fun c2 h => no_some h))
   (fun c1 h => no_some h))
   (fun c0 h => ret_at hR _ h (fun n => n) rfl rfl rfl (rn_bool_tf rfl) rfl (entl_bor (use_lo rfl) rfl rfl (entl_bor (use_lo rfl) rfl rfl entl_nil)))
theorem a10 (ap np mp : Nat) (tp : Nat → Int) (vp : Nat → Int) (o : Int) (more : Int) (al nl ml : Nat) (tl : Nat → Int) (vl : Nat → Int) {r : Rt10} (h : Goes ((q10 ap np mp tp vp o more al nl ml tl vl)) ((p10 ap np mp tp vp o more al nl ml tl vl)) r) : CallR Try.prog 10 [.agg [.loose ⟨0, 2, ap, 0⟩ np, .int .u32 o], .int .u32 more, .loose ⟨1, 2, al, 0⟩ nl] [[(0, (false, .cols mp [.int .u8 tp, .int .u8 vp])), (1, (false, .cols ml [.int .u8 tl, .int .u8 vl]))]] 2 ((V10 ap np mp tp vp o more al nl ml tl vl) r) ((fun r => [newL (2 + 1) ((N10 ap np mp tp vp o more al nl ml tl vl) r) ++ [(0, (false, .cols mp [.int .u8 tp, .int .u8 vp])), (1, (false, .cols ml [.int .u8 tl, .int .u8 vl]))]]) r) 400 ∧ ∃ F, Try.prog.funcs[10]? = some F ∧ F.body.isSome = true ∧ (F.name == "runtime.NumGoroutine") = false := by
  refine dec_calls (f := 10) (lo := 2) (hi := 400) (H := [[(0, (false, .cols mp [.int .u8 tp, .int .u8 vp])), (1, (false, .cols ml [.int .u8 tl, .int .u8 vl]))]]) (args := [.agg [.loose ⟨0, 2, ap, 0⟩ np, .int .u32 o], .int .u32 more, .loose ⟨1, 2, al, 0⟩ nl]) Try.envOk Try.mixed yE4_ok ((I10 ap np mp tp vp o more al nl ml tl vl)) ((V10 ap np mp tp vp o more al nl ml tl vl)) (fun r => [newL (2 + 1) ((N10 ap np mp tp vp o more al nl ml tl vl) r) ++ [(0, (false, .cols mp [.int .u8 tp, .int .u8 vp])), (1, (false, .cols ml [.int .u8 tl, .int .u8 vl]))]]) (fn := mkFn Try.f10) (ts := [1, 3, 7, 8, 12, 14, 25, 26, 27, 90, 91]) (n := 400) rfl (by decide) (by simp) (names_of rfl) ?_ ?_ ?_ h
  · intro s; cases s <;> exact ⟨hd_ok _ _, by simp [I10], names_of rfl, Nat.le_of_ble_eq_true rfl⟩
  · intro Kst Kret x hS hR h
    exact Holds.eq (te10 cond Kst Kret ap np mp tp vp o more al nl ml tl vl) (be10 ap np mp tp vp o more al nl ml tl vl Kst Kret x hS hR h)
  · intro Kst Kret x hS hR s h
    cases s with
    | h0 x0 x1 x2 => exact Holds.eq (t10_0 cond Kst Kret ap np mp tp vp o more al nl ml tl vl x0 x1 x2) (b10_0 ap np mp tp vp o more al nl ml tl vl Kst Kret x hS hR x0 x1 x2 h)
    | h1 x0 x1 x2 x3 x4 x5 => exact Holds.eq (t10_1 cond Kst Kret ap np mp tp vp o more al nl ml tl vl x0 x1 x2 x3 x4 x5) (b10_1 ap np mp tp vp o more al nl ml tl vl Kst Kret x hS hR x0 x1 x2 x3 x4 x5 h)
noncomputable def k10 : Con := ⟨10, [.agg [.list [.int .u8, .int .u8], .plain (.int .u32)], .one (.plain (.int .u32)), .one (.list [.int .u8, .int .u8])], fun (x : ((Nat × Nat × Nat × (Nat → Int) × (Nat → Int) × Unit) × Int × Unit) × Int × (Nat × Nat × Nat × (Nat → Int) × (Nat → Int) × Unit) × Unit) => (fun (ap np mp : Nat) (tp : Nat → Int) (vp : Nat → Int) (o : Int) (more : Int) (al nl ml : Nat) (tl : Nat → Int) (vl : Nat → Int) => decide (ap + np ≤ mp ∧ S.bytes np (fun j => tp (j + ap)) = true ∧ S.bytes np (fun j => vp (j + ap)) = true ∧ al + nl ≤ ml ∧ S.bytes nl (fun j => tl (j + al)) = true ∧ S.bytes nl (fun j => vl (j + al)) = true ∧ S.word o = true ∧ S.word more = true)) x.1.1.1 x.1.1.2.1 x.1.1.2.2.1 x.1.1.2.2.2.1 x.1.1.2.2.2.2.1 x.1.2.1 x.2.1 x.2.2.1.1 x.2.2.1.2.1 x.2.2.1.2.2.1 x.2.2.1.2.2.2.1 x.2.2.1.2.2.2.2.1, fun (x : ((Nat × Nat × Nat × (Nat → Int) × (Nat → Int) × Unit) × Int × Unit) × Int × (Nat × Nat × Nat × (Nat → Int) × (Nat → Int) × Unit) × Unit) => (fun (ap np mp : Nat) (tp : Nat → Int) (vp : Nat → Int) (o : Int) (more : Int) (al nl ml : Nat) (tl : Nat → Int) (vl : Nat → Int) => (V10 ap np mp tp vp o more al nl ml tl vl) (true)) x.1.1.1 x.1.1.2.1 x.1.1.2.2.1 x.1.1.2.2.2.1 x.1.1.2.2.2.2.1 x.1.2.1 x.2.1 x.2.2.1.1 x.2.2.1.2.1 x.2.2.1.2.2.1 x.2.2.1.2.2.2.1 x.2.2.1.2.2.2.2.1, fun (x : ((Nat × Nat × Nat × (Nat → Int) × (Nat → Int) × Unit) × Int × Unit) × Int × (Nat × Nat × Nat × (Nat → Int) × (Nat → Int) × Unit) × Unit) => (fun (ap np mp : Nat) (tp : Nat → Int) (vp : Nat → Int) (o : Int) (more : Int) (al nl ml : Nat) (tl : Nat → Int) (vl : Nat → Int) => (N10 ap np mp tp vp o more al nl ml tl vl) (true)) x.1.1.1 x.1.1.2.1 x.1.1.2.2.1 x.1.1.2.2.2.1 x.1.1.2.2.2.2.1 x.1.2.1 x.2.1 x.2.2.1.1 x.2.2.1.2.1 x.2.2.1.2.2.1 x.2.2.1.2.2.2.1 x.2.2.1.2.2.2.2.1, fun _ _ => .dead⟩
theorem s10c (ap np mp : Nat) (tp : Nat → Int) (vp : Nat → Int) (o : Int) (more : Int) (al nl ml : Nat) (tl : Nat → Int) (vl : Nat → Int) (hp : ap + np ≤ mp ∧ S.bytes np (fun j => tp (j + ap)) = true ∧ S.bytes np (fun j => vp (j + ap)) = true ∧ al + nl ≤ ml ∧ S.bytes nl (fun j => tl (j + al)) = true ∧ S.bytes nl (fun j => vl (j + al)) = true ∧ S.word o = true ∧ S.word more = true) (X Y : List (Int × Int × Int)) (A C : List Bool) (hl : A.length = C.length) (hn : A.length ≤ 1000) (hi : ∀ j, j < A.length → S.at' A j = true → S.at' C j = true) : ∀ k i : Nat, i + k = A.length → Comes (q10 ap np mp tp vp o more al nl ml tl vl) (.h1 (A.length : Int) (i : Int) X A Y C) true := by
  intro k
  induction k with
  | zero =>
    intro i h
    apply Comes.of
    show Goes _ _ _
    unfold q10
    repeat' first
      | with_reducible refine goes_if (fun h => ?_) (fun h => ?_) <;> (try simp only [lim64, decide_eq_true_eq, decide_eq_false_iff_not, Int.toNat_natCast, toNat_pred, toNat_succ, Option.getD_some, Option.getD_none, Bool.not_eq_true', Bool.not_eq_false', Bool.and_eq_true, Bool.or_eq_true, Bool.and_eq_false_iff, Bool.or_eq_false_iff, bne_iff_ne, beq_iff_eq, bne_eq_false_iff_eq, beq_eq_false_iff_ne, ne_eq, not_and, Int.not_le, Int.not_lt, ge_iff_le, gt_iff_lt, Nat.not_lt, Nat.not_le, Bool.not_eq_true, Bool.not_eq_false, Bool.true_eq_false, Bool.false_eq_true, not_false_eq_true, not_true_eq_false] at h)
      | exact goes_none.mpr (by omega)
    all_goals first | (exfalso; omega) | rfl
  | succ k ih =>
    intro i h
    have ih := ih (i + 1) (by omega)
    have hb := hi i (by omega)
    generalize hA : S.at' A i = a at hb
    generalize hC : S.at' C i = c at hb
    apply Comes.of
    show Goes _ _ _
    unfold q10
    simp only [Int.toNat_natCast, hA, hC]
    cases a <;> cases c
    all_goals (
      repeat' first
        | with_reducible refine goes_if (fun h => ?_) (fun h => ?_) <;> (try simp only [lim64, decide_eq_true_eq, decide_eq_false_iff_not, Int.toNat_natCast, toNat_pred, toNat_succ, Option.getD_some, Option.getD_none, Bool.not_eq_true', Bool.not_eq_false', Bool.and_eq_true, Bool.or_eq_true, Bool.and_eq_false_iff, Bool.or_eq_false_iff, bne_iff_ne, beq_iff_eq, bne_eq_false_iff_eq, beq_eq_false_iff_ne, ne_eq, not_and, Int.not_le, Int.not_lt, ge_iff_le, gt_iff_lt, Nat.not_lt, Nat.not_le, Bool.not_eq_true, Bool.not_eq_false, Bool.true_eq_false, Bool.false_eq_true, not_false_eq_true, not_true_eq_false] at h)
        | exact goes_none.mpr (by omega)
      )
    all_goals first | (exfalso; omega) | exact ih | (exfalso; exact absurd (hb rfl) (by decide)) | (exfalso; contradiction)
theorem s10b (ap np mp : Nat) (tp : Nat → Int) (vp : Nat → Int) (o : Int) (more : Int) (al nl ml : Nat) (tl : Nat → Int) (vl : Nat → Int) (hp : ap + np ≤ mp ∧ S.bytes np (fun j => tp (j + ap)) = true ∧ S.bytes np (fun j => vp (j + ap)) = true ∧ al + nl ≤ ml ∧ S.bytes nl (fun j => tl (j + al)) = true ∧ S.bytes nl (fun j => vl (j + al)) = true ∧ S.word o = true ∧ S.word more = true) (hn : nl ≤ 60) : Comes (q10 ap np mp tp vp o more al nl ml tl vl) (.h0 (nl : Int) (S.mkl nl fun j => S.inp (tl (j + al))) (S.mkl nl fun j => S.inp (tl (j + al)) + Int.tmod (vl (j + al)) 8)) true := by
  have hp' := hp
  obtain ⟨hp1, hp2, hp3, hp4, hp5, hp6, hp7, hp8⟩ := hp
  have r1 : ∀ y ∈ (S.mkl nl fun j => S.inp (tl (j + al))), -1099511627776 ≤ y ∧ y ≤ 1099511627776 := fun y hy => by
    obtain ⟨j, hj, rfl⟩ := mkl_mem.mp hy
    have := inp_range (x := tl (j + al)) (of_decide_eq_true hp5 j hj)
    show -1099511627776 ≤ S.inp (tl (j + al)) ∧ S.inp (tl (j + al)) ≤ 1099511627776
    omega
  have r2 : ∀ y ∈ (S.mkl nl fun j => S.inp (tl (j + al)) + Int.tmod (vl (j + al)) 8), -1099511627776 ≤ y ∧ y ≤ 1099511627776 := fun y hy => by
    obtain ⟨j, hj, rfl⟩ := mkl_mem.mp hy
    have := inp_range (x := tl (j + al)) (of_decide_eq_true hp5 j hj)
    have := byte_rem (x := vl (j + al)) (of_decide_eq_true hp6 j hj)
    show -1099511627776 ≤ S.inp (tl (j + al)) + Int.tmod (vl (j + al)) 8 ∧ S.inp (tl (j + al)) + Int.tmod (vl (j + al)) 8 ≤ 1099511627776
    omega
  have l1 : (S.mkl nl fun j => S.inp (tl (j + al))).length = nl := mkl_len
  have l2 : (S.mkl nl fun j => S.inp (tl (j + al)) + Int.tmod (vl (j + al)) 8).length = nl := mkl_len
  obtain ⟨n1, n2, -⟩ := mdN_le (np := np)
  have hlt := made_lt hp2 hp3
  have e1 := made_hist hp2 hp3 (S.mkl nl fun j => S.inp (tl (j + al))) (fun j => S.mdB o j) (by omega) r1
  have e2 := made_hist hp2 hp3 (S.mkl nl fun j => S.inp (tl (j + al)) + Int.tmod (vl (j + al)) 8) (fun j => S.mdB (S.orB .u32 o more) j) (by omega) r2
  have hm : ∀ j, j < S.mdN np → S.at' (S.mkl (S.mdN np) fun j => (S.mkl nl fun j => S.inp (tl (j + al))).foldl (S.aft ((S.mdR np (fun j => tp (j + ap)) (fun j => vp (j + ap)) j).1) ((S.mdR np (fun j => tp (j + ap)) (fun j => vp (j + ap)) j).2.1)) (S.mdB o j)) j = true → S.at' (S.mkl (S.mdN np) fun j => (S.mkl nl fun j => S.inp (tl (j + al)) + Int.tmod (vl (j + al)) 8).foldl (S.aft ((S.mdR np (fun j => tp (j + ap)) (fun j => vp (j + ap)) j).1) ((S.mdR np (fun j => tp (j + ap)) (fun j => vp (j + ap)) j).2.1)) (S.mdB (S.orB .u32 o more) j)) j = true := fun j hj h => by
    rw [at_mkl hj, ← aftN_fold] at h ⊢
    refine fold_mono (hlt j hj).1 (fun hb => bits_or (of_decide_eq_true hp7) (of_decide_eq_true hp8) (by omega) hb) (fun q hq => ?_) h
    have := byte_rem (x := vl (q + al)) (of_decide_eq_true hp6 q hq)
    show S.inp (tl (q + al)) ≤ S.inp (tl (q + al)) + Int.tmod (vl (q + al)) 8
    omega
  have c1 : (S.mkl (S.mdN np) fun j => (S.mkl nl fun j => S.inp (tl (j + al))).foldl (S.aft ((S.mdR np (fun j => tp (j + ap)) (fun j => vp (j + ap)) j).1) ((S.mdR np (fun j => tp (j + ap)) (fun j => vp (j + ap)) j).2.1)) (S.mdB o j)).length = S.mdN np := mkl_len
  have c2 : (S.mkl (S.mdN np) fun j => (S.mkl nl fun j => S.inp (tl (j + al)) + Int.tmod (vl (j + al)) 8).foldl (S.aft ((S.mdR np (fun j => tp (j + ap)) (fun j => vp (j + ap)) j).1) ((S.mdR np (fun j => tp (j + ap)) (fun j => vp (j + ap)) j).2.1)) (S.mdB (S.orB .u32 o more) j)).length = S.mdN np := mkl_len
  have hA : (S.mkl (S.mdN np) fun j => S.mdR np (fun j => tp (j + ap)) (fun j => vp (j + ap)) j).length = S.mdN np := mkl_len
  have hB1 : (S.mkl (S.mdN np) fun j => S.mdB o j).length = S.mdN np := mkl_len
  have hB2 : (S.mkl (S.mdN np) fun j => S.mdB (S.orB .u32 o more) j).length = S.mdN np := mkl_len
  generalize (S.mkl nl fun j => S.inp (tl (j + al))) = L1 at *
  generalize (S.mkl nl fun j => S.inp (tl (j + al)) + Int.tmod (vl (j + al)) 8) = L2 at *
  have hfin := s10c ap np mp tp vp o more al nl ml tl vl hp' (S.mkl (S.mdN np) fun j => S.mdR np (fun j => tp (j + ap)) (fun j => vp (j + ap)) j) (S.mkl (S.mdN np) fun j => S.mdR np (fun j => tp (j + ap)) (fun j => vp (j + ap)) j) (S.mkl (S.mdN np) fun j => (L1).foldl (S.aft ((S.mdR np (fun j => tp (j + ap)) (fun j => vp (j + ap)) j).1) ((S.mdR np (fun j => tp (j + ap)) (fun j => vp (j + ap)) j).2.1)) (S.mdB o j)) (S.mkl (S.mdN np) fun j => (L2).foldl (S.aft ((S.mdR np (fun j => tp (j + ap)) (fun j => vp (j + ap)) j).1) ((S.mdR np (fun j => tp (j + ap)) (fun j => vp (j + ap)) j).2.1)) (S.mdB (S.orB .u32 o more) j)) (by rw [c1, c2]) (by omega) (fun j hj => hm j (by omega)) (S.mdN np) 0 (by omega)
  refine Comes.next (s' := .h1 ((S.mkl (S.mdN np) fun j => (L1).foldl (S.aft ((S.mdR np (fun j => tp (j + ap)) (fun j => vp (j + ap)) j).1) ((S.mdR np (fun j => tp (j + ap)) (fun j => vp (j + ap)) j).2.1)) (S.mdB o j)).length : Int) (0 : Int) (S.mkl (S.mdN np) fun j => S.mdR np (fun j => tp (j + ap)) (fun j => vp (j + ap)) j) (S.mkl (S.mdN np) fun j => (L1).foldl (S.aft ((S.mdR np (fun j => tp (j + ap)) (fun j => vp (j + ap)) j).1) ((S.mdR np (fun j => tp (j + ap)) (fun j => vp (j + ap)) j).2.1)) (S.mdB o j)) (S.mkl (S.mdN np) fun j => S.mdR np (fun j => tp (j + ap)) (fun j => vp (j + ap)) j) (S.mkl (S.mdN np) fun j => (L2).foldl (S.aft ((S.mdR np (fun j => tp (j + ap)) (fun j => vp (j + ap)) j).1) ((S.mdR np (fun j => tp (j + ap)) (fun j => vp (j + ap)) j).2.1)) (S.mdB (S.orB .u32 o more) j))) ?_ hfin
  unfold q10
  simp only [e1, e2]
  clear hfin hm e1 e2
  generalize (S.mkl (S.mdN np) fun j => S.mdR np (fun j => tp (j + ap)) (fun j => vp (j + ap)) j) = A at *
  generalize (S.mkl (S.mdN np) fun j => S.mdB o j) = B1 at *
  generalize (S.mkl (S.mdN np) fun j => S.mdB (S.orB .u32 o more) j) = B2 at *
  generalize (S.mkl (S.mdN np) fun j => (L1).foldl (S.aft ((S.mdR np (fun j => tp (j + ap)) (fun j => vp (j + ap)) j).1) ((S.mdR np (fun j => tp (j + ap)) (fun j => vp (j + ap)) j).2.1)) (S.mdB o j)) = C1 at *
  generalize (S.mkl (S.mdN np) fun j => (L2).foldl (S.aft ((S.mdR np (fun j => tp (j + ap)) (fun j => vp (j + ap)) j).1) ((S.mdR np (fun j => tp (j + ap)) (fun j => vp (j + ap)) j).2.1)) (S.mdB (S.orB .u32 o more) j)) = C2 at *
  refine bif_f (by apply decide_eq_false; omega) (bif_t (decide_eq_true ⟨hp1, hp2, hp3⟩) ?_)
  have hne : ((C1.length : Int) != (C2.length : Int)) = false := by rw [c1, c2]; exact bne_self_eq_false _
  repeat' first
    | with_reducible rfl
    | (refine bif_t ?_ ?_; focus (first | with_reducible exact beq_self_eq_true _ | (simp only [Bool.and_eq_true, decide_eq_true_eq, and_self, eq_self]; done) | with_reducible exact decide_eq_true trivial | with_reducible exact decide_eq_true rfl | (simp only [eq_self, decide_true, Bool.and_self, Bool.and_true, Bool.true_and]; done) | (apply decide_eq_true; omega) | (rw [lim64]; apply decide_eq_true; omega) | (apply decide_eq_true; simp only [mkl_len, mkl_zero, List.length_nil, true_and, and_true, and_self, Nat.zero_add, Nat.add_zero, Nat.le_refl]; done) | (apply decide_eq_true; simp only [mkl_len, mkl_zero, List.length_nil, true_and, and_true, and_self, Nat.zero_add, Nat.add_zero, Nat.le_refl]; omega) | decide))
    | (refine bif_f ?_ ?_; focus (first | exact hne | with_reducible exact bne_self_eq_false _ | (apply decide_eq_false; omega) | decide))
theorem s10' (ap np mp : Nat) (tp : Nat → Int) (vp : Nat → Int) (o : Int) (more : Int) (al nl ml : Nat) (tl : Nat → Int) (vl : Nat → Int) (hp : ap + np ≤ mp ∧ S.bytes np (fun j => tp (j + ap)) = true ∧ S.bytes np (fun j => vp (j + ap)) = true ∧ al + nl ≤ ml ∧ S.bytes nl (fun j => tl (j + al)) = true ∧ S.bytes nl (fun j => vl (j + al)) = true ∧ S.word o = true ∧ S.word more = true) (hn : nl ≤ 60) : ∀ (k i : Nat) (L1 : List Int) (L2 : List Int), i + k = nl → Holds (L1 = S.mkl i fun j => S.inp (tl (j + al))) → Holds (L2 = S.mkl i fun j => S.inp (tl (j + al)) + Int.tmod (vl (j + al)) 8) → Comes (q10 ap np mp tp vp o more al nl ml tl vl) (.h0 (i : Int) L1 L2) (true) := by
  obtain ⟨hp1, hp2, hp3, hp4, hp5, hp6, hp7, hp8⟩ := hp
  intro k
  induction k with
  | zero =>
    intro i L1 L2 hi eL1 eL2
    have hb := s10b ap np mp tp vp o more al nl ml tl vl ⟨hp1, hp2, hp3, hp4, hp5, hp6, hp7, hp8⟩ hn
    obtain rfl : nl = i := by omega
    rw [eL1.get, eL2.get]
    exact hb
    /-
    have q1 : L1.length = i := by rw [eL1.get]; exact mkl_len
    have q2 : L2.length = i := by rw [eL2.get]; exact mkl_len
    apply Comes.of
    show Goes _ _ _
    unfold q10
    repeat' first
      | with_reducible refine goes_if (fun h => ?_) (fun h => ?_) <;> (try simp only [lim64, decide_eq_true_eq, decide_eq_false_iff_not, Int.toNat_natCast, toNat_pred, toNat_succ, Option.getD_some, Option.getD_none, Bool.not_eq_true', Bool.not_eq_false', Bool.and_eq_true, Bool.or_eq_true, Bool.and_eq_false_iff, Bool.or_eq_false_iff, bne_iff_ne, beq_iff_eq, bne_eq_false_iff_eq, beq_eq_false_iff_ne, ne_eq, not_and, Int.not_le, Int.not_lt, ge_iff_le, gt_iff_lt, Nat.not_lt, Nat.not_le, Bool.not_eq_true, Bool.not_eq_false, Bool.true_eq_false, Bool.false_eq_true, not_false_eq_true, not_true_eq_false] at h)
      | exact goes_none.mpr (by omega)
    all_goals first | (exfalso; omega) | (obtain rfl : nl = i := (by omega); rw [eL1.get]; rw [eL2.get]; rfl)
    -/
  | succ k ih =>
    intro i L1 L2 hi eL1 eL2
    have q1 : L1.length = i := by rw [eL1.get]; exact mkl_len
    have q2 : L2.length = i := by rw [eL2.get]; exact mkl_len
    have b1 := of_decide_eq_true hp5 i (by omega)
    have b2 := of_decide_eq_true hp6 i (by omega)
    simp only at b1 b2
    have c1 := byte_div b1
    have c2 := byte_rem b2
    apply Comes.of
    show Goes _ _ _
    unfold q10
    repeat' first
      | with_reducible refine goes_if (fun h => ?_) (fun h => ?_) <;> (try simp only [lim64, decide_eq_true_eq, decide_eq_false_iff_not, Int.toNat_natCast, toNat_pred, toNat_succ, Option.getD_some, Option.getD_none, Bool.not_eq_true', Bool.not_eq_false', Bool.and_eq_true, Bool.or_eq_true, Bool.and_eq_false_iff, Bool.or_eq_false_iff, bne_iff_ne, beq_iff_eq, bne_eq_false_iff_eq, beq_eq_false_iff_ne, ne_eq, not_and, Int.not_le, Int.not_lt, ge_iff_le, gt_iff_lt, Nat.not_lt, Nat.not_le, Bool.not_eq_true, Bool.not_eq_false, Bool.true_eq_false, Bool.false_eq_true, not_false_eq_true, not_true_eq_false] at h)
      | exact goes_none.mpr (by omega)
    all_goals first
      | (exfalso; omega)
      | (refine ih (i + 1) _ _ (by omega) ⟨?_⟩ ⟨?_⟩ <;> first | (rw [eL1.get, mkl_succ]; rfl) | (rw [eL2.get, mkl_succ]; rfl))
      | (refine ih (i + 1) _ _ (by omega) ⟨?_⟩ ⟨?_⟩ <;> (skip))
theorem s10 (ap np mp : Nat) (tp : Nat → Int) (vp : Nat → Int) (o : Int) (more : Int) (al nl ml : Nat) (tl : Nat → Int) (vl : Nat → Int) (hp : ap + np ≤ mp ∧ S.bytes np (fun j => tp (j + ap)) = true ∧ S.bytes np (fun j => vp (j + ap)) = true ∧ al + nl ≤ ml ∧ S.bytes nl (fun j => tl (j + al)) = true ∧ S.bytes nl (fun j => vl (j + al)) = true ∧ S.word o = true ∧ S.word more = true) : Goes ((q10 ap np mp tp vp o more al nl ml tl vl)) ((p10 ap np mp tp vp o more al nl ml tl vl)) (true) := by
  unfold p10
  by_cases h1 : (nl : Int) > 60
  · exact goes_ok (decide_eq_true h1) rfl
  exact goes_no (decide_eq_false h1) (s10' ap np mp tp vp o more al nl ml tl vl hp (by omega) nl 0 [] [] (by omega) ⟨rfl⟩ ⟨rfl⟩)

theorem k10_ok : k10.ok Try.prog := by
  intro x hx
  obtain ⟨⟨⟨ap, np, mp, tp, vp, _⟩, o, _⟩, more, ⟨al, nl, ml, tl, vl, _⟩, _⟩ := x
  obtain ⟨h1, h2⟩ := a10 ap np mp tp vp o more al nl ml tl vl (s10 ap np mp tp vp o more al nl ml tl vl (of_decide_eq_true hx))
  exact ⟨⟨400, (by decide : 2 + 1 + 0 ≤ 400), h1⟩, h2⟩


end Go.Ev
