/-
  The parts that the statement needs, 4 of 4.
-/
import Derived.Test.YtpnklpakehlbeaaV73
namespace Go.Ev
open Go.Proofs
open Go.IntWalk
set_option linter.unusedVariables false
set_option linter.unusedSimpArgs false
set_option maxRecDepth 100000
set_option maxHeartbeats 2000000
set_option maxHeartbeats 4000000
noncomputable abbrev d35_1 (aq nq mq : Nat) (tq : Nat → ByteArray) (vq gq : Nat → Int) (de : Int) (ao no mo : Nat) (to : Nat → Bool) (k1 k2 k3 : Int) (la lb : Bool) (ki ss f1 f2 f3 : Int) : Option (St35 ⊕ Rt35) := (bif (decide (nq ≤ 100000))
 then (bif (S.failE nq f1 f2 f3 != (0 : Int))
 then (some (.inr (0, 0, (0 : Int), (0 : Int), (0 : Int), (0 : Int), false, false, S.failE nq f1 f2 f3, [])))
 else (bif (Prod.fst
 (c35_e_22 aq nq tq vq gq de ao no to f1 f2 f3))
 then (bif (Prod.fst
 (Prod.snd
 (c35_e_22 aq nq tq vq gq de ao no to f1 f2 f3)))
 then (bif (la)
 then (bif (lb)
 then (some (.inr (c35_e_20 aq nq de ao no to f1 f2 f3)))
 else (some (.inr (c35_e_33 aq nq de ao no to f1 f2 f3))))
 else (bif (lb)
 then (some (.inr (c35_e_34 aq nq de ao no to f1 f2 f3)))
 else (some (.inr (aq, nq, de, f1, f2, f3, false, false, (0 : Int), S.mkl (0 + no) fun j => to (j + ao))))))
 else (bif (la)
 then (bif (lb)
 then (some (.inr (c35_e_20 aq nq de ao no to f1 f2 f3)))
 else (some (.inr (c35_e_20 aq nq de ao no to f1 f2 f3))))
 else (bif (lb)
 then (some (.inr (c35_e_34 aq nq de ao no to f1 f2 f3)))
 else (some (.inr (c35_e_34 aq nq de ao no to f1 f2 f3))))))
 else (bif (Prod.fst
 (Prod.snd
 (c35_e_22 aq nq tq vq gq de ao no to f1 f2 f3)))
 then (bif (la)
 then (bif (lb)
 then (some (.inr (c35_e_20 aq nq de ao no to f1 f2 f3)))
 else (some (.inr (c35_e_33 aq nq de ao no to f1 f2 f3))))
 else (bif (lb)
 then (some (.inr (c35_e_20 aq nq de ao no to f1 f2 f3)))
 else (some (.inr (c35_e_33 aq nq de ao no to f1 f2 f3)))))
 else (bif (la)
 then (bif (lb)
 then (some (.inr (c35_e_20 aq nq de ao no to f1 f2 f3)))
 else (some (.inr (c35_e_20 aq nq de ao no to f1 f2 f3))))
 else (bif (lb)
 then (some (.inr (c35_e_20 aq nq de ao no to f1 f2 f3)))
 else (some (.inr (c35_e_20 aq nq de ao no to f1 f2 f3))))))))
 else (none))
noncomputable abbrev d35_4 (aq nq mq : Nat) (tq : Nat → ByteArray) (vq gq : Nat → Int) (de : Int) (ao no mo : Nat) (to : Nat → Bool) (k1 k2 k3 : Int) (la lb : Bool) (ki ss f1 f2 f3 : Int) : Option (St35 ⊕ Rt35) := (bif (Prod.fst
 (c35_e_21 aq nq tq vq gq de ao no to))
 then (bif (Prod.fst
 (Prod.snd
 (c35_e_21 aq nq tq vq gq de ao no to)))
 then (bif (la)
 then (bif (lb)
 then (some (.inr (c35_e_11 aq nq de ao no to)))
 else (some (.inr (c35_e_28 aq nq de ao no to))))
 else (bif (lb)
 then (some (.inr (c35_e_29 aq nq de ao no to)))
 else (some (.inr (aq, nq, de, (0 : Int), (0 : Int), (0 : Int), false, false, (0 : Int), S.mkl (0 + no) fun j => to (j + ao))))))
 else (bif (la)
 then (bif (lb)
 then (some (.inr (c35_e_11 aq nq de ao no to)))
 else (some (.inr (c35_e_11 aq nq de ao no to))))
 else (bif (lb)
 then (some (.inr (c35_e_29 aq nq de ao no to)))
 else (some (.inr (c35_e_29 aq nq de ao no to))))))
 else (bif (Prod.fst
 (Prod.snd
 (c35_e_21 aq nq tq vq gq de ao no to)))
 then (bif (la)
 then (bif (lb)
 then (some (.inr (c35_e_11 aq nq de ao no to)))
 else (some (.inr (c35_e_28 aq nq de ao no to))))
 else (bif (lb)
 then (some (.inr (c35_e_11 aq nq de ao no to)))
 else (some (.inr (c35_e_28 aq nq de ao no to)))))
 else (bif (la)
 then (bif (lb)
 then (some (.inr (c35_e_11 aq nq de ao no to)))
 else (some (.inr (c35_e_11 aq nq de ao no to))))
 else (bif (lb)
 then (some (.inr (c35_e_11 aq nq de ao no to)))
 else (some (.inr (c35_e_11 aq nq de ao no to)))))))
noncomputable abbrev d35_0 (aq nq mq : Nat) (tq : Nat → ByteArray) (vq gq : Nat → Int) (de : Int) (ao no mo : Nat) (to : Nat → Bool) (k1 k2 k3 : Int) (la lb : Bool) (ki ss f1 f2 f3 : Int) : Option (St35 ⊕ Rt35) := (bif (decide (0 + no ≤ 1000000))
 then (bif (decide (ao + no ≤ mo))
 then (bif (decide (aq + nq ≤ mq ∧ nq ≤ 1000000 ∧ 0 + (0 + no) ≤ 0 + no))
 then (bif (Prod.fst
 (c35_e_27 aq nq tq vq gq de ao no to k1 k2 k3))
 then (bif (Prod.fst
 (Prod.snd
 (c35_e_27 aq nq tq vq gq de ao no to k1 k2 k3)))
 then (bif (ki == (1 : Int))
 then (d35_3 aq nq mq tq vq gq de ao no mo to k1 k2 k3 la lb ki ss f1 f2 f3)
 else (bif (ki == (2 : Int))
 then (d35_2 aq nq mq tq vq gq de ao no mo to k1 k2 k3 la lb ki ss f1 f2 f3)
 else (bif (ki == (3 : Int))
 then (d35_1 aq nq mq tq vq gq de ao no mo to k1 k2 k3 la lb ki ss f1 f2 f3)
 else (bif (ki == (4 : Int))
 then (d35_4 aq nq mq tq vq gq de ao no mo to k1 k2 k3 la lb ki ss f1 f2 f3)
 else (bif (ki == (5 : Int))
 then (some (.inl (.h0 (true) (true) ((0 : Int)) (S.mkl (0 + no) fun j => to (j + ao)))))
 else (bif (la)
 then (bif (lb)
 then (some (.inr (c35_e_36 aq nq de ao no to k1 k2 k3)))
 else (some (.inr (aq, nq, de, k1, k2, k3, true, false, (0 : Int), S.mkl (0 + no) fun j => to (j + ao)))))
 else (bif (lb)
 then (some (.inr (aq, nq, de, k1, k2, k3, false, true, (0 : Int), S.mkl (0 + no) fun j => to (j + ao))))
 else (some (.inr (aq, nq, de, k1, k2, k3, false, false, (0 : Int), S.mkl (0 + no) fun j => to (j + ao)))))))))))
 else (bif (ki == (1 : Int))
 then (d35_3 aq nq mq tq vq gq de ao no mo to k1 k2 k3 la lb ki ss f1 f2 f3)
 else (bif (ki == (2 : Int))
 then (d35_2 aq nq mq tq vq gq de ao no mo to k1 k2 k3 la lb ki ss f1 f2 f3)
 else (bif (ki == (3 : Int))
 then (d35_1 aq nq mq tq vq gq de ao no mo to k1 k2 k3 la lb ki ss f1 f2 f3)
 else (bif (ki == (4 : Int))
 then (d35_4 aq nq mq tq vq gq de ao no mo to k1 k2 k3 la lb ki ss f1 f2 f3)
 else (bif (ki == (5 : Int))
 then (some (.inl (.h0 (true) (false) ((0 : Int)) (S.mkl (0 + no) fun j => to (j + ao)))))
 else (bif (la)
 then (bif (lb)
 then (some (.inr (c35_e_36 aq nq de ao no to k1 k2 k3)))
 else (some (.inr (c35_e_36 aq nq de ao no to k1 k2 k3))))
 else (bif (lb)
 then (some (.inr (aq, nq, de, k1, k2, k3, false, true, (0 : Int), S.mkl (0 + no) fun j => to (j + ao))))
 else (some (.inr (aq, nq, de, k1, k2, k3, false, true, (0 : Int), S.mkl (0 + no) fun j => to (j + ao))))))))))))
 else (bif (Prod.fst
 (Prod.snd
 (c35_e_27 aq nq tq vq gq de ao no to k1 k2 k3)))
 then (bif (ki == (1 : Int))
 then (d35_3 aq nq mq tq vq gq de ao no mo to k1 k2 k3 la lb ki ss f1 f2 f3)
 else (bif (ki == (2 : Int))
 then (d35_2 aq nq mq tq vq gq de ao no mo to k1 k2 k3 la lb ki ss f1 f2 f3)
 else (bif (ki == (3 : Int))
 then (d35_1 aq nq mq tq vq gq de ao no mo to k1 k2 k3 la lb ki ss f1 f2 f3)
 else (bif (ki == (4 : Int))
 then (d35_4 aq nq mq tq vq gq de ao no mo to k1 k2 k3 la lb ki ss f1 f2 f3)
 else (bif (ki == (5 : Int))
 then (some (.inl (.h0 (false) (true) ((0 : Int)) (S.mkl (0 + no) fun j => to (j + ao)))))
 else (bif (la)
 then (bif (lb)
 then (some (.inr (c35_e_36 aq nq de ao no to k1 k2 k3)))
 else (some (.inr (aq, nq, de, k1, k2, k3, true, false, (0 : Int), S.mkl (0 + no) fun j => to (j + ao)))))
 else (bif (lb)
 then (some (.inr (c35_e_36 aq nq de ao no to k1 k2 k3)))
 else (some (.inr (aq, nq, de, k1, k2, k3, true, false, (0 : Int), S.mkl (0 + no) fun j => to (j + ao)))))))))))
 else (bif (ki == (1 : Int))
 then (d35_3 aq nq mq tq vq gq de ao no mo to k1 k2 k3 la lb ki ss f1 f2 f3)
 else (bif (ki == (2 : Int))
 then (d35_2 aq nq mq tq vq gq de ao no mo to k1 k2 k3 la lb ki ss f1 f2 f3)
 else (bif (ki == (3 : Int))
 then (d35_1 aq nq mq tq vq gq de ao no mo to k1 k2 k3 la lb ki ss f1 f2 f3)
 else (bif (ki == (4 : Int))
 then (d35_4 aq nq mq tq vq gq de ao no mo to k1 k2 k3 la lb ki ss f1 f2 f3)
 else (bif (ki == (5 : Int))
 then (some (.inl (.h0 (false) (false) ((0 : Int)) (S.mkl (0 + no) fun j => to (j + ao)))))
 else (bif (la)
 then (bif (lb)
 then (some (.inr (c35_e_36 aq nq de ao no to k1 k2 k3)))
 else (some (.inr (c35_e_36 aq nq de ao no to k1 k2 k3))))
 else (bif (lb)
 then (some (.inr (c35_e_36 aq nq de ao no to k1 k2 k3)))
 else (some (.inr (c35_e_36 aq nq de ao no to k1 k2 k3))))))))))))
 else (none))
 else (none))
 else (none))
noncomputable def p35 (aq nq mq : Nat) (tq : Nat → ByteArray) (vq gq : Nat → Int) (de : Int) (ao no mo : Nat) (to : Nat → Bool) (k1 k2 k3 : Int) (la lb : Bool) (ki ss f1 f2 f3 : Int) : Option (St35 ⊕ Rt35) := bif (decide (aq + nq ≤ mq ∧ nq ≤ 1000000 ∧ ao + no ≤ mo))
 then (bif (S.stE nq no
 (c35_e_4 aq nq tq vq gq de)
 (fun j => to (j + ao)) k1 k2 k3 la lb !=
 (0 : Int))
 then (some (.inr (0, 0, (0 : Int), (0 : Int), (0 : Int), (0 : Int), false, false, S.stE nq no
 (c35_e_4 aq nq tq vq gq de)
 (fun j => to (j + ao)) k1 k2 k3 la lb, [])))
 else (bif (decide (ki < (1 : Int)))
 then (some (.inr (0, 0, (0 : Int), (0 : Int), (0 : Int), (0 : Int), false, false, (1 : Int), [])))
 else (bif (decide (ki > (5 : Int)))
 then (some (.inr (0, 0, (0 : Int), (0 : Int), (0 : Int), (0 : Int), false, false, (1 : Int), [])))
 else (bif (decide (ki ≤ (2 : Int)))
 then (bif (decide (ss < (0 : Int)))
 then (some (.inr (0, 0, (0 : Int), (0 : Int), (0 : Int), (0 : Int), false, false, (6 : Int), [])))
 else (bif (decide (ss ≥ (↑no : Int)))
 then (some (.inr (0, 0, (0 : Int), (0 : Int), (0 : Int), (0 : Int), false, false, (6 : Int), [])))
 else (d35_0 aq nq mq tq vq gq de ao no mo to k1 k2 k3 la lb ki ss f1 f2 f3)))
 else (d35_0 aq nq mq tq vq gq de ao no mo to k1 k2 k3 la lb ki ss f1 f2 f3)))))
 else (none)
noncomputable abbrev g35_2 (test : Bool → Prop → Prop → Prop) (Kst : KS) (Kret : KR) (aq nq mq : Nat) (tq : Nat → ByteArray) (vq gq : Nat → Int) (de : Int) (ao no mo : Nat) (to : Nat → Bool) (k1 k2 k3 : Int) (la lb : Bool) (ki ss f1 f2 f3 : Int) : Prop := (test (decide ((0 : Int) ≤ ss ∧ ss < (↑(0 + no) : Int)))
 (test (decide (Int.toNat ss < 0 + no))
 (test (decide (aq + nq ≤ mq ∧ nq ≤ 1000000 ∧ 0 + (0 + no) ≤ 0 + no))
 (test (Prod.fst
 (c35_e_14 aq nq tq vq gq de ao no to k1 k2 k3 ss))
 (test (Prod.fst
 (Prod.snd
 (c35_e_14 aq nq tq vq gq de ao no to k1 k2 k3 ss)))
 (test (la)
 (test (lb)
 (Kret (c35_e_1 aq nq de no k1 k2 k3) (c35_e_2 mq tq vq gq ao no mo to ss) (10))
 (Kret (c35_e_6 aq nq de no k1 k2 k3) (c35_e_2 mq tq vq gq ao no mo to ss) (10)))
 (test (lb)
 (Kret (c35_e_7 aq nq de no k1 k2 k3) (c35_e_2 mq tq vq gq ao no mo to ss) (10))
 (Kret (c35_e_16 aq nq de no k1 k2 k3) (c35_e_2 mq tq vq gq ao no mo to ss) (10))))
 (test (la)
 (test (lb)
 (Kret (c35_e_1 aq nq de no k1 k2 k3) (c35_e_2 mq tq vq gq ao no mo to ss) (10))
 (Kret (c35_e_1 aq nq de no k1 k2 k3) (c35_e_2 mq tq vq gq ao no mo to ss) (10)))
 (test (lb)
 (Kret (c35_e_7 aq nq de no k1 k2 k3) (c35_e_2 mq tq vq gq ao no mo to ss) (10))
 (Kret (c35_e_7 aq nq de no k1 k2 k3) (c35_e_2 mq tq vq gq ao no mo to ss) (10)))))
 (test (Prod.fst
 (Prod.snd
 (c35_e_14 aq nq tq vq gq de ao no to k1 k2 k3 ss)))
 (test (la)
 (test (lb)
 (Kret (c35_e_1 aq nq de no k1 k2 k3) (c35_e_2 mq tq vq gq ao no mo to ss) (10))
 (Kret (c35_e_6 aq nq de no k1 k2 k3) (c35_e_2 mq tq vq gq ao no mo to ss) (10)))
 (test (lb)
 (Kret (c35_e_1 aq nq de no k1 k2 k3) (c35_e_2 mq tq vq gq ao no mo to ss) (10))
 (Kret (c35_e_6 aq nq de no k1 k2 k3) (c35_e_2 mq tq vq gq ao no mo to ss) (10))))
 (test (la)
 (test (lb)
 (Kret (c35_e_1 aq nq de no k1 k2 k3) (c35_e_2 mq tq vq gq ao no mo to ss) (10))
 (Kret (c35_e_1 aq nq de no k1 k2 k3) (c35_e_2 mq tq vq gq ao no mo to ss) (10)))
 (test (lb)
 (Kret (c35_e_1 aq nq de no k1 k2 k3) (c35_e_2 mq tq vq gq ao no mo to ss) (10))
 (Kret (c35_e_1 aq nq de no k1 k2 k3) (c35_e_2 mq tq vq gq ao no mo to ss) (10))))))
 (False))
 (False))
 (False))
noncomputable abbrev g35_1 (test : Bool → Prop → Prop → Prop) (Kst : KS) (Kret : KR) (aq nq mq : Nat) (tq : Nat → ByteArray) (vq gq : Nat → Int) (de : Int) (ao no mo : Nat) (to : Nat → Bool) (k1 k2 k3 : Int) (la lb : Bool) (ki ss f1 f2 f3 : Int) : Prop := (test (decide ((0 : Int) ≤ ss ∧ ss < (↑(0 + no) : Int)))
 (test (decide (Int.toNat ss < 0 + no))
 (test (decide (aq + nq ≤ mq ∧ nq ≤ 1000000 ∧ 0 + (0 + no) ≤ 0 + no))
 (test (Prod.fst
 (c35_e_15 aq nq tq vq gq de ao no to k1 k2 k3 ss))
 (test (Prod.fst
 (Prod.snd
 (c35_e_15 aq nq tq vq gq de ao no to k1 k2 k3 ss)))
 (test (la)
 (test (lb)
 (Kret (c35_e_1 aq nq de no k1 k2 k3) (c35_e_3 mq tq vq gq ao no mo to ss) (10))
 (Kret (c35_e_6 aq nq de no k1 k2 k3) (c35_e_3 mq tq vq gq ao no mo to ss) (10)))
 (test (lb)
 (Kret (c35_e_7 aq nq de no k1 k2 k3) (c35_e_3 mq tq vq gq ao no mo to ss) (10))
 (Kret (c35_e_16 aq nq de no k1 k2 k3) (c35_e_3 mq tq vq gq ao no mo to ss) (10))))
 (test (la)
 (test (lb)
 (Kret (c35_e_1 aq nq de no k1 k2 k3) (c35_e_3 mq tq vq gq ao no mo to ss) (10))
 (Kret (c35_e_1 aq nq de no k1 k2 k3) (c35_e_3 mq tq vq gq ao no mo to ss) (10)))
 (test (lb)
 (Kret (c35_e_7 aq nq de no k1 k2 k3) (c35_e_3 mq tq vq gq ao no mo to ss) (10))
 (Kret (c35_e_7 aq nq de no k1 k2 k3) (c35_e_3 mq tq vq gq ao no mo to ss) (10)))))
 (test (Prod.fst
 (Prod.snd
 (c35_e_15 aq nq tq vq gq de ao no to k1 k2 k3 ss)))
 (test (la)
 (test (lb)
 (Kret (c35_e_1 aq nq de no k1 k2 k3) (c35_e_3 mq tq vq gq ao no mo to ss) (10))
 (Kret (c35_e_6 aq nq de no k1 k2 k3) (c35_e_3 mq tq vq gq ao no mo to ss) (10)))
 (test (lb)
 (Kret (c35_e_1 aq nq de no k1 k2 k3) (c35_e_3 mq tq vq gq ao no mo to ss) (10))
 (Kret (c35_e_6 aq nq de no k1 k2 k3) (c35_e_3 mq tq vq gq ao no mo to ss) (10))))
 (test (la)
 (test (lb)
 (Kret (c35_e_1 aq nq de no k1 k2 k3) (c35_e_3 mq tq vq gq ao no mo to ss) (10))
 (Kret (c35_e_1 aq nq de no k1 k2 k3) (c35_e_3 mq tq vq gq ao no mo to ss) (10)))
 (test (lb)
 (Kret (c35_e_1 aq nq de no k1 k2 k3) (c35_e_3 mq tq vq gq ao no mo to ss) (10))
 (Kret (c35_e_1 aq nq de no k1 k2 k3) (c35_e_3 mq tq vq gq ao no mo to ss) (10))))))
 (False))
 (False))
 (False))
noncomputable abbrev g35_3 (test : Bool → Prop → Prop → Prop) (Kst : KS) (Kret : KR) (aq nq mq : Nat) (tq : Nat → ByteArray) (vq gq : Nat → Int) (de : Int) (ao no mo : Nat) (to : Nat → Bool) (k1 k2 k3 : Int) (la lb : Bool) (ki ss f1 f2 f3 : Int) : Prop := (test (decide (nq ≤ 100000))
 (test (S.failE nq f1 f2 f3 != (0 : Int))
 (Kret (c35_e_32 nq f1 f2 f3) (c35_e_35 mq tq vq gq mo to) (10))
 (test (decide (aq + nq ≤ mq ∧ nq ≤ 1000000 ∧ 0 + (0 + no) ≤ 0 + no))
 (test (Prod.fst
 (c35_e_22 aq nq tq vq gq de ao no to f1 f2 f3))
 (test (Prod.fst
 (Prod.snd
 (c35_e_22 aq nq tq vq gq de ao no to f1 f2 f3)))
 (test (la)
 (test (lb)
 (Kret (c35_e_8 aq nq de no f1 f2 f3) (c35_e_0 mq tq vq gq ao no mo to) (11))
 (Kret (c35_e_17 aq nq de no f1 f2 f3) (c35_e_0 mq tq vq gq ao no mo to) (11)))
 (test (lb)
 (Kret (c35_e_18 aq nq de no f1 f2 f3) (c35_e_0 mq tq vq gq ao no mo to) (11))
 (Kret (c35_e_31 aq nq de no f1 f2 f3) (c35_e_0 mq tq vq gq ao no mo to) (11))))
 (test (la)
 (test (lb)
 (Kret (c35_e_8 aq nq de no f1 f2 f3) (c35_e_0 mq tq vq gq ao no mo to) (11))
 (Kret (c35_e_8 aq nq de no f1 f2 f3) (c35_e_0 mq tq vq gq ao no mo to) (11)))
 (test (lb)
 (Kret (c35_e_18 aq nq de no f1 f2 f3) (c35_e_0 mq tq vq gq ao no mo to) (11))
 (Kret (c35_e_18 aq nq de no f1 f2 f3) (c35_e_0 mq tq vq gq ao no mo to) (11)))))
 (test (Prod.fst
 (Prod.snd
 (c35_e_22 aq nq tq vq gq de ao no to f1 f2 f3)))
 (test (la)
 (test (lb)
 (Kret (c35_e_8 aq nq de no f1 f2 f3) (c35_e_0 mq tq vq gq ao no mo to) (11))
 (Kret (c35_e_17 aq nq de no f1 f2 f3) (c35_e_0 mq tq vq gq ao no mo to) (11)))
 (test (lb)
 (Kret (c35_e_8 aq nq de no f1 f2 f3) (c35_e_0 mq tq vq gq ao no mo to) (11))
 (Kret (c35_e_17 aq nq de no f1 f2 f3) (c35_e_0 mq tq vq gq ao no mo to) (11))))
 (test (la)
 (test (lb)
 (Kret (c35_e_8 aq nq de no f1 f2 f3) (c35_e_0 mq tq vq gq ao no mo to) (11))
 (Kret (c35_e_8 aq nq de no f1 f2 f3) (c35_e_0 mq tq vq gq ao no mo to) (11)))
 (test (lb)
 (Kret (c35_e_8 aq nq de no f1 f2 f3) (c35_e_0 mq tq vq gq ao no mo to) (11))
 (Kret (c35_e_8 aq nq de no f1 f2 f3) (c35_e_0 mq tq vq gq ao no mo to) (11))))))
 (False)))
 (False))
noncomputable abbrev g35_5 (test : Bool → Prop → Prop → Prop) (Kst : KS) (Kret : KR) (aq nq mq : Nat) (tq : Nat → ByteArray) (vq gq : Nat → Int) (de : Int) (ao no mo : Nat) (to : Nat → Bool) (k1 k2 k3 : Int) (la lb : Bool) (ki ss f1 f2 f3 : Int) : Prop := (test (decide (aq + nq ≤ mq ∧ nq ≤ 1000000 ∧ 0 + (0 + no) ≤ 0 + no))
 (test (Prod.fst
 (c35_e_21 aq nq tq vq gq de ao no to))
 (test (Prod.fst
 (Prod.snd
 (c35_e_21 aq nq tq vq gq de ao no to)))
 (test (la)
 (test (lb)
 (Kret (c35_e_5 aq nq de no) (c35_e_0 mq tq vq gq ao no mo to) (10))
 (Kret (c35_e_12 aq nq de no) (c35_e_0 mq tq vq gq ao no mo to) (10)))
 (test (lb)
 (Kret (c35_e_13 aq nq de no) (c35_e_0 mq tq vq gq ao no mo to) (10))
 (Kret (c35_e_30 aq nq de no) (c35_e_0 mq tq vq gq ao no mo to) (10))))
 (test (la)
 (test (lb)
 (Kret (c35_e_5 aq nq de no) (c35_e_0 mq tq vq gq ao no mo to) (10))
 (Kret (c35_e_5 aq nq de no) (c35_e_0 mq tq vq gq ao no mo to) (10)))
 (test (lb)
 (Kret (c35_e_13 aq nq de no) (c35_e_0 mq tq vq gq ao no mo to) (10))
 (Kret (c35_e_13 aq nq de no) (c35_e_0 mq tq vq gq ao no mo to) (10)))))
 (test (Prod.fst
 (Prod.snd
 (c35_e_21 aq nq tq vq gq de ao no to)))
 (test (la)
 (test (lb)
 (Kret (c35_e_5 aq nq de no) (c35_e_0 mq tq vq gq ao no mo to) (10))
 (Kret (c35_e_12 aq nq de no) (c35_e_0 mq tq vq gq ao no mo to) (10)))
 (test (lb)
 (Kret (c35_e_5 aq nq de no) (c35_e_0 mq tq vq gq ao no mo to) (10))
 (Kret (c35_e_12 aq nq de no) (c35_e_0 mq tq vq gq ao no mo to) (10))))
 (test (la)
 (test (lb)
 (Kret (c35_e_5 aq nq de no) (c35_e_0 mq tq vq gq ao no mo to) (10))
 (Kret (c35_e_5 aq nq de no) (c35_e_0 mq tq vq gq ao no mo to) (10)))
 (test (lb)
 (Kret (c35_e_5 aq nq de no) (c35_e_0 mq tq vq gq ao no mo to) (10))
 (Kret (c35_e_5 aq nq de no) (c35_e_0 mq tq vq gq ao no mo to) (10))))))
 (False))
noncomputable abbrev g35_4 (test : Bool → Prop → Prop → Prop) (Kst : KS) (Kret : KR) (aq nq mq : Nat) (tq : Nat → ByteArray) (vq gq : Nat → Int) (de : Int) (ao no mo : Nat) (to : Nat → Bool) (k1 k2 k3 : Int) (la lb : Bool) (ki ss f1 f2 f3 : Int) : Prop := (test (decide (aq + nq ≤ mq ∧ nq ≤ 1000000 ∧ 0 + (0 + no) ≤ 0 + no))
 (test (Prod.fst
 (c35_e_27 aq nq tq vq gq de ao no to k1 k2 k3))
 (test (Prod.fst
 (Prod.snd
 (c35_e_27 aq nq tq vq gq de ao no to k1 k2 k3)))
 (test (la)
 (test (lb)
 (Kret (c35_e_1 aq nq de no k1 k2 k3) (c35_e_0 mq tq vq gq ao no mo to) (10))
 (Kret (c35_e_6 aq nq de no k1 k2 k3) (c35_e_0 mq tq vq gq ao no mo to) (10)))
 (test (lb)
 (Kret (c35_e_7 aq nq de no k1 k2 k3) (c35_e_0 mq tq vq gq ao no mo to) (10))
 (Kret (c35_e_16 aq nq de no k1 k2 k3) (c35_e_0 mq tq vq gq ao no mo to) (10))))
 (test (la)
 (test (lb)
 (Kret (c35_e_1 aq nq de no k1 k2 k3) (c35_e_0 mq tq vq gq ao no mo to) (10))
 (Kret (c35_e_1 aq nq de no k1 k2 k3) (c35_e_0 mq tq vq gq ao no mo to) (10)))
 (test (lb)
 (Kret (c35_e_7 aq nq de no k1 k2 k3) (c35_e_0 mq tq vq gq ao no mo to) (10))
 (Kret (c35_e_7 aq nq de no k1 k2 k3) (c35_e_0 mq tq vq gq ao no mo to) (10)))))
 (test (Prod.fst
 (Prod.snd
 (c35_e_27 aq nq tq vq gq de ao no to k1 k2 k3)))
 (test (la)
 (test (lb)
 (Kret (c35_e_1 aq nq de no k1 k2 k3) (c35_e_0 mq tq vq gq ao no mo to) (10))
 (Kret (c35_e_6 aq nq de no k1 k2 k3) (c35_e_0 mq tq vq gq ao no mo to) (10)))
 (test (lb)
 (Kret (c35_e_1 aq nq de no k1 k2 k3) (c35_e_0 mq tq vq gq ao no mo to) (10))
 (Kret (c35_e_6 aq nq de no k1 k2 k3) (c35_e_0 mq tq vq gq ao no mo to) (10))))
 (test (la)
 (test (lb)
 (Kret (c35_e_1 aq nq de no k1 k2 k3) (c35_e_0 mq tq vq gq ao no mo to) (10))
 (Kret (c35_e_1 aq nq de no k1 k2 k3) (c35_e_0 mq tq vq gq ao no mo to) (10)))
 (test (lb)
 (Kret (c35_e_1 aq nq de no k1 k2 k3) (c35_e_0 mq tq vq gq ao no mo to) (10))
 (Kret (c35_e_1 aq nq de no k1 k2 k3) (c35_e_0 mq tq vq gq ao no mo to) (10))))))
 (False))
noncomputable abbrev g35_0 (test : Bool → Prop → Prop → Prop) (Kst : KS) (Kret : KR) (aq nq mq : Nat) (tq : Nat → ByteArray) (vq gq : Nat → Int) (de : Int) (ao no mo : Nat) (to : Nat → Bool) (k1 k2 k3 : Int) (la lb : Bool) (ki ss f1 f2 f3 : Int) : Prop := (test (decide (0 + no ≤ 1000000))
 (test (true)
 (test (decide (ao + no ≤ mo))
 (test (decide (aq + nq ≤ mq ∧ nq ≤ 1000000 ∧ 0 + (0 + no) ≤ 0 + no))
 (test (Prod.fst
 (c35_e_27 aq nq tq vq gq de ao no to k1 k2 k3))
 (test (Prod.fst
 (Prod.snd
 (c35_e_27 aq nq tq vq gq de ao no to k1 k2 k3)))
 (test (ki == (1 : Int))
 (g35_2 test Kst Kret aq nq mq tq vq gq de ao no mo to k1 k2 k3 la lb ki ss f1 f2 f3)
 (test (ki == (2 : Int))
 (g35_1 test Kst Kret aq nq mq tq vq gq de ao no mo to k1 k2 k3 la lb ki ss f1 f2 f3)
 (test (ki == (3 : Int))
 (g35_3 test Kst Kret aq nq mq tq vq gq de ao no mo to k1 k2 k3 la lb ki ss f1 f2 f3)
 (test (ki == (4 : Int))
 (g35_5 test Kst Kret aq nq mq tq vq gq de ao no mo to k1 k2 k3 la lb ki ss f1 f2 f3)
 (test (ki == (5 : Int))
 (Kst (hd Try.f35 0) ([PV.ptr (PA.mk (2) (0) (0) (0)),
 PV.ptr (PA.mk (4) (0) (0) (0)), PV.tf true,
 PV.tf true, PV.int IntKind.i64 (0 : Int)]) (c35_e_19 aq nq mq tq vq gq de ao no mo to k1 k2 k3 la lb) (9))
 (g35_4 test Kst Kret aq nq mq tq vq gq de ao no mo to k1 k2 k3 la lb ki ss f1 f2 f3))))))
 (test (ki == (1 : Int))
 (g35_2 test Kst Kret aq nq mq tq vq gq de ao no mo to k1 k2 k3 la lb ki ss f1 f2 f3)
 (test (ki == (2 : Int))
 (g35_1 test Kst Kret aq nq mq tq vq gq de ao no mo to k1 k2 k3 la lb ki ss f1 f2 f3)
 (test (ki == (3 : Int))
 (g35_3 test Kst Kret aq nq mq tq vq gq de ao no mo to k1 k2 k3 la lb ki ss f1 f2 f3)
 (test (ki == (4 : Int))
 (g35_5 test Kst Kret aq nq mq tq vq gq de ao no mo to k1 k2 k3 la lb ki ss f1 f2 f3)
 (test (ki == (5 : Int))
 (Kst (hd Try.f35 0) ([PV.ptr (PA.mk (2) (0) (0) (0)),
 PV.ptr (PA.mk (4) (0) (0) (0)), PV.tf true,
 PV.tf false, PV.int IntKind.i64 (0 : Int)]) (c35_e_19 aq nq mq tq vq gq de ao no mo to k1 k2 k3 la lb) (9))
 (g35_4 test Kst Kret aq nq mq tq vq gq de ao no mo to k1 k2 k3 la lb ki ss f1 f2 f3)))))))
 (test (Prod.fst
 (Prod.snd
 (c35_e_27 aq nq tq vq gq de ao no to k1 k2 k3)))
 (test (ki == (1 : Int))
 (g35_2 test Kst Kret aq nq mq tq vq gq de ao no mo to k1 k2 k3 la lb ki ss f1 f2 f3)
 (test (ki == (2 : Int))
 (g35_1 test Kst Kret aq nq mq tq vq gq de ao no mo to k1 k2 k3 la lb ki ss f1 f2 f3)
 (test (ki == (3 : Int))
 (g35_3 test Kst Kret aq nq mq tq vq gq de ao no mo to k1 k2 k3 la lb ki ss f1 f2 f3)
 (test (ki == (4 : Int))
 (g35_5 test Kst Kret aq nq mq tq vq gq de ao no mo to k1 k2 k3 la lb ki ss f1 f2 f3)
 (test (ki == (5 : Int))
 (Kst (hd Try.f35 0) ([PV.ptr (PA.mk (2) (0) (0) (0)),
 PV.ptr (PA.mk (4) (0) (0) (0)), PV.tf false,
 PV.tf true, PV.int IntKind.i64 (0 : Int)]) (c35_e_19 aq nq mq tq vq gq de ao no mo to k1 k2 k3 la lb) (9))
 (g35_4 test Kst Kret aq nq mq tq vq gq de ao no mo to k1 k2 k3 la lb ki ss f1 f2 f3))))))
 (test (ki == (1 : Int))
 (g35_2 test Kst Kret aq nq mq tq vq gq de ao no mo to k1 k2 k3 la lb ki ss f1 f2 f3)
 (test (ki == (2 : Int))
 (g35_1 test Kst Kret aq nq mq tq vq gq de ao no mo to k1 k2 k3 la lb ki ss f1 f2 f3)
 (test (ki == (3 : Int))
 (g35_3 test Kst Kret aq nq mq tq vq gq de ao no mo to k1 k2 k3 la lb ki ss f1 f2 f3)
 (test (ki == (4 : Int))
 (g35_5 test Kst Kret aq nq mq tq vq gq de ao no mo to k1 k2 k3 la lb ki ss f1 f2 f3)
 (test (ki == (5 : Int))
 (Kst (hd Try.f35 0) ([PV.ptr (PA.mk (2) (0) (0) (0)),
 PV.ptr (PA.mk (4) (0) (0) (0)), PV.tf false,
 PV.tf false, PV.int IntKind.i64 (0 : Int)]) (c35_e_19 aq nq mq tq vq gq de ao no mo to k1 k2 k3 la lb) (9))
 (g35_4 test Kst Kret aq nq mq tq vq gq de ao no mo to k1 k2 k3 la lb ki ss f1 f2 f3))))))))
 (False))
 (False))
 (False))
 (False))
noncomputable def Te35 (test : Bool → Prop → Prop → Prop) (Kst : KS) (Kret : KR) (aq nq mq : Nat) (tq : Nat → ByteArray) (vq gq : Nat → Int) (de : Int) (ao no mo : Nat) (to : Nat → Bool) (k1 k2 k3 : Int) (la lb : Bool) (ki ss f1 f2 f3 : Int) : Prop :=
  test (decide (aq + nq ≤ mq ∧ nq ≤ 1000000 ∧ ao + no ≤ mo))
 (test (S.stE nq no
 (c35_e_4 aq nq tq vq gq de)
 (fun j => to (j + ao)) k1 k2 k3 la lb !=
 (0 : Int))
 (Kret (PV.tup
 [PV.agg
 [PV.nils, PV.int IntKind.i64 (0 : Int), PV.nils, PV.int IntKind.i64 (0 : Int),
 PV.int IntKind.i64 (0 : Int), PV.int IntKind.i64 (0 : Int), PV.tf false,
 PV.tf false],
 PV.int IntKind.i64
 (S.stE nq no
 (S.netE nq (fun j => tq (j + aq)) (fun j => vq (j + aq)) (fun j => gq (j + aq))
 de)
 (fun j => to (j + ao)) k1 k2 k3 la lb)]) (c35_e_35 mq tq vq gq mo to) (6))
 (test (decide (ki < (1 : Int)))
 (Kret (PV.tup
 [PV.agg
 [PV.nils, PV.int IntKind.i64 (0 : Int), PV.nils, PV.int IntKind.i64 (0 : Int),
 PV.int IntKind.i64 (0 : Int), PV.int IntKind.i64 (0 : Int), PV.tf false,
 PV.tf false],
 PV.int IntKind.i64 (1 : Int)]) (c35_e_35 mq tq vq gq mo to) (6))
 (test (decide (ki > (5 : Int)))
 (Kret (PV.tup
 [PV.agg
 [PV.nils, PV.int IntKind.i64 (0 : Int), PV.nils, PV.int IntKind.i64 (0 : Int),
 PV.int IntKind.i64 (0 : Int), PV.int IntKind.i64 (0 : Int), PV.tf false,
 PV.tf false],
 PV.int IntKind.i64 (1 : Int)]) (c35_e_35 mq tq vq gq mo to) (6))
 (test (decide (ki ≤ (2 : Int)))
 (test (decide (ss < (0 : Int)))
 (Kret (PV.tup
 [PV.agg
 [PV.nils, PV.int IntKind.i64 (0 : Int), PV.nils, PV.int IntKind.i64 (0 : Int),
 PV.int IntKind.i64 (0 : Int), PV.int IntKind.i64 (0 : Int), PV.tf false,
 PV.tf false],
 PV.int IntKind.i64 (6 : Int)]) (c35_e_35 mq tq vq gq mo to) (6))
 (test (decide (ss ≥ (↑no : Int)))
 (Kret (PV.tup
 [PV.agg
 [PV.nils, PV.int IntKind.i64 (0 : Int), PV.nils, PV.int IntKind.i64 (0 : Int),
 PV.int IntKind.i64 (0 : Int), PV.int IntKind.i64 (0 : Int), PV.tf false,
 PV.tf false],
 PV.int IntKind.i64 (6 : Int)]) (c35_e_35 mq tq vq gq mo to) (6))
 (g35_0 test Kst Kret aq nq mq tq vq gq de ao no mo to k1 k2 k3 la lb ki ss f1 f2 f3)))
 (g35_0 test Kst Kret aq nq mq tq vq gq de ao no mo to k1 k2 k3 la lb ki ss f1 f2 f3)))))
 (False)
theorem te35 (test : Bool → Prop → Prop → Prop) (Kst : KS) (Kret : KR) (aq nq mq : Nat) (tq : Nat → ByteArray) (vq gq : Nat → Int) (de : Int) (ao no mo : Nat) (to : Nat → Bool) (k1 k2 k3 : Int) (la lb : Bool) (ki ss f1 f2 f3 : Int) : run test Try.env true (xO test) true 400 ⟨35, [.cd (mkFn Try.f35).body], argT 0 [.agg [.loose ⟨0, 3, aq, 0⟩ nq, .int .i64 de, .loose ⟨1, 1, ao, 0⟩ no, .int .i64 k1, .int .i64 k2, .int .i64 k3, .bool la, .bool lb], .agg [.int .i64 ki, .int .i64 ss, .int .i64 f1, .int .i64 f2, .int .i64 f3]], [[], [(0, (false, .cols mq [.str tq, .int .i64 vq, .int .i64 gq])), (1, (false, .cols mo [.bool to]))]], 2⟩ (proj 2 [2, 4, 7, 8, 11] Kst Kret) =
  Te35 test Kst Kret aq nq mq tq vq gq de ao no mo to k1 k2 k3 la lb ki ss f1 f2 f3 := by kernel_rfl
noncomputable def T35_0 (test : Bool → Prop → Prop → Prop) (Kst : KS) (Kret : KR) (aq nq mq : Nat) (tq : Nat → ByteArray) (vq gq : Nat → Int) (de : Int) (ao no mo : Nat) (to : Nat → Bool) (k1 k2 k3 : Int) (la lb : Bool) (ki ss f1 f2 f3 : Int) (x0 x1 : Bool) (x2 : Int) (x3 : List Bool) : Prop :=
  test (decide (x2 < (↑(List.length x3) : Int)))
 (test (decide ((0 : Int) ≤ x2 ∧ x2 < (↑(List.length x3) : Int)))
 (test (decide (Int.toNat x2 < List.length x3))
 (test (S.at' x3 (Int.toNat x2))
 (test (lim IntKind.i64 (x2 + (1 : Int)))
 (Kst (hd Try.f35 0) ([PV.ptr (PA.mk (2) (0) (0) (0)),
 PV.ptr (PA.mk (4) (0) (0) (0)), PV.bool x0, PV.bool x1,
 PV.int IntKind.i64 (x2 + (1 : Int))]) ([[(1, false, Blk.cols mo [Col.bool to]),
 (0, false,
 Blk.cols mq [Col.str tq, Col.int IntKind.i64 vq, Col.int IntKind.i64 gq]),
 (4, true,
 Blk.cells
 [PV.nils, PV.int IntKind.i64 (0 : Int), PV.nils, PV.int IntKind.i64 (0 : Int),
 PV.int IntKind.i64 (0 : Int), PV.int IntKind.i64 (0 : Int), PV.tf false,
 PV.tf false]),
 (2, true,
 Blk.cells
 [PV.loose (PA.mk (0) (3) aq (0)) nq, PV.int IntKind.i64 de,
 PV.own (3) (1) (List.length x3), PV.int IntKind.i64 k1,
 PV.int IntKind.i64 k2, PV.int IntKind.i64 k3, PV.bool la, PV.bool lb]),
 (3, true, Blk.cols (List.length x3) [Col.bool fun j => S.at' x3 j])]]) (5))
 (False))
 (Kret (PV.tup
 [PV.agg
 [PV.nils, PV.int IntKind.i64 (0 : Int), PV.nils, PV.int IntKind.i64 (0 : Int),
 PV.int IntKind.i64 (0 : Int), PV.int IntKind.i64 (0 : Int), PV.tf false,
 PV.tf false],
 PV.int IntKind.i64 (8 : Int)]) ([[(1, false, Blk.cols mo [Col.bool to]),
 (0, false,
 Blk.cols mq [Col.str tq, Col.int IntKind.i64 vq, Col.int IntKind.i64 gq])]]) (5)))
 (False))
 (False))
 (test (x0)
 (test (x1)
 (test (decide (aq + nq ≤ mq ∧ nq ≤ 1000000 ∧ 0 + List.length x3 ≤ List.length x3))
 (test (Prod.fst
 (c35_0_0 aq nq tq vq gq de k1 k2 k3 x3))
 (test (Prod.fst
 (Prod.snd
 (c35_0_0 aq nq tq vq gq de k1 k2 k3 x3)))
 (Kret (PV.tup
 [PV.agg
 [PV.loose (PA.mk (0) (3) aq (0)) nq, PV.int IntKind.i64 de,
 PV.own (3) (1) (List.length x3), PV.int IntKind.i64 k1,
 PV.int IntKind.i64 k2, PV.int IntKind.i64 k3, PV.tf false, PV.tf false],
 PV.int IntKind.i64 (0 : Int)]) ([[(1, false, Blk.cols mo [Col.bool to]),
 (0, false,
 Blk.cols mq [Col.str tq, Col.int IntKind.i64 vq, Col.int IntKind.i64 gq]),
 (3, true, Blk.cols (List.length x3) [Col.bool fun j => S.at' x3 j])]]) (6))
 (Kret (PV.tup
 [PV.agg
 [PV.loose (PA.mk (0) (3) aq (0)) nq, PV.int IntKind.i64 de,
 PV.own (3) (1) (List.length x3), PV.int IntKind.i64 k1,
 PV.int IntKind.i64 k2, PV.int IntKind.i64 k3, PV.tf false, PV.tf true],
 PV.int IntKind.i64 (0 : Int)]) ([[(1, false, Blk.cols mo [Col.bool to]),
 (0, false,
 Blk.cols mq [Col.str tq, Col.int IntKind.i64 vq, Col.int IntKind.i64 gq]),
 (3, true, Blk.cols (List.length x3) [Col.bool fun j => S.at' x3 j])]]) (6)))
 (test (Prod.fst
 (Prod.snd
 (c35_0_0 aq nq tq vq gq de k1 k2 k3 x3)))
 (Kret (PV.tup
 [PV.agg
 [PV.loose (PA.mk (0) (3) aq (0)) nq, PV.int IntKind.i64 de,
 PV.own (3) (1) (List.length x3), PV.int IntKind.i64 k1,
 PV.int IntKind.i64 k2, PV.int IntKind.i64 k3, PV.tf true, PV.tf false],
 PV.int IntKind.i64 (0 : Int)]) ([[(1, false, Blk.cols mo [Col.bool to]),
 (0, false,
 Blk.cols mq [Col.str tq, Col.int IntKind.i64 vq, Col.int IntKind.i64 gq]),
 (3, true, Blk.cols (List.length x3) [Col.bool fun j => S.at' x3 j])]]) (6))
 (Kret (PV.tup
 [PV.agg
 [PV.loose (PA.mk (0) (3) aq (0)) nq, PV.int IntKind.i64 de,
 PV.own (3) (1) (List.length x3), PV.int IntKind.i64 k1,
 PV.int IntKind.i64 k2, PV.int IntKind.i64 k3, PV.tf true, PV.tf true],
 PV.int IntKind.i64 (0 : Int)]) ([[(1, false, Blk.cols mo [Col.bool to]),
 (0, false,
 Blk.cols mq [Col.str tq, Col.int IntKind.i64 vq, Col.int IntKind.i64 gq]),
 (3, true, Blk.cols (List.length x3) [Col.bool fun j => S.at' x3 j])]]) (6))))
 (False))
 (Kret (PV.tup
 [PV.agg
 [PV.nils, PV.int IntKind.i64 (0 : Int), PV.nils, PV.int IntKind.i64 (0 : Int),
 PV.int IntKind.i64 (0 : Int), PV.int IntKind.i64 (0 : Int), PV.tf false,
 PV.tf false],
 PV.int IntKind.i64 (8 : Int)]) ([[(1, false, Blk.cols mo [Col.bool to]),
 (0, false,
 Blk.cols mq [Col.str tq, Col.int IntKind.i64 vq, Col.int IntKind.i64 gq])]]) (5)))
 (Kret (PV.tup
 [PV.agg
 [PV.nils, PV.int IntKind.i64 (0 : Int), PV.nils, PV.int IntKind.i64 (0 : Int),
 PV.int IntKind.i64 (0 : Int), PV.int IntKind.i64 (0 : Int), PV.tf false,
 PV.tf false],
 PV.int IntKind.i64 (8 : Int)]) ([[(1, false, Blk.cols mo [Col.bool to]),
 (0, false,
 Blk.cols mq [Col.str tq, Col.int IntKind.i64 vq, Col.int IntKind.i64 gq])]]) (5)))
theorem t35_0 (test : Bool → Prop → Prop → Prop) (Kst : KS) (Kret : KR) (aq nq mq : Nat) (tq : Nat → ByteArray) (vq gq : Nat → Int) (de : Int) (ao no mo : Nat) (to : Nat → Bool) (k1 k2 k3 : Int) (la lb : Bool) (ki ss f1 f2 f3 : Int) (x0 x1 : Bool) (x2 : Int) (x3 : List Bool) : run test Try.env true (xO test) true 400 ⟨35, hd Try.f35 0, zipT [2, 4, 7, 8, 11] [PV.ptr (PA.mk (2) (0) (0) (0)),
 PV.ptr (PA.mk (4) (0) (0) (0)), PV.bool x0, PV.bool x1,
 PV.int IntKind.i64 x2], [[(2, (true, Blk.cells
 [PV.loose (PA.mk (0) (3) aq (0)) nq, PV.int IntKind.i64 de,
 PV.own (3) (1) (List.length x3), PV.int IntKind.i64 k1,
 PV.int IntKind.i64 k2, PV.int IntKind.i64 k3, PV.bool la, PV.bool lb])), (3, (true, Blk.cols (List.length x3) [Col.bool fun j => S.at' x3 j])), (4, (true, Blk.cells
 [PV.nils, PV.int IntKind.i64 (0 : Int), PV.nils, PV.int IntKind.i64 (0 : Int),
 PV.int IntKind.i64 (0 : Int), PV.int IntKind.i64 (0 : Int), PV.tf false,
 PV.tf false]))], [(0, (false, .cols mq [.str tq, .int .i64 vq, .int .i64 gq])), (1, (false, .cols mo [.bool to]))]], 5⟩ (proj 2 [2, 4, 7, 8, 11] Kst Kret) =
  T35_0 test Kst Kret aq nq mq tq vq gq de ao no mo to k1 k2 k3 la lb ki ss f1 f2 f3 x0 x1 x2 x3 := by kernel_rfl
theorem be35 (aq nq mq : Nat) (tq : Nat → ByteArray) (vq gq : Nat → Int) (de : Int) (ao no mo : Nat) (to : Nat → Bool) (k1 k2 k3 : Int) (la lb : Bool) (ki ss f1 f2 f3 : Int) (Kst : KS) (Kret : KR) (x : St35 ⊕ Rt35) (hS : HS 2 400 ((I35 aq nq mq tq vq gq de ao no mo to k1 k2 k3 la lb ki ss f1 f2 f3)) Kst x) (hR : HR 2 400 ((V35 aq nq mq tq vq gq de ao no mo to k1 k2 k3 la lb ki ss f1 f2 f3)) (fun r => [newL (2 + 1) ((N35 aq nq mq tq vq gq de ao no mo to k1 k2 k3 la lb ki ss f1 f2 f3) r) ++ [(0, (false, .cols mq [.str tq, .int .i64 vq, .int .i64 gq])), (1, (false, .cols mo [.bool to]))]]) Kret x) (h : p35 aq nq mq tq vq gq de ao no mo to k1 k2 k3 la lb ki ss f1 f2 f3 = some x) : Te35 cond Kst Kret aq nq mq tq vq gq de ao no mo to k1 k2 k3 la lb ki ss f1 f2 f3 := by
  unfold Te35
  unfold p35 at h
  refine bif_split h
   (fun c0 h => bif_split h
   (fun c1 h => ?_)
   (fun c1 h => bif_split h
   (fun c2 h => ?_)
   (fun c2 h => bif_split h
   (fun c3 h => ?_)
   (fun c3 h => bif_split h
   (fun c4 h => bif_split h
   (fun c5 h => ?_)
   (fun c5 h => bif_split h
   (fun c6 h => ?_)
   (fun c6 h => bif_split h
   (fun c7 h => cond_yes rfl (bif_split h
   (fun c8 h => bif_split h
   (fun c9 h => bif_split h
   (fun c10 h => bif_split h
   (fun c11 h => bif_split h
   (fun c12 h => ?_)
   (fun c12 h => bif_split h
   (fun c13 h => ?_)
   (fun c13 h => bif_split h
   (fun c14 h => ?_)
   (fun c14 h => bif_split h
   (fun c15 h => cond_yes c9 (bif_split h
   (fun c16 h => bif_split h
   (fun c17 h => bif_split h
   (fun c18 h => bif_split h
   (fun c19 h => ?_)
   (fun c19 h => ?_))
   (fun c18 h => bif_split h
   (fun c19 h => ?_)
   (fun c19 h => ?_)))
   (fun c17 h => bif_split h
   (fun c18 h => bif_split h
   (fun c19 h => ?_)
   (fun c19 h => ?_))
   (fun c18 h => bif_split h
   (fun c19 h => ?_)
   (fun c19 h => ?_))))
   (fun c16 h => bif_split h
   (fun c17 h => bif_split h
   (fun c18 h => bif_split h
   (fun c19 h => ?_)
   (fun c19 h => ?_))
   (fun c18 h => bif_split h
   (fun c19 h => ?_)
   (fun c19 h => ?_)))
   (fun c17 h => bif_split h
   (fun c18 h => bif_split h
   (fun c19 h => ?_)
   (fun c19 h => ?_))
   (fun c18 h => bif_split h
   (fun c19 h => ?_)
   (fun c19 h => ?_))))))
   (fun c15 h => bif_split h
   (fun c16 h => ?_)
   (fun c16 h => cond_yes c9 (cond_yes c10 (cond_yes c11 (bif_split h
   (fun c17 h => bif_split h
   (fun c18 h => ?_)
   (fun c18 h => ?_))
   (fun c17 h => bif_split h
   (fun c18 h => ?_)
   (fun c18 h => ?_)))))))))))
   (fun c11 h => bif_split h
   (fun c12 h => ?_)
   (fun c12 h => bif_split h
   (fun c13 h => ?_)
   (fun c13 h => bif_split h
   (fun c14 h => ?_)
   (fun c14 h => bif_split h
   (fun c15 h => cond_yes c9 (bif_split h
   (fun c16 h => bif_split h
   (fun c17 h => bif_split h
   (fun c18 h => bif_split h
   (fun c19 h => ?_)
   (fun c19 h => ?_))
   (fun c18 h => bif_split h
   (fun c19 h => ?_)
   (fun c19 h => ?_)))
   (fun c17 h => bif_split h
   (fun c18 h => bif_split h
   (fun c19 h => ?_)
   (fun c19 h => ?_))
   (fun c18 h => bif_split h
   (fun c19 h => ?_)
   (fun c19 h => ?_))))
   (fun c16 h => bif_split h
   (fun c17 h => bif_split h
   (fun c18 h => bif_split h
   (fun c19 h => ?_)
   (fun c19 h => ?_))
   (fun c18 h => bif_split h
   (fun c19 h => ?_)
   (fun c19 h => ?_)))
   (fun c17 h => bif_split h
   (fun c18 h => bif_split h
   (fun c19 h => ?_)
   (fun c19 h => ?_))
   (fun c18 h => bif_split h
   (fun c19 h => ?_)
   (fun c19 h => ?_))))))
   (fun c15 h => bif_split h
   (fun c16 h => ?_)
   (fun c16 h => cond_yes c9 (cond_yes c10 (cond_no c11 (bif_split h
   (fun c17 h => bif_split h
   (fun c18 h => ?_)
   (fun c18 h => ?_))
   (fun c17 h => bif_split h
   (fun c18 h => ?_)
   (fun c18 h => ?_))))))))))))
   (fun c10 h => bif_split h
   (fun c11 h => bif_split h
   (fun c12 h => ?_)
   (fun c12 h => bif_split h
   (fun c13 h => ?_)
   (fun c13 h => bif_split h
   (fun c14 h => ?_)
   (fun c14 h => bif_split h
   (fun c15 h => cond_yes c9 (bif_split h
   (fun c16 h => bif_split h
   (fun c17 h => bif_split h
   (fun c18 h => bif_split h
   (fun c19 h => ?_)
   (fun c19 h => ?_))
   (fun c18 h => bif_split h
   (fun c19 h => ?_)
   (fun c19 h => ?_)))
   (fun c17 h => bif_split h
   (fun c18 h => bif_split h
   (fun c19 h => ?_)
   (fun c19 h => ?_))
   (fun c18 h => bif_split h
   (fun c19 h => ?_)
   (fun c19 h => ?_))))
   (fun c16 h => bif_split h
   (fun c17 h => bif_split h
   (fun c18 h => bif_split h
   (fun c19 h => ?_)
   (fun c19 h => ?_))
   (fun c18 h => bif_split h
   (fun c19 h => ?_)
   (fun c19 h => ?_)))
   (fun c17 h => bif_split h
   (fun c18 h => bif_split h
   (fun c19 h => ?_)
   (fun c19 h => ?_))
   (fun c18 h => bif_split h
   (fun c19 h => ?_)
   (fun c19 h => ?_))))))
   (fun c15 h => bif_split h
   (fun c16 h => ?_)
   (fun c16 h => cond_yes c9 (cond_no c10 (cond_yes c11 (bif_split h
   (fun c17 h => bif_split h
   (fun c18 h => ?_)
   (fun c18 h => ?_))
   (fun c17 h => bif_split h
   (fun c18 h => ?_)
   (fun c18 h => ?_)))))))))))
   (fun c11 h => bif_split h
   (fun c12 h => ?_)
   (fun c12 h => bif_split h
   (fun c13 h => ?_)
   (fun c13 h => bif_split h
   (fun c14 h => ?_)
   (fun c14 h => bif_split h
   (fun c15 h => cond_yes c9 (bif_split h
   (fun c16 h => bif_split h
   (fun c17 h => bif_split h
   (fun c18 h => bif_split h
   (fun c19 h => ?_)
   (fun c19 h => ?_))
   (fun c18 h => bif_split h
   (fun c19 h => ?_)
   (fun c19 h => ?_)))
   (fun c17 h => bif_split h
   (fun c18 h => bif_split h
   (fun c19 h => ?_)
   (fun c19 h => ?_))
   (fun c18 h => bif_split h
   (fun c19 h => ?_)
   (fun c19 h => ?_))))
   (fun c16 h => bif_split h
   (fun c17 h => bif_split h
   (fun c18 h => bif_split h
   (fun c19 h => ?_)
   (fun c19 h => ?_))
   (fun c18 h => bif_split h
   (fun c19 h => ?_)
   (fun c19 h => ?_)))
   (fun c17 h => bif_split h
   (fun c18 h => bif_split h
   (fun c19 h => ?_)
   (fun c19 h => ?_))
   (fun c18 h => bif_split h
   (fun c19 h => ?_)
   (fun c19 h => ?_))))))
   (fun c15 h => bif_split h
   (fun c16 h => ?_)
   (fun c16 h => cond_yes c9 (cond_no c10 (cond_no c11 (bif_split h
   (fun c17 h => bif_split h
   (fun c18 h => ?_)
   (fun c18 h => ?_))
   (fun c17 h => bif_split h
   (fun c18 h => ?_)
   (fun c18 h => ?_)))))))))))))
   (fun c9 h => ?_))
   (fun c8 h => ?_)))
   (fun c7 h => ?_))))
   (fun c4 h => bif_split h
   (fun c5 h => cond_yes rfl (bif_split h
   (fun c6 h => bif_split h
   (fun c7 h => bif_split h
   (fun c8 h => bif_split h
   (fun c9 h => bif_split h
   (fun c10 h => ?_)
   (fun c10 h => bif_split h
   (fun c11 h => ?_)
   (fun c11 h => bif_split h
   (fun c12 h => ?_)
   (fun c12 h => bif_split h
   (fun c13 h => cond_yes c7 (bif_split h
   (fun c14 h => bif_split h
   (fun c15 h => bif_split h
   (fun c16 h => bif_split h
   (fun c17 h => ?_)
   (fun c17 h => ?_))
   (fun c16 h => bif_split h
   (fun c17 h => ?_)
   (fun c17 h => ?_)))
   (fun c15 h => bif_split h
   (fun c16 h => bif_split h
   (fun c17 h => ?_)
   (fun c17 h => ?_))
   (fun c16 h => bif_split h
   (fun c17 h => ?_)
   (fun c17 h => ?_))))
   (fun c14 h => bif_split h
   (fun c15 h => bif_split h
   (fun c16 h => bif_split h
   (fun c17 h => ?_)
   (fun c17 h => ?_))
   (fun c16 h => bif_split h
   (fun c17 h => ?_)
   (fun c17 h => ?_)))
   (fun c15 h => bif_split h
   (fun c16 h => bif_split h
   (fun c17 h => ?_)
   (fun c17 h => ?_))
   (fun c16 h => bif_split h
   (fun c17 h => ?_)
   (fun c17 h => ?_))))))
   (fun c13 h => bif_split h
   (fun c14 h => ?_)
   (fun c14 h => cond_yes c7 (cond_yes c8 (cond_yes c9 (bif_split h
   (fun c15 h => bif_split h
   (fun c16 h => ?_)
   (fun c16 h => ?_))
   (fun c15 h => bif_split h
   (fun c16 h => ?_)
   (fun c16 h => ?_)))))))))))
   (fun c9 h => bif_split h
   (fun c10 h => ?_)
   (fun c10 h => bif_split h
   (fun c11 h => ?_)
   (fun c11 h => bif_split h
   (fun c12 h => ?_)
   (fun c12 h => bif_split h
   (fun c13 h => cond_yes c7 (bif_split h
   (fun c14 h => bif_split h
   (fun c15 h => bif_split h
   (fun c16 h => bif_split h
   (fun c17 h => ?_)
   (fun c17 h => ?_))
   (fun c16 h => bif_split h
   (fun c17 h => ?_)
   (fun c17 h => ?_)))
   (fun c15 h => bif_split h
   (fun c16 h => bif_split h
   (fun c17 h => ?_)
   (fun c17 h => ?_))
   (fun c16 h => bif_split h
   (fun c17 h => ?_)
   (fun c17 h => ?_))))
   (fun c14 h => bif_split h
   (fun c15 h => bif_split h
   (fun c16 h => bif_split h
   (fun c17 h => ?_)
   (fun c17 h => ?_))
   (fun c16 h => bif_split h
   (fun c17 h => ?_)
   (fun c17 h => ?_)))
   (fun c15 h => bif_split h
   (fun c16 h => bif_split h
   (fun c17 h => ?_)
   (fun c17 h => ?_))
   (fun c16 h => bif_split h
   (fun c17 h => ?_)
   (fun c17 h => ?_))))))
   (fun c13 h => bif_split h
   (fun c14 h => ?_)
   (fun c14 h => cond_yes c7 (cond_yes c8 (cond_no c9 (bif_split h
   (fun c15 h => bif_split h
   (fun c16 h => ?_)
   (fun c16 h => ?_))
   (fun c15 h => bif_split h
   (fun c16 h => ?_)
   (fun c16 h => ?_))))))))))))
   (fun c8 h => bif_split h
   (fun c9 h => bif_split h
   (fun c10 h => ?_)
   (fun c10 h => bif_split h
   (fun c11 h => ?_)
   (fun c11 h => bif_split h
   (fun c12 h => ?_)
   (fun c12 h => bif_split h
   (fun c13 h => cond_yes c7 (bif_split h
   (fun c14 h => bif_split h
   (fun c15 h => bif_split h
   (fun c16 h => bif_split h
   (fun c17 h => ?_)
   (fun c17 h => ?_))
   (fun c16 h => bif_split h
   (fun c17 h => ?_)
   (fun c17 h => ?_)))
   (fun c15 h => bif_split h
   (fun c16 h => bif_split h
   (fun c17 h => ?_)
   (fun c17 h => ?_))
   (fun c16 h => bif_split h
   (fun c17 h => ?_)
   (fun c17 h => ?_))))
   (fun c14 h => bif_split h
   (fun c15 h => bif_split h
   (fun c16 h => bif_split h
   (fun c17 h => ?_)
   (fun c17 h => ?_))
   (fun c16 h => bif_split h
   (fun c17 h => ?_)
   (fun c17 h => ?_)))
   (fun c15 h => bif_split h
   (fun c16 h => bif_split h
   (fun c17 h => ?_)
   (fun c17 h => ?_))
   (fun c16 h => bif_split h
   (fun c17 h => ?_)
   (fun c17 h => ?_))))))
   (fun c13 h => bif_split h
   (fun c14 h => ?_)
   (fun c14 h => cond_yes c7 (cond_no c8 (cond_yes c9 (bif_split h
   (fun c15 h => bif_split h
   (fun c16 h => ?_)
   (fun c16 h => ?_))
   (fun c15 h => bif_split h
   (fun c16 h => ?_)
   (fun c16 h => ?_)))))))))))
   (fun c9 h => bif_split h
   (fun c10 h => ?_)
   (fun c10 h => bif_split h
   (fun c11 h => ?_)
   (fun c11 h => bif_split h
   (fun c12 h => ?_)
   (fun c12 h => bif_split h
   (fun c13 h => cond_yes c7 (bif_split h
   (fun c14 h => bif_split h
   (fun c15 h => bif_split h
   (fun c16 h => bif_split h
   (fun c17 h => ?_)
   (fun c17 h => ?_))
   (fun c16 h => bif_split h
   (fun c17 h => ?_)
   (fun c17 h => ?_)))
   (fun c15 h => bif_split h
   (fun c16 h => bif_split h
   (fun c17 h => ?_)
   (fun c17 h => ?_))
   (fun c16 h => bif_split h
   (fun c17 h => ?_)
   (fun c17 h => ?_))))
   (fun c14 h => bif_split h
   (fun c15 h => bif_split h
   (fun c16 h => bif_split h
   (fun c17 h => ?_)
   (fun c17 h => ?_))
   (fun c16 h => bif_split h
   (fun c17 h => ?_)
   (fun c17 h => ?_)))
   (fun c15 h => bif_split h
   (fun c16 h => bif_split h
   (fun c17 h => ?_)
   (fun c17 h => ?_))
   (fun c16 h => bif_split h
   (fun c17 h => ?_)
   (fun c17 h => ?_))))))
   (fun c13 h => bif_split h
   (fun c14 h => ?_)
   (fun c14 h => cond_yes c7 (cond_no c8 (cond_no c9 (bif_split h
   (fun c15 h => bif_split h
   (fun c16 h => ?_)
   (fun c16 h => ?_))
   (fun c15 h => bif_split h
   (fun c16 h => ?_)
   (fun c16 h => ?_)))))))))))))
   (fun c7 h => ?_))
   (fun c6 h => ?_)))
   (fun c5 h => ?_))))))
   (fun c0 h => ?_)
  repeat' first
    | exact ret_at hR _ h (fun n => bif Nat.beq n 3 then 7 else n) rfl rfl rfl (rn_tup ⟨(rn_agg ⟨(rn_loose (use_lo rfl) rfl rfl rfl), (rn_int rfl), (rn_own (use_own rfl) rfl mkl_len), (rn_int rfl), (rn_int rfl), (rn_int rfl), (rn_bool_tf rfl), (rn_bool_tf rfl), trivial⟩), (rn_int rfl), trivial⟩) rfl (entl_new (use_own rfl) rfl (Nat.le_of_eq mkl_len) (rcs_bool (fun _ hj => col_mkl (fun (t : Bool) => t) hj) rcs_nil) (entl_bor (use_lo rfl) rfl rfl (entl_bor (use_lo rfl) rfl rfl entl_nil)))
    | exact no_some h
    | exact ret_at hR _ h (fun n => bif Nat.beq n 3 then 399 else n) rfl rfl rfl (rn_tup ⟨(rn_agg ⟨(rn_loose_nils rfl), (rn_int rfl), (rn_own_nils rfl), (rn_int rfl), (rn_int rfl), (rn_int rfl), (rn_bool_tf rfl), (rn_bool_tf rfl), trivial⟩), (rn_int rfl), trivial⟩) rfl (entl_fresh (use_own rfl) (fresh_ok rfl) (entl_bor (use_lo rfl) rfl rfl (entl_bor (use_lo rfl) rfl rfl entl_nil)))
    | exact stop_at hS _ h (fun n => bif Nat.beq n 2 then 2 else bif Nat.beq n 3 then 7 else bif Nat.beq n 4 then 4 else n) rfl rfl rfl ⟨(rn_ptr (use_own rfl) rfl rfl), ⟨(rn_ptr (use_own rfl) rfl rfl), ⟨(rn_bool_tf rfl), ⟨(rn_bool_tf rfl), ⟨(rn_int rfl), trivial⟩⟩⟩⟩⟩ rfl (entl_b (use_own rfl) rfl (by simp) (rb_cells ⟨(rn_loose (use_lo rfl) rfl rfl rfl), (rn_int rfl), (rn_own (use_own rfl) rfl mkl_len), (rn_int rfl), (rn_int rfl), (rn_int rfl), (rn_bool rfl), (rn_bool rfl), trivial⟩) (entl_new (use_own rfl) rfl (Nat.le_of_eq mkl_len) (rcs_bool (fun _ hj => col_mkl (fun (t : Bool) => t) hj) rcs_nil) (entl_b (use_own rfl) rfl (by simp) (rb_cells ⟨rn_nils, (rn_int rfl), rn_nils, (rn_int rfl), (rn_int rfl), (rn_int rfl), (rn_tf rfl), (rn_tf rfl), trivial⟩) (entl_bor (use_lo rfl) rfl rfl (entl_bor (use_lo rfl) rfl rfl entl_nil)))))
    | refine bif_split h (fun c11 h => bif_split h (fun c12 h => cond_yes c7 (bif_split h (fun c13 h => bif_split h (fun c14 h => bif_split h (fun c15 h => bif_split h (fun c16 h => ?_) (fun c16 h => ?_)) (fun c15 h => bif_split h (fun c16 h => ?_) (fun c16 h => ?_))) (fun c14 h => bif_split h (fun c15 h => bif_split h (fun c16 h => ?_) (fun c16 h => ?_)) (fun c15 h => bif_split h (fun c16 h => ?_) (fun c16 h => ?_)))) (fun c13 h => bif_split h (fun c14 h => bif_split h (fun c15 h => bif_split h (fun c16 h => ?_) (fun c16 h => ?_)) (fun c15 h => bif_split h (fun c16 h => ?_) (fun c16 h => ?_))) (fun c14 h => bif_split h (fun c15 h => bif_split h (fun c16 h => ?_) (fun c16 h => ?_)) (fun c15 h => bif_split h (fun c16 h => ?_) (fun c16 h => ?_)))))) (fun c12 h => ?_)) (fun c11 h => ?_)
    | refine bif_split h (fun c12 h => bif_split h (fun c13 h => cond_yes c7 (bif_split h (fun c14 h => bif_split h (fun c15 h => bif_split h (fun c16 h => bif_split h (fun c17 h => ?_) (fun c17 h => ?_)) (fun c16 h => bif_split h (fun c17 h => ?_) (fun c17 h => ?_))) (fun c15 h => bif_split h (fun c16 h => bif_split h (fun c17 h => ?_) (fun c17 h => ?_)) (fun c16 h => bif_split h (fun c17 h => ?_) (fun c17 h => ?_)))) (fun c14 h => bif_split h (fun c15 h => bif_split h (fun c16 h => bif_split h (fun c17 h => ?_) (fun c17 h => ?_)) (fun c16 h => bif_split h (fun c17 h => ?_) (fun c17 h => ?_))) (fun c15 h => bif_split h (fun c16 h => bif_split h (fun c17 h => ?_) (fun c17 h => ?_)) (fun c16 h => bif_split h (fun c17 h => ?_) (fun c17 h => ?_)))))) (fun c13 h => ?_)) (fun c12 h => ?_)
    | refine bif_split h (fun c13 h => bif_split h (fun c14 h => ?_) (fun c14 h => cond_yes c7 (bif_split h (fun c15 h => bif_split h (fun c16 h => bif_split h (fun c17 h => bif_split h (fun c18 h => ?_) (fun c18 h => ?_)) (fun c17 h => bif_split h (fun c18 h => ?_) (fun c18 h => ?_))) (fun c16 h => bif_split h (fun c17 h => bif_split h (fun c18 h => ?_) (fun c18 h => ?_)) (fun c17 h => bif_split h (fun c18 h => ?_) (fun c18 h => ?_)))) (fun c15 h => bif_split h (fun c16 h => bif_split h (fun c17 h => bif_split h (fun c18 h => ?_) (fun c18 h => ?_)) (fun c17 h => bif_split h (fun c18 h => ?_) (fun c18 h => ?_))) (fun c16 h => bif_split h (fun c17 h => bif_split h (fun c18 h => ?_) (fun c18 h => ?_)) (fun c17 h => bif_split h (fun c18 h => ?_) (fun c18 h => ?_))))))) (fun c13 h => ?_)
    | refine bif_split h (fun c13 h => bif_split h (fun c14 h => cond_yes c9 (bif_split h (fun c15 h => bif_split h (fun c16 h => bif_split h (fun c17 h => bif_split h (fun c18 h => ?_) (fun c18 h => ?_)) (fun c17 h => bif_split h (fun c18 h => ?_) (fun c18 h => ?_))) (fun c16 h => bif_split h (fun c17 h => bif_split h (fun c18 h => ?_) (fun c18 h => ?_)) (fun c17 h => bif_split h (fun c18 h => ?_) (fun c18 h => ?_)))) (fun c15 h => bif_split h (fun c16 h => bif_split h (fun c17 h => bif_split h (fun c18 h => ?_) (fun c18 h => ?_)) (fun c17 h => bif_split h (fun c18 h => ?_) (fun c18 h => ?_))) (fun c16 h => bif_split h (fun c17 h => bif_split h (fun c18 h => ?_) (fun c18 h => ?_)) (fun c17 h => bif_split h (fun c18 h => ?_) (fun c18 h => ?_)))))) (fun c14 h => ?_)) (fun c13 h => ?_)
    | refine bif_split h (fun c14 h => bif_split h (fun c15 h => cond_yes c9 (bif_split h (fun c16 h => bif_split h (fun c17 h => bif_split h (fun c18 h => bif_split h (fun c19 h => ?_) (fun c19 h => ?_)) (fun c18 h => bif_split h (fun c19 h => ?_) (fun c19 h => ?_))) (fun c17 h => bif_split h (fun c18 h => bif_split h (fun c19 h => ?_) (fun c19 h => ?_)) (fun c18 h => bif_split h (fun c19 h => ?_) (fun c19 h => ?_)))) (fun c16 h => bif_split h (fun c17 h => bif_split h (fun c18 h => bif_split h (fun c19 h => ?_) (fun c19 h => ?_)) (fun c18 h => bif_split h (fun c19 h => ?_) (fun c19 h => ?_))) (fun c17 h => bif_split h (fun c18 h => bif_split h (fun c19 h => ?_) (fun c19 h => ?_)) (fun c18 h => bif_split h (fun c19 h => ?_) (fun c19 h => ?_)))))) (fun c15 h => ?_)) (fun c14 h => ?_)
    | refine bif_split h (fun c15 h => bif_split h (fun c16 h => ?_) (fun c16 h => cond_yes c9 (bif_split h (fun c17 h => bif_split h (fun c18 h => bif_split h (fun c19 h => bif_split h (fun c20 h => ?_) (fun c20 h => ?_)) (fun c19 h => bif_split h (fun c20 h => ?_) (fun c20 h => ?_))) (fun c18 h => bif_split h (fun c19 h => bif_split h (fun c20 h => ?_) (fun c20 h => ?_)) (fun c19 h => bif_split h (fun c20 h => ?_) (fun c20 h => ?_)))) (fun c17 h => bif_split h (fun c18 h => bif_split h (fun c19 h => bif_split h (fun c20 h => ?_) (fun c20 h => ?_)) (fun c19 h => bif_split h (fun c20 h => ?_) (fun c20 h => ?_))) (fun c18 h => bif_split h (fun c19 h => bif_split h (fun c20 h => ?_) (fun c20 h => ?_)) (fun c19 h => bif_split h (fun c20 h => ?_) (fun c20 h => ?_))))))) (fun c15 h => ?_)
theorem b35_0 (aq nq mq : Nat) (tq : Nat → ByteArray) (vq gq : Nat → Int) (de : Int) (ao no mo : Nat) (to : Nat → Bool) (k1 k2 k3 : Int) (la lb : Bool) (ki ss f1 f2 f3 : Int) (Kst : KS) (Kret : KR) (x : St35 ⊕ Rt35) (hS : HS 2 400 ((I35 aq nq mq tq vq gq de ao no mo to k1 k2 k3 la lb ki ss f1 f2 f3)) Kst x) (hR : HR 2 400 ((V35 aq nq mq tq vq gq de ao no mo to k1 k2 k3 la lb ki ss f1 f2 f3)) (fun r => [newL (2 + 1) ((N35 aq nq mq tq vq gq de ao no mo to k1 k2 k3 la lb ki ss f1 f2 f3) r) ++ [(0, (false, .cols mq [.str tq, .int .i64 vq, .int .i64 gq])), (1, (false, .cols mo [.bool to]))]]) Kret x) (x0 x1 : Bool) (x2 : Int) (x3 : List Bool) (h : (bif (decide (x2 < (↑(List.length x3) : Int)))
 then (bif (decide ((0 : Int) ≤ x2 ∧ x2 < (↑(List.length x3) : Int)))
 then (bif (decide (Int.toNat x2 < List.length x3))
 then (bif (S.at' x3 (Int.toNat x2))
 then (bif (lim IntKind.i64 (x2 + (1 : Int)))
 then (some (.inl (.h0 (x0) (x1) (x2 + (1 : Int)) (x3))))
 else (none))
 else (some (.inr (0, 0, (0 : Int), (0 : Int), (0 : Int), (0 : Int), false, false, (8 : Int), []))))
 else (none))
 else (none))
 else (bif (x0)
 then (bif (x1)
 then (bif (decide (aq + nq ≤ mq ∧ nq ≤ 1000000 ∧ 0 + List.length x3 ≤ List.length x3))
 then (bif (Prod.fst
 (c35_0_0 aq nq tq vq gq de k1 k2 k3 x3))
 then (bif (Prod.fst
 (Prod.snd
 (c35_0_0 aq nq tq vq gq de k1 k2 k3 x3)))
 then (some (.inr (aq, nq, de, k1, k2, k3, false, false, (0 : Int), x3)))
 else (some (.inr (aq, nq, de, k1, k2, k3, false, true, (0 : Int), x3))))
 else (bif (Prod.fst
 (Prod.snd
 (c35_0_0 aq nq tq vq gq de k1 k2 k3 x3)))
 then (some (.inr (aq, nq, de, k1, k2, k3, true, false, (0 : Int), x3)))
 else (some (.inr (aq, nq, de, k1, k2, k3, true, true, (0 : Int), x3)))))
 else (none))
 else (some (.inr (0, 0, (0 : Int), (0 : Int), (0 : Int), (0 : Int), false, false, (8 : Int), []))))
 else (some (.inr (0, 0, (0 : Int), (0 : Int), (0 : Int), (0 : Int), false, false, (8 : Int), [])))) : Option (St35 ⊕ Rt35)) = some x) : T35_0 cond Kst Kret aq nq mq tq vq gq de ao no mo to k1 k2 k3 la lb ki ss f1 f2 f3 x0 x1 x2 x3 := by
  unfold T35_0
  refine bif_split h
   (fun c0 h => bif_split h
   (fun c1 h => bif_split h
   (fun c2 h => bif_split h
   (fun c3 h => bif_split h
   (fun c4 h => stop_at hS _ h (fun n => bif Nat.beq n 2 then 2 else bif Nat.beq n 3 then 3 else bif Nat.beq n 4 then 4 else n) rfl rfl rfl ⟨(rn_ptr (use_own rfl) rfl rfl), ⟨(rn_ptr (use_own rfl) rfl rfl), ⟨(rn_bool rfl), ⟨(rn_bool rfl), ⟨(rn_int rfl), trivial⟩⟩⟩⟩⟩ rfl (entl_b (use_own rfl) rfl (by simp) (rb_cells ⟨(rn_loose (use_lo rfl) rfl rfl rfl), (rn_int rfl), (rn_own (use_own rfl) rfl rfl), (rn_int rfl), (rn_int rfl), (rn_int rfl), (rn_bool rfl), (rn_bool rfl), trivial⟩) (entl_new (use_own rfl) rfl (Nat.le_of_eq rfl) (rcs_bool (fun _ _ => rfl) rcs_nil) (entl_b (use_own rfl) rfl (by simp) (rb_cells ⟨rn_nils, (rn_int rfl), rn_nils, (rn_int rfl), (rn_int rfl), (rn_int rfl), (rn_tf rfl), (rn_tf rfl), trivial⟩) (entl_bor (use_lo rfl) rfl rfl (entl_bor (use_lo rfl) rfl rfl entl_nil))))))
   (fun c4 h => ?_))
   (fun c3 h => ?_))
   (fun c2 h => ?_))
   (fun c1 h => ?_))
   (fun c0 h => bif_split h
   (fun c1 h => bif_split h
   (fun c2 h => bif_split h
   (fun c3 h => bif_split h
   (fun c4 h => bif_split h
   (fun c5 h => ?_)
   (fun c5 h => ?_))
   (fun c4 h => bif_split h
   (fun c5 h => ?_)
   (fun c5 h => ?_)))
   (fun c3 h => ?_))
   (fun c2 h => ?_))
   (fun c1 h => ?_))
  all_goals first
    | exact no_some h
    | exact ret_at hR _ h (fun n => bif Nat.beq n 3 then 3 else n) rfl rfl rfl (rn_tup ⟨(rn_agg ⟨(rn_loose (use_lo rfl) rfl rfl rfl), (rn_int rfl), (rn_own (use_own rfl) rfl rfl), (rn_int rfl), (rn_int rfl), (rn_int rfl), (rn_bool_tf rfl), (rn_bool_tf rfl), trivial⟩), (rn_int rfl), trivial⟩) rfl (entl_new (use_own rfl) rfl (Nat.le_of_eq rfl) (rcs_bool (fun _ _ => rfl) rcs_nil) (entl_bor (use_lo rfl) rfl rfl (entl_bor (use_lo rfl) rfl rfl entl_nil)))
    | exact ret_at hR _ h (fun n => bif Nat.beq n 3 then 399 else n) rfl rfl rfl (rn_tup ⟨(rn_agg ⟨(rn_loose_nils rfl), (rn_int rfl), (rn_own_nils rfl), (rn_int rfl), (rn_int rfl), (rn_int rfl), (rn_bool_tf rfl), (rn_bool_tf rfl), trivial⟩), (rn_int rfl), trivial⟩) rfl (entl_fresh (use_own rfl) (fresh_ok rfl) (entl_bor (use_lo rfl) rfl rfl (entl_bor (use_lo rfl) rfl rfl entl_nil)))
theorem a35 (aq nq mq : Nat) (tq : Nat → ByteArray) (vq gq : Nat → Int) (de : Int) (ao no mo : Nat) (to : Nat → Bool) (k1 k2 k3 : Int) (la lb : Bool) (ki ss f1 f2 f3 : Int) {r : Rt35} (h : Goes ((q35 aq nq mq tq vq gq de ao no mo to k1 k2 k3 la lb ki ss f1 f2 f3)) ((p35 aq nq mq tq vq gq de ao no mo to k1 k2 k3 la lb ki ss f1 f2 f3)) r) : CallR Try.prog 35 [.agg [.loose ⟨0, 3, aq, 0⟩ nq, .int .i64 de, .loose ⟨1, 1, ao, 0⟩ no, .int .i64 k1, .int .i64 k2, .int .i64 k3, .bool la, .bool lb], .agg [.int .i64 ki, .int .i64 ss, .int .i64 f1, .int .i64 f2, .int .i64 f3]] [[(0, (false, .cols mq [.str tq, .int .i64 vq, .int .i64 gq])), (1, (false, .cols mo [.bool to]))]] 2 ((V35 aq nq mq tq vq gq de ao no mo to k1 k2 k3 la lb ki ss f1 f2 f3) r) ((fun r => [newL (2 + 1) ((N35 aq nq mq tq vq gq de ao no mo to k1 k2 k3 la lb ki ss f1 f2 f3) r) ++ [(0, (false, .cols mq [.str tq, .int .i64 vq, .int .i64 gq])), (1, (false, .cols mo [.bool to]))]]) r) 400 ∧ ∃ F, Try.prog.funcs[35]? = some F ∧ F.body.isSome = true ∧ (F.name == "runtime.NumGoroutine") = false := by
  refine dec_calls (f := 35) (lo := 2) (hi := 400) (H := [[(0, (false, .cols mq [.str tq, .int .i64 vq, .int .i64 gq])), (1, (false, .cols mo [.bool to]))]]) (args := [.agg [.loose ⟨0, 3, aq, 0⟩ nq, .int .i64 de, .loose ⟨1, 1, ao, 0⟩ no, .int .i64 k1, .int .i64 k2, .int .i64 k3, .bool la, .bool lb], .agg [.int .i64 ki, .int .i64 ss, .int .i64 f1, .int .i64 f2, .int .i64 f3]]) Try.envOk Try.mixed xO_ok ((I35 aq nq mq tq vq gq de ao no mo to k1 k2 k3 la lb ki ss f1 f2 f3)) ((V35 aq nq mq tq vq gq de ao no mo to k1 k2 k3 la lb ki ss f1 f2 f3)) (fun r => [newL (2 + 1) ((N35 aq nq mq tq vq gq de ao no mo to k1 k2 k3 la lb ki ss f1 f2 f3) r) ++ [(0, (false, .cols mq [.str tq, .int .i64 vq, .int .i64 gq])), (1, (false, .cols mo [.bool to]))]]) (fn := mkFn Try.f35) (ts := [2, 4, 7, 8, 11]) (n := 400) rfl (by decide) (by simp) (names_of rfl) ?_ ?_ ?_ h
  · intro s; cases s <;> exact ⟨hd_ok _ _, by simp [I35], names_of rfl, Nat.le_of_ble_eq_true rfl⟩
  · intro Kst Kret x hS hR h
    exact Holds.eq (te35 cond Kst Kret aq nq mq tq vq gq de ao no mo to k1 k2 k3 la lb ki ss f1 f2 f3) (be35 aq nq mq tq vq gq de ao no mo to k1 k2 k3 la lb ki ss f1 f2 f3 Kst Kret x hS hR h)
  · intro Kst Kret x hS hR s h
    cases s with
    | h0 x0 x1 x2 x3 => exact Holds.eq (t35_0 cond Kst Kret aq nq mq tq vq gq de ao no mo to k1 k2 k3 la lb ki ss f1 f2 f3 x0 x1 x2 x3) (b35_0 aq nq mq tq vq gq de ao no mo to k1 k2 k3 la lb ki ss f1 f2 f3 Kst Kret x hS hR x0 x1 x2 x3 h)
noncomputable def k35  : Con := ⟨35, [.agg [.list [.str, .int .i64, .int .i64], .plain (.int .i64), .list [.bool], .plain (.int .i64), .plain (.int .i64), .plain (.int .i64), .plain (.bool), .plain (.bool)], .agg [.plain (.int .i64), .plain (.int .i64), .plain (.int .i64), .plain (.int .i64), .plain (.int .i64)]], fun (x : ((Nat × Nat × Nat × (Nat → ByteArray) × (Nat → Int) × (Nat → Int) × Unit) × Int × (Nat × Nat × Nat × (Nat → Bool) × Unit) × Int × Int × Int × Bool × Bool × Unit) × (Int × Int × Int × Int × Int × Unit) × Unit) => (fun (aq nq mq : Nat) (tq : Nat → ByteArray) (vq : Nat → Int) (gq : Nat → Int) (de : Int) (ao no mo : Nat) (to : Nat → Bool) (k1 : Int) (k2 : Int) (k3 : Int) (la : Bool) (lb : Bool) (ki : Int) (ss : Int) (f1 : Int) (f2 : Int) (f3 : Int) => decide (aq + nq ≤ mq ∧ nq ≤ 1000000 ∧ ao + no ≤ mo ∧ no ≤ 1000000)) x.1.1.1 x.1.1.2.1 x.1.1.2.2.1 x.1.1.2.2.2.1 x.1.1.2.2.2.2.1 x.1.1.2.2.2.2.2.1 x.1.2.1 x.1.2.2.1.1 x.1.2.2.1.2.1 x.1.2.2.1.2.2.1 x.1.2.2.1.2.2.2.1 x.1.2.2.2.1 x.1.2.2.2.2.1 x.1.2.2.2.2.2.1 x.1.2.2.2.2.2.2.1 x.1.2.2.2.2.2.2.2.1 x.2.1.1 x.2.1.2.1 x.2.1.2.2.1 x.2.1.2.2.2.1 x.2.1.2.2.2.2.1, fun (x : ((Nat × Nat × Nat × (Nat → ByteArray) × (Nat → Int) × (Nat → Int) × Unit) × Int × (Nat × Nat × Nat × (Nat → Bool) × Unit) × Int × Int × Int × Bool × Bool × Unit) × (Int × Int × Int × Int × Int × Unit) × Unit) => (fun (aq nq mq : Nat) (tq : Nat → ByteArray) (vq : Nat → Int) (gq : Nat → Int) (de : Int) (ao no mo : Nat) (to : Nat → Bool) (k1 : Int) (k2 : Int) (k3 : Int) (la : Bool) (lb : Bool) (ki : Int) (ss : Int) (f1 : Int) (f2 : Int) (f3 : Int) => (V35 aq nq mq tq vq gq de ao no mo to k1 k2 k3 la lb ki ss f1 f2 f3) (S.rdS aq nq (S.doS nq (S.stE nq no (S.netE nq (fun j => tq (j + aq)) (fun j => vq (j + aq)) (fun j => gq (j + aq)) de) (fun j => to (j + ao)) k1 k2 k3 la lb) de (S.mkl nq fun j => (tq (j + aq), vq (j + aq), gq (j + aq))) (fun j => to (j + ao)) k1 k2 k3 la lb ki ss f1 f2 f3))) x.1.1.1 x.1.1.2.1 x.1.1.2.2.1 x.1.1.2.2.2.1 x.1.1.2.2.2.2.1 x.1.1.2.2.2.2.2.1 x.1.2.1 x.1.2.2.1.1 x.1.2.2.1.2.1 x.1.2.2.1.2.2.1 x.1.2.2.1.2.2.2.1 x.1.2.2.2.1 x.1.2.2.2.2.1 x.1.2.2.2.2.2.1 x.1.2.2.2.2.2.2.1 x.1.2.2.2.2.2.2.2.1 x.2.1.1 x.2.1.2.1 x.2.1.2.2.1 x.2.1.2.2.2.1 x.2.1.2.2.2.2.1, fun (x : ((Nat × Nat × Nat × (Nat → ByteArray) × (Nat → Int) × (Nat → Int) × Unit) × Int × (Nat × Nat × Nat × (Nat → Bool) × Unit) × Int × Int × Int × Bool × Bool × Unit) × (Int × Int × Int × Int × Int × Unit) × Unit) => (fun (aq nq mq : Nat) (tq : Nat → ByteArray) (vq : Nat → Int) (gq : Nat → Int) (de : Int) (ao no mo : Nat) (to : Nat → Bool) (k1 : Int) (k2 : Int) (k3 : Int) (la : Bool) (lb : Bool) (ki : Int) (ss : Int) (f1 : Int) (f2 : Int) (f3 : Int) => (N35 aq nq mq tq vq gq de ao no mo to k1 k2 k3 la lb ki ss f1 f2 f3) (S.rdS aq nq (S.doS nq (S.stE nq no (S.netE nq (fun j => tq (j + aq)) (fun j => vq (j + aq)) (fun j => gq (j + aq)) de) (fun j => to (j + ao)) k1 k2 k3 la lb) de (S.mkl nq fun j => (tq (j + aq), vq (j + aq), gq (j + aq))) (fun j => to (j + ao)) k1 k2 k3 la lb ki ss f1 f2 f3))) x.1.1.1 x.1.1.2.1 x.1.1.2.2.1 x.1.1.2.2.2.1 x.1.1.2.2.2.2.1 x.1.1.2.2.2.2.2.1 x.1.2.1 x.1.2.2.1.1 x.1.2.2.1.2.1 x.1.2.2.1.2.2.1 x.1.2.2.1.2.2.2.1 x.1.2.2.2.1 x.1.2.2.2.2.1 x.1.2.2.2.2.2.1 x.1.2.2.2.2.2.2.1 x.1.2.2.2.2.2.2.2.1 x.2.1.1 x.2.1.2.1 x.2.1.2.2.1 x.2.1.2.2.2.1 x.2.1.2.2.2.2.1, fun _ _ => .dead⟩
theorem s35' (aq nq mq : Nat) (tq : Nat → ByteArray) (vq gq : Nat → Int) (de : Int) (ao no mo : Nat) (to : Nat → Bool) (k1 k2 k3 : Int) (la lb : Bool) (ki ss f1 f2 f3 : Int) (hp : aq + nq ≤ mq ∧ nq ≤ 1000000 ∧ ao + no ≤ mo ∧ no ≤ 1000000) (hn : no = nq) (e1 : (S.netE nq (fun j => tq (j + aq)) (fun j => vq (j + aq)) (fun j => gq (j + aq)) de) = 0) (e3 : S.failE no k1 k2 k3 = 0) : ∀ k i : Nat, i + k = no → (∀ j, j < i → to (j + ao) = true) → Comes (q35 aq nq mq tq vq gq de ao no mo to k1 k2 k3 la lb ki ss f1 f2 f3) (.h0 (!(S.op1 1 no (fun j => to (j + ao)) k1 k2 k3)) (!(S.op1 2 no (fun j => to (j + ao)) k1 k2 k3)) (i : Int) (S.mkl no (fun j => to (j + ao)))) (S.rdS aq no (if S.any (fun j => !(fun j => to (j + ao)) j) no = true ∨ (S.op1 1 no (fun j => to (j + ao)) k1 k2 k3) = true ∨ (S.op1 2 no (fun j => to (j + ao)) k1 k2 k3) = true then S.doErr 8 else S.doRes no de (S.mkl no fun j => (tq (j + aq), vq (j + aq), gq (j + aq))) (S.mkl no (fun j => to (j + ao))) k1 k2 k3 false false)) := by
  subst hn
  obtain ⟨hp1, hp2, hp3, hp4⟩ := hp
  have hl0 : ∀ o, S.looS no no 0 o k1 k2 k3 = (!S.op1 1 no o k1 k2 k3, !S.op1 2 no o k1 k2 k3, 0) := fun o => loo_ok e3
  intro k
  induction k with
  | zero =>
    intro i hi hall
    have ha : S.any (fun j => !(fun j => to (j + ao)) j) no = false := any_no.mpr fun j hj => by
      show (!to (j + ao)) = false
      rw [hall j (by omega)]; rfl
    rw [ha]
    unfold S.doRes
    simp only [op1_mkl]
    apply Comes.of
    show Goes _ _ _
    rw [q35]
    simp only [c35_0_0, c35_e_0, c35_e_1, c35_e_2, c35_e_3, c35_e_4, c35_e_5, c35_e_6, c35_e_7, c35_e_8, c35_e_9, c35_e_10, c35_e_11, c35_e_12, c35_e_13, c35_e_14, c35_e_15, c35_e_16, c35_e_17, c35_e_18, c35_e_19, c35_e_20, c35_e_21, c35_e_22, c35_e_23, c35_e_24, c35_e_25, c35_e_26, c35_e_27, c35_e_28, c35_e_29, c35_e_30, c35_e_31, c35_e_32, c35_e_33, c35_e_34, c35_e_35, c35_e_36, c35_e_37, c35_e_38, d35_0, d35_1, d35_2, d35_3, d35_4, mkl_len, e1, hl0, op1_mkl]
    generalize (S.op1 1 no (fun j => to (j + ao)) k1 k2 k3) = A at *
    generalize (S.op1 2 no (fun j => to (j + ao)) k1 k2 k3) = B at *
    rw [decide_eq_false (show ¬ (i : Int) < (no : Int) by omega)]
    cases A <;> cases B
    all_goals
     show Goes _ _ _
     repeat' first
      | with_reducible refine goes_if (fun h => ?_) (fun h => ?_) <;> (try simp only [SH] at h)
      | exact goes_none.mpr (by omega)
      | fail
     all_goals first | (exfalso; omega) | exact goes_inr.mpr rfl | (exfalso; simp_all; done)
  | succ k ih =>
    intro i hi hall
    have e : S.at' (S.mkl no (fun j => to (j + ao))) i = to (i + ao) := at_mkl (by omega)
    apply Comes.of
    show Goes _ _ _
    rw [q35]
    cases hto : to (i + ao)
    · have ha : S.any (fun j => !(fun j => to (j + ao)) j) no = true := any_iff.mpr ⟨i, by omega, by show (!to (i + ao)) = true; rw [hto]; rfl⟩
      rw [if_pos (.inl ha)]
      simp only [mkl_len, Int.toNat_natCast, e, hto]
      show Goes _ _ _
      repeat' first
        | with_reducible refine goes_if (fun h => ?_) (fun h => ?_) <;> (try simp only [SH] at h)
        | exact goes_none.mpr (by omega)
        | fail
      all_goals first | (exfalso; omega) | exact goes_inr.mpr rfl | (exfalso; simp_all; done)
    · have ih := ih (i + 1) (by omega) (fun j hj => by
        rcases Nat.lt_or_eq_of_le (Nat.le_of_lt_succ hj) with h | h
        · exact hall j h
        · rw [h]; exact hto)
      simp only [mkl_len, Int.toNat_natCast, e, hto]
      show Goes _ _ _
      repeat' first
        | with_reducible refine goes_if (fun h => ?_) (fun h => ?_) <;> (try simp only [SH] at h)
        | exact goes_none.mpr (by omega)
        | fail
      all_goals first | (exfalso; omega) | exact ih | (exfalso; simp_all; done)
theorem s35 (aq nq mq : Nat) (tq : Nat → ByteArray) (vq gq : Nat → Int) (de : Int) (ao no mo : Nat) (to : Nat → Bool) (k1 k2 k3 : Int) (la lb : Bool) (ki ss f1 f2 f3 : Int) (hp : aq + nq ≤ mq ∧ nq ≤ 1000000 ∧ ao + no ≤ mo ∧ no ≤ 1000000) : Goes ((q35 aq nq mq tq vq gq de ao no mo to k1 k2 k3 la lb ki ss f1 f2 f3)) ((p35 aq nq mq tq vq gq de ao no mo to k1 k2 k3 la lb ki ss f1 f2 f3)) (S.rdS aq nq (S.doS nq (S.stE nq no (S.netE nq (fun j => tq (j + aq)) (fun j => vq (j + aq)) (fun j => gq (j + aq)) de) (fun j => to (j + ao)) k1 k2 k3 la lb) de (S.mkl nq fun j => (tq (j + aq), vq (j + aq), gq (j + aq))) (fun j => to (j + ao)) k1 k2 k3 la lb ki ss f1 f2 f3)) := by
  have hp0 := hp
  obtain ⟨hp1, hp2, hp3, hp4⟩ := hp
  by_cases he : (S.stE nq no (S.netE nq (fun j => tq (j + aq)) (fun j => vq (j + aq)) (fun j => gq (j + aq)) de) (fun j => to (j + ao)) k1 k2 k3 la lb) = 0
  · obtain ⟨e1, e2, e3, e4, e5⟩ := ste_ok he
    obtain ⟨v1, v2, v3⟩ := net_ok e1
    have hm := s35' aq nq mq tq vq gq de ao no mo to k1 k2 k3 la lb ki ss f1 f2 f3 hp0 e2 e1 (by rw [e2]; exact e3) no 0 (Nat.zero_add _) (fun j hj => absurd hj (Nat.not_lt_zero j))
    subst e2
    have hl0 : ∀ o, S.looS no no 0 o k1 k2 k3 = (!S.op1 1 no o k1 k2 k3, !S.op1 2 no o k1 k2 k3, 0) := fun o => loo_ok e3
    have hl1 : ∀ o, S.looS no no 0 o 0 0 0 = (!S.op1 1 no o 0 0 0, !S.op1 2 no o 0 0 0, 0) := fun o => loo_ok (fail_t (.inl ⟨rfl, rfl, rfl⟩))
    have hl2 : S.failE no f1 f2 f3 = 0 → ∀ o, S.looS no no 0 o f1 f2 f3 = (!S.op1 1 no o f1 f2 f3, !S.op1 2 no o f1 f2 f3, 0) := fun h o => loo_ok h
    have he' : S.stE no no 0 (fun j => to (j + ao)) k1 k2 k3 la lb = 0 := by rw [e1] at he; exact he
    have hne : (S.stE no no 0 (fun j => to (j + ao)) k1 k2 k3 la lb != 0) = false := bne_eq_false_iff_eq.mpr he'
    unfold S.doS S.doRes
    rw [if_pos he]
    unfold p35
    simp only [c35_0_0, c35_e_0, c35_e_1, c35_e_2, c35_e_3, c35_e_4, c35_e_5, c35_e_6, c35_e_7, c35_e_8, c35_e_9, c35_e_10, c35_e_11, c35_e_12, c35_e_13, c35_e_14, c35_e_15, c35_e_16, c35_e_17, c35_e_18, c35_e_19, c35_e_20, c35_e_21, c35_e_22, c35_e_23, c35_e_24, c35_e_25, c35_e_26, c35_e_27, c35_e_28, c35_e_29, c35_e_30, c35_e_31, c35_e_32, c35_e_33, c35_e_34, c35_e_35, c35_e_36, c35_e_37, c35_e_38, d35_0, d35_1, d35_2, d35_3, d35_4, hne, e1, Nat.zero_add, hl0, hl1]
    clear hne he he'
    simp only [S.updB, op1_mkl]
    unfold S.doRes at hm
    simp only [op1_mkl] at hm
    generalize hA : (S.op1 1 no (fun j => to (j + ao)) k1 k2 k3) = A at *
    generalize hB : (S.op1 2 no (fun j => to (j + ao)) k1 k2 k3) = B at *
    by_cases c : ki = 1
    · clear hm hl0 hl1 hl2 hA hB
      subst c
      rw [if_pos (show (1 : Int) = 1 ∨ (1 : Int) = 2 by decide), decide_eq_false (show ¬ (1 : Int) = 2 by decide)]
      simp only [(show ((1 : Int) == 1) = true from rfl), cond_true, cond_false]
      generalize S.op1 1 no (fun j => bif Nat.beq j ss.toNat then false else to (j + ao)) k1 k2 k3 = A1 at *
      generalize S.op1 2 no (fun j => bif Nat.beq j ss.toNat then false else to (j + ao)) k1 k2 k3 = B1 at *
      by_cases hs2 : 0 ≤ ss ∧ ss < (no : Int)
      · rw [if_pos hs2]
        cases A <;> cases B <;> cases la <;> cases lb <;> cases A1 <;> cases B1
        all_goals
         show Goes _ _ _
         repeat' first
          | with_reducible refine goes_if (fun h => ?_) (fun h => ?_) <;> (try simp only [SH] at h)
          | exact goes_none.mpr (by omega)
          | fail
         all_goals first | (exfalso; omega) | exact goes_inr.mpr rfl | (exfalso; simp_all; done)
      · rw [if_neg hs2]
        cases A <;> cases B
        all_goals
         show Goes _ _ _
         repeat' first
          | with_reducible refine goes_if (fun h => ?_) (fun h => ?_) <;> (try simp only [SH] at h)
          | exact goes_none.mpr (by omega)
          | fail
         all_goals first | (exfalso; omega) | exact goes_inr.mpr rfl | (exfalso; simp_all; done)
    by_cases c' : ki = 2
    · have c := c'
      clear hm hl0 hl1 hl2 hA hB
      clear c'; subst c
      rw [if_pos (show (2 : Int) = 1 ∨ (2 : Int) = 2 by decide), decide_eq_true (show (2 : Int) = 2 by decide)]
      simp only [(show ((2 : Int) == 1) = false from rfl), (show ((2 : Int) == 2) = true from rfl), cond_true, cond_false]
      generalize S.op1 1 no (fun j => bif Nat.beq j ss.toNat then true else to (j + ao)) k1 k2 k3 = A1 at *
      generalize S.op1 2 no (fun j => bif Nat.beq j ss.toNat then true else to (j + ao)) k1 k2 k3 = B1 at *
      by_cases hs2 : 0 ≤ ss ∧ ss < (no : Int)
      · rw [if_pos hs2]
        cases A <;> cases B <;> cases la <;> cases lb <;> cases A1 <;> cases B1
        all_goals
         show Goes _ _ _
         repeat' first
          | with_reducible refine goes_if (fun h => ?_) (fun h => ?_) <;> (try simp only [SH] at h)
          | exact goes_none.mpr (by omega)
          | fail
         all_goals first | (exfalso; omega) | exact goes_inr.mpr rfl | (exfalso; simp_all; done)
      · rw [if_neg hs2]
        cases A <;> cases B
        all_goals
         show Goes _ _ _
         repeat' first
          | with_reducible refine goes_if (fun h => ?_) (fun h => ?_) <;> (try simp only [SH] at h)
          | exact goes_none.mpr (by omega)
          | fail
         all_goals first | (exfalso; omega) | exact goes_inr.mpr rfl | (exfalso; simp_all; done)
    by_cases c3 : ki = 3
    · have c := c3
      clear hm hl0 hl1 hA hB c3 c'
      subst c
      rw [if_neg (show ¬ ((3 : Int) = 1 ∨ (3 : Int) = 2) by decide), if_pos rfl]
      simp only [(show ((3 : Int) == 1) = false from rfl), (show ((3 : Int) == 2) = false from rfl), (show ((3 : Int) == 3) = true from rfl), cond_true, cond_false]
      by_cases hf : S.failE no f1 f2 f3 = 0
      · simp only [hl2 hf, hf, if_true]
        clear hl2
        generalize S.op1 1 no (fun j => to (j + ao)) f1 f2 f3 = A1 at *
        generalize S.op1 2 no (fun j => to (j + ao)) f1 f2 f3 = B1 at *
        cases A <;> cases B <;> cases la <;> cases lb <;> cases A1 <;> cases B1
        all_goals
         show Goes _ _ _
         repeat' first
          | with_reducible refine goes_if (fun h => ?_) (fun h => ?_) <;> (try simp only [SH] at h)
          | exact goes_none.mpr (by omega)
          | fail
         all_goals first | (exfalso; omega) | exact goes_inr.mpr rfl | (exfalso; simp_all; done)
      · simp only [hf, if_false]
        clear hl2
        generalize S.looS no no 0 (fun j => to (j + ao)) f1 f2 f3 = X at *
        generalize S.failE no f1 f2 f3 = fe at *
        have hq : S.rdS aq no (S.doErr fe) = (0, 0, 0, 0, 0, 0, false, false, fe, []) := by unfold S.rdS S.doErr; simp only [beq_eq_false_iff_ne.mpr hf, cond_false]
        rw [hq]
        cases A <;> cases B
        all_goals
         show Goes _ _ _
         repeat' first
          | with_reducible refine goes_if (fun h => ?_) (fun h => ?_) <;> (try simp only [SH] at h)
          | exact goes_none.mpr (by omega)
          | fail
         all_goals first | (exfalso; omega) | exact goes_inr.mpr rfl | (exfalso; simp_all; done)
    by_cases c4 : ki = 4
    · have c := c4
      clear hm hl0 hl1 hl2 hA hB c4 c3 c'
      subst c
      rw [if_neg (show ¬ ((4 : Int) = 1 ∨ (4 : Int) = 2) by decide), if_neg (show ¬ (4 : Int) = 3 by decide), if_pos rfl]
      simp only [(show ((4 : Int) == 1) = false from rfl), (show ((4 : Int) == 2) = false from rfl), (show ((4 : Int) == 3) = false from rfl), (show ((4 : Int) == 4) = true from rfl), cond_true, cond_false]
      generalize S.op1 1 no (fun j => to (j + ao)) 0 0 0 = A1 at *
      generalize S.op1 2 no (fun j => to (j + ao)) 0 0 0 = B1 at *
      cases A <;> cases B <;> cases la <;> cases lb <;> cases A1 <;> cases B1
      all_goals
       show Goes _ _ _
       repeat' first
        | with_reducible refine goes_if (fun h => ?_) (fun h => ?_) <;> (try simp only [SH] at h)
        | exact goes_none.mpr (by omega)
        | fail
       all_goals first | (exfalso; omega) | exact goes_inr.mpr rfl | (exfalso; simp_all; done)
    by_cases c5 : ki = 5
    · subst c5
      clear hl0 hl1 hl2 hA hB c c' c3 c4
      rw [if_neg (show ¬ ((5 : Int) = 1 ∨ (5 : Int) = 2) by decide), if_neg (show ¬ (5 : Int) = 3 by decide), if_neg (show ¬ (5 : Int) = 4 by decide), if_pos rfl]
      simp only [(show ((5 : Int) == 1) = false from rfl), (show ((5 : Int) == 2) = false from rfl), (show ((5 : Int) == 3) = false from rfl), (show ((5 : Int) == 4) = false from rfl), (show ((5 : Int) == 5) = true from rfl), cond_true, cond_false]
      cases A <;> cases B
      all_goals
       show Goes _ _ _
       repeat' first
        | with_reducible refine goes_if (fun h => ?_) (fun h => ?_) <;> (try simp only [SH] at h)
        | exact goes_none.mpr (by omega)
        | fail
       all_goals first | (exfalso; omega) | exact hm | (exfalso; simp_all; done)
    · clear hm hl0 hl1 hl2 hA hB
      rw [if_neg (show ¬ (ki = 1 ∨ ki = 2) by omega), if_neg c3, if_neg c4, if_neg c5]
      simp only [(show (ki == 1) = false from beq_eq_false_iff_ne.mpr c), (show (ki == 2) = false from beq_eq_false_iff_ne.mpr c'), (show (ki == 3) = false from beq_eq_false_iff_ne.mpr c3), (show (ki == 4) = false from beq_eq_false_iff_ne.mpr c4), (show (ki == 5) = false from beq_eq_false_iff_ne.mpr c5), cond_false]
      cases A <;> cases B
      all_goals
       show Goes _ _ _
       repeat' first
        | with_reducible refine goes_if (fun h => ?_) (fun h => ?_) <;> (try simp only [SH] at h)
        | exact goes_none.mpr (by omega)
        | fail
       all_goals first | (exfalso; omega) | exact goes_inr.mpr rfl | (exfalso; simp_all; done)
  · unfold S.doS
    rw [if_neg he]
    have hq : S.rdS aq nq (S.doErr (S.stE nq no (S.netE nq (fun j => tq (j + aq)) (fun j => vq (j + aq)) (fun j => gq (j + aq)) de) (fun j => to (j + ao)) k1 k2 k3 la lb)) = (0, 0, 0, 0, 0, 0, false, false, (S.stE nq no (S.netE nq (fun j => tq (j + aq)) (fun j => vq (j + aq)) (fun j => gq (j + aq)) de) (fun j => to (j + ao)) k1 k2 k3 la lb), []) := by unfold S.rdS S.doErr; simp only [beq_eq_false_iff_ne.mpr he, cond_false]
    rw [hq]
    unfold p35
    simp only [c35_0_0, c35_e_0, c35_e_1, c35_e_2, c35_e_3, c35_e_4, c35_e_5, c35_e_6, c35_e_7, c35_e_8, c35_e_9, c35_e_10, c35_e_11, c35_e_12, c35_e_13, c35_e_14, c35_e_15, c35_e_16, c35_e_17, c35_e_18, c35_e_19, c35_e_20, c35_e_21, c35_e_22, c35_e_23, c35_e_24, c35_e_25, c35_e_26, c35_e_27, c35_e_28, c35_e_29, c35_e_30, c35_e_31, c35_e_32, c35_e_33, c35_e_34, c35_e_35, c35_e_36, c35_e_37, c35_e_38, d35_0, d35_1, d35_2, d35_3, d35_4]
    rw [show ((S.stE nq no (S.netE nq (fun j => tq (j + aq)) (fun j => vq (j + aq)) (fun j => gq (j + aq)) de) (fun j => to (j + ao)) k1 k2 k3 la lb) != 0) = true from bne_iff_ne.mpr he]
    rw [decide_eq_true (show aq + nq ≤ mq ∧ nq ≤ 1000000 ∧ ao + no ≤ mo from ⟨by omega, by omega, by omega⟩)]
    exact goes_inr.mpr rfl
theorem k35_ok  : k35.ok Try.prog := by
  intro x hx
  obtain ⟨⟨⟨aq, nq, mq, tq, vq, gq, _⟩, de, ⟨ao, no, mo, to, _⟩, k1, k2, k3, la, lb, _⟩, ⟨ki, ss, f1, f2, f3, _⟩, _⟩ := x
  obtain ⟨h1, h2⟩ := a35 aq nq mq tq vq gq de ao no mo to k1 k2 k3 la lb ki ss f1 f2 f3 (s35 aq nq mq tq vq gq de ao no mo to k1 k2 k3 la lb ki ss f1 f2 f3 (of_dec hx rfl))
  exact ⟨⟨400, (by decide : 2 + 1 + 1 ≤ 400), h1⟩, h2⟩
noncomputable abbrev c36_0_0 (aa na ma : Nat) (ta : Nat → ByteArray) (va ga : Nat → Int) (c0 : Int) (ab nb mb : Nat) (tb : Nat → Bool) (c1 c2 c3 : Int) (c4 c5 : Bool) (ac nc mc : Nat) (tc : Nat → ByteArray) (vc gc : Nat → Int) (c6 : Int) (ad nd md : Nat) (td : Nat → Bool) (c7 c8 c9 : Int) (c10 c11 : Bool) :=
 ([[(3, false, Blk.cols md [Col.bool td]),
 (2, false,
 Blk.cols mc [Col.str tc, Col.int IntKind.i64 vc, Col.int IntKind.i64 gc]),
 (1, false, Blk.cols mb [Col.bool tb]),
 (0, false,
 Blk.cols ma [Col.str ta, Col.int IntKind.i64 va, Col.int IntKind.i64 ga]),
 (5, true,
 Blk.cells
 [PV.loose (PA.mk (2) (3) ac (0)) nc, PV.int IntKind.i64 c6,
 PV.loose (PA.mk (3) (1) ad (0)) nd, PV.int IntKind.i64 c7,
 PV.int IntKind.i64 c8, PV.int IntKind.i64 c9, PV.bool c10, PV.bool c11]),
 (4, true,
 Blk.cells
 [PV.loose (PA.mk (0) (3) aa (0)) na, PV.int IntKind.i64 c0,
 PV.loose (PA.mk (1) (1) ab (0)) nb, PV.int IntKind.i64 c1,
 PV.int IntKind.i64 c2, PV.int IntKind.i64 c3, PV.bool c4, PV.bool c5])]])
noncomputable abbrev c36_e_0 (aa na ma : Nat) (ta : Nat → ByteArray) (va ga : Nat → Int) (c0 : Int) (ab nb mb : Nat) (tb : Nat → Bool) (c1 c2 c3 : Int) (c4 c5 : Bool) (ac nc mc : Nat) (tc : Nat → ByteArray) (vc gc : Nat → Int) (c6 : Int) (ad nd md : Nat) (td : Nat → Bool) (c7 c8 c9 : Int) (c10 c11 : Bool) :=
 ([[(3, false, Blk.cols md [Col.bool td]),
 (2, false,
 Blk.cols mc [Col.str tc, Col.int IntKind.i64 vc, Col.int IntKind.i64 gc]),
 (1, false, Blk.cols mb [Col.bool tb]),
 (0, false,
 Blk.cols ma [Col.str ta, Col.int IntKind.i64 va, Col.int IntKind.i64 ga]),
 (5, true,
 Blk.cells
 [PV.loose (PA.mk (2) (3) ac (0)) nc, PV.int IntKind.i64 c6,
 PV.loose (PA.mk (3) (1) ad (0)) nd, PV.int IntKind.i64 c7,
 PV.int IntKind.i64 c8, PV.int IntKind.i64 c9, PV.bool c10, PV.bool c11]),
 (4, true,
 Blk.cells
 [PV.loose (PA.mk (0) (3) aa (0)) na, PV.int IntKind.i64 c0,
 PV.loose (PA.mk (1) (1) ab (0)) nb, PV.int IntKind.i64 c1,
 PV.int IntKind.i64 c2, PV.int IntKind.i64 c3, PV.bool c4, PV.bool c5])]])
noncomputable abbrev c36_e_1 (ma : Nat) (ta : Nat → ByteArray) (va ga : Nat → Int) (mb : Nat) (tb : Nat → Bool) (mc : Nat) (tc : Nat → ByteArray) (vc gc : Nat → Int) (md : Nat) (td : Nat → Bool) :=
 ([[(3, false, Blk.cols md [Col.bool td]),
 (2, false,
 Blk.cols mc [Col.str tc, Col.int IntKind.i64 vc, Col.int IntKind.i64 gc]),
 (1, false, Blk.cols mb [Col.bool tb]),
 (0, false,
 Blk.cols ma [Col.str ta, Col.int IntKind.i64 va, Col.int IntKind.i64 ga])]])
inductive St36 where
  | h0 (x0 : Int)
abbrev Rt36  := Bool
noncomputable def V36 (aa na ma : Nat) (ta : Nat → ByteArray) (va ga : Nat → Int) (c0 : Int) (ab nb mb : Nat) (tb : Nat → Bool) (c1 c2 c3 : Int) (c4 c5 : Bool) (ac nc mc : Nat) (tc : Nat → ByteArray) (vc gc : Nat → Int) (c6 : Int) (ad nd md : Nat) (td : Nat → Bool) (c7 c8 c9 : Int) (c10 c11 : Bool) (r : Rt36) : PV := PV.bool r
noncomputable def N36 (aa na ma : Nat) (ta : Nat → ByteArray) (va ga : Nat → Int) (c0 : Int) (ab nb mb : Nat) (tb : Nat → Bool) (c1 c2 c3 : Int) (c4 c5 : Bool) (ac nc mc : Nat) (tc : Nat → ByteArray) (vc gc : Nat → Int) (c6 : Int) (ad nd md : Nat) (td : Nat → Bool) (c7 c8 c9 : Int) (c10 c11 : Bool) (r : Rt36) : List Blk := []
noncomputable def I36 (aa na ma : Nat) (ta : Nat → ByteArray) (va ga : Nat → Int) (c0 : Int) (ab nb mb : Nat) (tb : Nat → Bool) (c1 c2 c3 : Int) (c4 c5 : Bool) (ac nc mc : Nat) (tc : Nat → ByteArray) (vc gc : Nat → Int) (c6 : Int) (ad nd md : Nat) (td : Nat → Bool) (c7 c8 c9 : Int) (c10 c11 : Bool) : St36 → Hd
  | .h0 x0 => ⟨hd Try.f36 0, [PV.ptr (PA.mk (4) (0) (0) (0)),
 PV.ptr (PA.mk (5) (0) (0) (0)), PV.int IntKind.i64 x0], [[(4, (true, Blk.cells
 [PV.loose (PA.mk (0) (3) aa (0)) na, PV.int IntKind.i64 c0,
 PV.loose (PA.mk (1) (1) ab (0)) nb, PV.int IntKind.i64 c1,
 PV.int IntKind.i64 c2, PV.int IntKind.i64 c3, PV.bool c4, PV.bool c5])), (5, (true, Blk.cells
 [PV.loose (PA.mk (2) (3) ac (0)) nc, PV.int IntKind.i64 c6,
 PV.loose (PA.mk (3) (1) ad (0)) nd, PV.int IntKind.i64 c7,
 PV.int IntKind.i64 c8, PV.int IntKind.i64 c9, PV.bool c10, PV.bool c11]))], [(0, (false, .cols ma [.str ta, .int .i64 va, .int .i64 ga])), (1, (false, .cols mb [.bool tb])), (2, (false, .cols mc [.str tc, .int .i64 vc, .int .i64 gc])), (3, (false, .cols md [.bool td]))]], 6⟩
noncomputable def q36 (aa na ma : Nat) (ta : Nat → ByteArray) (va ga : Nat → Int) (c0 : Int) (ab nb mb : Nat) (tb : Nat → Bool) (c1 c2 c3 : Int) (c4 c5 : Bool) (ac nc mc : Nat) (tc : Nat → ByteArray) (vc gc : Nat → Int) (c6 : Int) (ad nd md : Nat) (td : Nat → Bool) (c7 c8 c9 : Int) (c10 c11 : Bool) : St36 → Option (St36 ⊕ Rt36)
  | .h0 x0 => bif (decide (x0 < (↑nb : Int)))
 then (bif (decide ((0 : Int) ≤ x0 ∧ x0 < (↑nb : Int)))
 then (bif (decide (Int.toNat x0 + ab < mb))
 then (bif (tb (Int.toNat x0 + ab))
 then (bif (decide ((0 : Int) ≤ x0 ∧ x0 < (↑nd : Int)))
 then (bif (decide (Int.toNat x0 + ad < md))
 then (bif (td (Int.toNat x0 + ad))
 then (bif (lim IntKind.i64 (x0 + (1 : Int)))
 then (some (.inl (.h0 (x0 + (1 : Int)))))
 else (none))
 else (some (.inr (false))))
 else (none))
 else (none))
 else (bif (decide ((0 : Int) ≤ x0 ∧ x0 < (↑nd : Int)))
 then (bif (decide (Int.toNat x0 + ad < md))
 then (bif (td (Int.toNat x0 + ad))
 then (some (.inr (false)))
 else (bif (lim IntKind.i64 (x0 + (1 : Int)))
 then (some (.inl (.h0 (x0 + (1 : Int)))))
 else (none)))
 else (none))
 else (none)))
 else (none))
 else (none))
 else (some (.inr (true)))
noncomputable def p36 (aa na ma : Nat) (ta : Nat → ByteArray) (va ga : Nat → Int) (c0 : Int) (ab nb mb : Nat) (tb : Nat → Bool) (c1 c2 c3 : Int) (c4 c5 : Bool) (ac nc mc : Nat) (tc : Nat → ByteArray) (vc gc : Nat → Int) (c6 : Int) (ad nd md : Nat) (td : Nat → Bool) (c7 c8 c9 : Int) (c10 c11 : Bool) : Option (St36 ⊕ Rt36) := bif (decide (aa + na ≤ ma ∧ na ≤ 1000000 ∧ ac + nc ≤ mc ∧ nc ≤ 1000000))
 then (bif (decide
 (c0 = c6 ∧
 (S.mkl na fun j => (ta (j + aa), va (j + aa), ga (j + aa))) =
 S.mkl nc fun j => (tc (j + ac), vc (j + ac), gc (j + ac))))
 then (bif ((↑nb : Int) != (↑nd : Int))
 then (some (.inr (false)))
 else (bif (!(c1 == c7 && (c2 == c8 && (c3 == c9 && true))))
 then (some (.inr (false)))
 else (bif (c4)
 then (bif (c10)
 then (bif (c5)
 then (bif (c11)
 then (some (.inl (.h0 ((0 : Int)))))
 else (some (.inr (false))))
 else (bif (c11)
 then (some (.inr (false)))
 else (some (.inl (.h0 ((0 : Int)))))))
 else (some (.inr (false))))
 else (bif (c10)
 then (some (.inr (false)))
 else (bif (c5)
 then (bif (c11)
 then (some (.inl (.h0 ((0 : Int)))))
 else (some (.inr (false))))
 else (bif (c11)
 then (some (.inr (false)))
 else (some (.inl (.h0 ((0 : Int)))))))))))
 else (some (.inr (false))))
 else (none)
noncomputable def Te36 (test : Bool → Prop → Prop → Prop) (Kst : KS) (Kret : KR) (aa na ma : Nat) (ta : Nat → ByteArray) (va ga : Nat → Int) (c0 : Int) (ab nb mb : Nat) (tb : Nat → Bool) (c1 c2 c3 : Int) (c4 c5 : Bool) (ac nc mc : Nat) (tc : Nat → ByteArray) (vc gc : Nat → Int) (c6 : Int) (ad nd md : Nat) (td : Nat → Bool) (c7 c8 c9 : Int) (c10 c11 : Bool) : Prop :=
  test (decide (aa + na ≤ ma ∧ na ≤ 1000000 ∧ ac + nc ≤ mc ∧ nc ≤ 1000000))
 (test (decide
 (c0 = c6 ∧
 (S.mkl na fun j => (ta (j + aa), va (j + aa), ga (j + aa))) =
 S.mkl nc fun j => (tc (j + ac), vc (j + ac), gc (j + ac))))
 (test ((↑nb : Int) != (↑nd : Int))
 (Kret (PV.tf false) (c36_e_1 ma ta va ga mb tb mc tc vc gc md td) (7))
 (test (!(c1 == c7 && (c2 == c8 && (c3 == c9 && true))))
 (Kret (PV.tf false) (c36_e_1 ma ta va ga mb tb mc tc vc gc md td) (7))
 (test (c4)
 (test (c10)
 (test (c5)
 (test (c11)
 (Kst (hd Try.f36 0) ([PV.ptr (PA.mk (4) (0) (0) (0)),
 PV.ptr (PA.mk (5) (0) (0) (0)), PV.int IntKind.i64 (0 : Int)]) (c36_e_0 aa na ma ta va ga c0 ab nb mb tb c1 c2 c3 c4 c5 ac nc mc tc vc gc c6 ad nd md td c7 c8 c9 c10 c11) (7))
 (Kret (PV.tf false) (c36_e_1 ma ta va ga mb tb mc tc vc gc md td) (7)))
 (test (c11)
 (Kret (PV.tf false) (c36_e_1 ma ta va ga mb tb mc tc vc gc md td) (7))
 (Kst (hd Try.f36 0) ([PV.ptr (PA.mk (4) (0) (0) (0)),
 PV.ptr (PA.mk (5) (0) (0) (0)), PV.int IntKind.i64 (0 : Int)]) (c36_e_0 aa na ma ta va ga c0 ab nb mb tb c1 c2 c3 c4 c5 ac nc mc tc vc gc c6 ad nd md td c7 c8 c9 c10 c11) (7))))
 (Kret (PV.tf false) (c36_e_1 ma ta va ga mb tb mc tc vc gc md td) (7)))
 (test (c10)
 (Kret (PV.tf false) (c36_e_1 ma ta va ga mb tb mc tc vc gc md td) (7))
 (test (c5)
 (test (c11)
 (Kst (hd Try.f36 0) ([PV.ptr (PA.mk (4) (0) (0) (0)),
 PV.ptr (PA.mk (5) (0) (0) (0)), PV.int IntKind.i64 (0 : Int)]) (c36_e_0 aa na ma ta va ga c0 ab nb mb tb c1 c2 c3 c4 c5 ac nc mc tc vc gc c6 ad nd md td c7 c8 c9 c10 c11) (7))
 (Kret (PV.tf false) (c36_e_1 ma ta va ga mb tb mc tc vc gc md td) (7)))
 (test (c11)
 (Kret (PV.tf false) (c36_e_1 ma ta va ga mb tb mc tc vc gc md td) (7))
 (Kst (hd Try.f36 0) ([PV.ptr (PA.mk (4) (0) (0) (0)),
 PV.ptr (PA.mk (5) (0) (0) (0)), PV.int IntKind.i64 (0 : Int)]) (c36_e_0 aa na ma ta va ga c0 ab nb mb tb c1 c2 c3 c4 c5 ac nc mc tc vc gc c6 ad nd md td c7 c8 c9 c10 c11) (7))))))))
 (Kret (PV.tf false) (c36_e_1 ma ta va ga mb tb mc tc vc gc md td) (7)))
 (False)
theorem te36 (test : Bool → Prop → Prop → Prop) (Kst : KS) (Kret : KR) (aa na ma : Nat) (ta : Nat → ByteArray) (va ga : Nat → Int) (c0 : Int) (ab nb mb : Nat) (tb : Nat → Bool) (c1 c2 c3 : Int) (c4 c5 : Bool) (ac nc mc : Nat) (tc : Nat → ByteArray) (vc gc : Nat → Int) (c6 : Int) (ad nd md : Nat) (td : Nat → Bool) (c7 c8 c9 : Int) (c10 c11 : Bool) : run test Try.env true (xO test) true 400 ⟨36, [.cd (mkFn Try.f36).body], argT 0 [.agg [.loose ⟨0, 3, aa, 0⟩ na, .int .i64 c0, .loose ⟨1, 1, ab, 0⟩ nb, .int .i64 c1, .int .i64 c2, .int .i64 c3, .bool c4, .bool c5], .agg [.loose ⟨2, 3, ac, 0⟩ nc, .int .i64 c6, .loose ⟨3, 1, ad, 0⟩ nd, .int .i64 c7, .int .i64 c8, .int .i64 c9, .bool c10, .bool c11]], [[], [(0, (false, .cols ma [.str ta, .int .i64 va, .int .i64 ga])), (1, (false, .cols mb [.bool tb])), (2, (false, .cols mc [.str tc, .int .i64 vc, .int .i64 gc])), (3, (false, .cols md [.bool td]))]], 4⟩ (proj 4 [2, 3, 5] Kst Kret) =
  Te36 test Kst Kret aa na ma ta va ga c0 ab nb mb tb c1 c2 c3 c4 c5 ac nc mc tc vc gc c6 ad nd md td c7 c8 c9 c10 c11 := by kernel_rfl
noncomputable def T36_0 (test : Bool → Prop → Prop → Prop) (Kst : KS) (Kret : KR) (aa na ma : Nat) (ta : Nat → ByteArray) (va ga : Nat → Int) (c0 : Int) (ab nb mb : Nat) (tb : Nat → Bool) (c1 c2 c3 : Int) (c4 c5 : Bool) (ac nc mc : Nat) (tc : Nat → ByteArray) (vc gc : Nat → Int) (c6 : Int) (ad nd md : Nat) (td : Nat → Bool) (c7 c8 c9 : Int) (c10 c11 : Bool) (x0 : Int) : Prop :=
  test (decide (x0 < (↑nb : Int)))
 (test (decide ((0 : Int) ≤ x0 ∧ x0 < (↑nb : Int)))
 (test (decide (Int.toNat x0 + ab < mb))
 (test (tb (Int.toNat x0 + ab))
 (test (decide ((0 : Int) ≤ x0 ∧ x0 < (↑nd : Int)))
 (test (decide (Int.toNat x0 + ad < md))
 (test (td (Int.toNat x0 + ad))
 (test (lim IntKind.i64 (x0 + (1 : Int)))
 (Kst (hd Try.f36 0) ([PV.ptr (PA.mk (4) (0) (0) (0)),
 PV.ptr (PA.mk (5) (0) (0) (0)),
 PV.int IntKind.i64 (x0 + (1 : Int))]) (c36_0_0 aa na ma ta va ga c0 ab nb mb tb c1 c2 c3 c4 c5 ac nc mc tc vc gc c6 ad nd md td c7 c8 c9 c10 c11) (6))
 (False))
 (Kret (PV.tf false) ([[(3, false, Blk.cols md [Col.bool td]),
 (2, false,
 Blk.cols mc [Col.str tc, Col.int IntKind.i64 vc, Col.int IntKind.i64 gc]),
 (1, false, Blk.cols mb [Col.bool tb]),
 (0, false,
 Blk.cols ma [Col.str ta, Col.int IntKind.i64 va, Col.int IntKind.i64 ga])]]) (6)))
 (False))
 (False))
 (test (decide ((0 : Int) ≤ x0 ∧ x0 < (↑nd : Int)))
 (test (decide (Int.toNat x0 + ad < md))
 (test (td (Int.toNat x0 + ad))
 (Kret (PV.tf false) ([[(3, false, Blk.cols md [Col.bool td]),
 (2, false,
 Blk.cols mc [Col.str tc, Col.int IntKind.i64 vc, Col.int IntKind.i64 gc]),
 (1, false, Blk.cols mb [Col.bool tb]),
 (0, false,
 Blk.cols ma [Col.str ta, Col.int IntKind.i64 va, Col.int IntKind.i64 ga])]]) (6))
 (test (lim IntKind.i64 (x0 + (1 : Int)))
 (Kst (hd Try.f36 0) ([PV.ptr (PA.mk (4) (0) (0) (0)),
 PV.ptr (PA.mk (5) (0) (0) (0)),
 PV.int IntKind.i64 (x0 + (1 : Int))]) (c36_0_0 aa na ma ta va ga c0 ab nb mb tb c1 c2 c3 c4 c5 ac nc mc tc vc gc c6 ad nd md td c7 c8 c9 c10 c11) (6))
 (False)))
 (False))
 (False)))
 (False))
 (False))
 (Kret (PV.tf true) ([[(3, false, Blk.cols md [Col.bool td]),
 (2, false,
 Blk.cols mc [Col.str tc, Col.int IntKind.i64 vc, Col.int IntKind.i64 gc]),
 (1, false, Blk.cols mb [Col.bool tb]),
 (0, false,
 Blk.cols ma [Col.str ta, Col.int IntKind.i64 va, Col.int IntKind.i64 ga])]]) (6))
theorem t36_0 (test : Bool → Prop → Prop → Prop) (Kst : KS) (Kret : KR) (aa na ma : Nat) (ta : Nat → ByteArray) (va ga : Nat → Int) (c0 : Int) (ab nb mb : Nat) (tb : Nat → Bool) (c1 c2 c3 : Int) (c4 c5 : Bool) (ac nc mc : Nat) (tc : Nat → ByteArray) (vc gc : Nat → Int) (c6 : Int) (ad nd md : Nat) (td : Nat → Bool) (c7 c8 c9 : Int) (c10 c11 : Bool) (x0 : Int) : run test Try.env true (xO test) true 400 ⟨36, hd Try.f36 0, zipT [2, 3, 5] [PV.ptr (PA.mk (4) (0) (0) (0)),
 PV.ptr (PA.mk (5) (0) (0) (0)), PV.int IntKind.i64 x0], [[(4, (true, Blk.cells
 [PV.loose (PA.mk (0) (3) aa (0)) na, PV.int IntKind.i64 c0,
 PV.loose (PA.mk (1) (1) ab (0)) nb, PV.int IntKind.i64 c1,
 PV.int IntKind.i64 c2, PV.int IntKind.i64 c3, PV.bool c4, PV.bool c5])), (5, (true, Blk.cells
 [PV.loose (PA.mk (2) (3) ac (0)) nc, PV.int IntKind.i64 c6,
 PV.loose (PA.mk (3) (1) ad (0)) nd, PV.int IntKind.i64 c7,
 PV.int IntKind.i64 c8, PV.int IntKind.i64 c9, PV.bool c10, PV.bool c11]))], [(0, (false, .cols ma [.str ta, .int .i64 va, .int .i64 ga])), (1, (false, .cols mb [.bool tb])), (2, (false, .cols mc [.str tc, .int .i64 vc, .int .i64 gc])), (3, (false, .cols md [.bool td]))]], 6⟩ (proj 4 [2, 3, 5] Kst Kret) =
  T36_0 test Kst Kret aa na ma ta va ga c0 ab nb mb tb c1 c2 c3 c4 c5 ac nc mc tc vc gc c6 ad nd md td c7 c8 c9 c10 c11 x0 := by kernel_rfl
theorem be36 (aa na ma : Nat) (ta : Nat → ByteArray) (va ga : Nat → Int) (c0 : Int) (ab nb mb : Nat) (tb : Nat → Bool) (c1 c2 c3 : Int) (c4 c5 : Bool) (ac nc mc : Nat) (tc : Nat → ByteArray) (vc gc : Nat → Int) (c6 : Int) (ad nd md : Nat) (td : Nat → Bool) (c7 c8 c9 : Int) (c10 c11 : Bool) (Kst : KS) (Kret : KR) (x : St36 ⊕ Rt36) (hS : HS 4 400 ((I36 aa na ma ta va ga c0 ab nb mb tb c1 c2 c3 c4 c5 ac nc mc tc vc gc c6 ad nd md td c7 c8 c9 c10 c11)) Kst x) (hR : HR 4 400 ((V36 aa na ma ta va ga c0 ab nb mb tb c1 c2 c3 c4 c5 ac nc mc tc vc gc c6 ad nd md td c7 c8 c9 c10 c11)) (fun r => [newL (4 + 1) ((N36 aa na ma ta va ga c0 ab nb mb tb c1 c2 c3 c4 c5 ac nc mc tc vc gc c6 ad nd md td c7 c8 c9 c10 c11) r) ++ [(0, (false, .cols ma [.str ta, .int .i64 va, .int .i64 ga])), (1, (false, .cols mb [.bool tb])), (2, (false, .cols mc [.str tc, .int .i64 vc, .int .i64 gc])), (3, (false, .cols md [.bool td]))]]) Kret x) (h : p36 aa na ma ta va ga c0 ab nb mb tb c1 c2 c3 c4 c5 ac nc mc tc vc gc c6 ad nd md td c7 c8 c9 c10 c11 = some x) : Te36 cond Kst Kret aa na ma ta va ga c0 ab nb mb tb c1 c2 c3 c4 c5 ac nc mc tc vc gc c6 ad nd md td c7 c8 c9 c10 c11 := by
  unfold Te36
  unfold p36 at h
  refine bif_split h
   (fun c0 h => bif_split h
   (fun c1 h => bif_split h
   (fun c2 h => ?_)
   (fun c2 h => bif_split h
   (fun c3 h => ?_)
   (fun c3 h => bif_split h
   (fun c4 h => bif_split h
   (fun c5 h => bif_split h
   (fun c6 h => bif_split h
   (fun c7 h => ?_)
   (fun c7 h => ?_))
   (fun c6 h => bif_split h
   (fun c7 h => ?_)
   (fun c7 h => ?_)))
   (fun c5 h => ?_))
   (fun c4 h => bif_split h
   (fun c5 h => ?_)
   (fun c5 h => bif_split h
   (fun c6 h => bif_split h
   (fun c7 h => ?_)
   (fun c7 h => ?_))
   (fun c6 h => bif_split h
   (fun c7 h => ?_)
   (fun c7 h => ?_)))))))
   (fun c1 h => ?_))
   (fun c0 h => no_some h)
  all_goals first
    | exact ret_at hR _ h (fun n => n) rfl rfl rfl (rn_bool_tf rfl) rfl (entl_bor (use_lo rfl) rfl rfl (entl_bor (use_lo rfl) rfl rfl (entl_bor (use_lo rfl) rfl rfl (entl_bor (use_lo rfl) rfl rfl entl_nil))))
    | exact stop_at hS _ h (fun n => bif Nat.beq n 4 then 4 else bif Nat.beq n 5 then 5 else n) rfl rfl rfl ⟨(rn_ptr (use_own rfl) rfl rfl), ⟨(rn_ptr (use_own rfl) rfl rfl), ⟨(rn_int rfl), trivial⟩⟩⟩ rfl (entl_b (use_own rfl) rfl (by simp) (rb_cells ⟨(rn_loose (use_lo rfl) rfl rfl rfl), (rn_int rfl), (rn_loose (use_lo rfl) rfl rfl rfl), (rn_int rfl), (rn_int rfl), (rn_int rfl), (rn_bool rfl), (rn_bool rfl), trivial⟩) (entl_b (use_own rfl) rfl (by simp) (rb_cells ⟨(rn_loose (use_lo rfl) rfl rfl rfl), (rn_int rfl), (rn_loose (use_lo rfl) rfl rfl rfl), (rn_int rfl), (rn_int rfl), (rn_int rfl), (rn_bool rfl), (rn_bool rfl), trivial⟩) (entl_bor (use_lo rfl) rfl rfl (entl_bor (use_lo rfl) rfl rfl (entl_bor (use_lo rfl) rfl rfl (entl_bor (use_lo rfl) rfl rfl entl_nil))))))
theorem b36_0 (aa na ma : Nat) (ta : Nat → ByteArray) (va ga : Nat → Int) (c0 : Int) (ab nb mb : Nat) (tb : Nat → Bool) (c1 c2 c3 : Int) (c4 c5 : Bool) (ac nc mc : Nat) (tc : Nat → ByteArray) (vc gc : Nat → Int) (c6 : Int) (ad nd md : Nat) (td : Nat → Bool) (c7 c8 c9 : Int) (c10 c11 : Bool) (Kst : KS) (Kret : KR) (x : St36 ⊕ Rt36) (hS : HS 4 400 ((I36 aa na ma ta va ga c0 ab nb mb tb c1 c2 c3 c4 c5 ac nc mc tc vc gc c6 ad nd md td c7 c8 c9 c10 c11)) Kst x) (hR : HR 4 400 ((V36 aa na ma ta va ga c0 ab nb mb tb c1 c2 c3 c4 c5 ac nc mc tc vc gc c6 ad nd md td c7 c8 c9 c10 c11)) (fun r => [newL (4 + 1) ((N36 aa na ma ta va ga c0 ab nb mb tb c1 c2 c3 c4 c5 ac nc mc tc vc gc c6 ad nd md td c7 c8 c9 c10 c11) r) ++ [(0, (false, .cols ma [.str ta, .int .i64 va, .int .i64 ga])), (1, (false, .cols mb [.bool tb])), (2, (false, .cols mc [.str tc, .int .i64 vc, .int .i64 gc])), (3, (false, .cols md [.bool td]))]]) Kret x) (x0 : Int) (h : (bif (decide (x0 < (↑nb : Int)))
 then (bif (decide ((0 : Int) ≤ x0 ∧ x0 < (↑nb : Int)))
 then (bif (decide (Int.toNat x0 + ab < mb))
 then (bif (tb (Int.toNat x0 + ab))
 then (bif (decide ((0 : Int) ≤ x0 ∧ x0 < (↑nd : Int)))
 then (bif (decide (Int.toNat x0 + ad < md))
 then (bif (td (Int.toNat x0 + ad))
 then (bif (lim IntKind.i64 (x0 + (1 : Int)))
 then (some (.inl (.h0 (x0 + (1 : Int)))))
 else (none))
 else (some (.inr (false))))
 else (none))
 else (none))
 else (bif (decide ((0 : Int) ≤ x0 ∧ x0 < (↑nd : Int)))
 then (bif (decide (Int.toNat x0 + ad < md))
 then (bif (td (Int.toNat x0 + ad))
 then (some (.inr (false)))
 else (bif (lim IntKind.i64 (x0 + (1 : Int)))
 then (some (.inl (.h0 (x0 + (1 : Int)))))
 else (none)))
 else (none))
 else (none)))
 else (none))
 else (none))
 else (some (.inr (true))) : Option (St36 ⊕ Rt36)) = some x) : T36_0 cond Kst Kret aa na ma ta va ga c0 ab nb mb tb c1 c2 c3 c4 c5 ac nc mc tc vc gc c6 ad nd md td c7 c8 c9 c10 c11 x0 := by
  unfold T36_0
  refine bif_split h
   (fun c0 h => bif_split h
   (fun c1 h => bif_split h
   (fun c2 h => bif_split h
   (fun c3 h => bif_split h
   (fun c4 h => bif_split h
   (fun c5 h => bif_split h
   (fun c6 h => bif_split h
   (fun c7 h => ?_)
   (fun c7 h => ?_))
   (fun c6 h => ?_))
   (fun c5 h => ?_))
   (fun c4 h => ?_))
   (fun c3 h => bif_split h
   (fun c4 h => bif_split h
   (fun c5 h => bif_split h
   (fun c6 h => ?_)
   (fun c6 h => bif_split h
   (fun c7 h => ?_)
   (fun c7 h => ?_)))
   (fun c5 h => ?_))
   (fun c4 h => ?_)))
   (fun c2 h => ?_))
   (fun c1 h => ?_))
   (fun c0 h => ?_)
  all_goals first
    | exact no_some h
    | exact ret_at hR _ h (fun n => n) rfl rfl rfl (rn_bool_tf rfl) rfl (entl_bor (use_lo rfl) rfl rfl (entl_bor (use_lo rfl) rfl rfl (entl_bor (use_lo rfl) rfl rfl (entl_bor (use_lo rfl) rfl rfl entl_nil))))
    | exact stop_at hS _ h (fun n => bif Nat.beq n 4 then 4 else bif Nat.beq n 5 then 5 else n) rfl rfl rfl ⟨(rn_ptr (use_own rfl) rfl rfl), ⟨(rn_ptr (use_own rfl) rfl rfl), ⟨(rn_int rfl), trivial⟩⟩⟩ rfl (entl_b (use_own rfl) rfl (by simp) (rb_cells ⟨(rn_loose (use_lo rfl) rfl rfl rfl), (rn_int rfl), (rn_loose (use_lo rfl) rfl rfl rfl), (rn_int rfl), (rn_int rfl), (rn_int rfl), (rn_bool rfl), (rn_bool rfl), trivial⟩) (entl_b (use_own rfl) rfl (by simp) (rb_cells ⟨(rn_loose (use_lo rfl) rfl rfl rfl), (rn_int rfl), (rn_loose (use_lo rfl) rfl rfl rfl), (rn_int rfl), (rn_int rfl), (rn_int rfl), (rn_bool rfl), (rn_bool rfl), trivial⟩) (entl_bor (use_lo rfl) rfl rfl (entl_bor (use_lo rfl) rfl rfl (entl_bor (use_lo rfl) rfl rfl (entl_bor (use_lo rfl) rfl rfl entl_nil))))))
theorem a36 (aa na ma : Nat) (ta : Nat → ByteArray) (va ga : Nat → Int) (c0 : Int) (ab nb mb : Nat) (tb : Nat → Bool) (c1 c2 c3 : Int) (c4 c5 : Bool) (ac nc mc : Nat) (tc : Nat → ByteArray) (vc gc : Nat → Int) (c6 : Int) (ad nd md : Nat) (td : Nat → Bool) (c7 c8 c9 : Int) (c10 c11 : Bool) {r : Rt36} (h : Goes ((q36 aa na ma ta va ga c0 ab nb mb tb c1 c2 c3 c4 c5 ac nc mc tc vc gc c6 ad nd md td c7 c8 c9 c10 c11)) ((p36 aa na ma ta va ga c0 ab nb mb tb c1 c2 c3 c4 c5 ac nc mc tc vc gc c6 ad nd md td c7 c8 c9 c10 c11)) r) : CallR Try.prog 36 [.agg [.loose ⟨0, 3, aa, 0⟩ na, .int .i64 c0, .loose ⟨1, 1, ab, 0⟩ nb, .int .i64 c1, .int .i64 c2, .int .i64 c3, .bool c4, .bool c5], .agg [.loose ⟨2, 3, ac, 0⟩ nc, .int .i64 c6, .loose ⟨3, 1, ad, 0⟩ nd, .int .i64 c7, .int .i64 c8, .int .i64 c9, .bool c10, .bool c11]] [[(0, (false, .cols ma [.str ta, .int .i64 va, .int .i64 ga])), (1, (false, .cols mb [.bool tb])), (2, (false, .cols mc [.str tc, .int .i64 vc, .int .i64 gc])), (3, (false, .cols md [.bool td]))]] 4 ((V36 aa na ma ta va ga c0 ab nb mb tb c1 c2 c3 c4 c5 ac nc mc tc vc gc c6 ad nd md td c7 c8 c9 c10 c11) r) ((fun r => [newL (4 + 1) ((N36 aa na ma ta va ga c0 ab nb mb tb c1 c2 c3 c4 c5 ac nc mc tc vc gc c6 ad nd md td c7 c8 c9 c10 c11) r) ++ [(0, (false, .cols ma [.str ta, .int .i64 va, .int .i64 ga])), (1, (false, .cols mb [.bool tb])), (2, (false, .cols mc [.str tc, .int .i64 vc, .int .i64 gc])), (3, (false, .cols md [.bool td]))]]) r) 400 ∧ ∃ F, Try.prog.funcs[36]? = some F ∧ F.body.isSome = true ∧ (F.name == "runtime.NumGoroutine") = false := by
  refine dec_calls (f := 36) (lo := 4) (hi := 400) (H := [[(0, (false, .cols ma [.str ta, .int .i64 va, .int .i64 ga])), (1, (false, .cols mb [.bool tb])), (2, (false, .cols mc [.str tc, .int .i64 vc, .int .i64 gc])), (3, (false, .cols md [.bool td]))]]) (args := [.agg [.loose ⟨0, 3, aa, 0⟩ na, .int .i64 c0, .loose ⟨1, 1, ab, 0⟩ nb, .int .i64 c1, .int .i64 c2, .int .i64 c3, .bool c4, .bool c5], .agg [.loose ⟨2, 3, ac, 0⟩ nc, .int .i64 c6, .loose ⟨3, 1, ad, 0⟩ nd, .int .i64 c7, .int .i64 c8, .int .i64 c9, .bool c10, .bool c11]]) Try.envOk Try.mixed xO_ok ((I36 aa na ma ta va ga c0 ab nb mb tb c1 c2 c3 c4 c5 ac nc mc tc vc gc c6 ad nd md td c7 c8 c9 c10 c11)) ((V36 aa na ma ta va ga c0 ab nb mb tb c1 c2 c3 c4 c5 ac nc mc tc vc gc c6 ad nd md td c7 c8 c9 c10 c11)) (fun r => [newL (4 + 1) ((N36 aa na ma ta va ga c0 ab nb mb tb c1 c2 c3 c4 c5 ac nc mc tc vc gc c6 ad nd md td c7 c8 c9 c10 c11) r) ++ [(0, (false, .cols ma [.str ta, .int .i64 va, .int .i64 ga])), (1, (false, .cols mb [.bool tb])), (2, (false, .cols mc [.str tc, .int .i64 vc, .int .i64 gc])), (3, (false, .cols md [.bool td]))]]) (fn := mkFn Try.f36) (ts := [2, 3, 5]) (n := 400) rfl (by decide) (by simp) (names_of rfl) ?_ ?_ ?_ h
  · intro s; cases s <;> exact ⟨hd_ok _ _, by simp [I36], names_of rfl, Nat.le_of_ble_eq_true rfl⟩
  · intro Kst Kret x hS hR h
    exact Holds.eq (te36 cond Kst Kret aa na ma ta va ga c0 ab nb mb tb c1 c2 c3 c4 c5 ac nc mc tc vc gc c6 ad nd md td c7 c8 c9 c10 c11) (be36 aa na ma ta va ga c0 ab nb mb tb c1 c2 c3 c4 c5 ac nc mc tc vc gc c6 ad nd md td c7 c8 c9 c10 c11 Kst Kret x hS hR h)
  · intro Kst Kret x hS hR s h
    cases s with
    | h0 x0 => exact Holds.eq (t36_0 cond Kst Kret aa na ma ta va ga c0 ab nb mb tb c1 c2 c3 c4 c5 ac nc mc tc vc gc c6 ad nd md td c7 c8 c9 c10 c11 x0) (b36_0 aa na ma ta va ga c0 ab nb mb tb c1 c2 c3 c4 c5 ac nc mc tc vc gc c6 ad nd md td c7 c8 c9 c10 c11 Kst Kret x hS hR x0 h)
noncomputable def k36  : Con := ⟨36, [.agg [.list [.str, .int .i64, .int .i64], .plain (.int .i64), .list [.bool], .plain (.int .i64), .plain (.int .i64), .plain (.int .i64), .plain (.bool), .plain (.bool)], .agg [.list [.str, .int .i64, .int .i64], .plain (.int .i64), .list [.bool], .plain (.int .i64), .plain (.int .i64), .plain (.int .i64), .plain (.bool), .plain (.bool)]], fun (x : ((Nat × Nat × Nat × (Nat → ByteArray) × (Nat → Int) × (Nat → Int) × Unit) × Int × (Nat × Nat × Nat × (Nat → Bool) × Unit) × Int × Int × Int × Bool × Bool × Unit) × ((Nat × Nat × Nat × (Nat → ByteArray) × (Nat → Int) × (Nat → Int) × Unit) × Int × (Nat × Nat × Nat × (Nat → Bool) × Unit) × Int × Int × Int × Bool × Bool × Unit) × Unit) => (fun (aa na ma : Nat) (ta : Nat → ByteArray) (va : Nat → Int) (ga : Nat → Int) (c0 : Int) (ab nb mb : Nat) (tb : Nat → Bool) (c1 : Int) (c2 : Int) (c3 : Int) (c4 : Bool) (c5 : Bool) (ac nc mc : Nat) (tc : Nat → ByteArray) (vc : Nat → Int) (gc : Nat → Int) (c6 : Int) (ad nd md : Nat) (td : Nat → Bool) (c7 : Int) (c8 : Int) (c9 : Int) (c10 : Bool) (c11 : Bool) => decide ((aa + na ≤ ma ∧ na ≤ 1000000) ∧ (ab + nb ≤ mb ∧ nb ≤ 1000000) ∧ (ac + nc ≤ mc ∧ nc ≤ 1000000) ∧ ad + nd ≤ md ∧ nd ≤ 1000000)) x.1.1.1 x.1.1.2.1 x.1.1.2.2.1 x.1.1.2.2.2.1 x.1.1.2.2.2.2.1 x.1.1.2.2.2.2.2.1 x.1.2.1 x.1.2.2.1.1 x.1.2.2.1.2.1 x.1.2.2.1.2.2.1 x.1.2.2.1.2.2.2.1 x.1.2.2.2.1 x.1.2.2.2.2.1 x.1.2.2.2.2.2.1 x.1.2.2.2.2.2.2.1 x.1.2.2.2.2.2.2.2.1 x.2.1.1.1 x.2.1.1.2.1 x.2.1.1.2.2.1 x.2.1.1.2.2.2.1 x.2.1.1.2.2.2.2.1 x.2.1.1.2.2.2.2.2.1 x.2.1.2.1 x.2.1.2.2.1.1 x.2.1.2.2.1.2.1 x.2.1.2.2.1.2.2.1 x.2.1.2.2.1.2.2.2.1 x.2.1.2.2.2.1 x.2.1.2.2.2.2.1 x.2.1.2.2.2.2.2.1 x.2.1.2.2.2.2.2.2.1 x.2.1.2.2.2.2.2.2.2.1, fun (x : ((Nat × Nat × Nat × (Nat → ByteArray) × (Nat → Int) × (Nat → Int) × Unit) × Int × (Nat × Nat × Nat × (Nat → Bool) × Unit) × Int × Int × Int × Bool × Bool × Unit) × ((Nat × Nat × Nat × (Nat → ByteArray) × (Nat → Int) × (Nat → Int) × Unit) × Int × (Nat × Nat × Nat × (Nat → Bool) × Unit) × Int × Int × Int × Bool × Bool × Unit) × Unit) => (fun (aa na ma : Nat) (ta : Nat → ByteArray) (va : Nat → Int) (ga : Nat → Int) (c0 : Int) (ab nb mb : Nat) (tb : Nat → Bool) (c1 : Int) (c2 : Int) (c3 : Int) (c4 : Bool) (c5 : Bool) (ac nc mc : Nat) (tc : Nat → ByteArray) (vc : Nat → Int) (gc : Nat → Int) (c6 : Int) (ad nd md : Nat) (td : Nat → Bool) (c7 : Int) (c8 : Int) (c9 : Int) (c10 : Bool) (c11 : Bool) => (V36 aa na ma ta va ga c0 ab nb mb tb c1 c2 c3 c4 c5 ac nc mc tc vc gc c6 ad nd md td c7 c8 c9 c10 c11) ((decide (c0 = c6 ∧ (S.mkl na fun j => (ta (j + aa), va (j + aa), ga (j + aa))) = (S.mkl nc fun j => (tc (j + ac), vc (j + ac), gc (j + ac)))) && (decide ((nb : Int) = nd) && (decide (c1 = c7 ∧ c2 = c8 ∧ c3 = c9) && (decide (c4 = c10) && (decide (c5 = c11) && decide ((S.mkl nb fun j => tb (j + ab)) = (S.mkl nd fun j => td (j + ad)))))))))) x.1.1.1 x.1.1.2.1 x.1.1.2.2.1 x.1.1.2.2.2.1 x.1.1.2.2.2.2.1 x.1.1.2.2.2.2.2.1 x.1.2.1 x.1.2.2.1.1 x.1.2.2.1.2.1 x.1.2.2.1.2.2.1 x.1.2.2.1.2.2.2.1 x.1.2.2.2.1 x.1.2.2.2.2.1 x.1.2.2.2.2.2.1 x.1.2.2.2.2.2.2.1 x.1.2.2.2.2.2.2.2.1 x.2.1.1.1 x.2.1.1.2.1 x.2.1.1.2.2.1 x.2.1.1.2.2.2.1 x.2.1.1.2.2.2.2.1 x.2.1.1.2.2.2.2.2.1 x.2.1.2.1 x.2.1.2.2.1.1 x.2.1.2.2.1.2.1 x.2.1.2.2.1.2.2.1 x.2.1.2.2.1.2.2.2.1 x.2.1.2.2.2.1 x.2.1.2.2.2.2.1 x.2.1.2.2.2.2.2.1 x.2.1.2.2.2.2.2.2.1 x.2.1.2.2.2.2.2.2.2.1, fun (x : ((Nat × Nat × Nat × (Nat → ByteArray) × (Nat → Int) × (Nat → Int) × Unit) × Int × (Nat × Nat × Nat × (Nat → Bool) × Unit) × Int × Int × Int × Bool × Bool × Unit) × ((Nat × Nat × Nat × (Nat → ByteArray) × (Nat → Int) × (Nat → Int) × Unit) × Int × (Nat × Nat × Nat × (Nat → Bool) × Unit) × Int × Int × Int × Bool × Bool × Unit) × Unit) => (fun (aa na ma : Nat) (ta : Nat → ByteArray) (va : Nat → Int) (ga : Nat → Int) (c0 : Int) (ab nb mb : Nat) (tb : Nat → Bool) (c1 : Int) (c2 : Int) (c3 : Int) (c4 : Bool) (c5 : Bool) (ac nc mc : Nat) (tc : Nat → ByteArray) (vc : Nat → Int) (gc : Nat → Int) (c6 : Int) (ad nd md : Nat) (td : Nat → Bool) (c7 : Int) (c8 : Int) (c9 : Int) (c10 : Bool) (c11 : Bool) => (N36 aa na ma ta va ga c0 ab nb mb tb c1 c2 c3 c4 c5 ac nc mc tc vc gc c6 ad nd md td c7 c8 c9 c10 c11) ((decide (c0 = c6 ∧ (S.mkl na fun j => (ta (j + aa), va (j + aa), ga (j + aa))) = (S.mkl nc fun j => (tc (j + ac), vc (j + ac), gc (j + ac)))) && (decide ((nb : Int) = nd) && (decide (c1 = c7 ∧ c2 = c8 ∧ c3 = c9) && (decide (c4 = c10) && (decide (c5 = c11) && decide ((S.mkl nb fun j => tb (j + ab)) = (S.mkl nd fun j => td (j + ad)))))))))) x.1.1.1 x.1.1.2.1 x.1.1.2.2.1 x.1.1.2.2.2.1 x.1.1.2.2.2.2.1 x.1.1.2.2.2.2.2.1 x.1.2.1 x.1.2.2.1.1 x.1.2.2.1.2.1 x.1.2.2.1.2.2.1 x.1.2.2.1.2.2.2.1 x.1.2.2.2.1 x.1.2.2.2.2.1 x.1.2.2.2.2.2.1 x.1.2.2.2.2.2.2.1 x.1.2.2.2.2.2.2.2.1 x.2.1.1.1 x.2.1.1.2.1 x.2.1.1.2.2.1 x.2.1.1.2.2.2.1 x.2.1.1.2.2.2.2.1 x.2.1.1.2.2.2.2.2.1 x.2.1.2.1 x.2.1.2.2.1.1 x.2.1.2.2.1.2.1 x.2.1.2.2.1.2.2.1 x.2.1.2.2.1.2.2.2.1 x.2.1.2.2.2.1 x.2.1.2.2.2.2.1 x.2.1.2.2.2.2.2.1 x.2.1.2.2.2.2.2.2.1 x.2.1.2.2.2.2.2.2.2.1, fun _ _ => .dead⟩
theorem s36' (aa na ma : Nat) (ta : Nat → ByteArray) (va ga : Nat → Int) (c0 : Int) (ab nb mb : Nat) (tb : Nat → Bool) (c1 c2 c3 : Int) (c4 c5 : Bool) (ac nc mc : Nat) (tc : Nat → ByteArray) (vc gc : Nat → Int) (c6 : Int) (ad nd md : Nat) (td : Nat → Bool) (c7 c8 c9 : Int) (c10 c11 : Bool) (hp : (aa + na ≤ ma ∧ na ≤ 1000000) ∧ (ab + nb ≤ mb ∧ nb ≤ 1000000) ∧ (ac + nc ≤ mc ∧ nc ≤ 1000000) ∧ ad + nd ≤ md ∧ nd ≤ 1000000) (he : nb = nd) : ∀ k i : Nat, i + k = nb → (∀ j, j < i → (tb (j + ab) = td (j + ad))) → Comes (q36 aa na ma ta va ga c0 ab nb mb tb c1 c2 c3 c4 c5 ac nc mc tc vc gc c6 ad nd md td c7 c8 c9 c10 c11) (.h0 (i : Int)) (decide ((S.mkl nb fun j => tb (j + ab)) = (S.mkl nd fun j => td (j + ad)))) := by
  obtain ⟨hpa, ⟨hp1, hp2⟩, hpc, hp3, hp4⟩ := hp
  have hq : decide ((S.mkl nb fun j => tb (j + ab)) = (S.mkl nd fun j => td (j + ad))) = true ↔ ∀ j, j < nb → (tb (j + ab) = td (j + ad)) := by
    rw [decide_eq_true_eq, mkl_inj]; simp only [he, true_and]
  generalize decide ((S.mkl nb fun j => tb (j + ab)) = (S.mkl nd fun j => td (j + ad))) = R at hq ⊢
  intro k
  induction k with
  | zero =>
    intro i hi hj
    obtain rfl : nb = i := by omega
    apply Comes.of
    show Goes _ _ _
    (first | rw [q36] | unfold q36)
    repeat' first
      | with_reducible refine goes_if (fun h => ?_) (fun h => ?_) <;> (try simp only [SH] at h)
      | exact goes_none.mpr (by omega)
    all_goals first | (exfalso; omega) | (exact goes_inr.mpr (hq.mpr hj).symm)
  | succ k ih =>
    intro i hi hj
    have hw : ∀ {P : Prop}, (R = true → P) → ¬ P → false = R := fun h1 h2 => by cases R; rfl; exact absurd (h1 rfl) h2
    by_cases hc : (tb (i + ab) = td (i + ad))
    · have ih := ih (i + 1) (by omega) (fun j hlt => by
        rcases Nat.lt_or_eq_of_le (Nat.le_of_lt_succ hlt) with h1 | h1
        · exact hj j h1
        · subst h1; exact hc)
      clear hq hj hw
      apply Comes.of
      cases h1 : tb (i + ab) <;> cases h2 : td (i + ad) <;> rw [h1, h2] at hc
      all_goals
       show Goes _ _ _
       rw [q36]
       simp only [Int.toNat_natCast, h1, h2]
       show Goes _ _ _
       repeat' first
        | with_reducible refine goes_if (fun h => ?_) (fun h => ?_) <;> (try simp only [SH] at h)
        | exact goes_none.mpr (by omega)
        | fail
       all_goals first | (exfalso; omega) | exact ih | (exfalso; simp_all; done)
    · have hf := hw (fun e => hq.mp e i (by omega)) hc
      clear hq hj hw ih
      apply Comes.of
      cases h1 : tb (i + ab) <;> cases h2 : td (i + ad) <;> rw [h1, h2] at hc
      all_goals
       show Goes _ _ _
       rw [q36]
       simp only [Int.toNat_natCast, h1, h2]
       show Goes _ _ _
       repeat' first
        | with_reducible refine goes_if (fun h => ?_) (fun h => ?_) <;> (try simp only [SH] at h)
        | exact goes_none.mpr (by omega)
        | fail
       all_goals first | (exfalso; omega) | exact goes_inr.mpr hf | (exfalso; simp_all; done)
theorem s36 (aa na ma : Nat) (ta : Nat → ByteArray) (va ga : Nat → Int) (c0 : Int) (ab nb mb : Nat) (tb : Nat → Bool) (c1 c2 c3 : Int) (c4 c5 : Bool) (ac nc mc : Nat) (tc : Nat → ByteArray) (vc gc : Nat → Int) (c6 : Int) (ad nd md : Nat) (td : Nat → Bool) (c7 c8 c9 : Int) (c10 c11 : Bool) (hp : (aa + na ≤ ma ∧ na ≤ 1000000) ∧ (ab + nb ≤ mb ∧ nb ≤ 1000000) ∧ (ac + nc ≤ mc ∧ nc ≤ 1000000) ∧ ad + nd ≤ md ∧ nd ≤ 1000000) : Goes ((q36 aa na ma ta va ga c0 ab nb mb tb c1 c2 c3 c4 c5 ac nc mc tc vc gc c6 ad nd md td c7 c8 c9 c10 c11)) ((p36 aa na ma ta va ga c0 ab nb mb tb c1 c2 c3 c4 c5 ac nc mc tc vc gc c6 ad nd md td c7 c8 c9 c10 c11)) ((decide (c0 = c6 ∧ (S.mkl na fun j => (ta (j + aa), va (j + aa), ga (j + aa))) = (S.mkl nc fun j => (tc (j + ac), vc (j + ac), gc (j + ac)))) && (decide ((nb : Int) = nd) && (decide (c1 = c7 ∧ c2 = c8 ∧ c3 = c9) && (decide (c4 = c10) && (decide (c5 = c11) && decide ((S.mkl nb fun j => tb (j + ab)) = (S.mkl nd fun j => td (j + ad))))))))) := by
  have hm := fun he => s36' aa na ma ta va ga c0 ab nb mb tb c1 c2 c3 c4 c5 ac nc mc tc vc gc c6 ad nd md td c7 c8 c9 c10 c11 hp he nb 0 (Nat.zero_add _) (fun j hj => absurd hj (Nat.not_lt_zero j))
  obtain ⟨⟨hp1, hp2⟩, ⟨hp3, hp4⟩, ⟨hp5, hp6⟩, hp7, hp8⟩ := hp
  unfold p36
  try simp only [c36_0_0, c36_e_0, c36_e_1]
  have e1 : (c1 == c7 && (c2 == c8 && (c3 == c9 && true))) = decide (c1 = c7 ∧ c2 = c8 ∧ c3 = c9) := by
    rw [Bool.eq_iff_iff, decide_eq_true_eq, Bool.and_eq_true, Bool.and_eq_true, Bool.and_eq_true, beq_iff_eq, beq_iff_eq, beq_iff_eq]
    simp only [and_true]
  simp only [e1]
  cases h1 : decide (c0 = c6 ∧ (S.mkl na fun j => (ta (j + aa), va (j + aa), ga (j + aa))) = (S.mkl nc fun j => (tc (j + ac), vc (j + ac), gc (j + ac))))
  · show Goes _ _ _
    repeat' first
      | with_reducible exact goes_inr.mpr rfl
      | with_reducible refine goes_if (fun h => ?_) (fun h => ?_) <;> (try simp only [SH] at h)
      | exact goes_none.mpr (by omega)
      | fail
    all_goals first | (exfalso; omega) | exact goes_inr.mpr rfl | (exfalso; simp_all; done)
  by_cases h2 : nb = nd
  · have hm := hm h2
    rw [decide_eq_true (show (nb : Int) = nd by omega)]
    cases h3 : decide (c1 = c7 ∧ c2 = c8 ∧ c3 = c9) <;> cases c4 <;> cases c10 <;> cases c5 <;> cases c11
    all_goals
     show Goes _ _ _
     repeat' first
      | with_reducible exact goes_inr.mpr rfl
      | with_reducible refine goes_if (fun h => ?_) (fun h => ?_) <;> (try simp only [SH] at h)
      | exact goes_none.mpr (by omega)
      | fail
     all_goals first | (exfalso; omega) | exact goes_inr.mpr rfl | exact hm | (exfalso; simp_all; done)
  · rw [decide_eq_false (show ¬ (nb : Int) = nd by omega)]
    show Goes _ _ _
    repeat' first
      | with_reducible exact goes_inr.mpr rfl
      | with_reducible refine goes_if (fun h => ?_) (fun h => ?_) <;> (try simp only [SH] at h)
      | exact goes_none.mpr (by omega)
      | fail
    all_goals first | (exfalso; omega) | exact goes_inr.mpr rfl | (exfalso; simp_all; done)
theorem k36_ok  : k36.ok Try.prog := by
  intro x hx
  obtain ⟨⟨⟨aa, na, ma, ta, va, ga, _⟩, c0, ⟨ab, nb, mb, tb, _⟩, c1, c2, c3, c4, c5, _⟩, ⟨⟨ac, nc, mc, tc, vc, gc, _⟩, c6, ⟨ad, nd, md, td, _⟩, c7, c8, c9, c10, c11, _⟩, _⟩ := x
  obtain ⟨h1, h2⟩ := a36 aa na ma ta va ga c0 ab nb mb tb c1 c2 c3 c4 c5 ac nc mc tc vc gc c6 ad nd md td c7 c8 c9 c10 c11 (s36 aa na ma ta va ga c0 ab nb mb tb c1 c2 c3 c4 c5 ac nc mc tc vc gc c6 ad nd md td c7 c8 c9 c10 c11 (of_dec hx rfl))
  exact ⟨⟨400, (by decide : 4 + 1 + 0 ≤ 400), h1⟩, h2⟩
inductive St37 where
  | h0 (x0 : Int)
abbrev Rt37  := Bool
noncomputable def V37 (aa na ma : Nat) (ta : Nat → Bool) (ab nb mb : Nat) (tb : Nat → Bool) (r : Rt37) : PV := PV.bool r
noncomputable def N37 (aa na ma : Nat) (ta : Nat → Bool) (ab nb mb : Nat) (tb : Nat → Bool) (r : Rt37) : List Blk := []
noncomputable def I37 (aa na ma : Nat) (ta : Nat → Bool) (ab nb mb : Nat) (tb : Nat → Bool) : St37 → Hd
  | .h0 x0 => ⟨hd Try.f37 0, [PV.loose (PA.mk (0) (1) aa (0)) na,
 PV.loose (PA.mk (1) (1) ab (0)) nb, PV.int IntKind.i64 (↑na : Int),
 PV.int IntKind.i64 x0], [[], [(0, (false, .cols ma [.bool ta])), (1, (false, .cols mb [.bool tb]))]], 2⟩
noncomputable def q37 (aa na ma : Nat) (ta : Nat → Bool) (ab nb mb : Nat) (tb : Nat → Bool) : St37 → Option (St37 ⊕ Rt37)
  | .h0 x0 => bif (decide (x0 < (↑na : Int)))
 then (bif (decide ((0 : Int) ≤ x0 ∧ x0 < (↑na : Int)))
 then (bif (decide (Int.toNat x0 + aa < ma))
 then (bif (ta (Int.toNat x0 + aa))
 then (bif (decide ((0 : Int) ≤ x0 ∧ x0 < (↑nb : Int)))
 then (bif (decide (Int.toNat x0 + ab < mb))
 then (bif (tb (Int.toNat x0 + ab))
 then (bif (lim IntKind.i64 (x0 + (1 : Int)))
 then (some (.inl (.h0 (x0 + (1 : Int)))))
 else (none))
 else (some (.inr (false))))
 else (none))
 else (none))
 else (bif (decide ((0 : Int) ≤ x0 ∧ x0 < (↑nb : Int)))
 then (bif (decide (Int.toNat x0 + ab < mb))
 then (bif (tb (Int.toNat x0 + ab))
 then (some (.inr (false)))
 else (bif (lim IntKind.i64 (x0 + (1 : Int)))
 then (some (.inl (.h0 (x0 + (1 : Int)))))
 else (none)))
 else (none))
 else (none)))
 else (none))
 else (none))
 else (some (.inr (true)))
noncomputable def p37 (aa na ma : Nat) (ta : Nat → Bool) (ab nb mb : Nat) (tb : Nat → Bool) : Option (St37 ⊕ Rt37) := bif ((↑na : Int) != (↑nb : Int))
 then (some (.inr (false)))
 else (some (.inl (.h0 ((0 : Int)))))
noncomputable def Te37 (test : Bool → Prop → Prop → Prop) (Kst : KS) (Kret : KR) (aa na ma : Nat) (ta : Nat → Bool) (ab nb mb : Nat) (tb : Nat → Bool) : Prop :=
  test ((↑na : Int) != (↑nb : Int))
 (Kret (PV.tf false) ([[(1, false, Blk.cols mb [Col.bool tb]),
 (0, false, Blk.cols ma [Col.bool ta])]]) (2))
 (Kst (hd Try.f37 0) ([PV.loose (PA.mk (0) (1) aa (0)) na,
 PV.loose (PA.mk (1) (1) ab (0)) nb, PV.int IntKind.i64 (↑na : Int),
 PV.int IntKind.i64 (0 : Int)]) ([[(1, false, Blk.cols mb [Col.bool tb]),
 (0, false, Blk.cols ma [Col.bool ta])]]) (2))
theorem te37 (test : Bool → Prop → Prop → Prop) (Kst : KS) (Kret : KR) (aa na ma : Nat) (ta : Nat → Bool) (ab nb mb : Nat) (tb : Nat → Bool) : run test Try.env true noX true 400 ⟨37, [.cd (mkFn Try.f37).body], argT 0 [.loose ⟨0, 1, aa, 0⟩ na, .loose ⟨1, 1, ab, 0⟩ nb], [[], [(0, (false, .cols ma [.bool ta])), (1, (false, .cols mb [.bool tb]))]], 2⟩ (proj 2 [0, 1, 12, 13] Kst Kret) =
  Te37 test Kst Kret aa na ma ta ab nb mb tb := by kernel_rfl
noncomputable def T37_0 (test : Bool → Prop → Prop → Prop) (Kst : KS) (Kret : KR) (aa na ma : Nat) (ta : Nat → Bool) (ab nb mb : Nat) (tb : Nat → Bool) (x0 : Int) : Prop :=
  test (decide (x0 < (↑na : Int)))
 (test (decide ((0 : Int) ≤ x0 ∧ x0 < (↑na : Int)))
 (test (decide (Int.toNat x0 + aa < ma))
 (test (ta (Int.toNat x0 + aa))
 (test (decide ((0 : Int) ≤ x0 ∧ x0 < (↑nb : Int)))
 (test (decide (Int.toNat x0 + ab < mb))
 (test (tb (Int.toNat x0 + ab))
 (test (lim IntKind.i64 (x0 + (1 : Int)))
 (Kst (hd Try.f37 0) ([PV.loose (PA.mk (0) (1) aa (0)) na,
 PV.loose (PA.mk (1) (1) ab (0)) nb, PV.int IntKind.i64 (↑na : Int),
 PV.int IntKind.i64 (x0 + (1 : Int))]) ([[(1, false, Blk.cols mb [Col.bool tb]),
 (0, false, Blk.cols ma [Col.bool ta])]]) (2))
 (False))
 (Kret (PV.tf false) ([[(1, false, Blk.cols mb [Col.bool tb]),
 (0, false, Blk.cols ma [Col.bool ta])]]) (2)))
 (False))
 (False))
 (test (decide ((0 : Int) ≤ x0 ∧ x0 < (↑nb : Int)))
 (test (decide (Int.toNat x0 + ab < mb))
 (test (tb (Int.toNat x0 + ab))
 (Kret (PV.tf false) ([[(1, false, Blk.cols mb [Col.bool tb]),
 (0, false, Blk.cols ma [Col.bool ta])]]) (2))
 (test (lim IntKind.i64 (x0 + (1 : Int)))
 (Kst (hd Try.f37 0) ([PV.loose (PA.mk (0) (1) aa (0)) na,
 PV.loose (PA.mk (1) (1) ab (0)) nb, PV.int IntKind.i64 (↑na : Int),
 PV.int IntKind.i64 (x0 + (1 : Int))]) ([[(1, false, Blk.cols mb [Col.bool tb]),
 (0, false, Blk.cols ma [Col.bool ta])]]) (2))
 (False)))
 (False))
 (False)))
 (False))
 (False))
 (Kret (PV.tf true) ([[(1, false, Blk.cols mb [Col.bool tb]),
 (0, false, Blk.cols ma [Col.bool ta])]]) (2))
theorem t37_0 (test : Bool → Prop → Prop → Prop) (Kst : KS) (Kret : KR) (aa na ma : Nat) (ta : Nat → Bool) (ab nb mb : Nat) (tb : Nat → Bool) (x0 : Int) : run test Try.env true noX true 400 ⟨37, hd Try.f37 0, zipT [0, 1, 12, 13] [PV.loose (PA.mk (0) (1) aa (0)) na,
 PV.loose (PA.mk (1) (1) ab (0)) nb, PV.int IntKind.i64 (↑na : Int),
 PV.int IntKind.i64 x0], [[], [(0, (false, .cols ma [.bool ta])), (1, (false, .cols mb [.bool tb]))]], 2⟩ (proj 2 [0, 1, 12, 13] Kst Kret) =
  T37_0 test Kst Kret aa na ma ta ab nb mb tb x0 := by kernel_rfl
theorem be37 (aa na ma : Nat) (ta : Nat → Bool) (ab nb mb : Nat) (tb : Nat → Bool) (Kst : KS) (Kret : KR) (x : St37 ⊕ Rt37) (hS : HS 2 400 ((I37 aa na ma ta ab nb mb tb)) Kst x) (hR : HR 2 400 ((V37 aa na ma ta ab nb mb tb)) (fun r => [newL (2 + 1) ((N37 aa na ma ta ab nb mb tb) r) ++ [(0, (false, .cols ma [.bool ta])), (1, (false, .cols mb [.bool tb]))]]) Kret x) (h : p37 aa na ma ta ab nb mb tb = some x) : Te37 cond Kst Kret aa na ma ta ab nb mb tb := by
  unfold Te37
  unfold p37 at h
  refine bif_split h
   (fun c0 h => ret_at hR _ h (fun n => n) rfl rfl rfl (rn_bool_tf rfl) rfl (entl_bor (use_lo rfl) rfl rfl (entl_bor (use_lo rfl) rfl rfl entl_nil)))
   (fun c0 h => stop_at hS _ h (fun n => n) rfl rfl rfl ⟨(rn_loose (use_lo rfl) rfl rfl rfl), ⟨(rn_loose (use_lo rfl) rfl rfl rfl), ⟨(rn_int rfl), ⟨(rn_int rfl), trivial⟩⟩⟩⟩ rfl (entl_bor (use_lo rfl) rfl rfl (entl_bor (use_lo rfl) rfl rfl entl_nil)))
theorem b37_0 (aa na ma : Nat) (ta : Nat → Bool) (ab nb mb : Nat) (tb : Nat → Bool) (Kst : KS) (Kret : KR) (x : St37 ⊕ Rt37) (hS : HS 2 400 ((I37 aa na ma ta ab nb mb tb)) Kst x) (hR : HR 2 400 ((V37 aa na ma ta ab nb mb tb)) (fun r => [newL (2 + 1) ((N37 aa na ma ta ab nb mb tb) r) ++ [(0, (false, .cols ma [.bool ta])), (1, (false, .cols mb [.bool tb]))]]) Kret x) (x0 : Int) (h : (bif (decide (x0 < (↑na : Int)))
 then (bif (decide ((0 : Int) ≤ x0 ∧ x0 < (↑na : Int)))
 then (bif (decide (Int.toNat x0 + aa < ma))
 then (bif (ta (Int.toNat x0 + aa))
 then (bif (decide ((0 : Int) ≤ x0 ∧ x0 < (↑nb : Int)))
 then (bif (decide (Int.toNat x0 + ab < mb))
 then (bif (tb (Int.toNat x0 + ab))
 then (bif (lim IntKind.i64 (x0 + (1 : Int)))
 then (some (.inl (.h0 (x0 + (1 : Int)))))
 else (none))
 else (some (.inr (false))))
 else (none))
 else (none))
 else (bif (decide ((0 : Int) ≤ x0 ∧ x0 < (↑nb : Int)))
 then (bif (decide (Int.toNat x0 + ab < mb))
 then (bif (tb (Int.toNat x0 + ab))
 then (some (.inr (false)))
 else (bif (lim IntKind.i64 (x0 + (1 : Int)))
 then (some (.inl (.h0 (x0 + (1 : Int)))))
 else (none)))
 else (none))
 else (none)))
 else (none))
 else (none))
 else (some (.inr (true))) : Option (St37 ⊕ Rt37)) = some x) : T37_0 cond Kst Kret aa na ma ta ab nb mb tb x0 := by
  unfold T37_0
  refine bif_split h
   (fun c0 h => bif_split h
   (fun c1 h => bif_split h
   (fun c2 h => bif_split h
   (fun c3 h => bif_split h
   (fun c4 h => bif_split h
   (fun c5 h => bif_split h
   (fun c6 h => bif_split h
   (fun c7 h => ?_)
   (fun c7 h => ?_))
   (fun c6 h => ?_))
   (fun c5 h => ?_))
   (fun c4 h => ?_))
   (fun c3 h => bif_split h
   (fun c4 h => bif_split h
   (fun c5 h => bif_split h
   (fun c6 h => ?_)
   (fun c6 h => bif_split h
   (fun c7 h => ?_)
   (fun c7 h => ?_)))
   (fun c5 h => ?_))
   (fun c4 h => ?_)))
   (fun c2 h => ?_))
   (fun c1 h => ?_))
   (fun c0 h => ?_)
  all_goals first
    | exact no_some h
    | exact ret_at hR _ h (fun n => n) rfl rfl rfl (rn_bool_tf rfl) rfl (entl_bor (use_lo rfl) rfl rfl (entl_bor (use_lo rfl) rfl rfl entl_nil))
    | exact stop_at hS _ h (fun n => n) rfl rfl rfl ⟨(rn_loose (use_lo rfl) rfl rfl rfl), ⟨(rn_loose (use_lo rfl) rfl rfl rfl), ⟨(rn_int rfl), ⟨(rn_int rfl), trivial⟩⟩⟩⟩ rfl (entl_bor (use_lo rfl) rfl rfl (entl_bor (use_lo rfl) rfl rfl entl_nil))
theorem a37 (aa na ma : Nat) (ta : Nat → Bool) (ab nb mb : Nat) (tb : Nat → Bool) {r : Rt37} (h : Goes ((q37 aa na ma ta ab nb mb tb)) ((p37 aa na ma ta ab nb mb tb)) r) : CallR Try.prog 37 [.loose ⟨0, 1, aa, 0⟩ na, .loose ⟨1, 1, ab, 0⟩ nb] [[(0, (false, .cols ma [.bool ta])), (1, (false, .cols mb [.bool tb]))]] 2 ((V37 aa na ma ta ab nb mb tb) r) ((fun r => [newL (2 + 1) ((N37 aa na ma ta ab nb mb tb) r) ++ [(0, (false, .cols ma [.bool ta])), (1, (false, .cols mb [.bool tb]))]]) r) 400 ∧ ∃ F, Try.prog.funcs[37]? = some F ∧ F.body.isSome = true ∧ (F.name == "runtime.NumGoroutine") = false := by
  refine dec_calls (f := 37) (lo := 2) (hi := 400) (H := [[(0, (false, .cols ma [.bool ta])), (1, (false, .cols mb [.bool tb]))]]) (args := [.loose ⟨0, 1, aa, 0⟩ na, .loose ⟨1, 1, ab, 0⟩ nb]) Try.envOk Try.mixed noX_ok ((I37 aa na ma ta ab nb mb tb)) ((V37 aa na ma ta ab nb mb tb)) (fun r => [newL (2 + 1) ((N37 aa na ma ta ab nb mb tb) r) ++ [(0, (false, .cols ma [.bool ta])), (1, (false, .cols mb [.bool tb]))]]) (fn := mkFn Try.f37) (ts := [0, 1, 12, 13]) (n := 400) rfl (by decide) (by simp) (names_of rfl) ?_ ?_ ?_ h
  · intro s; cases s <;> exact ⟨hd_ok _ _, by simp [I37], names_of rfl, Nat.le_of_ble_eq_true rfl⟩
  · intro Kst Kret x hS hR h
    exact Holds.eq (te37 cond Kst Kret aa na ma ta ab nb mb tb) (be37 aa na ma ta ab nb mb tb Kst Kret x hS hR h)
  · intro Kst Kret x hS hR s h
    cases s with
    | h0 x0 => exact Holds.eq (t37_0 cond Kst Kret aa na ma ta ab nb mb tb x0) (b37_0 aa na ma ta ab nb mb tb Kst Kret x hS hR x0 h)
noncomputable def k37  : Con := ⟨37, [.one (.list [.bool]), .one (.list [.bool])], fun (x : (Nat × Nat × Nat × (Nat → Bool) × Unit) × (Nat × Nat × Nat × (Nat → Bool) × Unit) × Unit) => (fun (aa na ma : Nat) (ta : Nat → Bool) (ab nb mb : Nat) (tb : Nat → Bool) => decide (aa + na ≤ ma ∧ na ≤ 1000000 ∧ ab + nb ≤ mb ∧ nb ≤ 1000000)) x.1.1 x.1.2.1 x.1.2.2.1 x.1.2.2.2.1 x.2.1.1 x.2.1.2.1 x.2.1.2.2.1 x.2.1.2.2.2.1, fun (x : (Nat × Nat × Nat × (Nat → Bool) × Unit) × (Nat × Nat × Nat × (Nat → Bool) × Unit) × Unit) => (fun (aa na ma : Nat) (ta : Nat → Bool) (ab nb mb : Nat) (tb : Nat → Bool) => (V37 aa na ma ta ab nb mb tb) (decide ((S.mkl na fun j => ta (j + aa)) = (S.mkl nb fun j => tb (j + ab))))) x.1.1 x.1.2.1 x.1.2.2.1 x.1.2.2.2.1 x.2.1.1 x.2.1.2.1 x.2.1.2.2.1 x.2.1.2.2.2.1, fun (x : (Nat × Nat × Nat × (Nat → Bool) × Unit) × (Nat × Nat × Nat × (Nat → Bool) × Unit) × Unit) => (fun (aa na ma : Nat) (ta : Nat → Bool) (ab nb mb : Nat) (tb : Nat → Bool) => (N37 aa na ma ta ab nb mb tb) (decide ((S.mkl na fun j => ta (j + aa)) = (S.mkl nb fun j => tb (j + ab))))) x.1.1 x.1.2.1 x.1.2.2.1 x.1.2.2.2.1 x.2.1.1 x.2.1.2.1 x.2.1.2.2.1 x.2.1.2.2.2.1, fun _ _ => .dead⟩
theorem e37 (aa na ma : Nat) (ta : Nat → Bool) (ab nb mb : Nat) (tb : Nat → Bool) (h : na = nb) : decide ((S.mkl na fun j => ta (j + aa)) = (S.mkl nb fun j => tb (j + ab))) = true ↔ ∀ j, j < na → ta (j + aa) = tb (j + ab) := by
  rw [decide_eq_true_eq, mkl_inj]
  simp only [h, true_and, Prod.mk.injEq]
theorem s37' (aa na ma : Nat) (ta : Nat → Bool) (ab nb mb : Nat) (tb : Nat → Bool) (hp : aa + na ≤ ma ∧ na ≤ 1000000 ∧ ab + nb ≤ mb ∧ nb ≤ 1000000) (he : na = nb) : ∀ k i : Nat, i + k = na → (∀ j, j < i → ta (j + aa) = tb (j + ab)) → Comes (q37 aa na ma ta ab nb mb tb) (.h0 (i : Int)) (decide ((S.mkl na fun j => ta (j + aa)) = (S.mkl nb fun j => tb (j + ab)))) := by
  obtain ⟨hp1, hp2, hp3, hp4⟩ := hp
  have hq := e37 aa na ma ta ab nb mb tb he
  generalize decide ((S.mkl na fun j => ta (j + aa)) = (S.mkl nb fun j => tb (j + ab))) = R at hq ⊢
  intro k
  induction k with
  | zero =>
    intro i hi hj
    obtain rfl : na = i := by omega
    apply Comes.of
    show Goes _ _ _
    (first | rw [q37] | unfold q37)
    repeat' first
      | with_reducible refine goes_if (fun h => ?_) (fun h => ?_) <;> (try simp only [SH] at h)
      | exact goes_none.mpr (by omega)
    all_goals first | (exfalso; omega) | (exact goes_inr.mpr (hq.mpr hj).symm)
  | succ k ih =>
    intro i hi hj
    have hw : ∀ {P : Prop}, (R = true → P) → ¬ P → false = R := fun h1 h2 => by cases R; rfl; exact absurd (h1 rfl) h2
    apply Comes.of
    show Goes _ _ _
    (first | rw [q37] | unfold q37)
    repeat' first
      | with_reducible refine goes_if (fun h => ?_) (fun h => ?_) <;> (try simp only [SH] at h)
      | exact goes_none.mpr (by omega)
    all_goals first
      | (exfalso; omega)
      | (refine ih (i + 1) (by omega) fun j hlt => ?_
         rcases Nat.lt_or_eq_of_le (Nat.le_of_lt_succ hlt) with h1 | h1
         · exact hj j h1
         · subst h1; simp_all)
      | (refine goes_inr.mpr (hw (fun e => hq.mp e i (by omega)) fun e => ?_); simp_all)
theorem s37 (aa na ma : Nat) (ta : Nat → Bool) (ab nb mb : Nat) (tb : Nat → Bool) (hp : aa + na ≤ ma ∧ na ≤ 1000000 ∧ ab + nb ≤ mb ∧ nb ≤ 1000000) : Goes ((q37 aa na ma ta ab nb mb tb)) ((p37 aa na ma ta ab nb mb tb)) (decide ((S.mkl na fun j => ta (j + aa)) = (S.mkl nb fun j => tb (j + ab)))) := by
  by_cases he : na = nb
  · have hm := s37' aa na ma ta ab nb mb tb hp he na 0 (by omega) (fun j hj => absurd hj (Nat.not_lt_zero j))
    show Goes _ _ _
    unfold p37
    repeat' first
      | with_reducible refine goes_if (fun h => ?_) (fun h => ?_) <;> (try simp only [SH] at h)
      | exact goes_none.mpr (by omega)
    all_goals first | (exfalso; omega) | exact hm
  · have hd : decide ((S.mkl na fun j => ta (j + aa)) = (S.mkl nb fun j => tb (j + ab))) = false := decide_eq_false (fun e => he (mkl_inj.mp e).1)
    rw [hd]
    show Goes _ _ _
    unfold p37
    repeat' first
      | with_reducible refine goes_if (fun h => ?_) (fun h => ?_) <;> (try simp only [SH] at h)
      | exact goes_none.mpr (by omega)
    all_goals first | (exfalso; omega) | rfl
theorem k37_ok  : k37.ok Try.prog := by
  intro x hx
  obtain ⟨⟨aa, na, ma, ta, _⟩, ⟨ab, nb, mb, tb, _⟩, _⟩ := x
  obtain ⟨h1, h2⟩ := a37 aa na ma ta ab nb mb tb (s37 aa na ma ta ab nb mb tb (of_dec hx rfl))
  exact ⟨⟨400, (by decide : 2 + 1 + 0 ≤ 400), h1⟩, h2⟩
noncomputable def xL7 (test : Bool → Prop → Prop → Prop) : Ext := consX test [k12, k13, k15, k23, k34, k35, k36, k37]
theorem xL7_ok  : ExtOk Try.prog (xL7 cond) := consX_ok ⟨k12_ok, k13_ok, k15_ok, k23_ok, k34_ok, k35_ok, k36_ok, k37_ok, trivial⟩
theorem staE_congr  {e : Int} {t t' : Nat → ByteArray} {v g v' g' : Nat → Int} : ∀ {k i n : Nat}, i + k ≤ n → (∀ j, j < n → t j = t' j ∧ v j = v' j ∧ g j = g' j) → S.staE e t v g i k = S.staE e t' v' g' i k
  | 0, i, n, _, _ => rfl
  | k + 1, i, n, hn, h => by
    simp only [S.staE]
    obtain ⟨h1, h2, h3⟩ := h i (by omega)
    rw [h1, h2, h3, staE_congr (k := k) (i := i + 1) (n := n) (by omega) h]
    have e2 : S.any (fun j => S.eqS (t j) (t' i)) i = S.any (fun j => S.eqS (t' j) (t' i)) i := any_congr fun j hj => by rw [(h j (by omega)).1]
    rw [e2]
theorem netE_congr  {n : Nat} {t t' : Nat → ByteArray} {v g v' g' : Nat → Int} {de : Int} (h : ∀ j, j < n → t j = t' j ∧ v j = v' j ∧ g j = g' j) : S.netE n t v g de = S.netE n t' v' g' de := by
  unfold S.netE
  rw [staE_congr (n := n) (by omega) h]
section
variable {n : Nat} {t : Nat → ByteArray} {v g : Nat → Int} {de e st k l p : Int}
theorem net_mkl  : S.netE n (fun j => (S.at' (S.mkl n fun j => (t j, v j, g j)) j).1) (fun j => (S.at' (S.mkl n fun j => (t j, v j, g j)) j).2.1) (fun j => (S.at' (S.mkl n fun j => (t j, v j, g j)) j).2.2) de = S.netE n t v g de :=
  netE_congr fun j hj => by rw [at_mkl hj]; exact ⟨rfl, rfl, rfl⟩
end
theorem do_sh  {n : Nat} {e de : Int} {Q : List (ByteArray × Int × Int)} {to : Nat → Bool} {k l p : Int} {la lb : Bool} {ki ss f1 f2 f3 : Int} : (∃ k' l' p' la' lb' L', S.doS n e de Q to k l p la lb ki ss f1 f2 f3 = (de, k', l', p', la', lb', 0, Q, L') ∧ L'.length = n) ∨ ∃ x, x ≠ 0 ∧ S.doS n e de Q to k l p la lb ki ss f1 f2 f3 = S.doErr x := by
  unfold S.doS S.doRes
  (repeat' split) <;> first
    | exact .inl ⟨_, _, _, _, _, _, rfl, mkl_len⟩
    | exact .inr ⟨_, by assumption, rfl⟩
    | exact .inr ⟨_, by decide, rfl⟩
noncomputable abbrev c7_e_0 (aq nq : Nat) (tq : Nat → ByteArray) (vq gq : Nat → Int) (de : Int) (ao no : Nat) (to : Nat → Bool) (k1 k2 k3 : Int) (la lb : Bool) (ki ss f1 f2 f3 : Int) :=
 (S.rdS aq nq
 (S.doS nq
 (S.stE nq no
 (S.netE nq (fun j => tq (j + aq)) (fun j => vq (j + aq))
 (fun j => gq (j + aq)) de)
 (fun j => to (j + ao)) k1 k2 k3 la lb)
 de (S.mkl nq fun j => (tq (j + aq), vq (j + aq), gq (j + aq)))
 (fun j => to (j + ao)) k1 k2 k3 la lb ki ss f1 f2 f3))
noncomputable abbrev c7_e_1 (aq nq : Nat) (tq : Nat → ByteArray) (vq gq : Nat → Int) (de : Int) (ao no : Nat) (to : Nat → Bool) (k1 k2 k3 : Int) (la lb : Bool) (ki ss f1 f2 f3 : Int) :=
 (Prod.snd
 (Prod.snd
 (Prod.snd
 (Prod.snd
 (Prod.snd
 (Prod.snd
 (Prod.snd
 (S.doS
 (List.length
 (S.mkl nq fun j => (tq (j + aq), vq (j + aq), gq (j + aq))))
 (S.stE
 (List.length
 (S.mkl nq fun j => (tq (j + aq), vq (j + aq), gq (j + aq))))
 no
 (S.netE
 (List.length
 (S.mkl nq fun j => (tq (j + aq), vq (j + aq), gq (j + aq))))
 (fun j =>
 Prod.fst
 (S.at'
 (S.mkl nq fun j => (tq (j + aq), vq (j + aq), gq (j + aq)))
 j))
 (fun j =>
 Prod.fst
 (Prod.snd
 (S.at'
 (S.mkl nq fun j =>
 (tq (j + aq), vq (j + aq), gq (j + aq)))
 j)))
 (fun j =>
 Prod.snd
 (Prod.snd
 (S.at'
 (S.mkl nq fun j =>
 (tq (j + aq), vq (j + aq), gq (j + aq)))
 j)))
 de)
 (fun j => to (j + ao)) k1 k2 k3 la lb)
 de
 (S.mkl
 (List.length
 (S.mkl nq fun j => (tq (j + aq), vq (j + aq), gq (j + aq))))
 fun j =>
 (Prod.fst
 (S.at'
 (S.mkl nq fun j => (tq (j + aq), vq (j + aq), gq (j + aq)))
 j),
 Prod.fst
 (Prod.snd
 (S.at'
 (S.mkl nq fun j => (tq (j + aq), vq (j + aq), gq (j + aq)))
 j)),
 Prod.snd
 (Prod.snd
 (S.at'
 (S.mkl nq fun j => (tq (j + aq), vq (j + aq), gq (j + aq)))
 j))))
 (fun j => to (j + ao)) k1 k2 k3 la lb ki ss f1 f2 f3))))))))
noncomputable abbrev c7_e_2 (aq nq : Nat) (tq : Nat → ByteArray) (vq gq : Nat → Int) (de : Int) (ao no : Nat) (to : Nat → Bool) (k1 k2 k3 : Int) (la lb : Bool) (ki ss f1 f2 f3 : Int) :=
 (Prod.snd
 (Prod.snd
 (Prod.snd
 (Prod.snd
 (Prod.snd
 (Prod.snd
 (Prod.snd
 (S.doS
 (List.length (S.mkl nq fun j => (tq (j + aq), vq (j + aq), gq (j + aq))))
 (S.stE
 (List.length (S.mkl nq fun j => (tq (j + aq), vq (j + aq), gq (j + aq))))
 no
 (S.netE
 (List.length
 (S.mkl nq fun j => (tq (j + aq), vq (j + aq), gq (j + aq))))
 (fun j =>
 Prod.fst
 (S.at'
 (S.mkl nq fun j => (tq (j + aq), vq (j + aq), gq (j + aq))) j))
 (fun j =>
 Prod.fst
 (Prod.snd
 (S.at'
 (S.mkl nq fun j => (tq (j + aq), vq (j + aq), gq (j + aq))) j)))
 (fun j =>
 Prod.snd
 (Prod.snd
 (S.at'
 (S.mkl nq fun j => (tq (j + aq), vq (j + aq), gq (j + aq))) j)))
 de)
 (fun j => to (j + ao)) k1 k2 k3 la lb)
 de
 (S.mkl
 (List.length (S.mkl nq fun j => (tq (j + aq), vq (j + aq), gq (j + aq))))
 fun j =>
 (Prod.fst
 (S.at'
 (S.mkl nq fun j => (tq (j + aq), vq (j + aq), gq (j + aq))) j),
 Prod.fst
 (Prod.snd
 (S.at'
 (S.mkl nq fun j => (tq (j + aq), vq (j + aq), gq (j + aq))) j)),
 Prod.snd
 (Prod.snd
 (S.at'
 (S.mkl nq fun j => (tq (j + aq), vq (j + aq), gq (j + aq))) j))))
 (fun j => to (j + ao)) k1 k2 k3 la lb ki ss f1 f2 f3))))))))
noncomputable abbrev c7_e_3 (aq nq : Nat) (tq : Nat → ByteArray) (vq gq : Nat → Int) (de : Int) (ao no : Nat) (to : Nat → Bool) (k1 k2 k3 : Int) (la lb : Bool) (ki ss f1 f2 f3 : Int) :=
 (Prod.snd
 (Prod.snd
 (Prod.snd
 (Prod.snd
 (Prod.snd
 (S.doS
 (List.length (S.mkl nq fun j => (tq (j + aq), vq (j + aq), gq (j + aq))))
 (S.stE
 (List.length (S.mkl nq fun j => (tq (j + aq), vq (j + aq), gq (j + aq)))) no
 (S.netE
 (List.length (S.mkl nq fun j => (tq (j + aq), vq (j + aq), gq (j + aq))))
 (fun j =>
 Prod.fst
 (S.at'
 (S.mkl nq fun j => (tq (j + aq), vq (j + aq), gq (j + aq))) j))
 (fun j =>
 Prod.fst
 (Prod.snd
 (S.at'
 (S.mkl nq fun j => (tq (j + aq), vq (j + aq), gq (j + aq))) j)))
 (fun j =>
 Prod.snd
 (Prod.snd
 (S.at'
 (S.mkl nq fun j => (tq (j + aq), vq (j + aq), gq (j + aq))) j)))
 de)
 (fun j => to (j + ao)) k1 k2 k3 la lb)
 de
 (S.mkl
 (List.length (S.mkl nq fun j => (tq (j + aq), vq (j + aq), gq (j + aq))))
 fun j =>
 (Prod.fst
 (S.at' (S.mkl nq fun j => (tq (j + aq), vq (j + aq), gq (j + aq)))
 j),
 Prod.fst
 (Prod.snd
 (S.at'
 (S.mkl nq fun j => (tq (j + aq), vq (j + aq), gq (j + aq))) j)),
 Prod.snd
 (Prod.snd
 (S.at'
 (S.mkl nq fun j => (tq (j + aq), vq (j + aq), gq (j + aq))) j))))
 (fun j => to (j + ao)) k1 k2 k3 la lb ki ss f1 f2 f3))))))
noncomputable abbrev c7_e_4 (aq nq : Nat) (tq : Nat → ByteArray) (vq gq : Nat → Int) (de : Int) (ao no : Nat) (to : Nat → Bool) (k1 k2 k3 : Int) (la lb : Bool) (ki ss f1 f2 f3 : Int) :=
 (Prod.fst
 (Prod.snd
 (S.doS (List.length (S.mkl nq fun j => (tq (j + aq), vq (j + aq), gq (j + aq))))
 (S.stE (List.length (S.mkl nq fun j => (tq (j + aq), vq (j + aq), gq (j + aq))))
 no
 (S.netE
 (List.length (S.mkl nq fun j => (tq (j + aq), vq (j + aq), gq (j + aq))))
 (fun j =>
 Prod.fst
 (S.at' (S.mkl nq fun j => (tq (j + aq), vq (j + aq), gq (j + aq))) j))
 (fun j =>
 Prod.fst
 (Prod.snd
 (S.at' (S.mkl nq fun j => (tq (j + aq), vq (j + aq), gq (j + aq))) j)))
 (fun j =>
 Prod.snd
 (Prod.snd
 (S.at' (S.mkl nq fun j => (tq (j + aq), vq (j + aq), gq (j + aq))) j)))
 de)
 (fun j => to (j + ao)) k1 k2 k3 la lb)
 de
 (S.mkl (List.length (S.mkl nq fun j => (tq (j + aq), vq (j + aq), gq (j + aq))))
 fun j =>
 ((S.at' (S.mkl nq fun j => (tq (j + aq), vq (j + aq), gq (j + aq))) j).1,
 Prod.fst
 (Prod.snd
 (S.at' (S.mkl nq fun j => (tq (j + aq), vq (j + aq), gq (j + aq))) j)),
 Prod.snd
 (Prod.snd
 (S.at' (S.mkl nq fun j => (tq (j + aq), vq (j + aq), gq (j + aq))) j))))
 (fun j => to (j + ao)) k1 k2 k3 la lb ki ss f1 f2 f3)) =
 Prod.fst
 (Prod.snd
 (Prod.snd
 (Prod.snd
 (c7_e_0 aq nq tq vq gq de ao no to k1 k2 k3 la lb ki ss f1 f2 f3)))) ∧
 Prod.fst
 (Prod.snd
 (Prod.snd
 (S.doS (List.length (S.mkl nq fun j => (tq (j + aq), vq (j + aq), gq (j + aq))))
 (S.stE
 (List.length (S.mkl nq fun j => (tq (j + aq), vq (j + aq), gq (j + aq)))) no
 (S.netE
 (List.length (S.mkl nq fun j => (tq (j + aq), vq (j + aq), gq (j + aq))))
 (fun j =>
 Prod.fst
 (S.at' (S.mkl nq fun j => (tq (j + aq), vq (j + aq), gq (j + aq))) j))
 (fun j =>
 Prod.fst
 (Prod.snd
 (S.at' (S.mkl nq fun j => (tq (j + aq), vq (j + aq), gq (j + aq)))
 j)))
 (fun j =>
 Prod.snd
 (Prod.snd
 (S.at' (S.mkl nq fun j => (tq (j + aq), vq (j + aq), gq (j + aq)))
 j)))
 de)
 (fun j => to (j + ao)) k1 k2 k3 la lb)
 de
 (S.mkl
 (List.length (S.mkl nq fun j => (tq (j + aq), vq (j + aq), gq (j + aq))))
 fun j =>
 (Prod.fst
 (S.at' (S.mkl nq fun j => (tq (j + aq), vq (j + aq), gq (j + aq))) j),
 Prod.fst
 (Prod.snd
 (S.at' (S.mkl nq fun j => (tq (j + aq), vq (j + aq), gq (j + aq)))
 j)),
 Prod.snd
 (Prod.snd
 (S.at' (S.mkl nq fun j => (tq (j + aq), vq (j + aq), gq (j + aq)))
 j))))
 (fun j => to (j + ao)) k1 k2 k3 la lb ki ss f1 f2 f3))) =
 Prod.fst
 (Prod.snd
 (Prod.snd
 (Prod.snd
 (Prod.snd
 (c7_e_0 aq nq tq vq gq de ao no to k1 k2 k3 la lb ki ss f1 f2 f3))))) ∧
 Prod.fst
 (Prod.snd
 (Prod.snd
 (Prod.snd
 (S.doS
 (List.length (S.mkl nq fun j => (tq (j + aq), vq (j + aq), gq (j + aq))))
 (S.stE
 (List.length (S.mkl nq fun j => (tq (j + aq), vq (j + aq), gq (j + aq)))) no
 (S.netE
 (List.length (S.mkl nq fun j => (tq (j + aq), vq (j + aq), gq (j + aq))))
 (fun j =>
 Prod.fst
 (S.at' (S.mkl nq fun j => (tq (j + aq), vq (j + aq), gq (j + aq)))
 j))
 (fun j =>
 Prod.fst
 (Prod.snd
 (S.at' (S.mkl nq fun j => (tq (j + aq), vq (j + aq), gq (j + aq)))
 j)))
 (fun j =>
 Prod.snd
 (Prod.snd
 (S.at' (S.mkl nq fun j => (tq (j + aq), vq (j + aq), gq (j + aq)))
 j)))
 de)
 (fun j => to (j + ao)) k1 k2 k3 la lb)
 de
 (S.mkl
 (List.length (S.mkl nq fun j => (tq (j + aq), vq (j + aq), gq (j + aq))))
 fun j =>
 (Prod.fst
 (S.at' (S.mkl nq fun j => (tq (j + aq), vq (j + aq), gq (j + aq))) j),
 Prod.fst
 (Prod.snd
 (S.at' (S.mkl nq fun j => (tq (j + aq), vq (j + aq), gq (j + aq)))
 j)),
 Prod.snd
 (Prod.snd
 (S.at' (S.mkl nq fun j => (tq (j + aq), vq (j + aq), gq (j + aq)))
 j))))
 (fun j => to (j + ao)) k1 k2 k3 la lb ki ss f1 f2 f3)))) =
 Prod.fst
 (Prod.snd
 (Prod.snd
 (Prod.snd
 (Prod.snd
 (Prod.snd
 (c7_e_0 aq nq tq vq gq de ao no to k1 k2 k3 la lb ki ss f1 f2 f3)))))))
noncomputable abbrev c7_e_5 (aq nq : Nat) (tq : Nat → ByteArray) (vq gq : Nat → Int) (de : Int) (ao no : Nat) (to : Nat → Bool) (k1 k2 k3 : Int) (la lb : Bool) (ki ss f1 f2 f3 : Int) :=
 (decide
 ((↑(List.length
 (Prod.snd
 (Prod.snd
 (Prod.snd
 (Prod.snd
 (Prod.snd
 (Prod.snd
 (Prod.snd
 (Prod.snd
 (S.doS
 (List.length (S.mkl nq fun j => (tq (j + aq), vq (j + aq), gq (j + aq))))
 (S.stE
 (List.length
 (S.mkl nq fun j => (tq (j + aq), vq (j + aq), gq (j + aq))))
 no
 (S.netE
 (List.length
 (S.mkl nq fun j => (tq (j + aq), vq (j + aq), gq (j + aq))))
 (fun j =>
 Prod.fst
 (S.at'
 (S.mkl nq fun j => (tq (j + aq), vq (j + aq), gq (j + aq))) j))
 (fun j =>
 Prod.fst
 (Prod.snd
 (S.at'
 (S.mkl nq fun j => (tq (j + aq), vq (j + aq), gq (j + aq)))
 j)))
 (fun j =>
 Prod.snd
 (Prod.snd
 (S.at'
 (S.mkl nq fun j => (tq (j + aq), vq (j + aq), gq (j + aq)))
 j)))
 de)
 (fun j => to (j + ao)) k1 k2 k3 la lb)
 de
 (S.mkl
 (List.length
 (S.mkl nq fun j => (tq (j + aq), vq (j + aq), gq (j + aq))))
 fun j =>
 (Prod.fst
 (S.at'
 (S.mkl nq fun j => (tq (j + aq), vq (j + aq), gq (j + aq))) j),
 Prod.fst
 (Prod.snd
 (S.at'
 (S.mkl nq fun j => (tq (j + aq), vq (j + aq), gq (j + aq))) j)),
 Prod.snd
 (Prod.snd
 (S.at'
 (S.mkl nq fun j => (tq (j + aq), vq (j + aq), gq (j + aq)))
 j))))
 (fun j => to (j + ao)) k1 k2 k3 la lb ki ss f1 f2 f3)))))))))) :
 Int) =
 (↑(List.length
 (Prod.snd
 (Prod.snd
 (Prod.snd
 (Prod.snd
 (Prod.snd
 (Prod.snd
 (Prod.snd
 (Prod.snd
 (Prod.snd
 (c7_e_0 aq nq tq vq gq de ao no to k1 k2 k3 la lb ki ss f1 f2 f3))))))))))) :
 Int)) &&
 (decide
 (c7_e_4 aq nq tq vq gq de ao no to k1 k2 k3 la lb ki ss f1 f2 f3) &&
 (decide
 (Prod.fst
 (Prod.snd
 (Prod.snd
 (Prod.snd
 (Prod.snd
 (S.doS
 (List.length (S.mkl nq fun j => (tq (j + aq), vq (j + aq), gq (j + aq))))
 (S.stE
 (List.length (S.mkl nq fun j => (tq (j + aq), vq (j + aq), gq (j + aq)))) no
 (S.netE
 (List.length (S.mkl nq fun j => (tq (j + aq), vq (j + aq), gq (j + aq))))
 (fun j =>
 Prod.fst
 (S.at' (S.mkl nq fun j => (tq (j + aq), vq (j + aq), gq (j + aq)))
 j))
 (fun j =>
 Prod.fst
 (Prod.snd
 (S.at' (S.mkl nq fun j => (tq (j + aq), vq (j + aq), gq (j + aq)))
 j)))
 (fun j =>
 Prod.snd
 (Prod.snd
 (S.at' (S.mkl nq fun j => (tq (j + aq), vq (j + aq), gq (j + aq)))
 j)))
 de)
 (fun j => to (j + ao)) k1 k2 k3 la lb)
 de
 (S.mkl
 (List.length (S.mkl nq fun j => (tq (j + aq), vq (j + aq), gq (j + aq))))
 fun j =>
 (Prod.fst
 (S.at' (S.mkl nq fun j => (tq (j + aq), vq (j + aq), gq (j + aq))) j),
 Prod.fst
 (Prod.snd
 (S.at' (S.mkl nq fun j => (tq (j + aq), vq (j + aq), gq (j + aq)))
 j)),
 Prod.snd
 (Prod.snd
 (S.at' (S.mkl nq fun j => (tq (j + aq), vq (j + aq), gq (j + aq)))
 j))))
 (fun j => to (j + ao)) k1 k2 k3 la lb ki ss f1 f2 f3))))) =
 Prod.fst
 (Prod.snd
 (Prod.snd
 (Prod.snd
 (Prod.snd
 (Prod.snd
 (Prod.snd
 (c7_e_0 aq nq tq vq gq de ao no to k1 k2 k3 la lb ki ss f1 f2 f3)))))))) &&
 (decide
 (Prod.fst
 (c7_e_3 aq nq tq vq gq de ao no to k1 k2 k3 la lb ki ss f1 f2 f3) =
 Prod.fst
 (Prod.snd
 (Prod.snd
 (Prod.snd
 (Prod.snd
 (Prod.snd
 (Prod.snd
 (Prod.snd
 (c7_e_0 aq nq tq vq gq de ao no to k1 k2 k3 la lb ki ss f1 f2 f3))))))))) &&
 decide
 ((S.mkl
 (List.length
 (Prod.snd
 (c7_e_1 aq nq tq vq gq de ao no to k1 k2 k3 la lb ki ss f1 f2 f3)))
 fun j =>
 S.at'
 (Prod.snd
 (c7_e_1 aq nq tq vq gq de ao no to k1 k2 k3 la lb ki ss f1 f2 f3))
 j) =
 S.mkl
 (List.length
 (Prod.snd
 (Prod.snd
 (Prod.snd
 (Prod.snd
 (Prod.snd
 (Prod.snd
 (Prod.snd
 (Prod.snd
 (Prod.snd
 (c7_e_0 aq nq tq vq gq de ao no to k1 k2 k3 la lb ki ss f1 f2 f3)))))))))))
 fun j =>
 S.at'
 (Prod.snd
 (Prod.snd
 (Prod.snd
 (Prod.snd
 (Prod.snd
 (Prod.snd
 (Prod.snd
 (Prod.snd
 (Prod.snd
 (c7_e_0 aq nq tq vq gq de ao no to k1 k2 k3 la lb ki ss f1 f2 f3))))))))))
 j)))))
noncomputable abbrev c7_e_6 (aq nq : Nat) (tq : Nat → ByteArray) (vq gq : Nat → Int) (de : Int) (ao no : Nat) (to : Nat → Bool) (k1 k2 k3 : Int) (la lb : Bool) (ki ss f1 f2 f3 : Int) :=
 (decide
 (Prod.fst
 (S.doS (List.length (S.mkl nq fun j => (tq (j + aq), vq (j + aq), gq (j + aq))))
 (S.stE (List.length (S.mkl nq fun j => (tq (j + aq), vq (j + aq), gq (j + aq)))) no
 (S.netE (List.length (S.mkl nq fun j => (tq (j + aq), vq (j + aq), gq (j + aq))))
 (fun j =>
 (S.at' (S.mkl nq fun j => (tq (j + aq), vq (j + aq), gq (j + aq))) j).1)
 (fun j =>
 Prod.fst
 (Prod.snd
 (S.at' (S.mkl nq fun j => (tq (j + aq), vq (j + aq), gq (j + aq))) j)))
 (fun j =>
 Prod.snd
 (Prod.snd
 (S.at' (S.mkl nq fun j => (tq (j + aq), vq (j + aq), gq (j + aq))) j)))
 de)
 (fun j => to (j + ao)) k1 k2 k3 la lb)
 de
 (S.mkl (List.length (S.mkl nq fun j => (tq (j + aq), vq (j + aq), gq (j + aq))))
 fun j =>
 ((S.at' (S.mkl nq fun j => (tq (j + aq), vq (j + aq), gq (j + aq))) j).1,
 Prod.fst
 ((S.at' (S.mkl nq fun j => (tq (j + aq), vq (j + aq), gq (j + aq))) j).2),
 Prod.snd
 ((S.at' (S.mkl nq fun j => (tq (j + aq), vq (j + aq), gq (j + aq))) j).2)))
 (fun j => to (j + ao)) k1 k2 k3 la lb ki ss f1 f2 f3) =
 Prod.fst
 (Prod.snd
 (Prod.snd
 (c7_e_0 aq nq tq vq gq de ao no to k1 k2 k3 la lb ki ss f1 f2 f3))) ∧
 (S.mkl
 (List.length
 (Prod.fst
 (c7_e_2 aq nq tq vq gq de ao no to k1 k2 k3 la lb ki ss f1 f2 f3)))
 fun j =>
 (Prod.fst
 (S.at'
 (Prod.fst
 (Prod.snd
 (Prod.snd
 (Prod.snd
 (Prod.snd
 (Prod.snd
 (Prod.snd
 (Prod.snd
 (S.doS
 (List.length
 (S.mkl nq fun j => (tq (j + aq), vq (j + aq), gq (j + aq))))
 (S.stE
 (List.length
 (S.mkl nq fun j => (tq (j + aq), vq (j + aq), gq (j + aq))))
 no
 (S.netE
 (List.length
 (S.mkl nq fun j => (tq (j + aq), vq (j + aq), gq (j + aq))))
 (fun j =>
 Prod.fst
 (S.at'
 (S.mkl nq fun j => (tq (j + aq), vq (j + aq), gq (j + aq)))
 j))
 (fun j =>
 Prod.fst
 (Prod.snd
 (S.at'
 (S.mkl nq fun j => (tq (j + aq), vq (j + aq), gq (j + aq)))
 j)))
 (fun j =>
 Prod.snd
 (Prod.snd
 (S.at'
 (S.mkl nq fun j => (tq (j + aq), vq (j + aq), gq (j + aq)))
 j)))
 de)
 (fun j => to (j + ao)) k1 k2 k3 la lb)
 de
 (S.mkl
 (List.length
 (S.mkl nq fun j => (tq (j + aq), vq (j + aq), gq (j + aq))))
 fun j =>
 (Prod.fst
 (S.at'
 (S.mkl nq fun j => (tq (j + aq), vq (j + aq), gq (j + aq))) j),
 Prod.fst
 (Prod.snd
 (S.at'
 (S.mkl nq fun j => (tq (j + aq), vq (j + aq), gq (j + aq)))
 j)),
 Prod.snd
 (Prod.snd
 (S.at'
 (S.mkl nq fun j => (tq (j + aq), vq (j + aq), gq (j + aq)))
 j))))
 (fun j => to (j + ao)) k1 k2 k3 la lb ki ss f1 f2 f3)))))))))
 j),
 Prod.fst
 (Prod.snd
 (S.at'
 (Prod.fst
 (c7_e_1 aq nq tq vq gq de ao no to k1 k2 k3 la lb ki ss f1 f2 f3))
 j)),
 Prod.snd
 (Prod.snd
 (S.at'
 (Prod.fst
 (c7_e_1 aq nq tq vq gq de ao no to k1 k2 k3 la lb ki ss f1 f2 f3))
 j)))) =
 S.mkl
 (Prod.fst
 (Prod.snd
 (c7_e_0 aq nq tq vq gq de ao no to k1 k2 k3 la lb ki ss f1 f2 f3)))
 fun j =>
 (tq
 (j +
 Prod.fst
 (c7_e_0 aq nq tq vq gq de ao no to k1 k2 k3 la lb ki ss f1 f2 f3)),
 vq
 (j +
 Prod.fst
 (c7_e_0 aq nq tq vq gq de ao no to k1 k2 k3 la lb ki ss f1 f2 f3)),
 gq
 (j +
 Prod.fst
 (c7_e_0 aq nq tq vq gq de ao no to k1 k2 k3 la lb ki ss f1 f2 f3)))) &&
 (c7_e_5 aq nq tq vq gq de ao no to k1 k2 k3 la lb ki ss f1 f2 f3))
noncomputable abbrev c7_e_7 (aq nq mq : Nat) (tq : Nat → ByteArray) (vq gq : Nat → Int) (de : Int) (ao no : Nat) (to : Nat → Bool) (k1 k2 k3 : Int) (la lb : Bool) (ki ss f1 f2 f3 : Int) :=
 (decide
 ((0 +
 List.length
 (Prod.fst
 (c7_e_2 aq nq tq vq gq de ao no to k1 k2 k3 la lb ki ss f1 f2 f3)) ≤
 List.length
 (Prod.fst
 (Prod.snd
 (Prod.snd
 (c7_e_3 aq nq tq vq gq de ao no to k1 k2 k3 la lb ki ss f1 f2 f3)))) ∧
 List.length
 (Prod.fst
 (Prod.snd
 (Prod.snd
 (c7_e_3 aq nq tq vq gq de ao no to k1 k2 k3 la lb ki ss f1 f2 f3)))) ≤
 1000000) ∧
 (0 +
 List.length
 (Prod.snd
 (Prod.snd
 (Prod.snd
 (Prod.snd
 (Prod.snd
 (Prod.snd
 (Prod.snd
 (Prod.snd
 (S.doS
 (List.length (S.mkl nq fun j => (tq (j + aq), vq (j + aq), gq (j + aq))))
 (S.stE
 (List.length
 (S.mkl nq fun j => (tq (j + aq), vq (j + aq), gq (j + aq))))
 no
 (S.netE
 (List.length
 (S.mkl nq fun j => (tq (j + aq), vq (j + aq), gq (j + aq))))
 (fun j =>
 Prod.fst
 (S.at'
 (S.mkl nq fun j => (tq (j + aq), vq (j + aq), gq (j + aq))) j))
 (fun j =>
 Prod.fst
 (Prod.snd
 (S.at'
 (S.mkl nq fun j => (tq (j + aq), vq (j + aq), gq (j + aq)))
 j)))
 (fun j =>
 Prod.snd
 (Prod.snd
 (S.at'
 (S.mkl nq fun j => (tq (j + aq), vq (j + aq), gq (j + aq)))
 j)))
 de)
 (fun j => to (j + ao)) k1 k2 k3 la lb)
 de
 (S.mkl
 (List.length
 (S.mkl nq fun j => (tq (j + aq), vq (j + aq), gq (j + aq))))
 fun j =>
 (Prod.fst
 (S.at'
 (S.mkl nq fun j => (tq (j + aq), vq (j + aq), gq (j + aq))) j),
 Prod.fst
 (Prod.snd
 (S.at'
 (S.mkl nq fun j => (tq (j + aq), vq (j + aq), gq (j + aq))) j)),
 Prod.snd
 (Prod.snd
 (S.at'
 (S.mkl nq fun j => (tq (j + aq), vq (j + aq), gq (j + aq)))
 j))))
 (fun j => to (j + ao)) k1 k2 k3 la lb ki ss f1 f2 f3))))))))) ≤
 List.length
 (Prod.snd
 (c7_e_2 aq nq tq vq gq de ao no to k1 k2 k3 la lb ki ss f1 f2 f3)) ∧
 List.length
 (Prod.snd
 (c7_e_2 aq nq tq vq gq de ao no to k1 k2 k3 la lb ki ss f1 f2 f3)) ≤
 1000000) ∧
 (Prod.fst
 (c7_e_0 aq nq tq vq gq de ao no to k1 k2 k3 la lb ki ss f1 f2 f3) +
 Prod.fst
 (Prod.snd
 (c7_e_0 aq nq tq vq gq de ao no to k1 k2 k3 la lb ki ss f1 f2 f3)) ≤
 mq ∧
 Prod.fst
 (Prod.snd
 (c7_e_0 aq nq tq vq gq de ao no to k1 k2 k3 la lb ki ss f1 f2 f3)) ≤
 1000000) ∧
 0 +
 List.length
 (Prod.snd
 (Prod.snd
 (Prod.snd
 (Prod.snd
 (Prod.snd
 (Prod.snd
 (Prod.snd
 (Prod.snd
 (Prod.snd
 (c7_e_0 aq nq tq vq gq de ao no to k1 k2 k3 la lb ki ss f1 f2 f3)))))))))) ≤
 List.length
 (Prod.snd
 (Prod.snd
 (Prod.snd
 (Prod.snd
 (Prod.snd
 (Prod.snd
 (Prod.snd
 (Prod.snd
 (Prod.snd
 (c7_e_0 aq nq tq vq gq de ao no to k1 k2 k3 la lb ki ss f1 f2 f3)))))))))) ∧
 List.length
 (Prod.snd
 (Prod.snd
 (Prod.snd
 (Prod.snd
 (Prod.snd
 (Prod.snd
 (Prod.snd
 (Prod.snd
 (Prod.snd
 (c7_e_0 aq nq tq vq gq de ao no to k1 k2 k3 la lb ki ss f1 f2 f3)))))))))) ≤
 1000000))
noncomputable abbrev c7_e_8 (aq nq : Nat) (tq : Nat → ByteArray) (vq gq : Nat → Int) (de : Int) (ao no : Nat) (to : Nat → Bool) (k1 k2 k3 : Int) (la lb : Bool) (ki ss f1 f2 f3 : Int) :=
 (Prod.fst
 (Prod.snd
 (Prod.snd
 (Prod.snd
 (Prod.snd
 (Prod.snd
 (Prod.snd
 (S.doS (List.length (S.mkl nq fun j => (tq (j + aq), vq (j + aq), gq (j + aq))))
 (S.stE (List.length (S.mkl nq fun j => (tq (j + aq), vq (j + aq), gq (j + aq))))
 no
 (S.netE
 (List.length (S.mkl nq fun j => (tq (j + aq), vq (j + aq), gq (j + aq))))
 (fun j =>
 Prod.fst
 (S.at' (S.mkl nq fun j => (tq (j + aq), vq (j + aq), gq (j + aq))) j))
 (fun j =>
 Prod.fst
 (Prod.snd
 (S.at' (S.mkl nq fun j => (tq (j + aq), vq (j + aq), gq (j + aq))) j)))
 (fun j =>
 Prod.snd
 (Prod.snd
 (S.at' (S.mkl nq fun j => (tq (j + aq), vq (j + aq), gq (j + aq))) j)))
 de)
 (fun j => to (j + ao)) k1 k2 k3 la lb)
 de
 (S.mkl (List.length (S.mkl nq fun j => (tq (j + aq), vq (j + aq), gq (j + aq))))
 fun j =>
 ((S.at' (S.mkl nq fun j => (tq (j + aq), vq (j + aq), gq (j + aq))) j).1,
 Prod.fst
 (Prod.snd
 (S.at' (S.mkl nq fun j => (tq (j + aq), vq (j + aq), gq (j + aq))) j)),
 Prod.snd
 (Prod.snd
 (S.at' (S.mkl nq fun j => (tq (j + aq), vq (j + aq), gq (j + aq))) j))))
 (fun j => to (j + ao)) k1 k2 k3 la lb ki ss f1 f2 f3))))))) ==
 Prod.fst
 (Prod.snd
 (Prod.snd
 (Prod.snd
 (Prod.snd
 (Prod.snd
 (Prod.snd
 (Prod.snd
 (Prod.snd
 (c7_e_0 aq nq tq vq gq de ao no to k1 k2 k3 la lb ki ss f1 f2 f3))))))))))
noncomputable abbrev c7_e_9 (mq : Nat) (tq : Nat → ByteArray) (vq gq : Nat → Int) (mo : Nat) (to : Nat → Bool) :=
 ([[(1, false, Blk.cols mo [Col.bool to]),
 (0, false,
 Blk.cols mq [Col.str tq, Col.int IntKind.i64 vq, Col.int IntKind.i64 gq])]])
abbrev St7  := Empty
abbrev Rt7  := Bool
noncomputable def V7 (aq nq mq : Nat) (tq : Nat → ByteArray) (vq gq : Nat → Int) (de : Int) (ao no mo : Nat) (to : Nat → Bool) (k1 k2 k3 : Int) (la lb : Bool) (ki ss f1 f2 f3 : Int) (r : Rt7) : PV := PV.bool r
noncomputable def N7 (aq nq mq : Nat) (tq : Nat → ByteArray) (vq gq : Nat → Int) (de : Int) (ao no mo : Nat) (to : Nat → Bool) (k1 k2 k3 : Int) (la lb : Bool) (ki ss f1 f2 f3 : Int) (r : Rt7) : List Blk := []
noncomputable def I7 (aq nq mq : Nat) (tq : Nat → ByteArray) (vq gq : Nat → Int) (de : Int) (ao no mo : Nat) (to : Nat → Bool) (k1 k2 k3 : Int) (la lb : Bool) (ki ss f1 f2 f3 : Int) : St7 → Hd := fun s => s.elim
noncomputable def q7 (aq nq mq : Nat) (tq : Nat → ByteArray) (vq gq : Nat → Int) (de : Int) (ao no mo : Nat) (to : Nat → Bool) (k1 k2 k3 : Int) (la lb : Bool) (ki ss f1 f2 f3 : Int) : St7 → Option (St7 ⊕ Rt7) := fun s => s.elim
noncomputable def p7 (aq nq mq : Nat) (tq : Nat → ByteArray) (vq gq : Nat → Int) (de : Int) (ao no mo : Nat) (to : Nat → Bool) (k1 k2 k3 : Int) (la lb : Bool) (ki ss f1 f2 f3 : Int) : Option (St7 ⊕ Rt7) := bif (decide (aq + nq ≤ mq))
 then (bif (S.fewB nq fun j => tq (j + aq))
 then (bif (decide ((↑no : Int) > (20 : Int)))
 then (some (.inr (true)))
 else (bif (decide (aq + nq ≤ mq ∧ nq ≤ 1000000))
 then (bif (decide (ao + no ≤ mo ∧ no ≤ 1000000))
 then (bif (decide
 (0 + List.length (S.mkl nq fun j => (tq (j + aq), vq (j + aq), gq (j + aq))) ≤
 List.length (S.mkl nq fun j => (tq (j + aq), vq (j + aq), gq (j + aq))) ∧
 List.length (S.mkl nq fun j => (tq (j + aq), vq (j + aq), gq (j + aq))) ≤ 1000000 ∧
 0 + no ≤ no ∧ no ≤ 1000000))
 then (bif (decide (aq + nq ≤ mq ∧ nq ≤ 1000000 ∧ ao + no ≤ mo ∧ no ≤ 1000000))
 then (bif (c7_e_8 aq nq tq vq gq de ao no to k1 k2 k3 la lb ki ss f1 f2 f3)
 then (bif (c7_e_7 aq nq mq tq vq gq de ao no to k1 k2 k3 la lb ki ss f1 f2 f3)
 then (bif (c7_e_6 aq nq tq vq gq de ao no to k1 k2 k3 la lb ki ss f1 f2 f3)
 then (bif (decide (0 + no ≤ no ∧ no ≤ 1000000 ∧ ao + no ≤ mo ∧ no ≤ 1000000))
 then (bif (decide ((S.mkl no fun j => to (j + ao)) = S.mkl no fun j => to (j + ao)))
 then (some (.inr (true)))
 else (some (.inr (false))))
 else (none))
 else (some (.inr (false))))
 else (none))
 else (some (.inr (false))))
 else (none))
 else (none))
 else (none))
 else (none)))
 else (some (.inr (true))))
 else (none)
noncomputable def Te7 (test : Bool → Prop → Prop → Prop) (Kst : KS) (Kret : KR) (aq nq mq : Nat) (tq : Nat → ByteArray) (vq gq : Nat → Int) (de : Int) (ao no mo : Nat) (to : Nat → Bool) (k1 k2 k3 : Int) (la lb : Bool) (ki ss f1 f2 f3 : Int) : Prop :=
  test (true)
 (test (true)
 (test (decide (aq + nq ≤ mq))
 (test (S.fewB nq fun j => tq (j + aq))
 (test (decide ((↑no : Int) > (20 : Int)))
 (test (true)
 (test (true)
 (Kret (PV.tf true) (c7_e_9 mq tq vq gq mo to) (7))
 (Kret (PV.tf false) (c7_e_9 mq tq vq gq mo to) (7)))
 (False))
 (test (decide (aq + nq ≤ mq ∧ nq ≤ 1000000))
 (test (decide (ao + no ≤ mo ∧ no ≤ 1000000))
 (test (decide
 (0 + List.length (S.mkl nq fun j => (tq (j + aq), vq (j + aq), gq (j + aq))) ≤
 List.length (S.mkl nq fun j => (tq (j + aq), vq (j + aq), gq (j + aq))) ∧
 List.length (S.mkl nq fun j => (tq (j + aq), vq (j + aq), gq (j + aq))) ≤ 1000000 ∧
 0 + no ≤ no ∧ no ≤ 1000000))
 (test (decide (aq + nq ≤ mq ∧ nq ≤ 1000000 ∧ ao + no ≤ mo ∧ no ≤ 1000000))
 (test (c7_e_8 aq nq tq vq gq de ao no to k1 k2 k3 la lb ki ss f1 f2 f3)
 (test (c7_e_7 aq nq mq tq vq gq de ao no to k1 k2 k3 la lb ki ss f1 f2 f3)
 (test (c7_e_6 aq nq tq vq gq de ao no to k1 k2 k3 la lb ki ss f1 f2 f3)
 (test (decide (0 + no ≤ no ∧ no ≤ 1000000 ∧ ao + no ≤ mo ∧ no ≤ 1000000))
 (test (decide ((S.mkl no fun j => to (j + ao)) = S.mkl no fun j => to (j + ao)))
 (Kret (PV.tf true) (c7_e_9 mq tq vq gq mo to) (20))
 (Kret (PV.tf false) (c7_e_9 mq tq vq gq mo to) (20)))
 (False))
 (Kret (PV.tf false) (c7_e_9 mq tq vq gq mo to) (19)))
 (False))
 (Kret (PV.tf false) (c7_e_9 mq tq vq gq mo to) (18)))
 (False))
 (False))
 (False))
 (False)))
 (test (true)
 (test (true)
 (Kret (PV.tf true) (c7_e_9 mq tq vq gq mo to) (7))
 (Kret (PV.tf false) (c7_e_9 mq tq vq gq mo to) (7)))
 (False)))
 (False))
 (test (true)
 (test (true)
 (Kret (PV.tf true) (c7_e_9 mq tq vq gq mo to) (6))
 (Kret (PV.tf false) (c7_e_9 mq tq vq gq mo to) (6)))
 (False)))
 (False)
theorem te7 (test : Bool → Prop → Prop → Prop) (Kst : KS) (Kret : KR) (aq nq mq : Nat) (tq : Nat → ByteArray) (vq gq : Nat → Int) (de : Int) (ao no mo : Nat) (to : Nat → Bool) (k1 k2 k3 : Int) (la lb : Bool) (ki ss f1 f2 f3 : Int) : run test Try.env true (xL7 test) true 400 ⟨7, [.cd (mkFn Try.f7).body], argT 0 [.agg [.loose ⟨0, 3, aq, 0⟩ nq, .int .i64 de, .loose ⟨1, 1, ao, 0⟩ no, .int .i64 k1, .int .i64 k2, .int .i64 k3, .bool la, .bool lb], .agg [.int .i64 ki, .int .i64 ss, .int .i64 f1, .int .i64 f2, .int .i64 f3]], [[], [(0, (false, .cols mq [.str tq, .int .i64 vq, .int .i64 gq])), (1, (false, .cols mo [.bool to]))]], 2⟩ (proj 2 [] Kst Kret) =
  Te7 test Kst Kret aq nq mq tq vq gq de ao no mo to k1 k2 k3 la lb ki ss f1 f2 f3 := by kernel_rfl
theorem be7 (aq nq mq : Nat) (tq : Nat → ByteArray) (vq gq : Nat → Int) (de : Int) (ao no mo : Nat) (to : Nat → Bool) (k1 k2 k3 : Int) (la lb : Bool) (ki ss f1 f2 f3 : Int) (Kst : KS) (Kret : KR) (x : St7 ⊕ Rt7) (hS : HS 2 400 ((I7 aq nq mq tq vq gq de ao no mo to k1 k2 k3 la lb ki ss f1 f2 f3)) Kst x) (hR : HR 2 400 ((V7 aq nq mq tq vq gq de ao no mo to k1 k2 k3 la lb ki ss f1 f2 f3)) (fun r => [newL (2 + 1) ((N7 aq nq mq tq vq gq de ao no mo to k1 k2 k3 la lb ki ss f1 f2 f3) r) ++ [(0, (false, .cols mq [.str tq, .int .i64 vq, .int .i64 gq])), (1, (false, .cols mo [.bool to]))]]) Kret x) (h : (bif (decide (aq + nq ≤ mq))
 then (bif (S.fewB nq fun j => tq (j + aq))
 then (bif (decide ((↑no : Int) > (20 : Int)))
 then (some (.inr (true)))
 else (bif (decide (aq + nq ≤ mq ∧ nq ≤ 1000000))
 then (bif (decide (ao + no ≤ mo ∧ no ≤ 1000000))
 then (bif (decide
 (0 + List.length (S.mkl nq fun j => (tq (j + aq), vq (j + aq), gq (j + aq))) ≤
 List.length (S.mkl nq fun j => (tq (j + aq), vq (j + aq), gq (j + aq))) ∧
 List.length (S.mkl nq fun j => (tq (j + aq), vq (j + aq), gq (j + aq))) ≤ 1000000 ∧
 0 + no ≤ no ∧ no ≤ 1000000))
 then (bif (decide (aq + nq ≤ mq ∧ nq ≤ 1000000 ∧ ao + no ≤ mo ∧ no ≤ 1000000))
 then (bif (c7_e_8 aq nq tq vq gq de ao no to k1 k2 k3 la lb ki ss f1 f2 f3)
 then (bif (c7_e_7 aq nq mq tq vq gq de ao no to k1 k2 k3 la lb ki ss f1 f2 f3)
 then (bif (c7_e_6 aq nq tq vq gq de ao no to k1 k2 k3 la lb ki ss f1 f2 f3)
 then (bif (decide (0 + no ≤ no ∧ no ≤ 1000000 ∧ ao + no ≤ mo ∧ no ≤ 1000000))
 then (bif (decide ((S.mkl no fun j => to (j + ao)) = S.mkl no fun j => to (j + ao)))
 then (some (.inr (true)))
 else (some (.inr (false))))
 else (none))
 else (some (.inr (false))))
 else (none))
 else (some (.inr (false))))
 else (none))
 else (none))
 else (none))
 else (none)))
 else (some (.inr (true))))
 else (none) : Option (St7 ⊕ Rt7)) = some x) : Te7 cond Kst Kret aq nq mq tq vq gq de ao no mo to k1 k2 k3 la lb ki ss f1 f2 f3 := by
  unfold Te7
  exact cond_yes rfl (cond_yes rfl (bif_split h
   (fun c0 h => bif_split h
   (fun c1 h => bif_split h
   (fun c2 h => cond_yes rfl (cond_yes rfl (ret_at hR _ h (fun n => n) rfl rfl rfl (rn_bool_tf rfl) rfl (entl_bor (use_lo rfl) rfl rfl (entl_bor (use_lo rfl) rfl rfl entl_nil)))))
   (fun c2 h => bif_split h
   (fun c3 h => bif_split h
   (fun c4 h => bif_split h
   (fun c5 h => bif_split h
   (fun c6 h => bif_split h
   (fun c7 h => bif_split h
   (fun c8 h => bif_split h
   (fun c9 h => bif_split h
   (fun c10 h => bif_split h
   (fun c11 h => ret_at hR _ h (fun n => n) rfl rfl rfl (rn_bool_tf rfl) rfl (entl_bor (use_lo rfl) rfl rfl (entl_bor (use_lo rfl) rfl rfl entl_nil)))
   (fun c11 h => ret_at hR _ h (fun n => n) rfl rfl rfl (rn_bool_tf rfl) rfl (entl_bor (use_lo rfl) rfl rfl (entl_bor (use_lo rfl) rfl rfl entl_nil))))
   (fun c10 h => no_some h))
   (fun c9 h => ret_at hR _ h (fun n => n) rfl rfl rfl (rn_bool_tf rfl) rfl (entl_bor (use_lo rfl) rfl rfl (entl_bor (use_lo rfl) rfl rfl entl_nil))))
   (fun c8 h => no_some h))
   (fun c7 h => ret_at hR _ h (fun n => n) rfl rfl rfl (rn_bool_tf rfl) rfl (entl_bor (use_lo rfl) rfl rfl (entl_bor (use_lo rfl) rfl rfl entl_nil))))
   (fun c6 h => no_some h))
   (fun c5 h => no_some h))
   (fun c4 h => no_some h))
   (fun c3 h => no_some h)))
   (fun c1 h => cond_yes rfl (cond_yes rfl (ret_at hR _ h (fun n => n) rfl rfl rfl (rn_bool_tf rfl) rfl (entl_bor (use_lo rfl) rfl rfl (entl_bor (use_lo rfl) rfl rfl entl_nil))))))
   (fun c0 h => no_some h)))
theorem a7 (aq nq mq : Nat) (tq : Nat → ByteArray) (vq gq : Nat → Int) (de : Int) (ao no mo : Nat) (to : Nat → Bool) (k1 k2 k3 : Int) (la lb : Bool) (ki ss f1 f2 f3 : Int) {r : Rt7} (h : Goes ((q7 aq nq mq tq vq gq de ao no mo to k1 k2 k3 la lb ki ss f1 f2 f3)) ((p7 aq nq mq tq vq gq de ao no mo to k1 k2 k3 la lb ki ss f1 f2 f3)) r) : CallR Try.prog 7 [.agg [.loose ⟨0, 3, aq, 0⟩ nq, .int .i64 de, .loose ⟨1, 1, ao, 0⟩ no, .int .i64 k1, .int .i64 k2, .int .i64 k3, .bool la, .bool lb], .agg [.int .i64 ki, .int .i64 ss, .int .i64 f1, .int .i64 f2, .int .i64 f3]] [[(0, (false, .cols mq [.str tq, .int .i64 vq, .int .i64 gq])), (1, (false, .cols mo [.bool to]))]] 2 ((V7 aq nq mq tq vq gq de ao no mo to k1 k2 k3 la lb ki ss f1 f2 f3) r) ((fun r => [newL (2 + 1) ((N7 aq nq mq tq vq gq de ao no mo to k1 k2 k3 la lb ki ss f1 f2 f3) r) ++ [(0, (false, .cols mq [.str tq, .int .i64 vq, .int .i64 gq])), (1, (false, .cols mo [.bool to]))]]) r) 400 ∧ ∃ F, Try.prog.funcs[7]? = some F ∧ F.body.isSome = true ∧ (F.name == "runtime.NumGoroutine") = false := by
  refine dec_calls (f := 7) (lo := 2) (hi := 400) (H := [[(0, (false, .cols mq [.str tq, .int .i64 vq, .int .i64 gq])), (1, (false, .cols mo [.bool to]))]]) (args := [.agg [.loose ⟨0, 3, aq, 0⟩ nq, .int .i64 de, .loose ⟨1, 1, ao, 0⟩ no, .int .i64 k1, .int .i64 k2, .int .i64 k3, .bool la, .bool lb], .agg [.int .i64 ki, .int .i64 ss, .int .i64 f1, .int .i64 f2, .int .i64 f3]]) Try.envOk Try.mixed xL7_ok ((I7 aq nq mq tq vq gq de ao no mo to k1 k2 k3 la lb ki ss f1 f2 f3)) ((V7 aq nq mq tq vq gq de ao no mo to k1 k2 k3 la lb ki ss f1 f2 f3)) (fun r => [newL (2 + 1) ((N7 aq nq mq tq vq gq de ao no mo to k1 k2 k3 la lb ki ss f1 f2 f3) r) ++ [(0, (false, .cols mq [.str tq, .int .i64 vq, .int .i64 gq])), (1, (false, .cols mo [.bool to]))]]) (fn := mkFn Try.f7) (ts := []) (n := 400) rfl (by decide) (by simp) (names_of rfl) ?_ ?_ ?_ h
  · intro s; exact s.elim
  · intro Kst Kret x hS hR h
    exact Holds.eq (te7 cond Kst Kret aq nq mq tq vq gq de ao no mo to k1 k2 k3 la lb ki ss f1 f2 f3) (be7 aq nq mq tq vq gq de ao no mo to k1 k2 k3 la lb ki ss f1 f2 f3 Kst Kret x hS hR h)
  · intro Kst Kret x hS hR s h; exact s.elim
noncomputable def k7  : Con := ⟨7, [.agg [.list [.str, .int .i64, .int .i64], .plain (.int .i64), .list [.bool], .plain (.int .i64), .plain (.int .i64), .plain (.int .i64), .plain (.bool), .plain (.bool)], .agg [.plain (.int .i64), .plain (.int .i64), .plain (.int .i64), .plain (.int .i64), .plain (.int .i64)]], fun (x : ((Nat × Nat × Nat × (Nat → ByteArray) × (Nat → Int) × (Nat → Int) × Unit) × Int × (Nat × Nat × Nat × (Nat → Bool) × Unit) × Int × Int × Int × Bool × Bool × Unit) × (Int × Int × Int × Int × Int × Unit) × Unit) => (fun (aq nq mq : Nat) (tq : Nat → ByteArray) (vq : Nat → Int) (gq : Nat → Int) (de : Int) (ao no mo : Nat) (to : Nat → Bool) (k1 : Int) (k2 : Int) (k3 : Int) (la : Bool) (lb : Bool) (ki : Int) (ss : Int) (f1 : Int) (f2 : Int) (f3 : Int) => decide (aq + nq ≤ mq ∧ ao + no ≤ mo)) x.1.1.1 x.1.1.2.1 x.1.1.2.2.1 x.1.1.2.2.2.1 x.1.1.2.2.2.2.1 x.1.1.2.2.2.2.2.1 x.1.2.1 x.1.2.2.1.1 x.1.2.2.1.2.1 x.1.2.2.1.2.2.1 x.1.2.2.1.2.2.2.1 x.1.2.2.2.1 x.1.2.2.2.2.1 x.1.2.2.2.2.2.1 x.1.2.2.2.2.2.2.1 x.1.2.2.2.2.2.2.2.1 x.2.1.1 x.2.1.2.1 x.2.1.2.2.1 x.2.1.2.2.2.1 x.2.1.2.2.2.2.1, fun (x : ((Nat × Nat × Nat × (Nat → ByteArray) × (Nat → Int) × (Nat → Int) × Unit) × Int × (Nat × Nat × Nat × (Nat → Bool) × Unit) × Int × Int × Int × Bool × Bool × Unit) × (Int × Int × Int × Int × Int × Unit) × Unit) => (fun (aq nq mq : Nat) (tq : Nat → ByteArray) (vq : Nat → Int) (gq : Nat → Int) (de : Int) (ao no mo : Nat) (to : Nat → Bool) (k1 : Int) (k2 : Int) (k3 : Int) (la : Bool) (lb : Bool) (ki : Int) (ss : Int) (f1 : Int) (f2 : Int) (f3 : Int) => (V7 aq nq mq tq vq gq de ao no mo to k1 k2 k3 la lb ki ss f1 f2 f3) (true)) x.1.1.1 x.1.1.2.1 x.1.1.2.2.1 x.1.1.2.2.2.1 x.1.1.2.2.2.2.1 x.1.1.2.2.2.2.2.1 x.1.2.1 x.1.2.2.1.1 x.1.2.2.1.2.1 x.1.2.2.1.2.2.1 x.1.2.2.1.2.2.2.1 x.1.2.2.2.1 x.1.2.2.2.2.1 x.1.2.2.2.2.2.1 x.1.2.2.2.2.2.2.1 x.1.2.2.2.2.2.2.2.1 x.2.1.1 x.2.1.2.1 x.2.1.2.2.1 x.2.1.2.2.2.1 x.2.1.2.2.2.2.1, fun (x : ((Nat × Nat × Nat × (Nat → ByteArray) × (Nat → Int) × (Nat → Int) × Unit) × Int × (Nat × Nat × Nat × (Nat → Bool) × Unit) × Int × Int × Int × Bool × Bool × Unit) × (Int × Int × Int × Int × Int × Unit) × Unit) => (fun (aq nq mq : Nat) (tq : Nat → ByteArray) (vq : Nat → Int) (gq : Nat → Int) (de : Int) (ao no mo : Nat) (to : Nat → Bool) (k1 : Int) (k2 : Int) (k3 : Int) (la : Bool) (lb : Bool) (ki : Int) (ss : Int) (f1 : Int) (f2 : Int) (f3 : Int) => (N7 aq nq mq tq vq gq de ao no mo to k1 k2 k3 la lb ki ss f1 f2 f3) (true)) x.1.1.1 x.1.1.2.1 x.1.1.2.2.1 x.1.1.2.2.2.1 x.1.1.2.2.2.2.1 x.1.1.2.2.2.2.2.1 x.1.2.1 x.1.2.2.1.1 x.1.2.2.1.2.1 x.1.2.2.1.2.2.1 x.1.2.2.1.2.2.2.1 x.1.2.2.2.1 x.1.2.2.2.2.1 x.1.2.2.2.2.2.1 x.1.2.2.2.2.2.2.1 x.1.2.2.2.2.2.2.2.1 x.2.1.1 x.2.1.2.1 x.2.1.2.2.1 x.2.1.2.2.2.1 x.2.1.2.2.2.2.1, fun _ _ => .dead⟩
theorem s7 (aq nq mq : Nat) (tq : Nat → ByteArray) (vq gq : Nat → Int) (de : Int) (ao no mo : Nat) (to : Nat → Bool) (k1 k2 k3 : Int) (la lb : Bool) (ki ss f1 f2 f3 : Int) (hp : aq + nq ≤ mq ∧ ao + no ≤ mo) : Goes ((q7 aq nq mq tq vq gq de ao no mo to k1 k2 k3 la lb ki ss f1 f2 f3)) ((p7 aq nq mq tq vq gq de ao no mo to k1 k2 k3 la lb ki ss f1 f2 f3)) (true) := by
  obtain ⟨hp1, hp2⟩ := hp
  unfold p7
  cases hf : S.fewB nq (fun j => tq (j + aq))
  · rw [decide_eq_true (show aq + nq ≤ mq by omega)]
    exact goes_inr.mpr rfl
  have hq : nq ≤ 20 := by
    unfold S.fewB at hf
    rw [Bool.and_eq_true, decide_eq_true_eq] at hf
    exact hf.1
  clear hf
  have hmk : (S.mkl nq fun j => ((S.at' (S.mkl nq fun j => (tq (j + aq), vq (j + aq), gq (j + aq))) j).1, (S.at' (S.mkl nq fun j => (tq (j + aq), vq (j + aq), gq (j + aq))) j).2.1, (S.at' (S.mkl nq fun j => (tq (j + aq), vq (j + aq), gq (j + aq))) j).2.2)) = (S.mkl nq fun j => (tq (j + aq), vq (j + aq), gq (j + aq))) := by
    have := mkl3_at (S.mkl nq fun j => (tq (j + aq), vq (j + aq), gq (j + aq)))
    rwa [mkl_len] at this
  by_cases hn : no ≤ 20
  case neg =>
    rw [decide_eq_true (show (no : Int) > 20 by omega), decide_eq_true (show aq + nq ≤ mq by omega)]
    exact goes_inr.mpr rfl
  rcases do_sh (n := nq) (e := (S.stE nq no (S.netE nq (fun j => tq (j + aq)) (fun j => vq (j + aq)) (fun j => gq (j + aq)) de) (fun j => to (j + ao)) k1 k2 k3 la lb)) (de := de) (Q := (S.mkl nq fun j => (tq (j + aq), vq (j + aq), gq (j + aq)))) (to := (fun j => to (j + ao))) (k := k1) (l := k2) (p := k3) (la := la) (lb := lb) (ki := ki) (ss := ss) (f1 := f1) (f2 := f2) (f3 := f3) with ⟨k', l', p', la', lb', L', hD, hL⟩ | ⟨x, hx, hD⟩
  · have hmb : (S.mkl nq fun j => S.at' L' j) = L' := by
      have := mkl_at L'
      rwa [hL] at this
    simp only [c7_e_0, c7_e_1, c7_e_2, c7_e_3, c7_e_4, c7_e_5, c7_e_6, c7_e_7, c7_e_8, mkl_len, net_mkl, hmk, hD, S.rdS, BEq.rfl, hL, cond_true, Nat.add_zero, Nat.zero_add, Nat.le_refl, eq_self, decide_true, Bool.and_self, true_and, and_true]
    show Goes _ _ _
    repeat' first
      | with_reducible exact goes_inr.mpr rfl
      | with_reducible refine goes_if (fun h => ?_) (fun h => ?_) <;> (try simp only [SH] at h)
      | exact goes_none.mpr (by omega)
      | fail
    all_goals first | (exfalso; omega) | exact goes_inr.mpr rfl | (exfalso; simp_all; done) | (exfalso; simp at h; done)
  · have hx2 : (x == 0) = false := beq_eq_false_iff_ne.mpr hx
    simp only [c7_e_0, c7_e_1, c7_e_2, c7_e_3, c7_e_4, c7_e_5, c7_e_6, c7_e_7, c7_e_8, mkl_len, net_mkl, hmk, hD, S.rdS, S.doErr, hx2, BEq.rfl, cond_false, Nat.add_zero, Nat.zero_add, Nat.le_refl, eq_self, decide_true, Bool.and_self, true_and, and_true, List.length_nil, mkl_zero]
    show Goes _ _ _
    repeat' first
      | with_reducible exact goes_inr.mpr rfl
      | with_reducible refine goes_if (fun h => ?_) (fun h => ?_) <;> (try simp only [SH] at h)
      | exact goes_none.mpr (by omega)
      | fail
    all_goals first | (exfalso; omega) | exact goes_inr.mpr rfl | (exfalso; simp_all; done) | (exfalso; simp at h; done)
theorem k7_ok  : k7.ok Try.prog := by
  intro x hx
  obtain ⟨⟨⟨aq, nq, mq, tq, vq, gq, _⟩, de, ⟨ao, no, mo, to, _⟩, k1, k2, k3, la, lb, _⟩, ⟨ki, ss, f1, f2, f3, _⟩, _⟩ := x
  obtain ⟨h1, h2⟩ := a7 aq nq mq tq vq gq de ao no mo to k1 k2 k3 la lb ki ss f1 f2 f3 (s7 aq nq mq tq vq gq de ao no mo to k1 k2 k3 la lb ki ss f1 f2 f3 (of_dec hx rfl))
  exact ⟨⟨400, (by decide : 2 + 1 + 0 ≤ 400), h1⟩, h2⟩
end Go.Ev
