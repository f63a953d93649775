/-
  The law of Put.
-/
import Derived.Test.YtedbjnojogjnkaaL6a
namespace Go.Ev
open Go.Proofs
set_option linter.unusedVariables false
set_option linter.unusedSimpArgs false
abbrev St3 := Empty
abbrev Rt3 := Bool
noncomputable def V3 (ca : Int) (af : Int) (al nl ml : Nat) (tl : Nat → Int) (vl : Nat → Int) (gl : Nat → Bool) (ov : Int) (re : Int) (fz : Bool) (st : Int) (sv : Int) (sg : Bool) (r : Rt3) : PV := Go.Ev.PV.bool r
noncomputable def N3 (ca : Int) (af : Int) (al nl ml : Nat) (tl : Nat → Int) (vl : Nat → Int) (gl : Nat → Bool) (ov : Int) (re : Int) (fz : Bool) (st : Int) (sv : Int) (sg : Bool) (r : Rt3) : List Blk := []
noncomputable def I3 (ca : Int) (af : Int) (al nl ml : Nat) (tl : Nat → Int) (vl : Nat → Int) (gl : Nat → Bool) (ov : Int) (re : Int) (fz : Bool) (st : Int) (sv : Int) (sg : Bool) : St3 → Hd := fun s => s.elim
noncomputable def q3 (ca : Int) (af : Int) (al nl ml : Nat) (tl : Nat → Int) (vl : Nat → Int) (gl : Nat → Bool) (ov : Int) (re : Int) (fz : Bool) (st : Int) (sv : Int) (sg : Bool) : St3 → Option (St3 ⊕ Rt3) := fun s => s.elim
noncomputable def p3 (ca : Int) (af : Int) (al nl ml : Nat) (tl : Nat → Int) (vl : Nat → Int) (gl : Nat → Bool) (ov : Int) (re : Int) (fz : Bool) (st : Int) (sv : Int) (sg : Bool) : Option (St3 ⊕ Rt3) := bif (Decidable.decide ((↑nl : Int) > (210 : Int)))
 then (some (.inr (Bool.true)))
 else (bif (Decidable.decide (al + nl ≤ ml ∧ nl ≤ 1000000))
 then (bif (Decidable.decide
  (0 + List.length (Go.Ev.S.mkl nl fun (j : Nat) => (tl (j + al), vl (j + al), gl (j + al))) ≤
      List.length (Go.Ev.S.mkl nl fun (j : Nat) => (tl (j + al), vl (j + al), gl (j + al))) ∧
    List.length (Go.Ev.S.mkl nl fun (j : Nat) => (tl (j + al), vl (j + al), gl (j + al))) ≤ 1000000))
 then (bif (Go.Ev.S.vB ca af (List.length (Go.Ev.S.mkl nl fun (j : Nat) => (tl (j + al), vl (j + al), gl (j + al))))
    (fun (j : Nat) =>
      Prod.fst (Go.Ev.S.at' (Go.Ev.S.mkl nl fun (j : Nat) => (tl (j + al), vl (j + al), gl (j + al))) j))
    (fun (j : Nat) =>
      Prod.fst (Prod.snd (Go.Ev.S.at' (Go.Ev.S.mkl nl fun (j : Nat) => (tl (j + al), vl (j + al), gl (j + al))) j)))
    ov re fz ==
  Go.Ev.S.vB ca af nl (fun (j : Nat) => tl (j + al)) (fun (j : Nat) => vl (j + al)) ov re fz)
 then (bif (Prod.fst
    (Prod.snd
      (Prod.snd
        (Prod.snd
          (Prod.snd
            (Prod.snd
              (Go.Ev.S.putS ca af
                (List.length (Go.Ev.S.mkl nl fun (j : Nat) => (tl (j + al), vl (j + al), gl (j + al))))
                (fun (j : Nat) =>
                  Prod.fst (Go.Ev.S.at' (Go.Ev.S.mkl nl fun (j : Nat) => (tl (j + al), vl (j + al), gl (j + al))) j))
                (fun (j : Nat) =>
                  Prod.fst
                    (Prod.snd
                      (Go.Ev.S.at' (Go.Ev.S.mkl nl fun (j : Nat) => (tl (j + al), vl (j + al), gl (j + al))) j)))
                (fun (j : Nat) =>
                  Prod.snd
                    (Prod.snd
                      (Go.Ev.S.at' (Go.Ev.S.mkl nl fun (j : Nat) => (tl (j + al), vl (j + al), gl (j + al))) j)))
                ov re fz st sv sg)))))) ==
  Prod.fst
    (Prod.snd
      (Prod.snd
        (Prod.snd
          (Prod.snd
            (Prod.snd
              (Go.Ev.S.putS ca af nl (fun (j : Nat) => tl (j + al)) (fun (j : Nat) => vl (j + al))
                (fun (j : Nat) => gl (j + al)) ov re fz st sv sg)))))))
 then (bif (Decidable.decide
  (0 +
        List.length
          (Prod.snd
            (Prod.snd
              (Prod.snd
                (Prod.snd
                  (Prod.snd
                    (Prod.snd
                      (Go.Ev.S.putS ca af
                        (List.length (Go.Ev.S.mkl nl fun (j : Nat) => (tl (j + al), vl (j + al), gl (j + al))))
                        (fun (j : Nat) =>
                          Prod.fst
                            (Go.Ev.S.at' (Go.Ev.S.mkl nl fun (j : Nat) => (tl (j + al), vl (j + al), gl (j + al))) j))
                        (fun (j : Nat) =>
                          Prod.fst
                            (Prod.snd
                              (Go.Ev.S.at' (Go.Ev.S.mkl nl fun (j : Nat) => (tl (j + al), vl (j + al), gl (j + al)))
                                j)))
                        (fun (j : Nat) =>
                          Prod.snd
                            (Prod.snd
                              (Go.Ev.S.at' (Go.Ev.S.mkl nl fun (j : Nat) => (tl (j + al), vl (j + al), gl (j + al)))
                                j)))
                        ov re fz st sv sg))))))) ≤
      List.length
        (Prod.snd
          (Prod.snd
            (Prod.snd
              (Prod.snd
                (Prod.snd
                  (Prod.snd
                    (Go.Ev.S.putS ca af
                      (List.length (Go.Ev.S.mkl nl fun (j : Nat) => (tl (j + al), vl (j + al), gl (j + al))))
                      (fun (j : Nat) =>
                        Prod.fst
                          (Go.Ev.S.at' (Go.Ev.S.mkl nl fun (j : Nat) => (tl (j + al), vl (j + al), gl (j + al))) j))
                      (fun (j : Nat) =>
                        Prod.fst
                          (Prod.snd
                            (Go.Ev.S.at' (Go.Ev.S.mkl nl fun (j : Nat) => (tl (j + al), vl (j + al), gl (j + al))) j)))
                      (fun (j : Nat) =>
                        Prod.snd
                          (Prod.snd
                            (Go.Ev.S.at' (Go.Ev.S.mkl nl fun (j : Nat) => (tl (j + al), vl (j + al), gl (j + al))) j)))
                      ov re fz st sv sg))))))) ∧
    List.length
          (Prod.snd
            (Prod.snd
              (Prod.snd
                (Prod.snd
                  (Prod.snd
                    (Prod.snd
                      (Go.Ev.S.putS ca af
                        (List.length (Go.Ev.S.mkl nl fun (j : Nat) => (tl (j + al), vl (j + al), gl (j + al))))
                        (fun (j : Nat) =>
                          Prod.fst
                            (Go.Ev.S.at' (Go.Ev.S.mkl nl fun (j : Nat) => (tl (j + al), vl (j + al), gl (j + al))) j))
                        (fun (j : Nat) =>
                          Prod.fst
                            (Prod.snd
                              (Go.Ev.S.at' (Go.Ev.S.mkl nl fun (j : Nat) => (tl (j + al), vl (j + al), gl (j + al)))
                                j)))
                        (fun (j : Nat) =>
                          Prod.snd
                            (Prod.snd
                              (Go.Ev.S.at' (Go.Ev.S.mkl nl fun (j : Nat) => (tl (j + al), vl (j + al), gl (j + al)))
                                j)))
                        ov re fz st sv sg))))))) ≤
        1000000 ∧
      0 +
            List.length
              (Prod.snd
                (Prod.snd
                  (Prod.snd
                    (Prod.snd
                      (Prod.snd
                        (Prod.snd
                          (Go.Ev.S.putS ca af nl (fun (j : Nat) => tl (j + al)) (fun (j : Nat) => vl (j + al))
                            (fun (j : Nat) => gl (j + al)) ov re fz st sv sg))))))) ≤
          List.length
            (Prod.snd
              (Prod.snd
                (Prod.snd
                  (Prod.snd
                    (Prod.snd
                      (Prod.snd
                        (Go.Ev.S.putS ca af nl (fun (j : Nat) => tl (j + al)) (fun (j : Nat) => vl (j + al))
                          (fun (j : Nat) => gl (j + al)) ov re fz st sv sg))))))) ∧
        List.length
            (Prod.snd
              (Prod.snd
                (Prod.snd
                  (Prod.snd
                    (Prod.snd
                      (Prod.snd
                        (Go.Ev.S.putS ca af nl (fun (j : Nat) => tl (j + al)) (fun (j : Nat) => vl (j + al))
                          (fun (j : Nat) => gl (j + al)) ov re fz st sv sg))))))) ≤
          1000000))
 then (bif (Decidable.decide
  (Prod.fst
        (Go.Ev.S.putS ca af (List.length (Go.Ev.S.mkl nl fun (j : Nat) => (tl (j + al), vl (j + al), gl (j + al))))
          (fun (j : Nat) =>
            Prod.fst (Go.Ev.S.at' (Go.Ev.S.mkl nl fun (j : Nat) => (tl (j + al), vl (j + al), gl (j + al))) j))
          (fun (j : Nat) =>
            Prod.fst
              (Prod.snd (Go.Ev.S.at' (Go.Ev.S.mkl nl fun (j : Nat) => (tl (j + al), vl (j + al), gl (j + al))) j)))
          (fun (j : Nat) =>
            Prod.snd
              (Prod.snd (Go.Ev.S.at' (Go.Ev.S.mkl nl fun (j : Nat) => (tl (j + al), vl (j + al), gl (j + al))) j)))
          ov re fz st sv sg) =
      Prod.fst
        (Go.Ev.S.putS ca af nl (fun (j : Nat) => tl (j + al)) (fun (j : Nat) => vl (j + al))
          (fun (j : Nat) => gl (j + al)) ov re fz st sv sg) ∧
    Prod.fst
          (Prod.snd
            (Go.Ev.S.putS ca af (List.length (Go.Ev.S.mkl nl fun (j : Nat) => (tl (j + al), vl (j + al), gl (j + al))))
              (fun (j : Nat) =>
                Prod.fst (Go.Ev.S.at' (Go.Ev.S.mkl nl fun (j : Nat) => (tl (j + al), vl (j + al), gl (j + al))) j))
              (fun (j : Nat) =>
                Prod.fst
                  (Prod.snd (Go.Ev.S.at' (Go.Ev.S.mkl nl fun (j : Nat) => (tl (j + al), vl (j + al), gl (j + al))) j)))
              (fun (j : Nat) =>
                Prod.snd
                  (Prod.snd (Go.Ev.S.at' (Go.Ev.S.mkl nl fun (j : Nat) => (tl (j + al), vl (j + al), gl (j + al))) j)))
              ov re fz st sv sg)) =
        Prod.fst
          (Prod.snd
            (Go.Ev.S.putS ca af nl (fun (j : Nat) => tl (j + al)) (fun (j : Nat) => vl (j + al))
              (fun (j : Nat) => gl (j + al)) ov re fz st sv sg)) ∧
      Prod.fst
            (Prod.snd
              (Prod.snd
                (Go.Ev.S.putS ca af
                  (List.length (Go.Ev.S.mkl nl fun (j : Nat) => (tl (j + al), vl (j + al), gl (j + al))))
                  (fun (j : Nat) =>
                    Prod.fst (Go.Ev.S.at' (Go.Ev.S.mkl nl fun (j : Nat) => (tl (j + al), vl (j + al), gl (j + al))) j))
                  (fun (j : Nat) =>
                    Prod.fst
                      (Prod.snd
                        (Go.Ev.S.at' (Go.Ev.S.mkl nl fun (j : Nat) => (tl (j + al), vl (j + al), gl (j + al))) j)))
                  (fun (j : Nat) =>
                    Prod.snd
                      (Prod.snd
                        (Go.Ev.S.at' (Go.Ev.S.mkl nl fun (j : Nat) => (tl (j + al), vl (j + al), gl (j + al))) j)))
                  ov re fz st sv sg))) =
          Prod.fst
            (Prod.snd
              (Prod.snd
                (Go.Ev.S.putS ca af nl (fun (j : Nat) => tl (j + al)) (fun (j : Nat) => vl (j + al))
                  (fun (j : Nat) => gl (j + al)) ov re fz st sv sg))) ∧
        Prod.fst
              (Prod.snd
                (Prod.snd
                  (Prod.snd
                    (Go.Ev.S.putS ca af
                      (List.length (Go.Ev.S.mkl nl fun (j : Nat) => (tl (j + al), vl (j + al), gl (j + al))))
                      (fun (j : Nat) =>
                        Prod.fst
                          (Go.Ev.S.at' (Go.Ev.S.mkl nl fun (j : Nat) => (tl (j + al), vl (j + al), gl (j + al))) j))
                      (fun (j : Nat) =>
                        Prod.fst
                          (Prod.snd
                            (Go.Ev.S.at' (Go.Ev.S.mkl nl fun (j : Nat) => (tl (j + al), vl (j + al), gl (j + al))) j)))
                      (fun (j : Nat) =>
                        Prod.snd
                          (Prod.snd
                            (Go.Ev.S.at' (Go.Ev.S.mkl nl fun (j : Nat) => (tl (j + al), vl (j + al), gl (j + al))) j)))
                      ov re fz st sv sg)))) =
            Prod.fst
              (Prod.snd
                (Prod.snd
                  (Prod.snd
                    (Go.Ev.S.putS ca af nl (fun (j : Nat) => tl (j + al)) (fun (j : Nat) => vl (j + al))
                      (fun (j : Nat) => gl (j + al)) ov re fz st sv sg)))) ∧
          Prod.fst
                (Prod.snd
                  (Prod.snd
                    (Prod.snd
                      (Prod.snd
                        (Go.Ev.S.putS ca af
                          (List.length (Go.Ev.S.mkl nl fun (j : Nat) => (tl (j + al), vl (j + al), gl (j + al))))
                          (fun (j : Nat) =>
                            Prod.fst
                              (Go.Ev.S.at' (Go.Ev.S.mkl nl fun (j : Nat) => (tl (j + al), vl (j + al), gl (j + al))) j))
                          (fun (j : Nat) =>
                            Prod.fst
                              (Prod.snd
                                (Go.Ev.S.at' (Go.Ev.S.mkl nl fun (j : Nat) => (tl (j + al), vl (j + al), gl (j + al)))
                                  j)))
                          (fun (j : Nat) =>
                            Prod.snd
                              (Prod.snd
                                (Go.Ev.S.at' (Go.Ev.S.mkl nl fun (j : Nat) => (tl (j + al), vl (j + al), gl (j + al)))
                                  j)))
                          ov re fz st sv sg))))) =
              Prod.fst
                (Prod.snd
                  (Prod.snd
                    (Prod.snd
                      (Prod.snd
                        (Go.Ev.S.putS ca af nl (fun (j : Nat) => tl (j + al)) (fun (j : Nat) => vl (j + al))
                          (fun (j : Nat) => gl (j + al)) ov re fz st sv sg))))) ∧
            (Go.Ev.S.mkl
                (List.length
                  (Prod.snd
                    (Prod.snd
                      (Prod.snd
                        (Prod.snd
                          (Prod.snd
                            (Prod.snd
                              (Go.Ev.S.putS ca af
                                (List.length (Go.Ev.S.mkl nl fun (j : Nat) => (tl (j + al), vl (j + al), gl (j + al))))
                                (fun (j : Nat) =>
                                  Prod.fst
                                    (Go.Ev.S.at'
                                      (Go.Ev.S.mkl nl fun (j : Nat) => (tl (j + al), vl (j + al), gl (j + al))) j))
                                (fun (j : Nat) =>
                                  Prod.fst
                                    (Prod.snd
                                      (Go.Ev.S.at'
                                        (Go.Ev.S.mkl nl fun (j : Nat) => (tl (j + al), vl (j + al), gl (j + al))) j)))
                                (fun (j : Nat) =>
                                  Prod.snd
                                    (Prod.snd
                                      (Go.Ev.S.at'
                                        (Go.Ev.S.mkl nl fun (j : Nat) => (tl (j + al), vl (j + al), gl (j + al))) j)))
                                ov re fz st sv sg))))))))
                fun (j : Nat) =>
                (Prod.fst
                    (Go.Ev.S.at'
                      (Prod.snd
                        (Prod.snd
                          (Prod.snd
                            (Prod.snd
                              (Prod.snd
                                (Prod.snd
                                  (Go.Ev.S.putS ca af
                                    (List.length
                                      (Go.Ev.S.mkl nl fun (j : Nat) => (tl (j + al), vl (j + al), gl (j + al))))
                                    (fun (j : Nat) =>
                                      Prod.fst
                                        (Go.Ev.S.at'
                                          (Go.Ev.S.mkl nl fun (j : Nat) => (tl (j + al), vl (j + al), gl (j + al))) j))
                                    (fun (j : Nat) =>
                                      Prod.fst
                                        (Prod.snd
                                          (Go.Ev.S.at'
                                            (Go.Ev.S.mkl nl fun (j : Nat) => (tl (j + al), vl (j + al), gl (j + al)))
                                            j)))
                                    (fun (j : Nat) =>
                                      Prod.snd
                                        (Prod.snd
                                          (Go.Ev.S.at'
                                            (Go.Ev.S.mkl nl fun (j : Nat) => (tl (j + al), vl (j + al), gl (j + al)))
                                            j)))
                                    ov re fz st sv sg)))))))
                      j),
                  Prod.fst
                    (Prod.snd
                      (Go.Ev.S.at'
                        (Prod.snd
                          (Prod.snd
                            (Prod.snd
                              (Prod.snd
                                (Prod.snd
                                  (Prod.snd
                                    (Go.Ev.S.putS ca af
                                      (List.length
                                        (Go.Ev.S.mkl nl fun (j : Nat) => (tl (j + al), vl (j + al), gl (j + al))))
                                      (fun (j : Nat) =>
                                        Prod.fst
                                          (Go.Ev.S.at'
                                            (Go.Ev.S.mkl nl fun (j : Nat) => (tl (j + al), vl (j + al), gl (j + al)))
                                            j))
                                      (fun (j : Nat) =>
                                        Prod.fst
                                          (Prod.snd
                                            (Go.Ev.S.at'
                                              (Go.Ev.S.mkl nl fun (j : Nat) => (tl (j + al), vl (j + al), gl (j + al)))
                                              j)))
                                      (fun (j : Nat) =>
                                        Prod.snd
                                          (Prod.snd
                                            (Go.Ev.S.at'
                                              (Go.Ev.S.mkl nl fun (j : Nat) => (tl (j + al), vl (j + al), gl (j + al)))
                                              j)))
                                      ov re fz st sv sg)))))))
                        j)),
                  Prod.snd
                    (Prod.snd
                      (Go.Ev.S.at'
                        (Prod.snd
                          (Prod.snd
                            (Prod.snd
                              (Prod.snd
                                (Prod.snd
                                  (Prod.snd
                                    (Go.Ev.S.putS ca af
                                      (List.length
                                        (Go.Ev.S.mkl nl fun (j : Nat) => (tl (j + al), vl (j + al), gl (j + al))))
                                      (fun (j : Nat) =>
                                        Prod.fst
                                          (Go.Ev.S.at'
                                            (Go.Ev.S.mkl nl fun (j : Nat) => (tl (j + al), vl (j + al), gl (j + al)))
                                            j))
                                      (fun (j : Nat) =>
                                        Prod.fst
                                          (Prod.snd
                                            (Go.Ev.S.at'
                                              (Go.Ev.S.mkl nl fun (j : Nat) => (tl (j + al), vl (j + al), gl (j + al)))
                                              j)))
                                      (fun (j : Nat) =>
                                        Prod.snd
                                          (Prod.snd
                                            (Go.Ev.S.at'
                                              (Go.Ev.S.mkl nl fun (j : Nat) => (tl (j + al), vl (j + al), gl (j + al)))
                                              j)))
                                      ov re fz st sv sg)))))))
                        j)))) =
              Go.Ev.S.mkl
                (List.length
                  (Prod.snd
                    (Prod.snd
                      (Prod.snd
                        (Prod.snd
                          (Prod.snd
                            (Prod.snd
                              (Go.Ev.S.putS ca af nl (fun (j : Nat) => tl (j + al)) (fun (j : Nat) => vl (j + al))
                                (fun (j : Nat) => gl (j + al)) ov re fz st sv sg))))))))
                fun (j : Nat) =>
                (Prod.fst
                    (Go.Ev.S.at'
                      (Prod.snd
                        (Prod.snd
                          (Prod.snd
                            (Prod.snd
                              (Prod.snd
                                (Prod.snd
                                  (Go.Ev.S.putS ca af nl (fun (j : Nat) => tl (j + al)) (fun (j : Nat) => vl (j + al))
                                    (fun (j : Nat) => gl (j + al)) ov re fz st sv sg)))))))
                      j),
                  Prod.fst
                    (Prod.snd
                      (Go.Ev.S.at'
                        (Prod.snd
                          (Prod.snd
                            (Prod.snd
                              (Prod.snd
                                (Prod.snd
                                  (Prod.snd
                                    (Go.Ev.S.putS ca af nl (fun (j : Nat) => tl (j + al)) (fun (j : Nat) => vl (j + al))
                                      (fun (j : Nat) => gl (j + al)) ov re fz st sv sg)))))))
                        j)),
                  Prod.snd
                    (Prod.snd
                      (Go.Ev.S.at'
                        (Prod.snd
                          (Prod.snd
                            (Prod.snd
                              (Prod.snd
                                (Prod.snd
                                  (Prod.snd
                                    (Go.Ev.S.putS ca af nl (fun (j : Nat) => tl (j + al)) (fun (j : Nat) => vl (j + al))
                                      (fun (j : Nat) => gl (j + al)) ov re fz st sv sg)))))))
                        j)))))
 then (bif (Decidable.decide
  (0 +
        List.length
          (Prod.snd
            (Prod.snd
              (if
                  Go.Ev.S.vB ca af
                      (List.length (Go.Ev.S.mkl nl fun (j : Nat) => (tl (j + al), vl (j + al), gl (j + al))))
                      (fun (j : Nat) =>
                        Prod.fst
                          (Go.Ev.S.at' (Go.Ev.S.mkl nl fun (j : Nat) => (tl (j + al), vl (j + al), gl (j + al))) j))
                      (fun (j : Nat) =>
                        Prod.fst
                          (Prod.snd
                            (Go.Ev.S.at' (Go.Ev.S.mkl nl fun (j : Nat) => (tl (j + al), vl (j + al), gl (j + al))) j)))
                      ov re fz =
                    (0 : Int) then
                (ov, (0 : Int),
                  Go.Ev.S.mkl (List.length (Go.Ev.S.mkl nl fun (j : Nat) => (tl (j + al), vl (j + al), gl (j + al))))
                    fun (j : Nat) =>
                    (Prod.fst (Go.Ev.S.at' (Go.Ev.S.mkl nl fun (j : Nat) => (tl (j + al), vl (j + al), gl (j + al))) j),
                      Prod.fst
                        (Prod.snd
                          (Go.Ev.S.at' (Go.Ev.S.mkl nl fun (j : Nat) => (tl (j + al), vl (j + al), gl (j + al))) j)),
                      Prod.snd
                        (Prod.snd
                          (Go.Ev.S.at' (Go.Ev.S.mkl nl fun (j : Nat) => (tl (j + al), vl (j + al), gl (j + al))) j))))
              else
                ((0 : Int),
                  Go.Ev.S.vB ca af
                    (List.length (Go.Ev.S.mkl nl fun (j : Nat) => (tl (j + al), vl (j + al), gl (j + al))))
                    (fun (j : Nat) =>
                      Prod.fst
                        (Go.Ev.S.at' (Go.Ev.S.mkl nl fun (j : Nat) => (tl (j + al), vl (j + al), gl (j + al))) j))
                    (fun (j : Nat) =>
                      Prod.fst
                        (Prod.snd
                          (Go.Ev.S.at' (Go.Ev.S.mkl nl fun (j : Nat) => (tl (j + al), vl (j + al), gl (j + al))) j)))
                    ov re fz,
                  [])))) ≤
      List.length
        (Prod.snd
          (Prod.snd
            (if
                Go.Ev.S.vB ca af (List.length (Go.Ev.S.mkl nl fun (j : Nat) => (tl (j + al), vl (j + al), gl (j + al))))
                    (fun (j : Nat) =>
                      Prod.fst
                        (Go.Ev.S.at' (Go.Ev.S.mkl nl fun (j : Nat) => (tl (j + al), vl (j + al), gl (j + al))) j))
                    (fun (j : Nat) =>
                      Prod.fst
                        (Prod.snd
                          (Go.Ev.S.at' (Go.Ev.S.mkl nl fun (j : Nat) => (tl (j + al), vl (j + al), gl (j + al))) j)))
                    ov re fz =
                  (0 : Int) then
              (ov, (0 : Int),
                Go.Ev.S.mkl (List.length (Go.Ev.S.mkl nl fun (j : Nat) => (tl (j + al), vl (j + al), gl (j + al))))
                  fun (j : Nat) =>
                  (Prod.fst (Go.Ev.S.at' (Go.Ev.S.mkl nl fun (j : Nat) => (tl (j + al), vl (j + al), gl (j + al))) j),
                    Prod.fst
                      (Prod.snd
                        (Go.Ev.S.at' (Go.Ev.S.mkl nl fun (j : Nat) => (tl (j + al), vl (j + al), gl (j + al))) j)),
                    Prod.snd
                      (Prod.snd
                        (Go.Ev.S.at' (Go.Ev.S.mkl nl fun (j : Nat) => (tl (j + al), vl (j + al), gl (j + al))) j))))
            else
              ((0 : Int),
                Go.Ev.S.vB ca af (List.length (Go.Ev.S.mkl nl fun (j : Nat) => (tl (j + al), vl (j + al), gl (j + al))))
                  (fun (j : Nat) =>
                    Prod.fst (Go.Ev.S.at' (Go.Ev.S.mkl nl fun (j : Nat) => (tl (j + al), vl (j + al), gl (j + al))) j))
                  (fun (j : Nat) =>
                    Prod.fst
                      (Prod.snd
                        (Go.Ev.S.at' (Go.Ev.S.mkl nl fun (j : Nat) => (tl (j + al), vl (j + al), gl (j + al))) j)))
                  ov re fz,
                [])))) ∧
    List.length
          (Prod.snd
            (Prod.snd
              (if
                  Go.Ev.S.vB ca af
                      (List.length (Go.Ev.S.mkl nl fun (j : Nat) => (tl (j + al), vl (j + al), gl (j + al))))
                      (fun (j : Nat) =>
                        Prod.fst
                          (Go.Ev.S.at' (Go.Ev.S.mkl nl fun (j : Nat) => (tl (j + al), vl (j + al), gl (j + al))) j))
                      (fun (j : Nat) =>
                        Prod.fst
                          (Prod.snd
                            (Go.Ev.S.at' (Go.Ev.S.mkl nl fun (j : Nat) => (tl (j + al), vl (j + al), gl (j + al))) j)))
                      ov re fz =
                    (0 : Int) then
                (ov, (0 : Int),
                  Go.Ev.S.mkl (List.length (Go.Ev.S.mkl nl fun (j : Nat) => (tl (j + al), vl (j + al), gl (j + al))))
                    fun (j : Nat) =>
                    (Prod.fst (Go.Ev.S.at' (Go.Ev.S.mkl nl fun (j : Nat) => (tl (j + al), vl (j + al), gl (j + al))) j),
                      Prod.fst
                        (Prod.snd
                          (Go.Ev.S.at' (Go.Ev.S.mkl nl fun (j : Nat) => (tl (j + al), vl (j + al), gl (j + al))) j)),
                      Prod.snd
                        (Prod.snd
                          (Go.Ev.S.at' (Go.Ev.S.mkl nl fun (j : Nat) => (tl (j + al), vl (j + al), gl (j + al))) j))))
              else
                ((0 : Int),
                  Go.Ev.S.vB ca af
                    (List.length (Go.Ev.S.mkl nl fun (j : Nat) => (tl (j + al), vl (j + al), gl (j + al))))
                    (fun (j : Nat) =>
                      Prod.fst
                        (Go.Ev.S.at' (Go.Ev.S.mkl nl fun (j : Nat) => (tl (j + al), vl (j + al), gl (j + al))) j))
                    (fun (j : Nat) =>
                      Prod.fst
                        (Prod.snd
                          (Go.Ev.S.at' (Go.Ev.S.mkl nl fun (j : Nat) => (tl (j + al), vl (j + al), gl (j + al))) j)))
                    ov re fz,
                  [])))) ≤
        1000000 ∧
      Prod.fst
              (if
                  Go.Ev.S.vB ca af nl (fun (j : Nat) => tl (j + al)) (fun (j : Nat) => vl (j + al)) ov re fz =
                    (0 : Int) then
                (al, nl, ov, (0 : Int))
              else
                (0, 0, (0 : Int),
                  Go.Ev.S.vB ca af nl (fun (j : Nat) => tl (j + al)) (fun (j : Nat) => vl (j + al)) ov re fz)) +
            Prod.fst
              (Prod.snd
                (if
                    Go.Ev.S.vB ca af nl (fun (j : Nat) => tl (j + al)) (fun (j : Nat) => vl (j + al)) ov re fz =
                      (0 : Int) then
                  (al, nl, ov, (0 : Int))
                else
                  (0, 0, (0 : Int),
                    Go.Ev.S.vB ca af nl (fun (j : Nat) => tl (j + al)) (fun (j : Nat) => vl (j + al)) ov re fz))) ≤
          ml ∧
        Prod.fst
            (Prod.snd
              (if
                  Go.Ev.S.vB ca af nl (fun (j : Nat) => tl (j + al)) (fun (j : Nat) => vl (j + al)) ov re fz =
                    (0 : Int) then
                (al, nl, ov, (0 : Int))
              else
                (0, 0, (0 : Int),
                  Go.Ev.S.vB ca af nl (fun (j : Nat) => tl (j + al)) (fun (j : Nat) => vl (j + al)) ov re fz))) ≤
          1000000))
 then (bif (Decidable.decide
  ((Go.Ev.S.mkl
      (List.length
        (Prod.snd
          (Prod.snd
            (if
                Go.Ev.S.vB ca af (List.length (Go.Ev.S.mkl nl fun (j : Nat) => (tl (j + al), vl (j + al), gl (j + al))))
                    (fun (j : Nat) =>
                      Prod.fst
                        (Go.Ev.S.at' (Go.Ev.S.mkl nl fun (j : Nat) => (tl (j + al), vl (j + al), gl (j + al))) j))
                    (fun (j : Nat) =>
                      Prod.fst
                        (Prod.snd
                          (Go.Ev.S.at' (Go.Ev.S.mkl nl fun (j : Nat) => (tl (j + al), vl (j + al), gl (j + al))) j)))
                    ov re fz =
                  (0 : Int) then
              (ov, (0 : Int),
                Go.Ev.S.mkl (List.length (Go.Ev.S.mkl nl fun (j : Nat) => (tl (j + al), vl (j + al), gl (j + al))))
                  fun (j : Nat) =>
                  (Prod.fst (Go.Ev.S.at' (Go.Ev.S.mkl nl fun (j : Nat) => (tl (j + al), vl (j + al), gl (j + al))) j),
                    Prod.fst
                      (Prod.snd
                        (Go.Ev.S.at' (Go.Ev.S.mkl nl fun (j : Nat) => (tl (j + al), vl (j + al), gl (j + al))) j)),
                    Prod.snd
                      (Prod.snd
                        (Go.Ev.S.at' (Go.Ev.S.mkl nl fun (j : Nat) => (tl (j + al), vl (j + al), gl (j + al))) j))))
            else
              ((0 : Int),
                Go.Ev.S.vB ca af (List.length (Go.Ev.S.mkl nl fun (j : Nat) => (tl (j + al), vl (j + al), gl (j + al))))
                  (fun (j : Nat) =>
                    Prod.fst (Go.Ev.S.at' (Go.Ev.S.mkl nl fun (j : Nat) => (tl (j + al), vl (j + al), gl (j + al))) j))
                  (fun (j : Nat) =>
                    Prod.fst
                      (Prod.snd
                        (Go.Ev.S.at' (Go.Ev.S.mkl nl fun (j : Nat) => (tl (j + al), vl (j + al), gl (j + al))) j)))
                  ov re fz,
                [])))))
      fun (j : Nat) =>
      (Prod.fst
          (Go.Ev.S.at'
            (Prod.snd
              (Prod.snd
                (if
                    Go.Ev.S.vB ca af
                        (List.length (Go.Ev.S.mkl nl fun (j : Nat) => (tl (j + al), vl (j + al), gl (j + al))))
                        (fun (j : Nat) =>
                          Prod.fst
                            (Go.Ev.S.at' (Go.Ev.S.mkl nl fun (j : Nat) => (tl (j + al), vl (j + al), gl (j + al))) j))
                        (fun (j : Nat) =>
                          Prod.fst
                            (Prod.snd
                              (Go.Ev.S.at' (Go.Ev.S.mkl nl fun (j : Nat) => (tl (j + al), vl (j + al), gl (j + al)))
                                j)))
                        ov re fz =
                      (0 : Int) then
                  (ov, (0 : Int),
                    Go.Ev.S.mkl (List.length (Go.Ev.S.mkl nl fun (j : Nat) => (tl (j + al), vl (j + al), gl (j + al))))
                      fun (j : Nat) =>
                      (Prod.fst
                          (Go.Ev.S.at' (Go.Ev.S.mkl nl fun (j : Nat) => (tl (j + al), vl (j + al), gl (j + al))) j),
                        Prod.fst
                          (Prod.snd
                            (Go.Ev.S.at' (Go.Ev.S.mkl nl fun (j : Nat) => (tl (j + al), vl (j + al), gl (j + al))) j)),
                        Prod.snd
                          (Prod.snd
                            (Go.Ev.S.at' (Go.Ev.S.mkl nl fun (j : Nat) => (tl (j + al), vl (j + al), gl (j + al))) j))))
                else
                  ((0 : Int),
                    Go.Ev.S.vB ca af
                      (List.length (Go.Ev.S.mkl nl fun (j : Nat) => (tl (j + al), vl (j + al), gl (j + al))))
                      (fun (j : Nat) =>
                        Prod.fst
                          (Go.Ev.S.at' (Go.Ev.S.mkl nl fun (j : Nat) => (tl (j + al), vl (j + al), gl (j + al))) j))
                      (fun (j : Nat) =>
                        Prod.fst
                          (Prod.snd
                            (Go.Ev.S.at' (Go.Ev.S.mkl nl fun (j : Nat) => (tl (j + al), vl (j + al), gl (j + al))) j)))
                      ov re fz,
                    []))))
            j),
        Prod.fst
          (Prod.snd
            (Go.Ev.S.at'
              (Prod.snd
                (Prod.snd
                  (if
                      Go.Ev.S.vB ca af
                          (List.length (Go.Ev.S.mkl nl fun (j : Nat) => (tl (j + al), vl (j + al), gl (j + al))))
                          (fun (j : Nat) =>
                            Prod.fst
                              (Go.Ev.S.at' (Go.Ev.S.mkl nl fun (j : Nat) => (tl (j + al), vl (j + al), gl (j + al))) j))
                          (fun (j : Nat) =>
                            Prod.fst
                              (Prod.snd
                                (Go.Ev.S.at' (Go.Ev.S.mkl nl fun (j : Nat) => (tl (j + al), vl (j + al), gl (j + al)))
                                  j)))
                          ov re fz =
                        (0 : Int) then
                    (ov, (0 : Int),
                      Go.Ev.S.mkl
                        (List.length (Go.Ev.S.mkl nl fun (j : Nat) => (tl (j + al), vl (j + al), gl (j + al))))
                        fun (j : Nat) =>
                        (Prod.fst
                            (Go.Ev.S.at' (Go.Ev.S.mkl nl fun (j : Nat) => (tl (j + al), vl (j + al), gl (j + al))) j),
                          Prod.fst
                            (Prod.snd
                              (Go.Ev.S.at' (Go.Ev.S.mkl nl fun (j : Nat) => (tl (j + al), vl (j + al), gl (j + al)))
                                j)),
                          Prod.snd
                            (Prod.snd
                              (Go.Ev.S.at' (Go.Ev.S.mkl nl fun (j : Nat) => (tl (j + al), vl (j + al), gl (j + al)))
                                j))))
                  else
                    ((0 : Int),
                      Go.Ev.S.vB ca af
                        (List.length (Go.Ev.S.mkl nl fun (j : Nat) => (tl (j + al), vl (j + al), gl (j + al))))
                        (fun (j : Nat) =>
                          Prod.fst
                            (Go.Ev.S.at' (Go.Ev.S.mkl nl fun (j : Nat) => (tl (j + al), vl (j + al), gl (j + al))) j))
                        (fun (j : Nat) =>
                          Prod.fst
                            (Prod.snd
                              (Go.Ev.S.at' (Go.Ev.S.mkl nl fun (j : Nat) => (tl (j + al), vl (j + al), gl (j + al)))
                                j)))
                        ov re fz,
                      []))))
              j)),
        Prod.snd
          (Prod.snd
            (Go.Ev.S.at'
              (Prod.snd
                (Prod.snd
                  (if
                      Go.Ev.S.vB ca af
                          (List.length (Go.Ev.S.mkl nl fun (j : Nat) => (tl (j + al), vl (j + al), gl (j + al))))
                          (fun (j : Nat) =>
                            Prod.fst
                              (Go.Ev.S.at' (Go.Ev.S.mkl nl fun (j : Nat) => (tl (j + al), vl (j + al), gl (j + al))) j))
                          (fun (j : Nat) =>
                            Prod.fst
                              (Prod.snd
                                (Go.Ev.S.at' (Go.Ev.S.mkl nl fun (j : Nat) => (tl (j + al), vl (j + al), gl (j + al)))
                                  j)))
                          ov re fz =
                        (0 : Int) then
                    (ov, (0 : Int),
                      Go.Ev.S.mkl
                        (List.length (Go.Ev.S.mkl nl fun (j : Nat) => (tl (j + al), vl (j + al), gl (j + al))))
                        fun (j : Nat) =>
                        (Prod.fst
                            (Go.Ev.S.at' (Go.Ev.S.mkl nl fun (j : Nat) => (tl (j + al), vl (j + al), gl (j + al))) j),
                          Prod.fst
                            (Prod.snd
                              (Go.Ev.S.at' (Go.Ev.S.mkl nl fun (j : Nat) => (tl (j + al), vl (j + al), gl (j + al)))
                                j)),
                          Prod.snd
                            (Prod.snd
                              (Go.Ev.S.at' (Go.Ev.S.mkl nl fun (j : Nat) => (tl (j + al), vl (j + al), gl (j + al)))
                                j))))
                  else
                    ((0 : Int),
                      Go.Ev.S.vB ca af
                        (List.length (Go.Ev.S.mkl nl fun (j : Nat) => (tl (j + al), vl (j + al), gl (j + al))))
                        (fun (j : Nat) =>
                          Prod.fst
                            (Go.Ev.S.at' (Go.Ev.S.mkl nl fun (j : Nat) => (tl (j + al), vl (j + al), gl (j + al))) j))
                        (fun (j : Nat) =>
                          Prod.fst
                            (Prod.snd
                              (Go.Ev.S.at' (Go.Ev.S.mkl nl fun (j : Nat) => (tl (j + al), vl (j + al), gl (j + al)))
                                j)))
                        ov re fz,
                      []))))
              j)))) =
    Go.Ev.S.mkl
      (Prod.fst
        (Prod.snd
          (if
              Go.Ev.S.vB ca af nl (fun (j : Nat) => tl (j + al)) (fun (j : Nat) => vl (j + al)) ov re fz =
                (0 : Int) then
            (al, nl, ov, (0 : Int))
          else
            (0, 0, (0 : Int),
              Go.Ev.S.vB ca af nl (fun (j : Nat) => tl (j + al)) (fun (j : Nat) => vl (j + al)) ov re fz))))
      fun (j : Nat) =>
      (tl
          (j +
            Prod.fst
              (if
                  Go.Ev.S.vB ca af nl (fun (j : Nat) => tl (j + al)) (fun (j : Nat) => vl (j + al)) ov re fz =
                    (0 : Int) then
                (al, nl, ov, (0 : Int))
              else
                (0, 0, (0 : Int),
                  Go.Ev.S.vB ca af nl (fun (j : Nat) => tl (j + al)) (fun (j : Nat) => vl (j + al)) ov re fz))),
        vl
          (j +
            Prod.fst
              (if
                  Go.Ev.S.vB ca af nl (fun (j : Nat) => tl (j + al)) (fun (j : Nat) => vl (j + al)) ov re fz =
                    (0 : Int) then
                (al, nl, ov, (0 : Int))
              else
                (0, 0, (0 : Int),
                  Go.Ev.S.vB ca af nl (fun (j : Nat) => tl (j + al)) (fun (j : Nat) => vl (j + al)) ov re fz))),
        gl
          (j +
            Prod.fst
              (if
                  Go.Ev.S.vB ca af nl (fun (j : Nat) => tl (j + al)) (fun (j : Nat) => vl (j + al)) ov re fz =
                    (0 : Int) then
                (al, nl, ov, (0 : Int))
              else
                (0, 0, (0 : Int),
                  Go.Ev.S.vB ca af nl (fun (j : Nat) => tl (j + al)) (fun (j : Nat) => vl (j + al)) ov re fz))))))
 then (bif (Prod.fst
    (if
        Go.Ev.S.vB ca af (List.length (Go.Ev.S.mkl nl fun (j : Nat) => (tl (j + al), vl (j + al), gl (j + al))))
            (fun (j : Nat) =>
              Prod.fst (Go.Ev.S.at' (Go.Ev.S.mkl nl fun (j : Nat) => (tl (j + al), vl (j + al), gl (j + al))) j))
            (fun (j : Nat) =>
              Prod.fst
                (Prod.snd (Go.Ev.S.at' (Go.Ev.S.mkl nl fun (j : Nat) => (tl (j + al), vl (j + al), gl (j + al))) j)))
            ov re fz =
          (0 : Int) then
      (ov, (0 : Int),
        Go.Ev.S.mkl (List.length (Go.Ev.S.mkl nl fun (j : Nat) => (tl (j + al), vl (j + al), gl (j + al))))
          fun (j : Nat) =>
          (Prod.fst (Go.Ev.S.at' (Go.Ev.S.mkl nl fun (j : Nat) => (tl (j + al), vl (j + al), gl (j + al))) j),
            Prod.fst
              (Prod.snd (Go.Ev.S.at' (Go.Ev.S.mkl nl fun (j : Nat) => (tl (j + al), vl (j + al), gl (j + al))) j)),
            Prod.snd
              (Prod.snd (Go.Ev.S.at' (Go.Ev.S.mkl nl fun (j : Nat) => (tl (j + al), vl (j + al), gl (j + al))) j))))
    else
      ((0 : Int),
        Go.Ev.S.vB ca af (List.length (Go.Ev.S.mkl nl fun (j : Nat) => (tl (j + al), vl (j + al), gl (j + al))))
          (fun (j : Nat) =>
            Prod.fst (Go.Ev.S.at' (Go.Ev.S.mkl nl fun (j : Nat) => (tl (j + al), vl (j + al), gl (j + al))) j))
          (fun (j : Nat) =>
            Prod.fst
              (Prod.snd (Go.Ev.S.at' (Go.Ev.S.mkl nl fun (j : Nat) => (tl (j + al), vl (j + al), gl (j + al))) j)))
          ov re fz,
        [])) ==
  Prod.fst
    (Prod.snd
      (Prod.snd
        (if Go.Ev.S.vB ca af nl (fun (j : Nat) => tl (j + al)) (fun (j : Nat) => vl (j + al)) ov re fz = (0 : Int) then
          (al, nl, ov, (0 : Int))
        else
          (0, 0, (0 : Int),
            Go.Ev.S.vB ca af nl (fun (j : Nat) => tl (j + al)) (fun (j : Nat) => vl (j + al)) ov re fz)))))
 then (bif (Prod.fst
    (Prod.snd
      (if
          Go.Ev.S.vB ca af (List.length (Go.Ev.S.mkl nl fun (j : Nat) => (tl (j + al), vl (j + al), gl (j + al))))
              (fun (j : Nat) =>
                Prod.fst (Go.Ev.S.at' (Go.Ev.S.mkl nl fun (j : Nat) => (tl (j + al), vl (j + al), gl (j + al))) j))
              (fun (j : Nat) =>
                Prod.fst
                  (Prod.snd (Go.Ev.S.at' (Go.Ev.S.mkl nl fun (j : Nat) => (tl (j + al), vl (j + al), gl (j + al))) j)))
              ov re fz =
            (0 : Int) then
        (ov, (0 : Int),
          Go.Ev.S.mkl (List.length (Go.Ev.S.mkl nl fun (j : Nat) => (tl (j + al), vl (j + al), gl (j + al))))
            fun (j : Nat) =>
            (Prod.fst (Go.Ev.S.at' (Go.Ev.S.mkl nl fun (j : Nat) => (tl (j + al), vl (j + al), gl (j + al))) j),
              Prod.fst
                (Prod.snd (Go.Ev.S.at' (Go.Ev.S.mkl nl fun (j : Nat) => (tl (j + al), vl (j + al), gl (j + al))) j)),
              Prod.snd
                (Prod.snd (Go.Ev.S.at' (Go.Ev.S.mkl nl fun (j : Nat) => (tl (j + al), vl (j + al), gl (j + al))) j))))
      else
        ((0 : Int),
          Go.Ev.S.vB ca af (List.length (Go.Ev.S.mkl nl fun (j : Nat) => (tl (j + al), vl (j + al), gl (j + al))))
            (fun (j : Nat) =>
              Prod.fst (Go.Ev.S.at' (Go.Ev.S.mkl nl fun (j : Nat) => (tl (j + al), vl (j + al), gl (j + al))) j))
            (fun (j : Nat) =>
              Prod.fst
                (Prod.snd (Go.Ev.S.at' (Go.Ev.S.mkl nl fun (j : Nat) => (tl (j + al), vl (j + al), gl (j + al))) j)))
            ov re fz,
          []))) ==
  Prod.snd
    (Prod.snd
      (Prod.snd
        (if Go.Ev.S.vB ca af nl (fun (j : Nat) => tl (j + al)) (fun (j : Nat) => vl (j + al)) ov re fz = (0 : Int) then
          (al, nl, ov, (0 : Int))
        else
          (0, 0, (0 : Int),
            Go.Ev.S.vB ca af nl (fun (j : Nat) => tl (j + al)) (fun (j : Nat) => vl (j + al)) ov re fz)))))
 then (bif (Decidable.decide
  (0 ≤ 0 ∧ 0 ≤ 1000000 ∧ 0 ≤ 0 ∧ 0 ≤ 1000000))
 then (bif (Decidable.decide
  (Prod.fst (Go.Ev.S.newS ca af) = Prod.fst (Go.Ev.S.newS ca af) ∧
    Prod.fst (Prod.snd (Go.Ev.S.newS ca af)) = Prod.fst (Prod.snd (Go.Ev.S.newS ca af)) ∧
      (0 : Int) = (0 : Int) ∧
        Prod.fst (Prod.snd (Prod.snd (Go.Ev.S.newS ca af))) = Prod.fst (Prod.snd (Prod.snd (Go.Ev.S.newS ca af))) ∧
          Bool.false = Bool.false ∧
            (Go.Ev.S.mkl (0) fun (j : Nat) => ((0 : Int), (0 : Int), Bool.false)) =
              Go.Ev.S.mkl (0) fun (j : Nat) => ((0 : Int), (0 : Int), Bool.false)))
 then (bif (Prod.snd (Prod.snd (Prod.snd (Go.Ev.S.newS ca af))) == Prod.snd (Prod.snd (Prod.snd (Go.Ev.S.newS ca af))))
 then (some (.inr (Bool.true)))
 else (some (.inr (Bool.false))))
 else (some (.inr (Bool.false))))
 else (none))
 else (some (.inr (Bool.false))))
 else (some (.inr (Bool.false))))
 else (some (.inr (Bool.false))))
 else (none))
 else (some (.inr (Bool.false))))
 else (none))
 else (some (.inr (Bool.false))))
 else (some (.inr (Bool.false))))
 else (none))
 else (none))
set_option maxRecDepth 100000 in
theorem te3 (test : Bool → Prop → Prop → Prop) (Kst : KS) (Kret : KR) (ca : Int) (af : Int) (al nl ml : Nat) (tl : Nat → Int) (vl : Nat → Int) (gl : Nat → Bool) (ov : Int) (re : Int) (fz : Bool) (st : Int) (sv : Int) (sg : Bool) : run test Try.env true (xD test) true 400 ⟨3, [.cd (mkFn Try.f3).body], argT 0 [.agg [.int .i64 ca, .int .i64 af, .loose ⟨0, 3, al, 0⟩ nl, .int .i64 ov, .int .i64 re, .bool fz], .agg [.int .i64 st, .int .i64 sv, .bool sg]], [[], [(0, (false, .cols ml [.int .i64 tl, .int .i64 vl, .bool gl]))]], 1⟩ (proj 1 [] Kst Kret) =
  (test (Bool.true)
 (test (Bool.true)
 (test (Decidable.decide ((↑nl : Int) > (210 : Int)))
 (test (Bool.true)
 (test (Bool.true)
 (Kret (Go.Ev.PV.tf Bool.true) ([[(0, Bool.false,
      Go.Ev.Blk.cols ml [Go.Ev.Col.int Go.IntKind.i64 tl, Go.Ev.Col.int Go.IntKind.i64 vl, Go.Ev.Col.bool gl])]]) (5))
 (Kret (Go.Ev.PV.tf Bool.false) ([[(0, Bool.false,
      Go.Ev.Blk.cols ml [Go.Ev.Col.int Go.IntKind.i64 tl, Go.Ev.Col.int Go.IntKind.i64 vl, Go.Ev.Col.bool gl])]]) (5)))
 (False))
 (test (Decidable.decide (al + nl ≤ ml ∧ nl ≤ 1000000))
 (test (Decidable.decide
  (0 + List.length (Go.Ev.S.mkl nl fun (j : Nat) => (tl (j + al), vl (j + al), gl (j + al))) ≤
      List.length (Go.Ev.S.mkl nl fun (j : Nat) => (tl (j + al), vl (j + al), gl (j + al))) ∧
    List.length (Go.Ev.S.mkl nl fun (j : Nat) => (tl (j + al), vl (j + al), gl (j + al))) ≤ 1000000))
 (test (Decidable.decide (al + nl ≤ ml ∧ nl ≤ 1000000))
 (test (Decidable.decide (al + nl ≤ ml ∧ nl ≤ 1000000))
 (test (Decidable.decide
  (0 + List.length (Go.Ev.S.mkl nl fun (j : Nat) => (tl (j + al), vl (j + al), gl (j + al))) ≤
      List.length (Go.Ev.S.mkl nl fun (j : Nat) => (tl (j + al), vl (j + al), gl (j + al))) ∧
    List.length (Go.Ev.S.mkl nl fun (j : Nat) => (tl (j + al), vl (j + al), gl (j + al))) ≤ 1000000))
 (test (Decidable.decide (al + nl ≤ ml ∧ nl ≤ 1000000))
 (test (Bool.true)
 (test (Bool.true)
 (test (Decidable.decide (al + nl ≤ ml ∧ nl ≤ 1000000))
 (test (Decidable.decide
  (0 + List.length (Go.Ev.S.mkl nl fun (j : Nat) => (tl (j + al), vl (j + al), gl (j + al))) ≤
      List.length (Go.Ev.S.mkl nl fun (j : Nat) => (tl (j + al), vl (j + al), gl (j + al))) ∧
    List.length (Go.Ev.S.mkl nl fun (j : Nat) => (tl (j + al), vl (j + al), gl (j + al))) ≤ 1000000))
 (test (Decidable.decide (al + nl ≤ ml ∧ nl ≤ 1000000))
 (test (Go.Ev.S.vB ca af (List.length (Go.Ev.S.mkl nl fun (j : Nat) => (tl (j + al), vl (j + al), gl (j + al))))
    (fun (j : Nat) =>
      Prod.fst (Go.Ev.S.at' (Go.Ev.S.mkl nl fun (j : Nat) => (tl (j + al), vl (j + al), gl (j + al))) j))
    (fun (j : Nat) =>
      Prod.fst (Prod.snd (Go.Ev.S.at' (Go.Ev.S.mkl nl fun (j : Nat) => (tl (j + al), vl (j + al), gl (j + al))) j)))
    ov re fz ==
  Go.Ev.S.vB ca af nl (fun (j : Nat) => tl (j + al)) (fun (j : Nat) => vl (j + al)) ov re fz)
 (test (Prod.fst
    (Prod.snd
      (Prod.snd
        (Prod.snd
          (Prod.snd
            (Prod.snd
              (Go.Ev.S.putS ca af
                (List.length (Go.Ev.S.mkl nl fun (j : Nat) => (tl (j + al), vl (j + al), gl (j + al))))
                (fun (j : Nat) =>
                  Prod.fst (Go.Ev.S.at' (Go.Ev.S.mkl nl fun (j : Nat) => (tl (j + al), vl (j + al), gl (j + al))) j))
                (fun (j : Nat) =>
                  Prod.fst
                    (Prod.snd
                      (Go.Ev.S.at' (Go.Ev.S.mkl nl fun (j : Nat) => (tl (j + al), vl (j + al), gl (j + al))) j)))
                (fun (j : Nat) =>
                  Prod.snd
                    (Prod.snd
                      (Go.Ev.S.at' (Go.Ev.S.mkl nl fun (j : Nat) => (tl (j + al), vl (j + al), gl (j + al))) j)))
                ov re fz st sv sg)))))) ==
  Prod.fst
    (Prod.snd
      (Prod.snd
        (Prod.snd
          (Prod.snd
            (Prod.snd
              (Go.Ev.S.putS ca af nl (fun (j : Nat) => tl (j + al)) (fun (j : Nat) => vl (j + al))
                (fun (j : Nat) => gl (j + al)) ov re fz st sv sg)))))))
 (test (Decidable.decide
  (0 +
        List.length
          (Prod.snd
            (Prod.snd
              (Prod.snd
                (Prod.snd
                  (Prod.snd
                    (Prod.snd
                      (Go.Ev.S.putS ca af
                        (List.length (Go.Ev.S.mkl nl fun (j : Nat) => (tl (j + al), vl (j + al), gl (j + al))))
                        (fun (j : Nat) =>
                          Prod.fst
                            (Go.Ev.S.at' (Go.Ev.S.mkl nl fun (j : Nat) => (tl (j + al), vl (j + al), gl (j + al))) j))
                        (fun (j : Nat) =>
                          Prod.fst
                            (Prod.snd
                              (Go.Ev.S.at' (Go.Ev.S.mkl nl fun (j : Nat) => (tl (j + al), vl (j + al), gl (j + al)))
                                j)))
                        (fun (j : Nat) =>
                          Prod.snd
                            (Prod.snd
                              (Go.Ev.S.at' (Go.Ev.S.mkl nl fun (j : Nat) => (tl (j + al), vl (j + al), gl (j + al)))
                                j)))
                        ov re fz st sv sg))))))) ≤
      List.length
        (Prod.snd
          (Prod.snd
            (Prod.snd
              (Prod.snd
                (Prod.snd
                  (Prod.snd
                    (Go.Ev.S.putS ca af
                      (List.length (Go.Ev.S.mkl nl fun (j : Nat) => (tl (j + al), vl (j + al), gl (j + al))))
                      (fun (j : Nat) =>
                        Prod.fst
                          (Go.Ev.S.at' (Go.Ev.S.mkl nl fun (j : Nat) => (tl (j + al), vl (j + al), gl (j + al))) j))
                      (fun (j : Nat) =>
                        Prod.fst
                          (Prod.snd
                            (Go.Ev.S.at' (Go.Ev.S.mkl nl fun (j : Nat) => (tl (j + al), vl (j + al), gl (j + al))) j)))
                      (fun (j : Nat) =>
                        Prod.snd
                          (Prod.snd
                            (Go.Ev.S.at' (Go.Ev.S.mkl nl fun (j : Nat) => (tl (j + al), vl (j + al), gl (j + al))) j)))
                      ov re fz st sv sg))))))) ∧
    List.length
          (Prod.snd
            (Prod.snd
              (Prod.snd
                (Prod.snd
                  (Prod.snd
                    (Prod.snd
                      (Go.Ev.S.putS ca af
                        (List.length (Go.Ev.S.mkl nl fun (j : Nat) => (tl (j + al), vl (j + al), gl (j + al))))
                        (fun (j : Nat) =>
                          Prod.fst
                            (Go.Ev.S.at' (Go.Ev.S.mkl nl fun (j : Nat) => (tl (j + al), vl (j + al), gl (j + al))) j))
                        (fun (j : Nat) =>
                          Prod.fst
                            (Prod.snd
                              (Go.Ev.S.at' (Go.Ev.S.mkl nl fun (j : Nat) => (tl (j + al), vl (j + al), gl (j + al)))
                                j)))
                        (fun (j : Nat) =>
                          Prod.snd
                            (Prod.snd
                              (Go.Ev.S.at' (Go.Ev.S.mkl nl fun (j : Nat) => (tl (j + al), vl (j + al), gl (j + al)))
                                j)))
                        ov re fz st sv sg))))))) ≤
        1000000 ∧
      0 +
            List.length
              (Prod.snd
                (Prod.snd
                  (Prod.snd
                    (Prod.snd
                      (Prod.snd
                        (Prod.snd
                          (Go.Ev.S.putS ca af nl (fun (j : Nat) => tl (j + al)) (fun (j : Nat) => vl (j + al))
                            (fun (j : Nat) => gl (j + al)) ov re fz st sv sg))))))) ≤
          List.length
            (Prod.snd
              (Prod.snd
                (Prod.snd
                  (Prod.snd
                    (Prod.snd
                      (Prod.snd
                        (Go.Ev.S.putS ca af nl (fun (j : Nat) => tl (j + al)) (fun (j : Nat) => vl (j + al))
                          (fun (j : Nat) => gl (j + al)) ov re fz st sv sg))))))) ∧
        List.length
            (Prod.snd
              (Prod.snd
                (Prod.snd
                  (Prod.snd
                    (Prod.snd
                      (Prod.snd
                        (Go.Ev.S.putS ca af nl (fun (j : Nat) => tl (j + al)) (fun (j : Nat) => vl (j + al))
                          (fun (j : Nat) => gl (j + al)) ov re fz st sv sg))))))) ≤
          1000000))
 (test (Decidable.decide
  (Prod.fst
        (Go.Ev.S.putS ca af (List.length (Go.Ev.S.mkl nl fun (j : Nat) => (tl (j + al), vl (j + al), gl (j + al))))
          (fun (j : Nat) =>
            Prod.fst (Go.Ev.S.at' (Go.Ev.S.mkl nl fun (j : Nat) => (tl (j + al), vl (j + al), gl (j + al))) j))
          (fun (j : Nat) =>
            Prod.fst
              (Prod.snd (Go.Ev.S.at' (Go.Ev.S.mkl nl fun (j : Nat) => (tl (j + al), vl (j + al), gl (j + al))) j)))
          (fun (j : Nat) =>
            Prod.snd
              (Prod.snd (Go.Ev.S.at' (Go.Ev.S.mkl nl fun (j : Nat) => (tl (j + al), vl (j + al), gl (j + al))) j)))
          ov re fz st sv sg) =
      Prod.fst
        (Go.Ev.S.putS ca af nl (fun (j : Nat) => tl (j + al)) (fun (j : Nat) => vl (j + al))
          (fun (j : Nat) => gl (j + al)) ov re fz st sv sg) ∧
    Prod.fst
          (Prod.snd
            (Go.Ev.S.putS ca af (List.length (Go.Ev.S.mkl nl fun (j : Nat) => (tl (j + al), vl (j + al), gl (j + al))))
              (fun (j : Nat) =>
                Prod.fst (Go.Ev.S.at' (Go.Ev.S.mkl nl fun (j : Nat) => (tl (j + al), vl (j + al), gl (j + al))) j))
              (fun (j : Nat) =>
                Prod.fst
                  (Prod.snd (Go.Ev.S.at' (Go.Ev.S.mkl nl fun (j : Nat) => (tl (j + al), vl (j + al), gl (j + al))) j)))
              (fun (j : Nat) =>
                Prod.snd
                  (Prod.snd (Go.Ev.S.at' (Go.Ev.S.mkl nl fun (j : Nat) => (tl (j + al), vl (j + al), gl (j + al))) j)))
              ov re fz st sv sg)) =
        Prod.fst
          (Prod.snd
            (Go.Ev.S.putS ca af nl (fun (j : Nat) => tl (j + al)) (fun (j : Nat) => vl (j + al))
              (fun (j : Nat) => gl (j + al)) ov re fz st sv sg)) ∧
      Prod.fst
            (Prod.snd
              (Prod.snd
                (Go.Ev.S.putS ca af
                  (List.length (Go.Ev.S.mkl nl fun (j : Nat) => (tl (j + al), vl (j + al), gl (j + al))))
                  (fun (j : Nat) =>
                    Prod.fst (Go.Ev.S.at' (Go.Ev.S.mkl nl fun (j : Nat) => (tl (j + al), vl (j + al), gl (j + al))) j))
                  (fun (j : Nat) =>
                    Prod.fst
                      (Prod.snd
                        (Go.Ev.S.at' (Go.Ev.S.mkl nl fun (j : Nat) => (tl (j + al), vl (j + al), gl (j + al))) j)))
                  (fun (j : Nat) =>
                    Prod.snd
                      (Prod.snd
                        (Go.Ev.S.at' (Go.Ev.S.mkl nl fun (j : Nat) => (tl (j + al), vl (j + al), gl (j + al))) j)))
                  ov re fz st sv sg))) =
          Prod.fst
            (Prod.snd
              (Prod.snd
                (Go.Ev.S.putS ca af nl (fun (j : Nat) => tl (j + al)) (fun (j : Nat) => vl (j + al))
                  (fun (j : Nat) => gl (j + al)) ov re fz st sv sg))) ∧
        Prod.fst
              (Prod.snd
                (Prod.snd
                  (Prod.snd
                    (Go.Ev.S.putS ca af
                      (List.length (Go.Ev.S.mkl nl fun (j : Nat) => (tl (j + al), vl (j + al), gl (j + al))))
                      (fun (j : Nat) =>
                        Prod.fst
                          (Go.Ev.S.at' (Go.Ev.S.mkl nl fun (j : Nat) => (tl (j + al), vl (j + al), gl (j + al))) j))
                      (fun (j : Nat) =>
                        Prod.fst
                          (Prod.snd
                            (Go.Ev.S.at' (Go.Ev.S.mkl nl fun (j : Nat) => (tl (j + al), vl (j + al), gl (j + al))) j)))
                      (fun (j : Nat) =>
                        Prod.snd
                          (Prod.snd
                            (Go.Ev.S.at' (Go.Ev.S.mkl nl fun (j : Nat) => (tl (j + al), vl (j + al), gl (j + al))) j)))
                      ov re fz st sv sg)))) =
            Prod.fst
              (Prod.snd
                (Prod.snd
                  (Prod.snd
                    (Go.Ev.S.putS ca af nl (fun (j : Nat) => tl (j + al)) (fun (j : Nat) => vl (j + al))
                      (fun (j : Nat) => gl (j + al)) ov re fz st sv sg)))) ∧
          Prod.fst
                (Prod.snd
                  (Prod.snd
                    (Prod.snd
                      (Prod.snd
                        (Go.Ev.S.putS ca af
                          (List.length (Go.Ev.S.mkl nl fun (j : Nat) => (tl (j + al), vl (j + al), gl (j + al))))
                          (fun (j : Nat) =>
                            Prod.fst
                              (Go.Ev.S.at' (Go.Ev.S.mkl nl fun (j : Nat) => (tl (j + al), vl (j + al), gl (j + al))) j))
                          (fun (j : Nat) =>
                            Prod.fst
                              (Prod.snd
                                (Go.Ev.S.at' (Go.Ev.S.mkl nl fun (j : Nat) => (tl (j + al), vl (j + al), gl (j + al)))
                                  j)))
                          (fun (j : Nat) =>
                            Prod.snd
                              (Prod.snd
                                (Go.Ev.S.at' (Go.Ev.S.mkl nl fun (j : Nat) => (tl (j + al), vl (j + al), gl (j + al)))
                                  j)))
                          ov re fz st sv sg))))) =
              Prod.fst
                (Prod.snd
                  (Prod.snd
                    (Prod.snd
                      (Prod.snd
                        (Go.Ev.S.putS ca af nl (fun (j : Nat) => tl (j + al)) (fun (j : Nat) => vl (j + al))
                          (fun (j : Nat) => gl (j + al)) ov re fz st sv sg))))) ∧
            (Go.Ev.S.mkl
                (List.length
                  (Prod.snd
                    (Prod.snd
                      (Prod.snd
                        (Prod.snd
                          (Prod.snd
                            (Prod.snd
                              (Go.Ev.S.putS ca af
                                (List.length (Go.Ev.S.mkl nl fun (j : Nat) => (tl (j + al), vl (j + al), gl (j + al))))
                                (fun (j : Nat) =>
                                  Prod.fst
                                    (Go.Ev.S.at'
                                      (Go.Ev.S.mkl nl fun (j : Nat) => (tl (j + al), vl (j + al), gl (j + al))) j))
                                (fun (j : Nat) =>
                                  Prod.fst
                                    (Prod.snd
                                      (Go.Ev.S.at'
                                        (Go.Ev.S.mkl nl fun (j : Nat) => (tl (j + al), vl (j + al), gl (j + al))) j)))
                                (fun (j : Nat) =>
                                  Prod.snd
                                    (Prod.snd
                                      (Go.Ev.S.at'
                                        (Go.Ev.S.mkl nl fun (j : Nat) => (tl (j + al), vl (j + al), gl (j + al))) j)))
                                ov re fz st sv sg))))))))
                fun (j : Nat) =>
                (Prod.fst
                    (Go.Ev.S.at'
                      (Prod.snd
                        (Prod.snd
                          (Prod.snd
                            (Prod.snd
                              (Prod.snd
                                (Prod.snd
                                  (Go.Ev.S.putS ca af
                                    (List.length
                                      (Go.Ev.S.mkl nl fun (j : Nat) => (tl (j + al), vl (j + al), gl (j + al))))
                                    (fun (j : Nat) =>
                                      Prod.fst
                                        (Go.Ev.S.at'
                                          (Go.Ev.S.mkl nl fun (j : Nat) => (tl (j + al), vl (j + al), gl (j + al))) j))
                                    (fun (j : Nat) =>
                                      Prod.fst
                                        (Prod.snd
                                          (Go.Ev.S.at'
                                            (Go.Ev.S.mkl nl fun (j : Nat) => (tl (j + al), vl (j + al), gl (j + al)))
                                            j)))
                                    (fun (j : Nat) =>
                                      Prod.snd
                                        (Prod.snd
                                          (Go.Ev.S.at'
                                            (Go.Ev.S.mkl nl fun (j : Nat) => (tl (j + al), vl (j + al), gl (j + al)))
                                            j)))
                                    ov re fz st sv sg)))))))
                      j),
                  Prod.fst
                    (Prod.snd
                      (Go.Ev.S.at'
                        (Prod.snd
                          (Prod.snd
                            (Prod.snd
                              (Prod.snd
                                (Prod.snd
                                  (Prod.snd
                                    (Go.Ev.S.putS ca af
                                      (List.length
                                        (Go.Ev.S.mkl nl fun (j : Nat) => (tl (j + al), vl (j + al), gl (j + al))))
                                      (fun (j : Nat) =>
                                        Prod.fst
                                          (Go.Ev.S.at'
                                            (Go.Ev.S.mkl nl fun (j : Nat) => (tl (j + al), vl (j + al), gl (j + al)))
                                            j))
                                      (fun (j : Nat) =>
                                        Prod.fst
                                          (Prod.snd
                                            (Go.Ev.S.at'
                                              (Go.Ev.S.mkl nl fun (j : Nat) => (tl (j + al), vl (j + al), gl (j + al)))
                                              j)))
                                      (fun (j : Nat) =>
                                        Prod.snd
                                          (Prod.snd
                                            (Go.Ev.S.at'
                                              (Go.Ev.S.mkl nl fun (j : Nat) => (tl (j + al), vl (j + al), gl (j + al)))
                                              j)))
                                      ov re fz st sv sg)))))))
                        j)),
                  Prod.snd
                    (Prod.snd
                      (Go.Ev.S.at'
                        (Prod.snd
                          (Prod.snd
                            (Prod.snd
                              (Prod.snd
                                (Prod.snd
                                  (Prod.snd
                                    (Go.Ev.S.putS ca af
                                      (List.length
                                        (Go.Ev.S.mkl nl fun (j : Nat) => (tl (j + al), vl (j + al), gl (j + al))))
                                      (fun (j : Nat) =>
                                        Prod.fst
                                          (Go.Ev.S.at'
                                            (Go.Ev.S.mkl nl fun (j : Nat) => (tl (j + al), vl (j + al), gl (j + al)))
                                            j))
                                      (fun (j : Nat) =>
                                        Prod.fst
                                          (Prod.snd
                                            (Go.Ev.S.at'
                                              (Go.Ev.S.mkl nl fun (j : Nat) => (tl (j + al), vl (j + al), gl (j + al)))
                                              j)))
                                      (fun (j : Nat) =>
                                        Prod.snd
                                          (Prod.snd
                                            (Go.Ev.S.at'
                                              (Go.Ev.S.mkl nl fun (j : Nat) => (tl (j + al), vl (j + al), gl (j + al)))
                                              j)))
                                      ov re fz st sv sg)))))))
                        j)))) =
              Go.Ev.S.mkl
                (List.length
                  (Prod.snd
                    (Prod.snd
                      (Prod.snd
                        (Prod.snd
                          (Prod.snd
                            (Prod.snd
                              (Go.Ev.S.putS ca af nl (fun (j : Nat) => tl (j + al)) (fun (j : Nat) => vl (j + al))
                                (fun (j : Nat) => gl (j + al)) ov re fz st sv sg))))))))
                fun (j : Nat) =>
                (Prod.fst
                    (Go.Ev.S.at'
                      (Prod.snd
                        (Prod.snd
                          (Prod.snd
                            (Prod.snd
                              (Prod.snd
                                (Prod.snd
                                  (Go.Ev.S.putS ca af nl (fun (j : Nat) => tl (j + al)) (fun (j : Nat) => vl (j + al))
                                    (fun (j : Nat) => gl (j + al)) ov re fz st sv sg)))))))
                      j),
                  Prod.fst
                    (Prod.snd
                      (Go.Ev.S.at'
                        (Prod.snd
                          (Prod.snd
                            (Prod.snd
                              (Prod.snd
                                (Prod.snd
                                  (Prod.snd
                                    (Go.Ev.S.putS ca af nl (fun (j : Nat) => tl (j + al)) (fun (j : Nat) => vl (j + al))
                                      (fun (j : Nat) => gl (j + al)) ov re fz st sv sg)))))))
                        j)),
                  Prod.snd
                    (Prod.snd
                      (Go.Ev.S.at'
                        (Prod.snd
                          (Prod.snd
                            (Prod.snd
                              (Prod.snd
                                (Prod.snd
                                  (Prod.snd
                                    (Go.Ev.S.putS ca af nl (fun (j : Nat) => tl (j + al)) (fun (j : Nat) => vl (j + al))
                                      (fun (j : Nat) => gl (j + al)) ov re fz st sv sg)))))))
                        j)))))
 (test (Decidable.decide
  (0 +
        List.length
          (Prod.snd
            (Prod.snd
              (if
                  Go.Ev.S.vB ca af
                      (List.length (Go.Ev.S.mkl nl fun (j : Nat) => (tl (j + al), vl (j + al), gl (j + al))))
                      (fun (j : Nat) =>
                        Prod.fst
                          (Go.Ev.S.at' (Go.Ev.S.mkl nl fun (j : Nat) => (tl (j + al), vl (j + al), gl (j + al))) j))
                      (fun (j : Nat) =>
                        Prod.fst
                          (Prod.snd
                            (Go.Ev.S.at' (Go.Ev.S.mkl nl fun (j : Nat) => (tl (j + al), vl (j + al), gl (j + al))) j)))
                      ov re fz =
                    (0 : Int) then
                (ov, (0 : Int),
                  Go.Ev.S.mkl (List.length (Go.Ev.S.mkl nl fun (j : Nat) => (tl (j + al), vl (j + al), gl (j + al))))
                    fun (j : Nat) =>
                    (Prod.fst (Go.Ev.S.at' (Go.Ev.S.mkl nl fun (j : Nat) => (tl (j + al), vl (j + al), gl (j + al))) j),
                      Prod.fst
                        (Prod.snd
                          (Go.Ev.S.at' (Go.Ev.S.mkl nl fun (j : Nat) => (tl (j + al), vl (j + al), gl (j + al))) j)),
                      Prod.snd
                        (Prod.snd
                          (Go.Ev.S.at' (Go.Ev.S.mkl nl fun (j : Nat) => (tl (j + al), vl (j + al), gl (j + al))) j))))
              else
                ((0 : Int),
                  Go.Ev.S.vB ca af
                    (List.length (Go.Ev.S.mkl nl fun (j : Nat) => (tl (j + al), vl (j + al), gl (j + al))))
                    (fun (j : Nat) =>
                      Prod.fst
                        (Go.Ev.S.at' (Go.Ev.S.mkl nl fun (j : Nat) => (tl (j + al), vl (j + al), gl (j + al))) j))
                    (fun (j : Nat) =>
                      Prod.fst
                        (Prod.snd
                          (Go.Ev.S.at' (Go.Ev.S.mkl nl fun (j : Nat) => (tl (j + al), vl (j + al), gl (j + al))) j)))
                    ov re fz,
                  [])))) ≤
      List.length
        (Prod.snd
          (Prod.snd
            (if
                Go.Ev.S.vB ca af (List.length (Go.Ev.S.mkl nl fun (j : Nat) => (tl (j + al), vl (j + al), gl (j + al))))
                    (fun (j : Nat) =>
                      Prod.fst
                        (Go.Ev.S.at' (Go.Ev.S.mkl nl fun (j : Nat) => (tl (j + al), vl (j + al), gl (j + al))) j))
                    (fun (j : Nat) =>
                      Prod.fst
                        (Prod.snd
                          (Go.Ev.S.at' (Go.Ev.S.mkl nl fun (j : Nat) => (tl (j + al), vl (j + al), gl (j + al))) j)))
                    ov re fz =
                  (0 : Int) then
              (ov, (0 : Int),
                Go.Ev.S.mkl (List.length (Go.Ev.S.mkl nl fun (j : Nat) => (tl (j + al), vl (j + al), gl (j + al))))
                  fun (j : Nat) =>
                  (Prod.fst (Go.Ev.S.at' (Go.Ev.S.mkl nl fun (j : Nat) => (tl (j + al), vl (j + al), gl (j + al))) j),
                    Prod.fst
                      (Prod.snd
                        (Go.Ev.S.at' (Go.Ev.S.mkl nl fun (j : Nat) => (tl (j + al), vl (j + al), gl (j + al))) j)),
                    Prod.snd
                      (Prod.snd
                        (Go.Ev.S.at' (Go.Ev.S.mkl nl fun (j : Nat) => (tl (j + al), vl (j + al), gl (j + al))) j))))
            else
              ((0 : Int),
                Go.Ev.S.vB ca af (List.length (Go.Ev.S.mkl nl fun (j : Nat) => (tl (j + al), vl (j + al), gl (j + al))))
                  (fun (j : Nat) =>
                    Prod.fst (Go.Ev.S.at' (Go.Ev.S.mkl nl fun (j : Nat) => (tl (j + al), vl (j + al), gl (j + al))) j))
                  (fun (j : Nat) =>
                    Prod.fst
                      (Prod.snd
                        (Go.Ev.S.at' (Go.Ev.S.mkl nl fun (j : Nat) => (tl (j + al), vl (j + al), gl (j + al))) j)))
                  ov re fz,
                [])))) ∧
    List.length
          (Prod.snd
            (Prod.snd
              (if
                  Go.Ev.S.vB ca af
                      (List.length (Go.Ev.S.mkl nl fun (j : Nat) => (tl (j + al), vl (j + al), gl (j + al))))
                      (fun (j : Nat) =>
                        Prod.fst
                          (Go.Ev.S.at' (Go.Ev.S.mkl nl fun (j : Nat) => (tl (j + al), vl (j + al), gl (j + al))) j))
                      (fun (j : Nat) =>
                        Prod.fst
                          (Prod.snd
                            (Go.Ev.S.at' (Go.Ev.S.mkl nl fun (j : Nat) => (tl (j + al), vl (j + al), gl (j + al))) j)))
                      ov re fz =
                    (0 : Int) then
                (ov, (0 : Int),
                  Go.Ev.S.mkl (List.length (Go.Ev.S.mkl nl fun (j : Nat) => (tl (j + al), vl (j + al), gl (j + al))))
                    fun (j : Nat) =>
                    (Prod.fst (Go.Ev.S.at' (Go.Ev.S.mkl nl fun (j : Nat) => (tl (j + al), vl (j + al), gl (j + al))) j),
                      Prod.fst
                        (Prod.snd
                          (Go.Ev.S.at' (Go.Ev.S.mkl nl fun (j : Nat) => (tl (j + al), vl (j + al), gl (j + al))) j)),
                      Prod.snd
                        (Prod.snd
                          (Go.Ev.S.at' (Go.Ev.S.mkl nl fun (j : Nat) => (tl (j + al), vl (j + al), gl (j + al))) j))))
              else
                ((0 : Int),
                  Go.Ev.S.vB ca af
                    (List.length (Go.Ev.S.mkl nl fun (j : Nat) => (tl (j + al), vl (j + al), gl (j + al))))
                    (fun (j : Nat) =>
                      Prod.fst
                        (Go.Ev.S.at' (Go.Ev.S.mkl nl fun (j : Nat) => (tl (j + al), vl (j + al), gl (j + al))) j))
                    (fun (j : Nat) =>
                      Prod.fst
                        (Prod.snd
                          (Go.Ev.S.at' (Go.Ev.S.mkl nl fun (j : Nat) => (tl (j + al), vl (j + al), gl (j + al))) j)))
                    ov re fz,
                  [])))) ≤
        1000000 ∧
      Prod.fst
              (if
                  Go.Ev.S.vB ca af nl (fun (j : Nat) => tl (j + al)) (fun (j : Nat) => vl (j + al)) ov re fz =
                    (0 : Int) then
                (al, nl, ov, (0 : Int))
              else
                (0, 0, (0 : Int),
                  Go.Ev.S.vB ca af nl (fun (j : Nat) => tl (j + al)) (fun (j : Nat) => vl (j + al)) ov re fz)) +
            Prod.fst
              (Prod.snd
                (if
                    Go.Ev.S.vB ca af nl (fun (j : Nat) => tl (j + al)) (fun (j : Nat) => vl (j + al)) ov re fz =
                      (0 : Int) then
                  (al, nl, ov, (0 : Int))
                else
                  (0, 0, (0 : Int),
                    Go.Ev.S.vB ca af nl (fun (j : Nat) => tl (j + al)) (fun (j : Nat) => vl (j + al)) ov re fz))) ≤
          ml ∧
        Prod.fst
            (Prod.snd
              (if
                  Go.Ev.S.vB ca af nl (fun (j : Nat) => tl (j + al)) (fun (j : Nat) => vl (j + al)) ov re fz =
                    (0 : Int) then
                (al, nl, ov, (0 : Int))
              else
                (0, 0, (0 : Int),
                  Go.Ev.S.vB ca af nl (fun (j : Nat) => tl (j + al)) (fun (j : Nat) => vl (j + al)) ov re fz))) ≤
          1000000))
 (test (Decidable.decide
  ((Go.Ev.S.mkl
      (List.length
        (Prod.snd
          (Prod.snd
            (if
                Go.Ev.S.vB ca af (List.length (Go.Ev.S.mkl nl fun (j : Nat) => (tl (j + al), vl (j + al), gl (j + al))))
                    (fun (j : Nat) =>
                      Prod.fst
                        (Go.Ev.S.at' (Go.Ev.S.mkl nl fun (j : Nat) => (tl (j + al), vl (j + al), gl (j + al))) j))
                    (fun (j : Nat) =>
                      Prod.fst
                        (Prod.snd
                          (Go.Ev.S.at' (Go.Ev.S.mkl nl fun (j : Nat) => (tl (j + al), vl (j + al), gl (j + al))) j)))
                    ov re fz =
                  (0 : Int) then
              (ov, (0 : Int),
                Go.Ev.S.mkl (List.length (Go.Ev.S.mkl nl fun (j : Nat) => (tl (j + al), vl (j + al), gl (j + al))))
                  fun (j : Nat) =>
                  (Prod.fst (Go.Ev.S.at' (Go.Ev.S.mkl nl fun (j : Nat) => (tl (j + al), vl (j + al), gl (j + al))) j),
                    Prod.fst
                      (Prod.snd
                        (Go.Ev.S.at' (Go.Ev.S.mkl nl fun (j : Nat) => (tl (j + al), vl (j + al), gl (j + al))) j)),
                    Prod.snd
                      (Prod.snd
                        (Go.Ev.S.at' (Go.Ev.S.mkl nl fun (j : Nat) => (tl (j + al), vl (j + al), gl (j + al))) j))))
            else
              ((0 : Int),
                Go.Ev.S.vB ca af (List.length (Go.Ev.S.mkl nl fun (j : Nat) => (tl (j + al), vl (j + al), gl (j + al))))
                  (fun (j : Nat) =>
                    Prod.fst (Go.Ev.S.at' (Go.Ev.S.mkl nl fun (j : Nat) => (tl (j + al), vl (j + al), gl (j + al))) j))
                  (fun (j : Nat) =>
                    Prod.fst
                      (Prod.snd
                        (Go.Ev.S.at' (Go.Ev.S.mkl nl fun (j : Nat) => (tl (j + al), vl (j + al), gl (j + al))) j)))
                  ov re fz,
                [])))))
      fun (j : Nat) =>
      (Prod.fst
          (Go.Ev.S.at'
            (Prod.snd
              (Prod.snd
                (if
                    Go.Ev.S.vB ca af
                        (List.length (Go.Ev.S.mkl nl fun (j : Nat) => (tl (j + al), vl (j + al), gl (j + al))))
                        (fun (j : Nat) =>
                          Prod.fst
                            (Go.Ev.S.at' (Go.Ev.S.mkl nl fun (j : Nat) => (tl (j + al), vl (j + al), gl (j + al))) j))
                        (fun (j : Nat) =>
                          Prod.fst
                            (Prod.snd
                              (Go.Ev.S.at' (Go.Ev.S.mkl nl fun (j : Nat) => (tl (j + al), vl (j + al), gl (j + al)))
                                j)))
                        ov re fz =
                      (0 : Int) then
                  (ov, (0 : Int),
                    Go.Ev.S.mkl (List.length (Go.Ev.S.mkl nl fun (j : Nat) => (tl (j + al), vl (j + al), gl (j + al))))
                      fun (j : Nat) =>
                      (Prod.fst
                          (Go.Ev.S.at' (Go.Ev.S.mkl nl fun (j : Nat) => (tl (j + al), vl (j + al), gl (j + al))) j),
                        Prod.fst
                          (Prod.snd
                            (Go.Ev.S.at' (Go.Ev.S.mkl nl fun (j : Nat) => (tl (j + al), vl (j + al), gl (j + al))) j)),
                        Prod.snd
                          (Prod.snd
                            (Go.Ev.S.at' (Go.Ev.S.mkl nl fun (j : Nat) => (tl (j + al), vl (j + al), gl (j + al))) j))))
                else
                  ((0 : Int),
                    Go.Ev.S.vB ca af
                      (List.length (Go.Ev.S.mkl nl fun (j : Nat) => (tl (j + al), vl (j + al), gl (j + al))))
                      (fun (j : Nat) =>
                        Prod.fst
                          (Go.Ev.S.at' (Go.Ev.S.mkl nl fun (j : Nat) => (tl (j + al), vl (j + al), gl (j + al))) j))
                      (fun (j : Nat) =>
                        Prod.fst
                          (Prod.snd
                            (Go.Ev.S.at' (Go.Ev.S.mkl nl fun (j : Nat) => (tl (j + al), vl (j + al), gl (j + al))) j)))
                      ov re fz,
                    []))))
            j),
        Prod.fst
          (Prod.snd
            (Go.Ev.S.at'
              (Prod.snd
                (Prod.snd
                  (if
                      Go.Ev.S.vB ca af
                          (List.length (Go.Ev.S.mkl nl fun (j : Nat) => (tl (j + al), vl (j + al), gl (j + al))))
                          (fun (j : Nat) =>
                            Prod.fst
                              (Go.Ev.S.at' (Go.Ev.S.mkl nl fun (j : Nat) => (tl (j + al), vl (j + al), gl (j + al))) j))
                          (fun (j : Nat) =>
                            Prod.fst
                              (Prod.snd
                                (Go.Ev.S.at' (Go.Ev.S.mkl nl fun (j : Nat) => (tl (j + al), vl (j + al), gl (j + al)))
                                  j)))
                          ov re fz =
                        (0 : Int) then
                    (ov, (0 : Int),
                      Go.Ev.S.mkl
                        (List.length (Go.Ev.S.mkl nl fun (j : Nat) => (tl (j + al), vl (j + al), gl (j + al))))
                        fun (j : Nat) =>
                        (Prod.fst
                            (Go.Ev.S.at' (Go.Ev.S.mkl nl fun (j : Nat) => (tl (j + al), vl (j + al), gl (j + al))) j),
                          Prod.fst
                            (Prod.snd
                              (Go.Ev.S.at' (Go.Ev.S.mkl nl fun (j : Nat) => (tl (j + al), vl (j + al), gl (j + al)))
                                j)),
                          Prod.snd
                            (Prod.snd
                              (Go.Ev.S.at' (Go.Ev.S.mkl nl fun (j : Nat) => (tl (j + al), vl (j + al), gl (j + al)))
                                j))))
                  else
                    ((0 : Int),
                      Go.Ev.S.vB ca af
                        (List.length (Go.Ev.S.mkl nl fun (j : Nat) => (tl (j + al), vl (j + al), gl (j + al))))
                        (fun (j : Nat) =>
                          Prod.fst
                            (Go.Ev.S.at' (Go.Ev.S.mkl nl fun (j : Nat) => (tl (j + al), vl (j + al), gl (j + al))) j))
                        (fun (j : Nat) =>
                          Prod.fst
                            (Prod.snd
                              (Go.Ev.S.at' (Go.Ev.S.mkl nl fun (j : Nat) => (tl (j + al), vl (j + al), gl (j + al)))
                                j)))
                        ov re fz,
                      []))))
              j)),
        Prod.snd
          (Prod.snd
            (Go.Ev.S.at'
              (Prod.snd
                (Prod.snd
                  (if
                      Go.Ev.S.vB ca af
                          (List.length (Go.Ev.S.mkl nl fun (j : Nat) => (tl (j + al), vl (j + al), gl (j + al))))
                          (fun (j : Nat) =>
                            Prod.fst
                              (Go.Ev.S.at' (Go.Ev.S.mkl nl fun (j : Nat) => (tl (j + al), vl (j + al), gl (j + al))) j))
                          (fun (j : Nat) =>
                            Prod.fst
                              (Prod.snd
                                (Go.Ev.S.at' (Go.Ev.S.mkl nl fun (j : Nat) => (tl (j + al), vl (j + al), gl (j + al)))
                                  j)))
                          ov re fz =
                        (0 : Int) then
                    (ov, (0 : Int),
                      Go.Ev.S.mkl
                        (List.length (Go.Ev.S.mkl nl fun (j : Nat) => (tl (j + al), vl (j + al), gl (j + al))))
                        fun (j : Nat) =>
                        (Prod.fst
                            (Go.Ev.S.at' (Go.Ev.S.mkl nl fun (j : Nat) => (tl (j + al), vl (j + al), gl (j + al))) j),
                          Prod.fst
                            (Prod.snd
                              (Go.Ev.S.at' (Go.Ev.S.mkl nl fun (j : Nat) => (tl (j + al), vl (j + al), gl (j + al)))
                                j)),
                          Prod.snd
                            (Prod.snd
                              (Go.Ev.S.at' (Go.Ev.S.mkl nl fun (j : Nat) => (tl (j + al), vl (j + al), gl (j + al)))
                                j))))
                  else
                    ((0 : Int),
                      Go.Ev.S.vB ca af
                        (List.length (Go.Ev.S.mkl nl fun (j : Nat) => (tl (j + al), vl (j + al), gl (j + al))))
                        (fun (j : Nat) =>
                          Prod.fst
                            (Go.Ev.S.at' (Go.Ev.S.mkl nl fun (j : Nat) => (tl (j + al), vl (j + al), gl (j + al))) j))
                        (fun (j : Nat) =>
                          Prod.fst
                            (Prod.snd
                              (Go.Ev.S.at' (Go.Ev.S.mkl nl fun (j : Nat) => (tl (j + al), vl (j + al), gl (j + al)))
                                j)))
                        ov re fz,
                      []))))
              j)))) =
    Go.Ev.S.mkl
      (Prod.fst
        (Prod.snd
          (if
              Go.Ev.S.vB ca af nl (fun (j : Nat) => tl (j + al)) (fun (j : Nat) => vl (j + al)) ov re fz =
                (0 : Int) then
            (al, nl, ov, (0 : Int))
          else
            (0, 0, (0 : Int),
              Go.Ev.S.vB ca af nl (fun (j : Nat) => tl (j + al)) (fun (j : Nat) => vl (j + al)) ov re fz))))
      fun (j : Nat) =>
      (tl
          (j +
            Prod.fst
              (if
                  Go.Ev.S.vB ca af nl (fun (j : Nat) => tl (j + al)) (fun (j : Nat) => vl (j + al)) ov re fz =
                    (0 : Int) then
                (al, nl, ov, (0 : Int))
              else
                (0, 0, (0 : Int),
                  Go.Ev.S.vB ca af nl (fun (j : Nat) => tl (j + al)) (fun (j : Nat) => vl (j + al)) ov re fz))),
        vl
          (j +
            Prod.fst
              (if
                  Go.Ev.S.vB ca af nl (fun (j : Nat) => tl (j + al)) (fun (j : Nat) => vl (j + al)) ov re fz =
                    (0 : Int) then
                (al, nl, ov, (0 : Int))
              else
                (0, 0, (0 : Int),
                  Go.Ev.S.vB ca af nl (fun (j : Nat) => tl (j + al)) (fun (j : Nat) => vl (j + al)) ov re fz))),
        gl
          (j +
            Prod.fst
              (if
                  Go.Ev.S.vB ca af nl (fun (j : Nat) => tl (j + al)) (fun (j : Nat) => vl (j + al)) ov re fz =
                    (0 : Int) then
                (al, nl, ov, (0 : Int))
              else
                (0, 0, (0 : Int),
                  Go.Ev.S.vB ca af nl (fun (j : Nat) => tl (j + al)) (fun (j : Nat) => vl (j + al)) ov re fz))))))
 (test (Prod.fst
    (if
        Go.Ev.S.vB ca af (List.length (Go.Ev.S.mkl nl fun (j : Nat) => (tl (j + al), vl (j + al), gl (j + al))))
            (fun (j : Nat) =>
              Prod.fst (Go.Ev.S.at' (Go.Ev.S.mkl nl fun (j : Nat) => (tl (j + al), vl (j + al), gl (j + al))) j))
            (fun (j : Nat) =>
              Prod.fst
                (Prod.snd (Go.Ev.S.at' (Go.Ev.S.mkl nl fun (j : Nat) => (tl (j + al), vl (j + al), gl (j + al))) j)))
            ov re fz =
          (0 : Int) then
      (ov, (0 : Int),
        Go.Ev.S.mkl (List.length (Go.Ev.S.mkl nl fun (j : Nat) => (tl (j + al), vl (j + al), gl (j + al))))
          fun (j : Nat) =>
          (Prod.fst (Go.Ev.S.at' (Go.Ev.S.mkl nl fun (j : Nat) => (tl (j + al), vl (j + al), gl (j + al))) j),
            Prod.fst
              (Prod.snd (Go.Ev.S.at' (Go.Ev.S.mkl nl fun (j : Nat) => (tl (j + al), vl (j + al), gl (j + al))) j)),
            Prod.snd
              (Prod.snd (Go.Ev.S.at' (Go.Ev.S.mkl nl fun (j : Nat) => (tl (j + al), vl (j + al), gl (j + al))) j))))
    else
      ((0 : Int),
        Go.Ev.S.vB ca af (List.length (Go.Ev.S.mkl nl fun (j : Nat) => (tl (j + al), vl (j + al), gl (j + al))))
          (fun (j : Nat) =>
            Prod.fst (Go.Ev.S.at' (Go.Ev.S.mkl nl fun (j : Nat) => (tl (j + al), vl (j + al), gl (j + al))) j))
          (fun (j : Nat) =>
            Prod.fst
              (Prod.snd (Go.Ev.S.at' (Go.Ev.S.mkl nl fun (j : Nat) => (tl (j + al), vl (j + al), gl (j + al))) j)))
          ov re fz,
        [])) ==
  Prod.fst
    (Prod.snd
      (Prod.snd
        (if Go.Ev.S.vB ca af nl (fun (j : Nat) => tl (j + al)) (fun (j : Nat) => vl (j + al)) ov re fz = (0 : Int) then
          (al, nl, ov, (0 : Int))
        else
          (0, 0, (0 : Int),
            Go.Ev.S.vB ca af nl (fun (j : Nat) => tl (j + al)) (fun (j : Nat) => vl (j + al)) ov re fz)))))
 (test (Prod.fst
    (Prod.snd
      (if
          Go.Ev.S.vB ca af (List.length (Go.Ev.S.mkl nl fun (j : Nat) => (tl (j + al), vl (j + al), gl (j + al))))
              (fun (j : Nat) =>
                Prod.fst (Go.Ev.S.at' (Go.Ev.S.mkl nl fun (j : Nat) => (tl (j + al), vl (j + al), gl (j + al))) j))
              (fun (j : Nat) =>
                Prod.fst
                  (Prod.snd (Go.Ev.S.at' (Go.Ev.S.mkl nl fun (j : Nat) => (tl (j + al), vl (j + al), gl (j + al))) j)))
              ov re fz =
            (0 : Int) then
        (ov, (0 : Int),
          Go.Ev.S.mkl (List.length (Go.Ev.S.mkl nl fun (j : Nat) => (tl (j + al), vl (j + al), gl (j + al))))
            fun (j : Nat) =>
            (Prod.fst (Go.Ev.S.at' (Go.Ev.S.mkl nl fun (j : Nat) => (tl (j + al), vl (j + al), gl (j + al))) j),
              Prod.fst
                (Prod.snd (Go.Ev.S.at' (Go.Ev.S.mkl nl fun (j : Nat) => (tl (j + al), vl (j + al), gl (j + al))) j)),
              Prod.snd
                (Prod.snd (Go.Ev.S.at' (Go.Ev.S.mkl nl fun (j : Nat) => (tl (j + al), vl (j + al), gl (j + al))) j))))
      else
        ((0 : Int),
          Go.Ev.S.vB ca af (List.length (Go.Ev.S.mkl nl fun (j : Nat) => (tl (j + al), vl (j + al), gl (j + al))))
            (fun (j : Nat) =>
              Prod.fst (Go.Ev.S.at' (Go.Ev.S.mkl nl fun (j : Nat) => (tl (j + al), vl (j + al), gl (j + al))) j))
            (fun (j : Nat) =>
              Prod.fst
                (Prod.snd (Go.Ev.S.at' (Go.Ev.S.mkl nl fun (j : Nat) => (tl (j + al), vl (j + al), gl (j + al))) j)))
            ov re fz,
          []))) ==
  Prod.snd
    (Prod.snd
      (Prod.snd
        (if Go.Ev.S.vB ca af nl (fun (j : Nat) => tl (j + al)) (fun (j : Nat) => vl (j + al)) ov re fz = (0 : Int) then
          (al, nl, ov, (0 : Int))
        else
          (0, 0, (0 : Int),
            Go.Ev.S.vB ca af nl (fun (j : Nat) => tl (j + al)) (fun (j : Nat) => vl (j + al)) ov re fz)))))
 (test (Decidable.decide
  (0 ≤ 0 ∧ 0 ≤ 1000000 ∧ 0 ≤ 0 ∧ 0 ≤ 1000000))
 (test (Decidable.decide
  (Prod.fst (Go.Ev.S.newS ca af) = Prod.fst (Go.Ev.S.newS ca af) ∧
    Prod.fst (Prod.snd (Go.Ev.S.newS ca af)) = Prod.fst (Prod.snd (Go.Ev.S.newS ca af)) ∧
      (0 : Int) = (0 : Int) ∧
        Prod.fst (Prod.snd (Prod.snd (Go.Ev.S.newS ca af))) = Prod.fst (Prod.snd (Prod.snd (Go.Ev.S.newS ca af))) ∧
          Bool.false = Bool.false ∧
            (Go.Ev.S.mkl (0) fun (j : Nat) => ((0 : Int), (0 : Int), Bool.false)) =
              Go.Ev.S.mkl (0) fun (j : Nat) => ((0 : Int), (0 : Int), Bool.false)))
 (test (Prod.snd (Prod.snd (Prod.snd (Go.Ev.S.newS ca af))) == Prod.snd (Prod.snd (Prod.snd (Go.Ev.S.newS ca af))))
 (Kret (Go.Ev.PV.tf Bool.true) ([[(0, Bool.false,
      Go.Ev.Blk.cols ml [Go.Ev.Col.int Go.IntKind.i64 tl, Go.Ev.Col.int Go.IntKind.i64 vl, Go.Ev.Col.bool gl])]]) (28))
 (Kret (Go.Ev.PV.tf Bool.false) ([[(0, Bool.false,
      Go.Ev.Blk.cols ml [Go.Ev.Col.int Go.IntKind.i64 tl, Go.Ev.Col.int Go.IntKind.i64 vl, Go.Ev.Col.bool gl])]]) (28)))
 (Kret (Go.Ev.PV.tf Bool.false) ([[(0, Bool.false,
      Go.Ev.Blk.cols ml [Go.Ev.Col.int Go.IntKind.i64 tl, Go.Ev.Col.int Go.IntKind.i64 vl, Go.Ev.Col.bool gl])]]) (28)))
 (False))
 (Kret (Go.Ev.PV.tf Bool.false) ([[(0, Bool.false,
      Go.Ev.Blk.cols ml [Go.Ev.Col.int Go.IntKind.i64 tl, Go.Ev.Col.int Go.IntKind.i64 vl, Go.Ev.Col.bool gl])]]) (27)))
 (Kret (Go.Ev.PV.tf Bool.false) ([[(0, Bool.false,
      Go.Ev.Blk.cols ml [Go.Ev.Col.int Go.IntKind.i64 tl, Go.Ev.Col.int Go.IntKind.i64 vl, Go.Ev.Col.bool gl])]]) (27)))
 (Kret (Go.Ev.PV.tf Bool.false) ([[(0, Bool.false,
      Go.Ev.Blk.cols ml [Go.Ev.Col.int Go.IntKind.i64 tl, Go.Ev.Col.int Go.IntKind.i64 vl, Go.Ev.Col.bool gl])]]) (27)))
 (False))
 (Kret (Go.Ev.PV.tf Bool.false) ([[(0, Bool.false,
      Go.Ev.Blk.cols ml [Go.Ev.Col.int Go.IntKind.i64 tl, Go.Ev.Col.int Go.IntKind.i64 vl, Go.Ev.Col.bool gl])]]) (26)))
 (False))
 (Kret (Go.Ev.PV.tf Bool.false) ([[(0, Bool.false,
      Go.Ev.Blk.cols ml [Go.Ev.Col.int Go.IntKind.i64 tl, Go.Ev.Col.int Go.IntKind.i64 vl, Go.Ev.Col.bool gl])]]) (25)))
 (Kret (Go.Ev.PV.tf Bool.false) ([[(0, Bool.false,
      Go.Ev.Blk.cols ml [Go.Ev.Col.int Go.IntKind.i64 tl, Go.Ev.Col.int Go.IntKind.i64 vl, Go.Ev.Col.bool gl])]]) (25)))
 (False))
 (False))
 (False))
 (False))
 (False))
 (False))
 (False))
 (False))
 (False))
 (False))
 (False)))
 (test (Bool.true)
 (test (Bool.true)
 (Kret (Go.Ev.PV.tf Bool.true) ([[(0, Bool.false,
      Go.Ev.Blk.cols ml [Go.Ev.Col.int Go.IntKind.i64 tl, Go.Ev.Col.int Go.IntKind.i64 vl, Go.Ev.Col.bool gl])]]) (5))
 (Kret (Go.Ev.PV.tf Bool.false) ([[(0, Bool.false,
      Go.Ev.Blk.cols ml [Go.Ev.Col.int Go.IntKind.i64 tl, Go.Ev.Col.int Go.IntKind.i64 vl, Go.Ev.Col.bool gl])]]) (5)))
 (False)))
 (False)) := by kernel_rfl
set_option maxRecDepth 100000 in
theorem be3 (ca : Int) (af : Int) (al nl ml : Nat) (tl : Nat → Int) (vl : Nat → Int) (gl : Nat → Bool) (ov : Int) (re : Int) (fz : Bool) (st : Int) (sv : Int) (sg : Bool) (Kst : KS) (Kret : KR) (x : St3 ⊕ Rt3) (hS : HS 1 400 ((I3 ca af al nl ml tl vl gl ov re fz st sv sg)) Kst x) (hR : HR 1 400 ((V3 ca af al nl ml tl vl gl ov re fz st sv sg)) (fun r => [newL (1 + 1) ((N3 ca af al nl ml tl vl gl ov re fz st sv sg) r) ++ [(0, (false, .cols ml [.int .i64 tl, .int .i64 vl, .bool gl]))]]) Kret x) (h : (bif (Decidable.decide ((↑nl : Int) > (210 : Int)))
 then (some (.inr (Bool.true)))
 else (bif (Decidable.decide (al + nl ≤ ml ∧ nl ≤ 1000000))
 then (bif (Decidable.decide
  (0 + List.length (Go.Ev.S.mkl nl fun (j : Nat) => (tl (j + al), vl (j + al), gl (j + al))) ≤
      List.length (Go.Ev.S.mkl nl fun (j : Nat) => (tl (j + al), vl (j + al), gl (j + al))) ∧
    List.length (Go.Ev.S.mkl nl fun (j : Nat) => (tl (j + al), vl (j + al), gl (j + al))) ≤ 1000000))
 then (bif (Go.Ev.S.vB ca af (List.length (Go.Ev.S.mkl nl fun (j : Nat) => (tl (j + al), vl (j + al), gl (j + al))))
    (fun (j : Nat) =>
      Prod.fst (Go.Ev.S.at' (Go.Ev.S.mkl nl fun (j : Nat) => (tl (j + al), vl (j + al), gl (j + al))) j))
    (fun (j : Nat) =>
      Prod.fst (Prod.snd (Go.Ev.S.at' (Go.Ev.S.mkl nl fun (j : Nat) => (tl (j + al), vl (j + al), gl (j + al))) j)))
    ov re fz ==
  Go.Ev.S.vB ca af nl (fun (j : Nat) => tl (j + al)) (fun (j : Nat) => vl (j + al)) ov re fz)
 then (bif (Prod.fst
    (Prod.snd
      (Prod.snd
        (Prod.snd
          (Prod.snd
            (Prod.snd
              (Go.Ev.S.putS ca af
                (List.length (Go.Ev.S.mkl nl fun (j : Nat) => (tl (j + al), vl (j + al), gl (j + al))))
                (fun (j : Nat) =>
                  Prod.fst (Go.Ev.S.at' (Go.Ev.S.mkl nl fun (j : Nat) => (tl (j + al), vl (j + al), gl (j + al))) j))
                (fun (j : Nat) =>
                  Prod.fst
                    (Prod.snd
                      (Go.Ev.S.at' (Go.Ev.S.mkl nl fun (j : Nat) => (tl (j + al), vl (j + al), gl (j + al))) j)))
                (fun (j : Nat) =>
                  Prod.snd
                    (Prod.snd
                      (Go.Ev.S.at' (Go.Ev.S.mkl nl fun (j : Nat) => (tl (j + al), vl (j + al), gl (j + al))) j)))
                ov re fz st sv sg)))))) ==
  Prod.fst
    (Prod.snd
      (Prod.snd
        (Prod.snd
          (Prod.snd
            (Prod.snd
              (Go.Ev.S.putS ca af nl (fun (j : Nat) => tl (j + al)) (fun (j : Nat) => vl (j + al))
                (fun (j : Nat) => gl (j + al)) ov re fz st sv sg)))))))
 then (bif (Decidable.decide
  (0 +
        List.length
          (Prod.snd
            (Prod.snd
              (Prod.snd
                (Prod.snd
                  (Prod.snd
                    (Prod.snd
                      (Go.Ev.S.putS ca af
                        (List.length (Go.Ev.S.mkl nl fun (j : Nat) => (tl (j + al), vl (j + al), gl (j + al))))
                        (fun (j : Nat) =>
                          Prod.fst
                            (Go.Ev.S.at' (Go.Ev.S.mkl nl fun (j : Nat) => (tl (j + al), vl (j + al), gl (j + al))) j))
                        (fun (j : Nat) =>
                          Prod.fst
                            (Prod.snd
                              (Go.Ev.S.at' (Go.Ev.S.mkl nl fun (j : Nat) => (tl (j + al), vl (j + al), gl (j + al)))
                                j)))
                        (fun (j : Nat) =>
                          Prod.snd
                            (Prod.snd
                              (Go.Ev.S.at' (Go.Ev.S.mkl nl fun (j : Nat) => (tl (j + al), vl (j + al), gl (j + al)))
                                j)))
                        ov re fz st sv sg))))))) ≤
      List.length
        (Prod.snd
          (Prod.snd
            (Prod.snd
              (Prod.snd
                (Prod.snd
                  (Prod.snd
                    (Go.Ev.S.putS ca af
                      (List.length (Go.Ev.S.mkl nl fun (j : Nat) => (tl (j + al), vl (j + al), gl (j + al))))
                      (fun (j : Nat) =>
                        Prod.fst
                          (Go.Ev.S.at' (Go.Ev.S.mkl nl fun (j : Nat) => (tl (j + al), vl (j + al), gl (j + al))) j))
                      (fun (j : Nat) =>
                        Prod.fst
                          (Prod.snd
                            (Go.Ev.S.at' (Go.Ev.S.mkl nl fun (j : Nat) => (tl (j + al), vl (j + al), gl (j + al))) j)))
                      (fun (j : Nat) =>
                        Prod.snd
                          (Prod.snd
                            (Go.Ev.S.at' (Go.Ev.S.mkl nl fun (j : Nat) => (tl (j + al), vl (j + al), gl (j + al))) j)))
                      ov re fz st sv sg))))))) ∧
    List.length
          (Prod.snd
            (Prod.snd
              (Prod.snd
                (Prod.snd
                  (Prod.snd
                    (Prod.snd
                      (Go.Ev.S.putS ca af
                        (List.length (Go.Ev.S.mkl nl fun (j : Nat) => (tl (j + al), vl (j + al), gl (j + al))))
                        (fun (j : Nat) =>
                          Prod.fst
                            (Go.Ev.S.at' (Go.Ev.S.mkl nl fun (j : Nat) => (tl (j + al), vl (j + al), gl (j + al))) j))
                        (fun (j : Nat) =>
                          Prod.fst
                            (Prod.snd
                              (Go.Ev.S.at' (Go.Ev.S.mkl nl fun (j : Nat) => (tl (j + al), vl (j + al), gl (j + al)))
                                j)))
                        (fun (j : Nat) =>
                          Prod.snd
                            (Prod.snd
                              (Go.Ev.S.at' (Go.Ev.S.mkl nl fun (j : Nat) => (tl (j + al), vl (j + al), gl (j + al)))
                                j)))
                        ov re fz st sv sg))))))) ≤
        1000000 ∧
      0 +
            List.length
              (Prod.snd
                (Prod.snd
                  (Prod.snd
                    (Prod.snd
                      (Prod.snd
                        (Prod.snd
                          (Go.Ev.S.putS ca af nl (fun (j : Nat) => tl (j + al)) (fun (j : Nat) => vl (j + al))
                            (fun (j : Nat) => gl (j + al)) ov re fz st sv sg))))))) ≤
          List.length
            (Prod.snd
              (Prod.snd
                (Prod.snd
                  (Prod.snd
                    (Prod.snd
                      (Prod.snd
                        (Go.Ev.S.putS ca af nl (fun (j : Nat) => tl (j + al)) (fun (j : Nat) => vl (j + al))
                          (fun (j : Nat) => gl (j + al)) ov re fz st sv sg))))))) ∧
        List.length
            (Prod.snd
              (Prod.snd
                (Prod.snd
                  (Prod.snd
                    (Prod.snd
                      (Prod.snd
                        (Go.Ev.S.putS ca af nl (fun (j : Nat) => tl (j + al)) (fun (j : Nat) => vl (j + al))
                          (fun (j : Nat) => gl (j + al)) ov re fz st sv sg))))))) ≤
          1000000))
 then (bif (Decidable.decide
  (Prod.fst
        (Go.Ev.S.putS ca af (List.length (Go.Ev.S.mkl nl fun (j : Nat) => (tl (j + al), vl (j + al), gl (j + al))))
          (fun (j : Nat) =>
            Prod.fst (Go.Ev.S.at' (Go.Ev.S.mkl nl fun (j : Nat) => (tl (j + al), vl (j + al), gl (j + al))) j))
          (fun (j : Nat) =>
            Prod.fst
              (Prod.snd (Go.Ev.S.at' (Go.Ev.S.mkl nl fun (j : Nat) => (tl (j + al), vl (j + al), gl (j + al))) j)))
          (fun (j : Nat) =>
            Prod.snd
              (Prod.snd (Go.Ev.S.at' (Go.Ev.S.mkl nl fun (j : Nat) => (tl (j + al), vl (j + al), gl (j + al))) j)))
          ov re fz st sv sg) =
      Prod.fst
        (Go.Ev.S.putS ca af nl (fun (j : Nat) => tl (j + al)) (fun (j : Nat) => vl (j + al))
          (fun (j : Nat) => gl (j + al)) ov re fz st sv sg) ∧
    Prod.fst
          (Prod.snd
            (Go.Ev.S.putS ca af (List.length (Go.Ev.S.mkl nl fun (j : Nat) => (tl (j + al), vl (j + al), gl (j + al))))
              (fun (j : Nat) =>
                Prod.fst (Go.Ev.S.at' (Go.Ev.S.mkl nl fun (j : Nat) => (tl (j + al), vl (j + al), gl (j + al))) j))
              (fun (j : Nat) =>
                Prod.fst
                  (Prod.snd (Go.Ev.S.at' (Go.Ev.S.mkl nl fun (j : Nat) => (tl (j + al), vl (j + al), gl (j + al))) j)))
              (fun (j : Nat) =>
                Prod.snd
                  (Prod.snd (Go.Ev.S.at' (Go.Ev.S.mkl nl fun (j : Nat) => (tl (j + al), vl (j + al), gl (j + al))) j)))
              ov re fz st sv sg)) =
        Prod.fst
          (Prod.snd
            (Go.Ev.S.putS ca af nl (fun (j : Nat) => tl (j + al)) (fun (j : Nat) => vl (j + al))
              (fun (j : Nat) => gl (j + al)) ov re fz st sv sg)) ∧
      Prod.fst
            (Prod.snd
              (Prod.snd
                (Go.Ev.S.putS ca af
                  (List.length (Go.Ev.S.mkl nl fun (j : Nat) => (tl (j + al), vl (j + al), gl (j + al))))
                  (fun (j : Nat) =>
                    Prod.fst (Go.Ev.S.at' (Go.Ev.S.mkl nl fun (j : Nat) => (tl (j + al), vl (j + al), gl (j + al))) j))
                  (fun (j : Nat) =>
                    Prod.fst
                      (Prod.snd
                        (Go.Ev.S.at' (Go.Ev.S.mkl nl fun (j : Nat) => (tl (j + al), vl (j + al), gl (j + al))) j)))
                  (fun (j : Nat) =>
                    Prod.snd
                      (Prod.snd
                        (Go.Ev.S.at' (Go.Ev.S.mkl nl fun (j : Nat) => (tl (j + al), vl (j + al), gl (j + al))) j)))
                  ov re fz st sv sg))) =
          Prod.fst
            (Prod.snd
              (Prod.snd
                (Go.Ev.S.putS ca af nl (fun (j : Nat) => tl (j + al)) (fun (j : Nat) => vl (j + al))
                  (fun (j : Nat) => gl (j + al)) ov re fz st sv sg))) ∧
        Prod.fst
              (Prod.snd
                (Prod.snd
                  (Prod.snd
                    (Go.Ev.S.putS ca af
                      (List.length (Go.Ev.S.mkl nl fun (j : Nat) => (tl (j + al), vl (j + al), gl (j + al))))
                      (fun (j : Nat) =>
                        Prod.fst
                          (Go.Ev.S.at' (Go.Ev.S.mkl nl fun (j : Nat) => (tl (j + al), vl (j + al), gl (j + al))) j))
                      (fun (j : Nat) =>
                        Prod.fst
                          (Prod.snd
                            (Go.Ev.S.at' (Go.Ev.S.mkl nl fun (j : Nat) => (tl (j + al), vl (j + al), gl (j + al))) j)))
                      (fun (j : Nat) =>
                        Prod.snd
                          (Prod.snd
                            (Go.Ev.S.at' (Go.Ev.S.mkl nl fun (j : Nat) => (tl (j + al), vl (j + al), gl (j + al))) j)))
                      ov re fz st sv sg)))) =
            Prod.fst
              (Prod.snd
                (Prod.snd
                  (Prod.snd
                    (Go.Ev.S.putS ca af nl (fun (j : Nat) => tl (j + al)) (fun (j : Nat) => vl (j + al))
                      (fun (j : Nat) => gl (j + al)) ov re fz st sv sg)))) ∧
          Prod.fst
                (Prod.snd
                  (Prod.snd
                    (Prod.snd
                      (Prod.snd
                        (Go.Ev.S.putS ca af
                          (List.length (Go.Ev.S.mkl nl fun (j : Nat) => (tl (j + al), vl (j + al), gl (j + al))))
                          (fun (j : Nat) =>
                            Prod.fst
                              (Go.Ev.S.at' (Go.Ev.S.mkl nl fun (j : Nat) => (tl (j + al), vl (j + al), gl (j + al))) j))
                          (fun (j : Nat) =>
                            Prod.fst
                              (Prod.snd
                                (Go.Ev.S.at' (Go.Ev.S.mkl nl fun (j : Nat) => (tl (j + al), vl (j + al), gl (j + al)))
                                  j)))
                          (fun (j : Nat) =>
                            Prod.snd
                              (Prod.snd
                                (Go.Ev.S.at' (Go.Ev.S.mkl nl fun (j : Nat) => (tl (j + al), vl (j + al), gl (j + al)))
                                  j)))
                          ov re fz st sv sg))))) =
              Prod.fst
                (Prod.snd
                  (Prod.snd
                    (Prod.snd
                      (Prod.snd
                        (Go.Ev.S.putS ca af nl (fun (j : Nat) => tl (j + al)) (fun (j : Nat) => vl (j + al))
                          (fun (j : Nat) => gl (j + al)) ov re fz st sv sg))))) ∧
            (Go.Ev.S.mkl
                (List.length
                  (Prod.snd
                    (Prod.snd
                      (Prod.snd
                        (Prod.snd
                          (Prod.snd
                            (Prod.snd
                              (Go.Ev.S.putS ca af
                                (List.length (Go.Ev.S.mkl nl fun (j : Nat) => (tl (j + al), vl (j + al), gl (j + al))))
                                (fun (j : Nat) =>
                                  Prod.fst
                                    (Go.Ev.S.at'
                                      (Go.Ev.S.mkl nl fun (j : Nat) => (tl (j + al), vl (j + al), gl (j + al))) j))
                                (fun (j : Nat) =>
                                  Prod.fst
                                    (Prod.snd
                                      (Go.Ev.S.at'
                                        (Go.Ev.S.mkl nl fun (j : Nat) => (tl (j + al), vl (j + al), gl (j + al))) j)))
                                (fun (j : Nat) =>
                                  Prod.snd
                                    (Prod.snd
                                      (Go.Ev.S.at'
                                        (Go.Ev.S.mkl nl fun (j : Nat) => (tl (j + al), vl (j + al), gl (j + al))) j)))
                                ov re fz st sv sg))))))))
                fun (j : Nat) =>
                (Prod.fst
                    (Go.Ev.S.at'
                      (Prod.snd
                        (Prod.snd
                          (Prod.snd
                            (Prod.snd
                              (Prod.snd
                                (Prod.snd
                                  (Go.Ev.S.putS ca af
                                    (List.length
                                      (Go.Ev.S.mkl nl fun (j : Nat) => (tl (j + al), vl (j + al), gl (j + al))))
                                    (fun (j : Nat) =>
                                      Prod.fst
                                        (Go.Ev.S.at'
                                          (Go.Ev.S.mkl nl fun (j : Nat) => (tl (j + al), vl (j + al), gl (j + al))) j))
                                    (fun (j : Nat) =>
                                      Prod.fst
                                        (Prod.snd
                                          (Go.Ev.S.at'
                                            (Go.Ev.S.mkl nl fun (j : Nat) => (tl (j + al), vl (j + al), gl (j + al)))
                                            j)))
                                    (fun (j : Nat) =>
                                      Prod.snd
                                        (Prod.snd
                                          (Go.Ev.S.at'
                                            (Go.Ev.S.mkl nl fun (j : Nat) => (tl (j + al), vl (j + al), gl (j + al)))
                                            j)))
                                    ov re fz st sv sg)))))))
                      j),
                  Prod.fst
                    (Prod.snd
                      (Go.Ev.S.at'
                        (Prod.snd
                          (Prod.snd
                            (Prod.snd
                              (Prod.snd
                                (Prod.snd
                                  (Prod.snd
                                    (Go.Ev.S.putS ca af
                                      (List.length
                                        (Go.Ev.S.mkl nl fun (j : Nat) => (tl (j + al), vl (j + al), gl (j + al))))
                                      (fun (j : Nat) =>
                                        Prod.fst
                                          (Go.Ev.S.at'
                                            (Go.Ev.S.mkl nl fun (j : Nat) => (tl (j + al), vl (j + al), gl (j + al)))
                                            j))
                                      (fun (j : Nat) =>
                                        Prod.fst
                                          (Prod.snd
                                            (Go.Ev.S.at'
                                              (Go.Ev.S.mkl nl fun (j : Nat) => (tl (j + al), vl (j + al), gl (j + al)))
                                              j)))
                                      (fun (j : Nat) =>
                                        Prod.snd
                                          (Prod.snd
                                            (Go.Ev.S.at'
                                              (Go.Ev.S.mkl nl fun (j : Nat) => (tl (j + al), vl (j + al), gl (j + al)))
                                              j)))
                                      ov re fz st sv sg)))))))
                        j)),
                  Prod.snd
                    (Prod.snd
                      (Go.Ev.S.at'
                        (Prod.snd
                          (Prod.snd
                            (Prod.snd
                              (Prod.snd
                                (Prod.snd
                                  (Prod.snd
                                    (Go.Ev.S.putS ca af
                                      (List.length
                                        (Go.Ev.S.mkl nl fun (j : Nat) => (tl (j + al), vl (j + al), gl (j + al))))
                                      (fun (j : Nat) =>
                                        Prod.fst
                                          (Go.Ev.S.at'
                                            (Go.Ev.S.mkl nl fun (j : Nat) => (tl (j + al), vl (j + al), gl (j + al)))
                                            j))
                                      (fun (j : Nat) =>
                                        Prod.fst
                                          (Prod.snd
                                            (Go.Ev.S.at'
                                              (Go.Ev.S.mkl nl fun (j : Nat) => (tl (j + al), vl (j + al), gl (j + al)))
                                              j)))
                                      (fun (j : Nat) =>
                                        Prod.snd
                                          (Prod.snd
                                            (Go.Ev.S.at'
                                              (Go.Ev.S.mkl nl fun (j : Nat) => (tl (j + al), vl (j + al), gl (j + al)))
                                              j)))
                                      ov re fz st sv sg)))))))
                        j)))) =
              Go.Ev.S.mkl
                (List.length
                  (Prod.snd
                    (Prod.snd
                      (Prod.snd
                        (Prod.snd
                          (Prod.snd
                            (Prod.snd
                              (Go.Ev.S.putS ca af nl (fun (j : Nat) => tl (j + al)) (fun (j : Nat) => vl (j + al))
                                (fun (j : Nat) => gl (j + al)) ov re fz st sv sg))))))))
                fun (j : Nat) =>
                (Prod.fst
                    (Go.Ev.S.at'
                      (Prod.snd
                        (Prod.snd
                          (Prod.snd
                            (Prod.snd
                              (Prod.snd
                                (Prod.snd
                                  (Go.Ev.S.putS ca af nl (fun (j : Nat) => tl (j + al)) (fun (j : Nat) => vl (j + al))
                                    (fun (j : Nat) => gl (j + al)) ov re fz st sv sg)))))))
                      j),
                  Prod.fst
                    (Prod.snd
                      (Go.Ev.S.at'
                        (Prod.snd
                          (Prod.snd
                            (Prod.snd
                              (Prod.snd
                                (Prod.snd
                                  (Prod.snd
                                    (Go.Ev.S.putS ca af nl (fun (j : Nat) => tl (j + al)) (fun (j : Nat) => vl (j + al))
                                      (fun (j : Nat) => gl (j + al)) ov re fz st sv sg)))))))
                        j)),
                  Prod.snd
                    (Prod.snd
                      (Go.Ev.S.at'
                        (Prod.snd
                          (Prod.snd
                            (Prod.snd
                              (Prod.snd
                                (Prod.snd
                                  (Prod.snd
                                    (Go.Ev.S.putS ca af nl (fun (j : Nat) => tl (j + al)) (fun (j : Nat) => vl (j + al))
                                      (fun (j : Nat) => gl (j + al)) ov re fz st sv sg)))))))
                        j)))))
 then (bif (Decidable.decide
  (0 +
        List.length
          (Prod.snd
            (Prod.snd
              (if
                  Go.Ev.S.vB ca af
                      (List.length (Go.Ev.S.mkl nl fun (j : Nat) => (tl (j + al), vl (j + al), gl (j + al))))
                      (fun (j : Nat) =>
                        Prod.fst
                          (Go.Ev.S.at' (Go.Ev.S.mkl nl fun (j : Nat) => (tl (j + al), vl (j + al), gl (j + al))) j))
                      (fun (j : Nat) =>
                        Prod.fst
                          (Prod.snd
                            (Go.Ev.S.at' (Go.Ev.S.mkl nl fun (j : Nat) => (tl (j + al), vl (j + al), gl (j + al))) j)))
                      ov re fz =
                    (0 : Int) then
                (ov, (0 : Int),
                  Go.Ev.S.mkl (List.length (Go.Ev.S.mkl nl fun (j : Nat) => (tl (j + al), vl (j + al), gl (j + al))))
                    fun (j : Nat) =>
                    (Prod.fst (Go.Ev.S.at' (Go.Ev.S.mkl nl fun (j : Nat) => (tl (j + al), vl (j + al), gl (j + al))) j),
                      Prod.fst
                        (Prod.snd
                          (Go.Ev.S.at' (Go.Ev.S.mkl nl fun (j : Nat) => (tl (j + al), vl (j + al), gl (j + al))) j)),
                      Prod.snd
                        (Prod.snd
                          (Go.Ev.S.at' (Go.Ev.S.mkl nl fun (j : Nat) => (tl (j + al), vl (j + al), gl (j + al))) j))))
              else
                ((0 : Int),
                  Go.Ev.S.vB ca af
                    (List.length (Go.Ev.S.mkl nl fun (j : Nat) => (tl (j + al), vl (j + al), gl (j + al))))
                    (fun (j : Nat) =>
                      Prod.fst
                        (Go.Ev.S.at' (Go.Ev.S.mkl nl fun (j : Nat) => (tl (j + al), vl (j + al), gl (j + al))) j))
                    (fun (j : Nat) =>
                      Prod.fst
                        (Prod.snd
                          (Go.Ev.S.at' (Go.Ev.S.mkl nl fun (j : Nat) => (tl (j + al), vl (j + al), gl (j + al))) j)))
                    ov re fz,
                  [])))) ≤
      List.length
        (Prod.snd
          (Prod.snd
            (if
                Go.Ev.S.vB ca af (List.length (Go.Ev.S.mkl nl fun (j : Nat) => (tl (j + al), vl (j + al), gl (j + al))))
                    (fun (j : Nat) =>
                      Prod.fst
                        (Go.Ev.S.at' (Go.Ev.S.mkl nl fun (j : Nat) => (tl (j + al), vl (j + al), gl (j + al))) j))
                    (fun (j : Nat) =>
                      Prod.fst
                        (Prod.snd
                          (Go.Ev.S.at' (Go.Ev.S.mkl nl fun (j : Nat) => (tl (j + al), vl (j + al), gl (j + al))) j)))
                    ov re fz =
                  (0 : Int) then
              (ov, (0 : Int),
                Go.Ev.S.mkl (List.length (Go.Ev.S.mkl nl fun (j : Nat) => (tl (j + al), vl (j + al), gl (j + al))))
                  fun (j : Nat) =>
                  (Prod.fst (Go.Ev.S.at' (Go.Ev.S.mkl nl fun (j : Nat) => (tl (j + al), vl (j + al), gl (j + al))) j),
                    Prod.fst
                      (Prod.snd
                        (Go.Ev.S.at' (Go.Ev.S.mkl nl fun (j : Nat) => (tl (j + al), vl (j + al), gl (j + al))) j)),
                    Prod.snd
                      (Prod.snd
                        (Go.Ev.S.at' (Go.Ev.S.mkl nl fun (j : Nat) => (tl (j + al), vl (j + al), gl (j + al))) j))))
            else
              ((0 : Int),
                Go.Ev.S.vB ca af (List.length (Go.Ev.S.mkl nl fun (j : Nat) => (tl (j + al), vl (j + al), gl (j + al))))
                  (fun (j : Nat) =>
                    Prod.fst (Go.Ev.S.at' (Go.Ev.S.mkl nl fun (j : Nat) => (tl (j + al), vl (j + al), gl (j + al))) j))
                  (fun (j : Nat) =>
                    Prod.fst
                      (Prod.snd
                        (Go.Ev.S.at' (Go.Ev.S.mkl nl fun (j : Nat) => (tl (j + al), vl (j + al), gl (j + al))) j)))
                  ov re fz,
                [])))) ∧
    List.length
          (Prod.snd
            (Prod.snd
              (if
                  Go.Ev.S.vB ca af
                      (List.length (Go.Ev.S.mkl nl fun (j : Nat) => (tl (j + al), vl (j + al), gl (j + al))))
                      (fun (j : Nat) =>
                        Prod.fst
                          (Go.Ev.S.at' (Go.Ev.S.mkl nl fun (j : Nat) => (tl (j + al), vl (j + al), gl (j + al))) j))
                      (fun (j : Nat) =>
                        Prod.fst
                          (Prod.snd
                            (Go.Ev.S.at' (Go.Ev.S.mkl nl fun (j : Nat) => (tl (j + al), vl (j + al), gl (j + al))) j)))
                      ov re fz =
                    (0 : Int) then
                (ov, (0 : Int),
                  Go.Ev.S.mkl (List.length (Go.Ev.S.mkl nl fun (j : Nat) => (tl (j + al), vl (j + al), gl (j + al))))
                    fun (j : Nat) =>
                    (Prod.fst (Go.Ev.S.at' (Go.Ev.S.mkl nl fun (j : Nat) => (tl (j + al), vl (j + al), gl (j + al))) j),
                      Prod.fst
                        (Prod.snd
                          (Go.Ev.S.at' (Go.Ev.S.mkl nl fun (j : Nat) => (tl (j + al), vl (j + al), gl (j + al))) j)),
                      Prod.snd
                        (Prod.snd
                          (Go.Ev.S.at' (Go.Ev.S.mkl nl fun (j : Nat) => (tl (j + al), vl (j + al), gl (j + al))) j))))
              else
                ((0 : Int),
                  Go.Ev.S.vB ca af
                    (List.length (Go.Ev.S.mkl nl fun (j : Nat) => (tl (j + al), vl (j + al), gl (j + al))))
                    (fun (j : Nat) =>
                      Prod.fst
                        (Go.Ev.S.at' (Go.Ev.S.mkl nl fun (j : Nat) => (tl (j + al), vl (j + al), gl (j + al))) j))
                    (fun (j : Nat) =>
                      Prod.fst
                        (Prod.snd
                          (Go.Ev.S.at' (Go.Ev.S.mkl nl fun (j : Nat) => (tl (j + al), vl (j + al), gl (j + al))) j)))
                    ov re fz,
                  [])))) ≤
        1000000 ∧
      Prod.fst
              (if
                  Go.Ev.S.vB ca af nl (fun (j : Nat) => tl (j + al)) (fun (j : Nat) => vl (j + al)) ov re fz =
                    (0 : Int) then
                (al, nl, ov, (0 : Int))
              else
                (0, 0, (0 : Int),
                  Go.Ev.S.vB ca af nl (fun (j : Nat) => tl (j + al)) (fun (j : Nat) => vl (j + al)) ov re fz)) +
            Prod.fst
              (Prod.snd
                (if
                    Go.Ev.S.vB ca af nl (fun (j : Nat) => tl (j + al)) (fun (j : Nat) => vl (j + al)) ov re fz =
                      (0 : Int) then
                  (al, nl, ov, (0 : Int))
                else
                  (0, 0, (0 : Int),
                    Go.Ev.S.vB ca af nl (fun (j : Nat) => tl (j + al)) (fun (j : Nat) => vl (j + al)) ov re fz))) ≤
          ml ∧
        Prod.fst
            (Prod.snd
              (if
                  Go.Ev.S.vB ca af nl (fun (j : Nat) => tl (j + al)) (fun (j : Nat) => vl (j + al)) ov re fz =
                    (0 : Int) then
                (al, nl, ov, (0 : Int))
              else
                (0, 0, (0 : Int),
                  Go.Ev.S.vB ca af nl (fun (j : Nat) => tl (j + al)) (fun (j : Nat) => vl (j + al)) ov re fz))) ≤
          1000000))
 then (bif (Decidable.decide
  ((Go.Ev.S.mkl
      (List.length
        (Prod.snd
          (Prod.snd
            (if
                Go.Ev.S.vB ca af (List.length (Go.Ev.S.mkl nl fun (j : Nat) => (tl (j + al), vl (j + al), gl (j + al))))
                    (fun (j : Nat) =>
                      Prod.fst
                        (Go.Ev.S.at' (Go.Ev.S.mkl nl fun (j : Nat) => (tl (j + al), vl (j + al), gl (j + al))) j))
                    (fun (j : Nat) =>
                      Prod.fst
                        (Prod.snd
                          (Go.Ev.S.at' (Go.Ev.S.mkl nl fun (j : Nat) => (tl (j + al), vl (j + al), gl (j + al))) j)))
                    ov re fz =
                  (0 : Int) then
              (ov, (0 : Int),
                Go.Ev.S.mkl (List.length (Go.Ev.S.mkl nl fun (j : Nat) => (tl (j + al), vl (j + al), gl (j + al))))
                  fun (j : Nat) =>
                  (Prod.fst (Go.Ev.S.at' (Go.Ev.S.mkl nl fun (j : Nat) => (tl (j + al), vl (j + al), gl (j + al))) j),
                    Prod.fst
                      (Prod.snd
                        (Go.Ev.S.at' (Go.Ev.S.mkl nl fun (j : Nat) => (tl (j + al), vl (j + al), gl (j + al))) j)),
                    Prod.snd
                      (Prod.snd
                        (Go.Ev.S.at' (Go.Ev.S.mkl nl fun (j : Nat) => (tl (j + al), vl (j + al), gl (j + al))) j))))
            else
              ((0 : Int),
                Go.Ev.S.vB ca af (List.length (Go.Ev.S.mkl nl fun (j : Nat) => (tl (j + al), vl (j + al), gl (j + al))))
                  (fun (j : Nat) =>
                    Prod.fst (Go.Ev.S.at' (Go.Ev.S.mkl nl fun (j : Nat) => (tl (j + al), vl (j + al), gl (j + al))) j))
                  (fun (j : Nat) =>
                    Prod.fst
                      (Prod.snd
                        (Go.Ev.S.at' (Go.Ev.S.mkl nl fun (j : Nat) => (tl (j + al), vl (j + al), gl (j + al))) j)))
                  ov re fz,
                [])))))
      fun (j : Nat) =>
      (Prod.fst
          (Go.Ev.S.at'
            (Prod.snd
              (Prod.snd
                (if
                    Go.Ev.S.vB ca af
                        (List.length (Go.Ev.S.mkl nl fun (j : Nat) => (tl (j + al), vl (j + al), gl (j + al))))
                        (fun (j : Nat) =>
                          Prod.fst
                            (Go.Ev.S.at' (Go.Ev.S.mkl nl fun (j : Nat) => (tl (j + al), vl (j + al), gl (j + al))) j))
                        (fun (j : Nat) =>
                          Prod.fst
                            (Prod.snd
                              (Go.Ev.S.at' (Go.Ev.S.mkl nl fun (j : Nat) => (tl (j + al), vl (j + al), gl (j + al)))
                                j)))
                        ov re fz =
                      (0 : Int) then
                  (ov, (0 : Int),
                    Go.Ev.S.mkl (List.length (Go.Ev.S.mkl nl fun (j : Nat) => (tl (j + al), vl (j + al), gl (j + al))))
                      fun (j : Nat) =>
                      (Prod.fst
                          (Go.Ev.S.at' (Go.Ev.S.mkl nl fun (j : Nat) => (tl (j + al), vl (j + al), gl (j + al))) j),
                        Prod.fst
                          (Prod.snd
                            (Go.Ev.S.at' (Go.Ev.S.mkl nl fun (j : Nat) => (tl (j + al), vl (j + al), gl (j + al))) j)),
                        Prod.snd
                          (Prod.snd
                            (Go.Ev.S.at' (Go.Ev.S.mkl nl fun (j : Nat) => (tl (j + al), vl (j + al), gl (j + al))) j))))
                else
                  ((0 : Int),
                    Go.Ev.S.vB ca af
                      (List.length (Go.Ev.S.mkl nl fun (j : Nat) => (tl (j + al), vl (j + al), gl (j + al))))
                      (fun (j : Nat) =>
                        Prod.fst
                          (Go.Ev.S.at' (Go.Ev.S.mkl nl fun (j : Nat) => (tl (j + al), vl (j + al), gl (j + al))) j))
                      (fun (j : Nat) =>
                        Prod.fst
                          (Prod.snd
                            (Go.Ev.S.at' (Go.Ev.S.mkl nl fun (j : Nat) => (tl (j + al), vl (j + al), gl (j + al))) j)))
                      ov re fz,
                    []))))
            j),
        Prod.fst
          (Prod.snd
            (Go.Ev.S.at'
              (Prod.snd
                (Prod.snd
                  (if
                      Go.Ev.S.vB ca af
                          (List.length (Go.Ev.S.mkl nl fun (j : Nat) => (tl (j + al), vl (j + al), gl (j + al))))
                          (fun (j : Nat) =>
                            Prod.fst
                              (Go.Ev.S.at' (Go.Ev.S.mkl nl fun (j : Nat) => (tl (j + al), vl (j + al), gl (j + al))) j))
                          (fun (j : Nat) =>
                            Prod.fst
                              (Prod.snd
                                (Go.Ev.S.at' (Go.Ev.S.mkl nl fun (j : Nat) => (tl (j + al), vl (j + al), gl (j + al)))
                                  j)))
                          ov re fz =
                        (0 : Int) then
                    (ov, (0 : Int),
                      Go.Ev.S.mkl
                        (List.length (Go.Ev.S.mkl nl fun (j : Nat) => (tl (j + al), vl (j + al), gl (j + al))))
                        fun (j : Nat) =>
                        (Prod.fst
                            (Go.Ev.S.at' (Go.Ev.S.mkl nl fun (j : Nat) => (tl (j + al), vl (j + al), gl (j + al))) j),
                          Prod.fst
                            (Prod.snd
                              (Go.Ev.S.at' (Go.Ev.S.mkl nl fun (j : Nat) => (tl (j + al), vl (j + al), gl (j + al)))
                                j)),
                          Prod.snd
                            (Prod.snd
                              (Go.Ev.S.at' (Go.Ev.S.mkl nl fun (j : Nat) => (tl (j + al), vl (j + al), gl (j + al)))
                                j))))
                  else
                    ((0 : Int),
                      Go.Ev.S.vB ca af
                        (List.length (Go.Ev.S.mkl nl fun (j : Nat) => (tl (j + al), vl (j + al), gl (j + al))))
                        (fun (j : Nat) =>
                          Prod.fst
                            (Go.Ev.S.at' (Go.Ev.S.mkl nl fun (j : Nat) => (tl (j + al), vl (j + al), gl (j + al))) j))
                        (fun (j : Nat) =>
                          Prod.fst
                            (Prod.snd
                              (Go.Ev.S.at' (Go.Ev.S.mkl nl fun (j : Nat) => (tl (j + al), vl (j + al), gl (j + al)))
                                j)))
                        ov re fz,
                      []))))
              j)),
        Prod.snd
          (Prod.snd
            (Go.Ev.S.at'
              (Prod.snd
                (Prod.snd
                  (if
                      Go.Ev.S.vB ca af
                          (List.length (Go.Ev.S.mkl nl fun (j : Nat) => (tl (j + al), vl (j + al), gl (j + al))))
                          (fun (j : Nat) =>
                            Prod.fst
                              (Go.Ev.S.at' (Go.Ev.S.mkl nl fun (j : Nat) => (tl (j + al), vl (j + al), gl (j + al))) j))
                          (fun (j : Nat) =>
                            Prod.fst
                              (Prod.snd
                                (Go.Ev.S.at' (Go.Ev.S.mkl nl fun (j : Nat) => (tl (j + al), vl (j + al), gl (j + al)))
                                  j)))
                          ov re fz =
                        (0 : Int) then
                    (ov, (0 : Int),
                      Go.Ev.S.mkl
                        (List.length (Go.Ev.S.mkl nl fun (j : Nat) => (tl (j + al), vl (j + al), gl (j + al))))
                        fun (j : Nat) =>
                        (Prod.fst
                            (Go.Ev.S.at' (Go.Ev.S.mkl nl fun (j : Nat) => (tl (j + al), vl (j + al), gl (j + al))) j),
                          Prod.fst
                            (Prod.snd
                              (Go.Ev.S.at' (Go.Ev.S.mkl nl fun (j : Nat) => (tl (j + al), vl (j + al), gl (j + al)))
                                j)),
                          Prod.snd
                            (Prod.snd
                              (Go.Ev.S.at' (Go.Ev.S.mkl nl fun (j : Nat) => (tl (j + al), vl (j + al), gl (j + al)))
                                j))))
                  else
                    ((0 : Int),
                      Go.Ev.S.vB ca af
                        (List.length (Go.Ev.S.mkl nl fun (j : Nat) => (tl (j + al), vl (j + al), gl (j + al))))
                        (fun (j : Nat) =>
                          Prod.fst
                            (Go.Ev.S.at' (Go.Ev.S.mkl nl fun (j : Nat) => (tl (j + al), vl (j + al), gl (j + al))) j))
                        (fun (j : Nat) =>
                          Prod.fst
                            (Prod.snd
                              (Go.Ev.S.at' (Go.Ev.S.mkl nl fun (j : Nat) => (tl (j + al), vl (j + al), gl (j + al)))
                                j)))
                        ov re fz,
                      []))))
              j)))) =
    Go.Ev.S.mkl
      (Prod.fst
        (Prod.snd
          (if
              Go.Ev.S.vB ca af nl (fun (j : Nat) => tl (j + al)) (fun (j : Nat) => vl (j + al)) ov re fz =
                (0 : Int) then
            (al, nl, ov, (0 : Int))
          else
            (0, 0, (0 : Int),
              Go.Ev.S.vB ca af nl (fun (j : Nat) => tl (j + al)) (fun (j : Nat) => vl (j + al)) ov re fz))))
      fun (j : Nat) =>
      (tl
          (j +
            Prod.fst
              (if
                  Go.Ev.S.vB ca af nl (fun (j : Nat) => tl (j + al)) (fun (j : Nat) => vl (j + al)) ov re fz =
                    (0 : Int) then
                (al, nl, ov, (0 : Int))
              else
                (0, 0, (0 : Int),
                  Go.Ev.S.vB ca af nl (fun (j : Nat) => tl (j + al)) (fun (j : Nat) => vl (j + al)) ov re fz))),
        vl
          (j +
            Prod.fst
              (if
                  Go.Ev.S.vB ca af nl (fun (j : Nat) => tl (j + al)) (fun (j : Nat) => vl (j + al)) ov re fz =
                    (0 : Int) then
                (al, nl, ov, (0 : Int))
              else
                (0, 0, (0 : Int),
                  Go.Ev.S.vB ca af nl (fun (j : Nat) => tl (j + al)) (fun (j : Nat) => vl (j + al)) ov re fz))),
        gl
          (j +
            Prod.fst
              (if
                  Go.Ev.S.vB ca af nl (fun (j : Nat) => tl (j + al)) (fun (j : Nat) => vl (j + al)) ov re fz =
                    (0 : Int) then
                (al, nl, ov, (0 : Int))
              else
                (0, 0, (0 : Int),
                  Go.Ev.S.vB ca af nl (fun (j : Nat) => tl (j + al)) (fun (j : Nat) => vl (j + al)) ov re fz))))))
 then (bif (Prod.fst
    (if
        Go.Ev.S.vB ca af (List.length (Go.Ev.S.mkl nl fun (j : Nat) => (tl (j + al), vl (j + al), gl (j + al))))
            (fun (j : Nat) =>
              Prod.fst (Go.Ev.S.at' (Go.Ev.S.mkl nl fun (j : Nat) => (tl (j + al), vl (j + al), gl (j + al))) j))
            (fun (j : Nat) =>
              Prod.fst
                (Prod.snd (Go.Ev.S.at' (Go.Ev.S.mkl nl fun (j : Nat) => (tl (j + al), vl (j + al), gl (j + al))) j)))
            ov re fz =
          (0 : Int) then
      (ov, (0 : Int),
        Go.Ev.S.mkl (List.length (Go.Ev.S.mkl nl fun (j : Nat) => (tl (j + al), vl (j + al), gl (j + al))))
          fun (j : Nat) =>
          (Prod.fst (Go.Ev.S.at' (Go.Ev.S.mkl nl fun (j : Nat) => (tl (j + al), vl (j + al), gl (j + al))) j),
            Prod.fst
              (Prod.snd (Go.Ev.S.at' (Go.Ev.S.mkl nl fun (j : Nat) => (tl (j + al), vl (j + al), gl (j + al))) j)),
            Prod.snd
              (Prod.snd (Go.Ev.S.at' (Go.Ev.S.mkl nl fun (j : Nat) => (tl (j + al), vl (j + al), gl (j + al))) j))))
    else
      ((0 : Int),
        Go.Ev.S.vB ca af (List.length (Go.Ev.S.mkl nl fun (j : Nat) => (tl (j + al), vl (j + al), gl (j + al))))
          (fun (j : Nat) =>
            Prod.fst (Go.Ev.S.at' (Go.Ev.S.mkl nl fun (j : Nat) => (tl (j + al), vl (j + al), gl (j + al))) j))
          (fun (j : Nat) =>
            Prod.fst
              (Prod.snd (Go.Ev.S.at' (Go.Ev.S.mkl nl fun (j : Nat) => (tl (j + al), vl (j + al), gl (j + al))) j)))
          ov re fz,
        [])) ==
  Prod.fst
    (Prod.snd
      (Prod.snd
        (if Go.Ev.S.vB ca af nl (fun (j : Nat) => tl (j + al)) (fun (j : Nat) => vl (j + al)) ov re fz = (0 : Int) then
          (al, nl, ov, (0 : Int))
        else
          (0, 0, (0 : Int),
            Go.Ev.S.vB ca af nl (fun (j : Nat) => tl (j + al)) (fun (j : Nat) => vl (j + al)) ov re fz)))))
 then (bif (Prod.fst
    (Prod.snd
      (if
          Go.Ev.S.vB ca af (List.length (Go.Ev.S.mkl nl fun (j : Nat) => (tl (j + al), vl (j + al), gl (j + al))))
              (fun (j : Nat) =>
                Prod.fst (Go.Ev.S.at' (Go.Ev.S.mkl nl fun (j : Nat) => (tl (j + al), vl (j + al), gl (j + al))) j))
              (fun (j : Nat) =>
                Prod.fst
                  (Prod.snd (Go.Ev.S.at' (Go.Ev.S.mkl nl fun (j : Nat) => (tl (j + al), vl (j + al), gl (j + al))) j)))
              ov re fz =
            (0 : Int) then
        (ov, (0 : Int),
          Go.Ev.S.mkl (List.length (Go.Ev.S.mkl nl fun (j : Nat) => (tl (j + al), vl (j + al), gl (j + al))))
            fun (j : Nat) =>
            (Prod.fst (Go.Ev.S.at' (Go.Ev.S.mkl nl fun (j : Nat) => (tl (j + al), vl (j + al), gl (j + al))) j),
              Prod.fst
                (Prod.snd (Go.Ev.S.at' (Go.Ev.S.mkl nl fun (j : Nat) => (tl (j + al), vl (j + al), gl (j + al))) j)),
              Prod.snd
                (Prod.snd (Go.Ev.S.at' (Go.Ev.S.mkl nl fun (j : Nat) => (tl (j + al), vl (j + al), gl (j + al))) j))))
      else
        ((0 : Int),
          Go.Ev.S.vB ca af (List.length (Go.Ev.S.mkl nl fun (j : Nat) => (tl (j + al), vl (j + al), gl (j + al))))
            (fun (j : Nat) =>
              Prod.fst (Go.Ev.S.at' (Go.Ev.S.mkl nl fun (j : Nat) => (tl (j + al), vl (j + al), gl (j + al))) j))
            (fun (j : Nat) =>
              Prod.fst
                (Prod.snd (Go.Ev.S.at' (Go.Ev.S.mkl nl fun (j : Nat) => (tl (j + al), vl (j + al), gl (j + al))) j)))
            ov re fz,
          []))) ==
  Prod.snd
    (Prod.snd
      (Prod.snd
        (if Go.Ev.S.vB ca af nl (fun (j : Nat) => tl (j + al)) (fun (j : Nat) => vl (j + al)) ov re fz = (0 : Int) then
          (al, nl, ov, (0 : Int))
        else
          (0, 0, (0 : Int),
            Go.Ev.S.vB ca af nl (fun (j : Nat) => tl (j + al)) (fun (j : Nat) => vl (j + al)) ov re fz)))))
 then (bif (Decidable.decide
  (0 ≤ 0 ∧ 0 ≤ 1000000 ∧ 0 ≤ 0 ∧ 0 ≤ 1000000))
 then (bif (Decidable.decide
  (Prod.fst (Go.Ev.S.newS ca af) = Prod.fst (Go.Ev.S.newS ca af) ∧
    Prod.fst (Prod.snd (Go.Ev.S.newS ca af)) = Prod.fst (Prod.snd (Go.Ev.S.newS ca af)) ∧
      (0 : Int) = (0 : Int) ∧
        Prod.fst (Prod.snd (Prod.snd (Go.Ev.S.newS ca af))) = Prod.fst (Prod.snd (Prod.snd (Go.Ev.S.newS ca af))) ∧
          Bool.false = Bool.false ∧
            (Go.Ev.S.mkl (0) fun (j : Nat) => ((0 : Int), (0 : Int), Bool.false)) =
              Go.Ev.S.mkl (0) fun (j : Nat) => ((0 : Int), (0 : Int), Bool.false)))
 then (bif (Prod.snd (Prod.snd (Prod.snd (Go.Ev.S.newS ca af))) == Prod.snd (Prod.snd (Prod.snd (Go.Ev.S.newS ca af))))
 then (some (.inr (Bool.true)))
 else (some (.inr (Bool.false))))
 else (some (.inr (Bool.false))))
 else (none))
 else (some (.inr (Bool.false))))
 else (some (.inr (Bool.false))))
 else (some (.inr (Bool.false))))
 else (none))
 else (some (.inr (Bool.false))))
 else (none))
 else (some (.inr (Bool.false))))
 else (some (.inr (Bool.false))))
 else (none))
 else (none)) : Option (St3 ⊕ Rt3)) = some x) : cond (Bool.true)
 (cond (Bool.true)
 (cond (Decidable.decide ((↑nl : Int) > (210 : Int)))
 (cond (Bool.true)
 (cond (Bool.true)
 (Kret (Go.Ev.PV.tf Bool.true) ([[(0, Bool.false,
      Go.Ev.Blk.cols ml [Go.Ev.Col.int Go.IntKind.i64 tl, Go.Ev.Col.int Go.IntKind.i64 vl, Go.Ev.Col.bool gl])]]) (5))
 (Kret (Go.Ev.PV.tf Bool.false) ([[(0, Bool.false,
      Go.Ev.Blk.cols ml [Go.Ev.Col.int Go.IntKind.i64 tl, Go.Ev.Col.int Go.IntKind.i64 vl, Go.Ev.Col.bool gl])]]) (5)))
 (False))
 (cond (Decidable.decide (al + nl ≤ ml ∧ nl ≤ 1000000))
 (cond (Decidable.decide
  (0 + List.length (Go.Ev.S.mkl nl fun (j : Nat) => (tl (j + al), vl (j + al), gl (j + al))) ≤
      List.length (Go.Ev.S.mkl nl fun (j : Nat) => (tl (j + al), vl (j + al), gl (j + al))) ∧
    List.length (Go.Ev.S.mkl nl fun (j : Nat) => (tl (j + al), vl (j + al), gl (j + al))) ≤ 1000000))
 (cond (Decidable.decide (al + nl ≤ ml ∧ nl ≤ 1000000))
 (cond (Decidable.decide (al + nl ≤ ml ∧ nl ≤ 1000000))
 (cond (Decidable.decide
  (0 + List.length (Go.Ev.S.mkl nl fun (j : Nat) => (tl (j + al), vl (j + al), gl (j + al))) ≤
      List.length (Go.Ev.S.mkl nl fun (j : Nat) => (tl (j + al), vl (j + al), gl (j + al))) ∧
    List.length (Go.Ev.S.mkl nl fun (j : Nat) => (tl (j + al), vl (j + al), gl (j + al))) ≤ 1000000))
 (cond (Decidable.decide (al + nl ≤ ml ∧ nl ≤ 1000000))
 (cond (Bool.true)
 (cond (Bool.true)
 (cond (Decidable.decide (al + nl ≤ ml ∧ nl ≤ 1000000))
 (cond (Decidable.decide
  (0 + List.length (Go.Ev.S.mkl nl fun (j : Nat) => (tl (j + al), vl (j + al), gl (j + al))) ≤
      List.length (Go.Ev.S.mkl nl fun (j : Nat) => (tl (j + al), vl (j + al), gl (j + al))) ∧
    List.length (Go.Ev.S.mkl nl fun (j : Nat) => (tl (j + al), vl (j + al), gl (j + al))) ≤ 1000000))
 (cond (Decidable.decide (al + nl ≤ ml ∧ nl ≤ 1000000))
 (cond (Go.Ev.S.vB ca af (List.length (Go.Ev.S.mkl nl fun (j : Nat) => (tl (j + al), vl (j + al), gl (j + al))))
    (fun (j : Nat) =>
      Prod.fst (Go.Ev.S.at' (Go.Ev.S.mkl nl fun (j : Nat) => (tl (j + al), vl (j + al), gl (j + al))) j))
    (fun (j : Nat) =>
      Prod.fst (Prod.snd (Go.Ev.S.at' (Go.Ev.S.mkl nl fun (j : Nat) => (tl (j + al), vl (j + al), gl (j + al))) j)))
    ov re fz ==
  Go.Ev.S.vB ca af nl (fun (j : Nat) => tl (j + al)) (fun (j : Nat) => vl (j + al)) ov re fz)
 (cond (Prod.fst
    (Prod.snd
      (Prod.snd
        (Prod.snd
          (Prod.snd
            (Prod.snd
              (Go.Ev.S.putS ca af
                (List.length (Go.Ev.S.mkl nl fun (j : Nat) => (tl (j + al), vl (j + al), gl (j + al))))
                (fun (j : Nat) =>
                  Prod.fst (Go.Ev.S.at' (Go.Ev.S.mkl nl fun (j : Nat) => (tl (j + al), vl (j + al), gl (j + al))) j))
                (fun (j : Nat) =>
                  Prod.fst
                    (Prod.snd
                      (Go.Ev.S.at' (Go.Ev.S.mkl nl fun (j : Nat) => (tl (j + al), vl (j + al), gl (j + al))) j)))
                (fun (j : Nat) =>
                  Prod.snd
                    (Prod.snd
                      (Go.Ev.S.at' (Go.Ev.S.mkl nl fun (j : Nat) => (tl (j + al), vl (j + al), gl (j + al))) j)))
                ov re fz st sv sg)))))) ==
  Prod.fst
    (Prod.snd
      (Prod.snd
        (Prod.snd
          (Prod.snd
            (Prod.snd
              (Go.Ev.S.putS ca af nl (fun (j : Nat) => tl (j + al)) (fun (j : Nat) => vl (j + al))
                (fun (j : Nat) => gl (j + al)) ov re fz st sv sg)))))))
 (cond (Decidable.decide
  (0 +
        List.length
          (Prod.snd
            (Prod.snd
              (Prod.snd
                (Prod.snd
                  (Prod.snd
                    (Prod.snd
                      (Go.Ev.S.putS ca af
                        (List.length (Go.Ev.S.mkl nl fun (j : Nat) => (tl (j + al), vl (j + al), gl (j + al))))
                        (fun (j : Nat) =>
                          Prod.fst
                            (Go.Ev.S.at' (Go.Ev.S.mkl nl fun (j : Nat) => (tl (j + al), vl (j + al), gl (j + al))) j))
                        (fun (j : Nat) =>
                          Prod.fst
                            (Prod.snd
                              (Go.Ev.S.at' (Go.Ev.S.mkl nl fun (j : Nat) => (tl (j + al), vl (j + al), gl (j + al)))
                                j)))
                        (fun (j : Nat) =>
                          Prod.snd
                            (Prod.snd
                              (Go.Ev.S.at' (Go.Ev.S.mkl nl fun (j : Nat) => (tl (j + al), vl (j + al), gl (j + al)))
                                j)))
                        ov re fz st sv sg))))))) ≤
      List.length
        (Prod.snd
          (Prod.snd
            (Prod.snd
              (Prod.snd
                (Prod.snd
                  (Prod.snd
                    (Go.Ev.S.putS ca af
                      (List.length (Go.Ev.S.mkl nl fun (j : Nat) => (tl (j + al), vl (j + al), gl (j + al))))
                      (fun (j : Nat) =>
                        Prod.fst
                          (Go.Ev.S.at' (Go.Ev.S.mkl nl fun (j : Nat) => (tl (j + al), vl (j + al), gl (j + al))) j))
                      (fun (j : Nat) =>
                        Prod.fst
                          (Prod.snd
                            (Go.Ev.S.at' (Go.Ev.S.mkl nl fun (j : Nat) => (tl (j + al), vl (j + al), gl (j + al))) j)))
                      (fun (j : Nat) =>
                        Prod.snd
                          (Prod.snd
                            (Go.Ev.S.at' (Go.Ev.S.mkl nl fun (j : Nat) => (tl (j + al), vl (j + al), gl (j + al))) j)))
                      ov re fz st sv sg))))))) ∧
    List.length
          (Prod.snd
            (Prod.snd
              (Prod.snd
                (Prod.snd
                  (Prod.snd
                    (Prod.snd
                      (Go.Ev.S.putS ca af
                        (List.length (Go.Ev.S.mkl nl fun (j : Nat) => (tl (j + al), vl (j + al), gl (j + al))))
                        (fun (j : Nat) =>
                          Prod.fst
                            (Go.Ev.S.at' (Go.Ev.S.mkl nl fun (j : Nat) => (tl (j + al), vl (j + al), gl (j + al))) j))
                        (fun (j : Nat) =>
                          Prod.fst
                            (Prod.snd
                              (Go.Ev.S.at' (Go.Ev.S.mkl nl fun (j : Nat) => (tl (j + al), vl (j + al), gl (j + al)))
                                j)))
                        (fun (j : Nat) =>
                          Prod.snd
                            (Prod.snd
                              (Go.Ev.S.at' (Go.Ev.S.mkl nl fun (j : Nat) => (tl (j + al), vl (j + al), gl (j + al)))
                                j)))
                        ov re fz st sv sg))))))) ≤
        1000000 ∧
      0 +
            List.length
              (Prod.snd
                (Prod.snd
                  (Prod.snd
                    (Prod.snd
                      (Prod.snd
                        (Prod.snd
                          (Go.Ev.S.putS ca af nl (fun (j : Nat) => tl (j + al)) (fun (j : Nat) => vl (j + al))
                            (fun (j : Nat) => gl (j + al)) ov re fz st sv sg))))))) ≤
          List.length
            (Prod.snd
              (Prod.snd
                (Prod.snd
                  (Prod.snd
                    (Prod.snd
                      (Prod.snd
                        (Go.Ev.S.putS ca af nl (fun (j : Nat) => tl (j + al)) (fun (j : Nat) => vl (j + al))
                          (fun (j : Nat) => gl (j + al)) ov re fz st sv sg))))))) ∧
        List.length
            (Prod.snd
              (Prod.snd
                (Prod.snd
                  (Prod.snd
                    (Prod.snd
                      (Prod.snd
                        (Go.Ev.S.putS ca af nl (fun (j : Nat) => tl (j + al)) (fun (j : Nat) => vl (j + al))
                          (fun (j : Nat) => gl (j + al)) ov re fz st sv sg))))))) ≤
          1000000))
 (cond (Decidable.decide
  (Prod.fst
        (Go.Ev.S.putS ca af (List.length (Go.Ev.S.mkl nl fun (j : Nat) => (tl (j + al), vl (j + al), gl (j + al))))
          (fun (j : Nat) =>
            Prod.fst (Go.Ev.S.at' (Go.Ev.S.mkl nl fun (j : Nat) => (tl (j + al), vl (j + al), gl (j + al))) j))
          (fun (j : Nat) =>
            Prod.fst
              (Prod.snd (Go.Ev.S.at' (Go.Ev.S.mkl nl fun (j : Nat) => (tl (j + al), vl (j + al), gl (j + al))) j)))
          (fun (j : Nat) =>
            Prod.snd
              (Prod.snd (Go.Ev.S.at' (Go.Ev.S.mkl nl fun (j : Nat) => (tl (j + al), vl (j + al), gl (j + al))) j)))
          ov re fz st sv sg) =
      Prod.fst
        (Go.Ev.S.putS ca af nl (fun (j : Nat) => tl (j + al)) (fun (j : Nat) => vl (j + al))
          (fun (j : Nat) => gl (j + al)) ov re fz st sv sg) ∧
    Prod.fst
          (Prod.snd
            (Go.Ev.S.putS ca af (List.length (Go.Ev.S.mkl nl fun (j : Nat) => (tl (j + al), vl (j + al), gl (j + al))))
              (fun (j : Nat) =>
                Prod.fst (Go.Ev.S.at' (Go.Ev.S.mkl nl fun (j : Nat) => (tl (j + al), vl (j + al), gl (j + al))) j))
              (fun (j : Nat) =>
                Prod.fst
                  (Prod.snd (Go.Ev.S.at' (Go.Ev.S.mkl nl fun (j : Nat) => (tl (j + al), vl (j + al), gl (j + al))) j)))
              (fun (j : Nat) =>
                Prod.snd
                  (Prod.snd (Go.Ev.S.at' (Go.Ev.S.mkl nl fun (j : Nat) => (tl (j + al), vl (j + al), gl (j + al))) j)))
              ov re fz st sv sg)) =
        Prod.fst
          (Prod.snd
            (Go.Ev.S.putS ca af nl (fun (j : Nat) => tl (j + al)) (fun (j : Nat) => vl (j + al))
              (fun (j : Nat) => gl (j + al)) ov re fz st sv sg)) ∧
      Prod.fst
            (Prod.snd
              (Prod.snd
                (Go.Ev.S.putS ca af
                  (List.length (Go.Ev.S.mkl nl fun (j : Nat) => (tl (j + al), vl (j + al), gl (j + al))))
                  (fun (j : Nat) =>
                    Prod.fst (Go.Ev.S.at' (Go.Ev.S.mkl nl fun (j : Nat) => (tl (j + al), vl (j + al), gl (j + al))) j))
                  (fun (j : Nat) =>
                    Prod.fst
                      (Prod.snd
                        (Go.Ev.S.at' (Go.Ev.S.mkl nl fun (j : Nat) => (tl (j + al), vl (j + al), gl (j + al))) j)))
                  (fun (j : Nat) =>
                    Prod.snd
                      (Prod.snd
                        (Go.Ev.S.at' (Go.Ev.S.mkl nl fun (j : Nat) => (tl (j + al), vl (j + al), gl (j + al))) j)))
                  ov re fz st sv sg))) =
          Prod.fst
            (Prod.snd
              (Prod.snd
                (Go.Ev.S.putS ca af nl (fun (j : Nat) => tl (j + al)) (fun (j : Nat) => vl (j + al))
                  (fun (j : Nat) => gl (j + al)) ov re fz st sv sg))) ∧
        Prod.fst
              (Prod.snd
                (Prod.snd
                  (Prod.snd
                    (Go.Ev.S.putS ca af
                      (List.length (Go.Ev.S.mkl nl fun (j : Nat) => (tl (j + al), vl (j + al), gl (j + al))))
                      (fun (j : Nat) =>
                        Prod.fst
                          (Go.Ev.S.at' (Go.Ev.S.mkl nl fun (j : Nat) => (tl (j + al), vl (j + al), gl (j + al))) j))
                      (fun (j : Nat) =>
                        Prod.fst
                          (Prod.snd
                            (Go.Ev.S.at' (Go.Ev.S.mkl nl fun (j : Nat) => (tl (j + al), vl (j + al), gl (j + al))) j)))
                      (fun (j : Nat) =>
                        Prod.snd
                          (Prod.snd
                            (Go.Ev.S.at' (Go.Ev.S.mkl nl fun (j : Nat) => (tl (j + al), vl (j + al), gl (j + al))) j)))
                      ov re fz st sv sg)))) =
            Prod.fst
              (Prod.snd
                (Prod.snd
                  (Prod.snd
                    (Go.Ev.S.putS ca af nl (fun (j : Nat) => tl (j + al)) (fun (j : Nat) => vl (j + al))
                      (fun (j : Nat) => gl (j + al)) ov re fz st sv sg)))) ∧
          Prod.fst
                (Prod.snd
                  (Prod.snd
                    (Prod.snd
                      (Prod.snd
                        (Go.Ev.S.putS ca af
                          (List.length (Go.Ev.S.mkl nl fun (j : Nat) => (tl (j + al), vl (j + al), gl (j + al))))
                          (fun (j : Nat) =>
                            Prod.fst
                              (Go.Ev.S.at' (Go.Ev.S.mkl nl fun (j : Nat) => (tl (j + al), vl (j + al), gl (j + al))) j))
                          (fun (j : Nat) =>
                            Prod.fst
                              (Prod.snd
                                (Go.Ev.S.at' (Go.Ev.S.mkl nl fun (j : Nat) => (tl (j + al), vl (j + al), gl (j + al)))
                                  j)))
                          (fun (j : Nat) =>
                            Prod.snd
                              (Prod.snd
                                (Go.Ev.S.at' (Go.Ev.S.mkl nl fun (j : Nat) => (tl (j + al), vl (j + al), gl (j + al)))
                                  j)))
                          ov re fz st sv sg))))) =
              Prod.fst
                (Prod.snd
                  (Prod.snd
                    (Prod.snd
                      (Prod.snd
                        (Go.Ev.S.putS ca af nl (fun (j : Nat) => tl (j + al)) (fun (j : Nat) => vl (j + al))
                          (fun (j : Nat) => gl (j + al)) ov re fz st sv sg))))) ∧
            (Go.Ev.S.mkl
                (List.length
                  (Prod.snd
                    (Prod.snd
                      (Prod.snd
                        (Prod.snd
                          (Prod.snd
                            (Prod.snd
                              (Go.Ev.S.putS ca af
                                (List.length (Go.Ev.S.mkl nl fun (j : Nat) => (tl (j + al), vl (j + al), gl (j + al))))
                                (fun (j : Nat) =>
                                  Prod.fst
                                    (Go.Ev.S.at'
                                      (Go.Ev.S.mkl nl fun (j : Nat) => (tl (j + al), vl (j + al), gl (j + al))) j))
                                (fun (j : Nat) =>
                                  Prod.fst
                                    (Prod.snd
                                      (Go.Ev.S.at'
                                        (Go.Ev.S.mkl nl fun (j : Nat) => (tl (j + al), vl (j + al), gl (j + al))) j)))
                                (fun (j : Nat) =>
                                  Prod.snd
                                    (Prod.snd
                                      (Go.Ev.S.at'
                                        (Go.Ev.S.mkl nl fun (j : Nat) => (tl (j + al), vl (j + al), gl (j + al))) j)))
                                ov re fz st sv sg))))))))
                fun (j : Nat) =>
                (Prod.fst
                    (Go.Ev.S.at'
                      (Prod.snd
                        (Prod.snd
                          (Prod.snd
                            (Prod.snd
                              (Prod.snd
                                (Prod.snd
                                  (Go.Ev.S.putS ca af
                                    (List.length
                                      (Go.Ev.S.mkl nl fun (j : Nat) => (tl (j + al), vl (j + al), gl (j + al))))
                                    (fun (j : Nat) =>
                                      Prod.fst
                                        (Go.Ev.S.at'
                                          (Go.Ev.S.mkl nl fun (j : Nat) => (tl (j + al), vl (j + al), gl (j + al))) j))
                                    (fun (j : Nat) =>
                                      Prod.fst
                                        (Prod.snd
                                          (Go.Ev.S.at'
                                            (Go.Ev.S.mkl nl fun (j : Nat) => (tl (j + al), vl (j + al), gl (j + al)))
                                            j)))
                                    (fun (j : Nat) =>
                                      Prod.snd
                                        (Prod.snd
                                          (Go.Ev.S.at'
                                            (Go.Ev.S.mkl nl fun (j : Nat) => (tl (j + al), vl (j + al), gl (j + al)))
                                            j)))
                                    ov re fz st sv sg)))))))
                      j),
                  Prod.fst
                    (Prod.snd
                      (Go.Ev.S.at'
                        (Prod.snd
                          (Prod.snd
                            (Prod.snd
                              (Prod.snd
                                (Prod.snd
                                  (Prod.snd
                                    (Go.Ev.S.putS ca af
                                      (List.length
                                        (Go.Ev.S.mkl nl fun (j : Nat) => (tl (j + al), vl (j + al), gl (j + al))))
                                      (fun (j : Nat) =>
                                        Prod.fst
                                          (Go.Ev.S.at'
                                            (Go.Ev.S.mkl nl fun (j : Nat) => (tl (j + al), vl (j + al), gl (j + al)))
                                            j))
                                      (fun (j : Nat) =>
                                        Prod.fst
                                          (Prod.snd
                                            (Go.Ev.S.at'
                                              (Go.Ev.S.mkl nl fun (j : Nat) => (tl (j + al), vl (j + al), gl (j + al)))
                                              j)))
                                      (fun (j : Nat) =>
                                        Prod.snd
                                          (Prod.snd
                                            (Go.Ev.S.at'
                                              (Go.Ev.S.mkl nl fun (j : Nat) => (tl (j + al), vl (j + al), gl (j + al)))
                                              j)))
                                      ov re fz st sv sg)))))))
                        j)),
                  Prod.snd
                    (Prod.snd
                      (Go.Ev.S.at'
                        (Prod.snd
                          (Prod.snd
                            (Prod.snd
                              (Prod.snd
                                (Prod.snd
                                  (Prod.snd
                                    (Go.Ev.S.putS ca af
                                      (List.length
                                        (Go.Ev.S.mkl nl fun (j : Nat) => (tl (j + al), vl (j + al), gl (j + al))))
                                      (fun (j : Nat) =>
                                        Prod.fst
                                          (Go.Ev.S.at'
                                            (Go.Ev.S.mkl nl fun (j : Nat) => (tl (j + al), vl (j + al), gl (j + al)))
                                            j))
                                      (fun (j : Nat) =>
                                        Prod.fst
                                          (Prod.snd
                                            (Go.Ev.S.at'
                                              (Go.Ev.S.mkl nl fun (j : Nat) => (tl (j + al), vl (j + al), gl (j + al)))
                                              j)))
                                      (fun (j : Nat) =>
                                        Prod.snd
                                          (Prod.snd
                                            (Go.Ev.S.at'
                                              (Go.Ev.S.mkl nl fun (j : Nat) => (tl (j + al), vl (j + al), gl (j + al)))
                                              j)))
                                      ov re fz st sv sg)))))))
                        j)))) =
              Go.Ev.S.mkl
                (List.length
                  (Prod.snd
                    (Prod.snd
                      (Prod.snd
                        (Prod.snd
                          (Prod.snd
                            (Prod.snd
                              (Go.Ev.S.putS ca af nl (fun (j : Nat) => tl (j + al)) (fun (j : Nat) => vl (j + al))
                                (fun (j : Nat) => gl (j + al)) ov re fz st sv sg))))))))
                fun (j : Nat) =>
                (Prod.fst
                    (Go.Ev.S.at'
                      (Prod.snd
                        (Prod.snd
                          (Prod.snd
                            (Prod.snd
                              (Prod.snd
                                (Prod.snd
                                  (Go.Ev.S.putS ca af nl (fun (j : Nat) => tl (j + al)) (fun (j : Nat) => vl (j + al))
                                    (fun (j : Nat) => gl (j + al)) ov re fz st sv sg)))))))
                      j),
                  Prod.fst
                    (Prod.snd
                      (Go.Ev.S.at'
                        (Prod.snd
                          (Prod.snd
                            (Prod.snd
                              (Prod.snd
                                (Prod.snd
                                  (Prod.snd
                                    (Go.Ev.S.putS ca af nl (fun (j : Nat) => tl (j + al)) (fun (j : Nat) => vl (j + al))
                                      (fun (j : Nat) => gl (j + al)) ov re fz st sv sg)))))))
                        j)),
                  Prod.snd
                    (Prod.snd
                      (Go.Ev.S.at'
                        (Prod.snd
                          (Prod.snd
                            (Prod.snd
                              (Prod.snd
                                (Prod.snd
                                  (Prod.snd
                                    (Go.Ev.S.putS ca af nl (fun (j : Nat) => tl (j + al)) (fun (j : Nat) => vl (j + al))
                                      (fun (j : Nat) => gl (j + al)) ov re fz st sv sg)))))))
                        j)))))
 (cond (Decidable.decide
  (0 +
        List.length
          (Prod.snd
            (Prod.snd
              (if
                  Go.Ev.S.vB ca af
                      (List.length (Go.Ev.S.mkl nl fun (j : Nat) => (tl (j + al), vl (j + al), gl (j + al))))
                      (fun (j : Nat) =>
                        Prod.fst
                          (Go.Ev.S.at' (Go.Ev.S.mkl nl fun (j : Nat) => (tl (j + al), vl (j + al), gl (j + al))) j))
                      (fun (j : Nat) =>
                        Prod.fst
                          (Prod.snd
                            (Go.Ev.S.at' (Go.Ev.S.mkl nl fun (j : Nat) => (tl (j + al), vl (j + al), gl (j + al))) j)))
                      ov re fz =
                    (0 : Int) then
                (ov, (0 : Int),
                  Go.Ev.S.mkl (List.length (Go.Ev.S.mkl nl fun (j : Nat) => (tl (j + al), vl (j + al), gl (j + al))))
                    fun (j : Nat) =>
                    (Prod.fst (Go.Ev.S.at' (Go.Ev.S.mkl nl fun (j : Nat) => (tl (j + al), vl (j + al), gl (j + al))) j),
                      Prod.fst
                        (Prod.snd
                          (Go.Ev.S.at' (Go.Ev.S.mkl nl fun (j : Nat) => (tl (j + al), vl (j + al), gl (j + al))) j)),
                      Prod.snd
                        (Prod.snd
                          (Go.Ev.S.at' (Go.Ev.S.mkl nl fun (j : Nat) => (tl (j + al), vl (j + al), gl (j + al))) j))))
              else
                ((0 : Int),
                  Go.Ev.S.vB ca af
                    (List.length (Go.Ev.S.mkl nl fun (j : Nat) => (tl (j + al), vl (j + al), gl (j + al))))
                    (fun (j : Nat) =>
                      Prod.fst
                        (Go.Ev.S.at' (Go.Ev.S.mkl nl fun (j : Nat) => (tl (j + al), vl (j + al), gl (j + al))) j))
                    (fun (j : Nat) =>
                      Prod.fst
                        (Prod.snd
                          (Go.Ev.S.at' (Go.Ev.S.mkl nl fun (j : Nat) => (tl (j + al), vl (j + al), gl (j + al))) j)))
                    ov re fz,
                  [])))) ≤
      List.length
        (Prod.snd
          (Prod.snd
            (if
                Go.Ev.S.vB ca af (List.length (Go.Ev.S.mkl nl fun (j : Nat) => (tl (j + al), vl (j + al), gl (j + al))))
                    (fun (j : Nat) =>
                      Prod.fst
                        (Go.Ev.S.at' (Go.Ev.S.mkl nl fun (j : Nat) => (tl (j + al), vl (j + al), gl (j + al))) j))
                    (fun (j : Nat) =>
                      Prod.fst
                        (Prod.snd
                          (Go.Ev.S.at' (Go.Ev.S.mkl nl fun (j : Nat) => (tl (j + al), vl (j + al), gl (j + al))) j)))
                    ov re fz =
                  (0 : Int) then
              (ov, (0 : Int),
                Go.Ev.S.mkl (List.length (Go.Ev.S.mkl nl fun (j : Nat) => (tl (j + al), vl (j + al), gl (j + al))))
                  fun (j : Nat) =>
                  (Prod.fst (Go.Ev.S.at' (Go.Ev.S.mkl nl fun (j : Nat) => (tl (j + al), vl (j + al), gl (j + al))) j),
                    Prod.fst
                      (Prod.snd
                        (Go.Ev.S.at' (Go.Ev.S.mkl nl fun (j : Nat) => (tl (j + al), vl (j + al), gl (j + al))) j)),
                    Prod.snd
                      (Prod.snd
                        (Go.Ev.S.at' (Go.Ev.S.mkl nl fun (j : Nat) => (tl (j + al), vl (j + al), gl (j + al))) j))))
            else
              ((0 : Int),
                Go.Ev.S.vB ca af (List.length (Go.Ev.S.mkl nl fun (j : Nat) => (tl (j + al), vl (j + al), gl (j + al))))
                  (fun (j : Nat) =>
                    Prod.fst (Go.Ev.S.at' (Go.Ev.S.mkl nl fun (j : Nat) => (tl (j + al), vl (j + al), gl (j + al))) j))
                  (fun (j : Nat) =>
                    Prod.fst
                      (Prod.snd
                        (Go.Ev.S.at' (Go.Ev.S.mkl nl fun (j : Nat) => (tl (j + al), vl (j + al), gl (j + al))) j)))
                  ov re fz,
                [])))) ∧
    List.length
          (Prod.snd
            (Prod.snd
              (if
                  Go.Ev.S.vB ca af
                      (List.length (Go.Ev.S.mkl nl fun (j : Nat) => (tl (j + al), vl (j + al), gl (j + al))))
                      (fun (j : Nat) =>
                        Prod.fst
                          (Go.Ev.S.at' (Go.Ev.S.mkl nl fun (j : Nat) => (tl (j + al), vl (j + al), gl (j + al))) j))
                      (fun (j : Nat) =>
                        Prod.fst
                          (Prod.snd
                            (Go.Ev.S.at' (Go.Ev.S.mkl nl fun (j : Nat) => (tl (j + al), vl (j + al), gl (j + al))) j)))
                      ov re fz =
                    (0 : Int) then
                (ov, (0 : Int),
                  Go.Ev.S.mkl (List.length (Go.Ev.S.mkl nl fun (j : Nat) => (tl (j + al), vl (j + al), gl (j + al))))
                    fun (j : Nat) =>
                    (Prod.fst (Go.Ev.S.at' (Go.Ev.S.mkl nl fun (j : Nat) => (tl (j + al), vl (j + al), gl (j + al))) j),
                      Prod.fst
                        (Prod.snd
                          (Go.Ev.S.at' (Go.Ev.S.mkl nl fun (j : Nat) => (tl (j + al), vl (j + al), gl (j + al))) j)),
                      Prod.snd
                        (Prod.snd
                          (Go.Ev.S.at' (Go.Ev.S.mkl nl fun (j : Nat) => (tl (j + al), vl (j + al), gl (j + al))) j))))
              else
                ((0 : Int),
                  Go.Ev.S.vB ca af
                    (List.length (Go.Ev.S.mkl nl fun (j : Nat) => (tl (j + al), vl (j + al), gl (j + al))))
                    (fun (j : Nat) =>
                      Prod.fst
                        (Go.Ev.S.at' (Go.Ev.S.mkl nl fun (j : Nat) => (tl (j + al), vl (j + al), gl (j + al))) j))
                    (fun (j : Nat) =>
                      Prod.fst
                        (Prod.snd
                          (Go.Ev.S.at' (Go.Ev.S.mkl nl fun (j : Nat) => (tl (j + al), vl (j + al), gl (j + al))) j)))
                    ov re fz,
                  [])))) ≤
        1000000 ∧
      Prod.fst
              (if
                  Go.Ev.S.vB ca af nl (fun (j : Nat) => tl (j + al)) (fun (j : Nat) => vl (j + al)) ov re fz =
                    (0 : Int) then
                (al, nl, ov, (0 : Int))
              else
                (0, 0, (0 : Int),
                  Go.Ev.S.vB ca af nl (fun (j : Nat) => tl (j + al)) (fun (j : Nat) => vl (j + al)) ov re fz)) +
            Prod.fst
              (Prod.snd
                (if
                    Go.Ev.S.vB ca af nl (fun (j : Nat) => tl (j + al)) (fun (j : Nat) => vl (j + al)) ov re fz =
                      (0 : Int) then
                  (al, nl, ov, (0 : Int))
                else
                  (0, 0, (0 : Int),
                    Go.Ev.S.vB ca af nl (fun (j : Nat) => tl (j + al)) (fun (j : Nat) => vl (j + al)) ov re fz))) ≤
          ml ∧
        Prod.fst
            (Prod.snd
              (if
                  Go.Ev.S.vB ca af nl (fun (j : Nat) => tl (j + al)) (fun (j : Nat) => vl (j + al)) ov re fz =
                    (0 : Int) then
                (al, nl, ov, (0 : Int))
              else
                (0, 0, (0 : Int),
                  Go.Ev.S.vB ca af nl (fun (j : Nat) => tl (j + al)) (fun (j : Nat) => vl (j + al)) ov re fz))) ≤
          1000000))
 (cond (Decidable.decide
  ((Go.Ev.S.mkl
      (List.length
        (Prod.snd
          (Prod.snd
            (if
                Go.Ev.S.vB ca af (List.length (Go.Ev.S.mkl nl fun (j : Nat) => (tl (j + al), vl (j + al), gl (j + al))))
                    (fun (j : Nat) =>
                      Prod.fst
                        (Go.Ev.S.at' (Go.Ev.S.mkl nl fun (j : Nat) => (tl (j + al), vl (j + al), gl (j + al))) j))
                    (fun (j : Nat) =>
                      Prod.fst
                        (Prod.snd
                          (Go.Ev.S.at' (Go.Ev.S.mkl nl fun (j : Nat) => (tl (j + al), vl (j + al), gl (j + al))) j)))
                    ov re fz =
                  (0 : Int) then
              (ov, (0 : Int),
                Go.Ev.S.mkl (List.length (Go.Ev.S.mkl nl fun (j : Nat) => (tl (j + al), vl (j + al), gl (j + al))))
                  fun (j : Nat) =>
                  (Prod.fst (Go.Ev.S.at' (Go.Ev.S.mkl nl fun (j : Nat) => (tl (j + al), vl (j + al), gl (j + al))) j),
                    Prod.fst
                      (Prod.snd
                        (Go.Ev.S.at' (Go.Ev.S.mkl nl fun (j : Nat) => (tl (j + al), vl (j + al), gl (j + al))) j)),
                    Prod.snd
                      (Prod.snd
                        (Go.Ev.S.at' (Go.Ev.S.mkl nl fun (j : Nat) => (tl (j + al), vl (j + al), gl (j + al))) j))))
            else
              ((0 : Int),
                Go.Ev.S.vB ca af (List.length (Go.Ev.S.mkl nl fun (j : Nat) => (tl (j + al), vl (j + al), gl (j + al))))
                  (fun (j : Nat) =>
                    Prod.fst (Go.Ev.S.at' (Go.Ev.S.mkl nl fun (j : Nat) => (tl (j + al), vl (j + al), gl (j + al))) j))
                  (fun (j : Nat) =>
                    Prod.fst
                      (Prod.snd
                        (Go.Ev.S.at' (Go.Ev.S.mkl nl fun (j : Nat) => (tl (j + al), vl (j + al), gl (j + al))) j)))
                  ov re fz,
                [])))))
      fun (j : Nat) =>
      (Prod.fst
          (Go.Ev.S.at'
            (Prod.snd
              (Prod.snd
                (if
                    Go.Ev.S.vB ca af
                        (List.length (Go.Ev.S.mkl nl fun (j : Nat) => (tl (j + al), vl (j + al), gl (j + al))))
                        (fun (j : Nat) =>
                          Prod.fst
                            (Go.Ev.S.at' (Go.Ev.S.mkl nl fun (j : Nat) => (tl (j + al), vl (j + al), gl (j + al))) j))
                        (fun (j : Nat) =>
                          Prod.fst
                            (Prod.snd
                              (Go.Ev.S.at' (Go.Ev.S.mkl nl fun (j : Nat) => (tl (j + al), vl (j + al), gl (j + al)))
                                j)))
                        ov re fz =
                      (0 : Int) then
                  (ov, (0 : Int),
                    Go.Ev.S.mkl (List.length (Go.Ev.S.mkl nl fun (j : Nat) => (tl (j + al), vl (j + al), gl (j + al))))
                      fun (j : Nat) =>
                      (Prod.fst
                          (Go.Ev.S.at' (Go.Ev.S.mkl nl fun (j : Nat) => (tl (j + al), vl (j + al), gl (j + al))) j),
                        Prod.fst
                          (Prod.snd
                            (Go.Ev.S.at' (Go.Ev.S.mkl nl fun (j : Nat) => (tl (j + al), vl (j + al), gl (j + al))) j)),
                        Prod.snd
                          (Prod.snd
                            (Go.Ev.S.at' (Go.Ev.S.mkl nl fun (j : Nat) => (tl (j + al), vl (j + al), gl (j + al))) j))))
                else
                  ((0 : Int),
                    Go.Ev.S.vB ca af
                      (List.length (Go.Ev.S.mkl nl fun (j : Nat) => (tl (j + al), vl (j + al), gl (j + al))))
                      (fun (j : Nat) =>
                        Prod.fst
                          (Go.Ev.S.at' (Go.Ev.S.mkl nl fun (j : Nat) => (tl (j + al), vl (j + al), gl (j + al))) j))
                      (fun (j : Nat) =>
                        Prod.fst
                          (Prod.snd
                            (Go.Ev.S.at' (Go.Ev.S.mkl nl fun (j : Nat) => (tl (j + al), vl (j + al), gl (j + al))) j)))
                      ov re fz,
                    []))))
            j),
        Prod.fst
          (Prod.snd
            (Go.Ev.S.at'
              (Prod.snd
                (Prod.snd
                  (if
                      Go.Ev.S.vB ca af
                          (List.length (Go.Ev.S.mkl nl fun (j : Nat) => (tl (j + al), vl (j + al), gl (j + al))))
                          (fun (j : Nat) =>
                            Prod.fst
                              (Go.Ev.S.at' (Go.Ev.S.mkl nl fun (j : Nat) => (tl (j + al), vl (j + al), gl (j + al))) j))
                          (fun (j : Nat) =>
                            Prod.fst
                              (Prod.snd
                                (Go.Ev.S.at' (Go.Ev.S.mkl nl fun (j : Nat) => (tl (j + al), vl (j + al), gl (j + al)))
                                  j)))
                          ov re fz =
                        (0 : Int) then
                    (ov, (0 : Int),
                      Go.Ev.S.mkl
                        (List.length (Go.Ev.S.mkl nl fun (j : Nat) => (tl (j + al), vl (j + al), gl (j + al))))
                        fun (j : Nat) =>
                        (Prod.fst
                            (Go.Ev.S.at' (Go.Ev.S.mkl nl fun (j : Nat) => (tl (j + al), vl (j + al), gl (j + al))) j),
                          Prod.fst
                            (Prod.snd
                              (Go.Ev.S.at' (Go.Ev.S.mkl nl fun (j : Nat) => (tl (j + al), vl (j + al), gl (j + al)))
                                j)),
                          Prod.snd
                            (Prod.snd
                              (Go.Ev.S.at' (Go.Ev.S.mkl nl fun (j : Nat) => (tl (j + al), vl (j + al), gl (j + al)))
                                j))))
                  else
                    ((0 : Int),
                      Go.Ev.S.vB ca af
                        (List.length (Go.Ev.S.mkl nl fun (j : Nat) => (tl (j + al), vl (j + al), gl (j + al))))
                        (fun (j : Nat) =>
                          Prod.fst
                            (Go.Ev.S.at' (Go.Ev.S.mkl nl fun (j : Nat) => (tl (j + al), vl (j + al), gl (j + al))) j))
                        (fun (j : Nat) =>
                          Prod.fst
                            (Prod.snd
                              (Go.Ev.S.at' (Go.Ev.S.mkl nl fun (j : Nat) => (tl (j + al), vl (j + al), gl (j + al)))
                                j)))
                        ov re fz,
                      []))))
              j)),
        Prod.snd
          (Prod.snd
            (Go.Ev.S.at'
              (Prod.snd
                (Prod.snd
                  (if
                      Go.Ev.S.vB ca af
                          (List.length (Go.Ev.S.mkl nl fun (j : Nat) => (tl (j + al), vl (j + al), gl (j + al))))
                          (fun (j : Nat) =>
                            Prod.fst
                              (Go.Ev.S.at' (Go.Ev.S.mkl nl fun (j : Nat) => (tl (j + al), vl (j + al), gl (j + al))) j))
                          (fun (j : Nat) =>
                            Prod.fst
                              (Prod.snd
                                (Go.Ev.S.at' (Go.Ev.S.mkl nl fun (j : Nat) => (tl (j + al), vl (j + al), gl (j + al)))
                                  j)))
                          ov re fz =
                        (0 : Int) then
                    (ov, (0 : Int),
                      Go.Ev.S.mkl
                        (List.length (Go.Ev.S.mkl nl fun (j : Nat) => (tl (j + al), vl (j + al), gl (j + al))))
                        fun (j : Nat) =>
                        (Prod.fst
                            (Go.Ev.S.at' (Go.Ev.S.mkl nl fun (j : Nat) => (tl (j + al), vl (j + al), gl (j + al))) j),
                          Prod.fst
                            (Prod.snd
                              (Go.Ev.S.at' (Go.Ev.S.mkl nl fun (j : Nat) => (tl (j + al), vl (j + al), gl (j + al)))
                                j)),
                          Prod.snd
                            (Prod.snd
                              (Go.Ev.S.at' (Go.Ev.S.mkl nl fun (j : Nat) => (tl (j + al), vl (j + al), gl (j + al)))
                                j))))
                  else
                    ((0 : Int),
                      Go.Ev.S.vB ca af
                        (List.length (Go.Ev.S.mkl nl fun (j : Nat) => (tl (j + al), vl (j + al), gl (j + al))))
                        (fun (j : Nat) =>
                          Prod.fst
                            (Go.Ev.S.at' (Go.Ev.S.mkl nl fun (j : Nat) => (tl (j + al), vl (j + al), gl (j + al))) j))
                        (fun (j : Nat) =>
                          Prod.fst
                            (Prod.snd
                              (Go.Ev.S.at' (Go.Ev.S.mkl nl fun (j : Nat) => (tl (j + al), vl (j + al), gl (j + al)))
                                j)))
                        ov re fz,
                      []))))
              j)))) =
    Go.Ev.S.mkl
      (Prod.fst
        (Prod.snd
          (if
              Go.Ev.S.vB ca af nl (fun (j : Nat) => tl (j + al)) (fun (j : Nat) => vl (j + al)) ov re fz =
                (0 : Int) then
            (al, nl, ov, (0 : Int))
          else
            (0, 0, (0 : Int),
              Go.Ev.S.vB ca af nl (fun (j : Nat) => tl (j + al)) (fun (j : Nat) => vl (j + al)) ov re fz))))
      fun (j : Nat) =>
      (tl
          (j +
            Prod.fst
              (if
                  Go.Ev.S.vB ca af nl (fun (j : Nat) => tl (j + al)) (fun (j : Nat) => vl (j + al)) ov re fz =
                    (0 : Int) then
                (al, nl, ov, (0 : Int))
              else
                (0, 0, (0 : Int),
                  Go.Ev.S.vB ca af nl (fun (j : Nat) => tl (j + al)) (fun (j : Nat) => vl (j + al)) ov re fz))),
        vl
          (j +
            Prod.fst
              (if
                  Go.Ev.S.vB ca af nl (fun (j : Nat) => tl (j + al)) (fun (j : Nat) => vl (j + al)) ov re fz =
                    (0 : Int) then
                (al, nl, ov, (0 : Int))
              else
                (0, 0, (0 : Int),
                  Go.Ev.S.vB ca af nl (fun (j : Nat) => tl (j + al)) (fun (j : Nat) => vl (j + al)) ov re fz))),
        gl
          (j +
            Prod.fst
              (if
                  Go.Ev.S.vB ca af nl (fun (j : Nat) => tl (j + al)) (fun (j : Nat) => vl (j + al)) ov re fz =
                    (0 : Int) then
                (al, nl, ov, (0 : Int))
              else
                (0, 0, (0 : Int),
                  Go.Ev.S.vB ca af nl (fun (j : Nat) => tl (j + al)) (fun (j : Nat) => vl (j + al)) ov re fz))))))
 (cond (Prod.fst
    (if
        Go.Ev.S.vB ca af (List.length (Go.Ev.S.mkl nl fun (j : Nat) => (tl (j + al), vl (j + al), gl (j + al))))
            (fun (j : Nat) =>
              Prod.fst (Go.Ev.S.at' (Go.Ev.S.mkl nl fun (j : Nat) => (tl (j + al), vl (j + al), gl (j + al))) j))
            (fun (j : Nat) =>
              Prod.fst
                (Prod.snd (Go.Ev.S.at' (Go.Ev.S.mkl nl fun (j : Nat) => (tl (j + al), vl (j + al), gl (j + al))) j)))
            ov re fz =
          (0 : Int) then
      (ov, (0 : Int),
        Go.Ev.S.mkl (List.length (Go.Ev.S.mkl nl fun (j : Nat) => (tl (j + al), vl (j + al), gl (j + al))))
          fun (j : Nat) =>
          (Prod.fst (Go.Ev.S.at' (Go.Ev.S.mkl nl fun (j : Nat) => (tl (j + al), vl (j + al), gl (j + al))) j),
            Prod.fst
              (Prod.snd (Go.Ev.S.at' (Go.Ev.S.mkl nl fun (j : Nat) => (tl (j + al), vl (j + al), gl (j + al))) j)),
            Prod.snd
              (Prod.snd (Go.Ev.S.at' (Go.Ev.S.mkl nl fun (j : Nat) => (tl (j + al), vl (j + al), gl (j + al))) j))))
    else
      ((0 : Int),
        Go.Ev.S.vB ca af (List.length (Go.Ev.S.mkl nl fun (j : Nat) => (tl (j + al), vl (j + al), gl (j + al))))
          (fun (j : Nat) =>
            Prod.fst (Go.Ev.S.at' (Go.Ev.S.mkl nl fun (j : Nat) => (tl (j + al), vl (j + al), gl (j + al))) j))
          (fun (j : Nat) =>
            Prod.fst
              (Prod.snd (Go.Ev.S.at' (Go.Ev.S.mkl nl fun (j : Nat) => (tl (j + al), vl (j + al), gl (j + al))) j)))
          ov re fz,
        [])) ==
  Prod.fst
    (Prod.snd
      (Prod.snd
        (if Go.Ev.S.vB ca af nl (fun (j : Nat) => tl (j + al)) (fun (j : Nat) => vl (j + al)) ov re fz = (0 : Int) then
          (al, nl, ov, (0 : Int))
        else
          (0, 0, (0 : Int),
            Go.Ev.S.vB ca af nl (fun (j : Nat) => tl (j + al)) (fun (j : Nat) => vl (j + al)) ov re fz)))))
 (cond (Prod.fst
    (Prod.snd
      (if
          Go.Ev.S.vB ca af (List.length (Go.Ev.S.mkl nl fun (j : Nat) => (tl (j + al), vl (j + al), gl (j + al))))
              (fun (j : Nat) =>
                Prod.fst (Go.Ev.S.at' (Go.Ev.S.mkl nl fun (j : Nat) => (tl (j + al), vl (j + al), gl (j + al))) j))
              (fun (j : Nat) =>
                Prod.fst
                  (Prod.snd (Go.Ev.S.at' (Go.Ev.S.mkl nl fun (j : Nat) => (tl (j + al), vl (j + al), gl (j + al))) j)))
              ov re fz =
            (0 : Int) then
        (ov, (0 : Int),
          Go.Ev.S.mkl (List.length (Go.Ev.S.mkl nl fun (j : Nat) => (tl (j + al), vl (j + al), gl (j + al))))
            fun (j : Nat) =>
            (Prod.fst (Go.Ev.S.at' (Go.Ev.S.mkl nl fun (j : Nat) => (tl (j + al), vl (j + al), gl (j + al))) j),
              Prod.fst
                (Prod.snd (Go.Ev.S.at' (Go.Ev.S.mkl nl fun (j : Nat) => (tl (j + al), vl (j + al), gl (j + al))) j)),
              Prod.snd
                (Prod.snd (Go.Ev.S.at' (Go.Ev.S.mkl nl fun (j : Nat) => (tl (j + al), vl (j + al), gl (j + al))) j))))
      else
        ((0 : Int),
          Go.Ev.S.vB ca af (List.length (Go.Ev.S.mkl nl fun (j : Nat) => (tl (j + al), vl (j + al), gl (j + al))))
            (fun (j : Nat) =>
              Prod.fst (Go.Ev.S.at' (Go.Ev.S.mkl nl fun (j : Nat) => (tl (j + al), vl (j + al), gl (j + al))) j))
            (fun (j : Nat) =>
              Prod.fst
                (Prod.snd (Go.Ev.S.at' (Go.Ev.S.mkl nl fun (j : Nat) => (tl (j + al), vl (j + al), gl (j + al))) j)))
            ov re fz,
          []))) ==
  Prod.snd
    (Prod.snd
      (Prod.snd
        (if Go.Ev.S.vB ca af nl (fun (j : Nat) => tl (j + al)) (fun (j : Nat) => vl (j + al)) ov re fz = (0 : Int) then
          (al, nl, ov, (0 : Int))
        else
          (0, 0, (0 : Int),
            Go.Ev.S.vB ca af nl (fun (j : Nat) => tl (j + al)) (fun (j : Nat) => vl (j + al)) ov re fz)))))
 (cond (Decidable.decide
  (0 ≤ 0 ∧ 0 ≤ 1000000 ∧ 0 ≤ 0 ∧ 0 ≤ 1000000))
 (cond (Decidable.decide
  (Prod.fst (Go.Ev.S.newS ca af) = Prod.fst (Go.Ev.S.newS ca af) ∧
    Prod.fst (Prod.snd (Go.Ev.S.newS ca af)) = Prod.fst (Prod.snd (Go.Ev.S.newS ca af)) ∧
      (0 : Int) = (0 : Int) ∧
        Prod.fst (Prod.snd (Prod.snd (Go.Ev.S.newS ca af))) = Prod.fst (Prod.snd (Prod.snd (Go.Ev.S.newS ca af))) ∧
          Bool.false = Bool.false ∧
            (Go.Ev.S.mkl (0) fun (j : Nat) => ((0 : Int), (0 : Int), Bool.false)) =
              Go.Ev.S.mkl (0) fun (j : Nat) => ((0 : Int), (0 : Int), Bool.false)))
 (cond (Prod.snd (Prod.snd (Prod.snd (Go.Ev.S.newS ca af))) == Prod.snd (Prod.snd (Prod.snd (Go.Ev.S.newS ca af))))
 (Kret (Go.Ev.PV.tf Bool.true) ([[(0, Bool.false,
      Go.Ev.Blk.cols ml [Go.Ev.Col.int Go.IntKind.i64 tl, Go.Ev.Col.int Go.IntKind.i64 vl, Go.Ev.Col.bool gl])]]) (28))
 (Kret (Go.Ev.PV.tf Bool.false) ([[(0, Bool.false,
      Go.Ev.Blk.cols ml [Go.Ev.Col.int Go.IntKind.i64 tl, Go.Ev.Col.int Go.IntKind.i64 vl, Go.Ev.Col.bool gl])]]) (28)))
 (Kret (Go.Ev.PV.tf Bool.false) ([[(0, Bool.false,
      Go.Ev.Blk.cols ml [Go.Ev.Col.int Go.IntKind.i64 tl, Go.Ev.Col.int Go.IntKind.i64 vl, Go.Ev.Col.bool gl])]]) (28)))
 (False))
 (Kret (Go.Ev.PV.tf Bool.false) ([[(0, Bool.false,
      Go.Ev.Blk.cols ml [Go.Ev.Col.int Go.IntKind.i64 tl, Go.Ev.Col.int Go.IntKind.i64 vl, Go.Ev.Col.bool gl])]]) (27)))
 (Kret (Go.Ev.PV.tf Bool.false) ([[(0, Bool.false,
      Go.Ev.Blk.cols ml [Go.Ev.Col.int Go.IntKind.i64 tl, Go.Ev.Col.int Go.IntKind.i64 vl, Go.Ev.Col.bool gl])]]) (27)))
 (Kret (Go.Ev.PV.tf Bool.false) ([[(0, Bool.false,
      Go.Ev.Blk.cols ml [Go.Ev.Col.int Go.IntKind.i64 tl, Go.Ev.Col.int Go.IntKind.i64 vl, Go.Ev.Col.bool gl])]]) (27)))
 (False))
 (Kret (Go.Ev.PV.tf Bool.false) ([[(0, Bool.false,
      Go.Ev.Blk.cols ml [Go.Ev.Col.int Go.IntKind.i64 tl, Go.Ev.Col.int Go.IntKind.i64 vl, Go.Ev.Col.bool gl])]]) (26)))
 (False))
 (Kret (Go.Ev.PV.tf Bool.false) ([[(0, Bool.false,
      Go.Ev.Blk.cols ml [Go.Ev.Col.int Go.IntKind.i64 tl, Go.Ev.Col.int Go.IntKind.i64 vl, Go.Ev.Col.bool gl])]]) (25)))
 (Kret (Go.Ev.PV.tf Bool.false) ([[(0, Bool.false,
      Go.Ev.Blk.cols ml [Go.Ev.Col.int Go.IntKind.i64 tl, Go.Ev.Col.int Go.IntKind.i64 vl, Go.Ev.Col.bool gl])]]) (25)))
 (False))
 (False))
 (False))
 (False))
 (False))
 (False))
 (False))
 (False))
 (False))
 (False))
 (False)))
 (cond (Bool.true)
 (cond (Bool.true)
 (Kret (Go.Ev.PV.tf Bool.true) ([[(0, Bool.false,
      Go.Ev.Blk.cols ml [Go.Ev.Col.int Go.IntKind.i64 tl, Go.Ev.Col.int Go.IntKind.i64 vl, Go.Ev.Col.bool gl])]]) (5))
 (Kret (Go.Ev.PV.tf Bool.false) ([[(0, Bool.false,
      Go.Ev.Blk.cols ml [Go.Ev.Col.int Go.IntKind.i64 tl, Go.Ev.Col.int Go.IntKind.i64 vl, Go.Ev.Col.bool gl])]]) (5)))
 (False)))
 (False) :=
  cond_yes rfl (cond_yes rfl (bif_split h
 (fun c0 h => cond_yes rfl (cond_yes rfl (ret_at hR _ h (fun n => n) rfl rfl rfl (rn_bool_tf rfl) rfl (entl_bor (use_lo rfl) rfl rfl entl_nil))))
 (fun c0 h => bif_split h
 (fun c1 h => bif_split h
 (fun c2 h => cond_yes c1 (cond_yes c1 (cond_yes c2 (cond_yes c1 (cond_yes rfl (cond_yes rfl (cond_yes c1 (cond_yes c2 (cond_yes c1 (bif_split h
 (fun c3 h => bif_split h
 (fun c4 h => bif_split h
 (fun c5 h => bif_split h
 (fun c6 h => bif_split h
 (fun c7 h => bif_split h
 (fun c8 h => bif_split h
 (fun c9 h => bif_split h
 (fun c10 h => bif_split h
 (fun c11 h => bif_split h
 (fun c12 h => bif_split h
 (fun c13 h => ret_at hR _ h (fun n => n) rfl rfl rfl (rn_bool_tf rfl) rfl (entl_bor (use_lo rfl) rfl rfl entl_nil))
 (fun c13 h => ret_at hR _ h (fun n => n) rfl rfl rfl (rn_bool_tf rfl) rfl (entl_bor (use_lo rfl) rfl rfl entl_nil)))
 (fun c12 h => ret_at hR _ h (fun n => n) rfl rfl rfl (rn_bool_tf rfl) rfl (entl_bor (use_lo rfl) rfl rfl entl_nil)))
 (fun c11 h => no_some h))
 (fun c10 h => ret_at hR _ h (fun n => n) rfl rfl rfl (rn_bool_tf rfl) rfl (entl_bor (use_lo rfl) rfl rfl entl_nil)))
 (fun c9 h => ret_at hR _ h (fun n => n) rfl rfl rfl (rn_bool_tf rfl) rfl (entl_bor (use_lo rfl) rfl rfl entl_nil)))
 (fun c8 h => ret_at hR _ h (fun n => n) rfl rfl rfl (rn_bool_tf rfl) rfl (entl_bor (use_lo rfl) rfl rfl entl_nil)))
 (fun c7 h => no_some h))
 (fun c6 h => ret_at hR _ h (fun n => n) rfl rfl rfl (rn_bool_tf rfl) rfl (entl_bor (use_lo rfl) rfl rfl entl_nil)))
 (fun c5 h => no_some h))
 (fun c4 h => ret_at hR _ h (fun n => n) rfl rfl rfl (rn_bool_tf rfl) rfl (entl_bor (use_lo rfl) rfl rfl entl_nil)))
 (fun c3 h => ret_at hR _ h (fun n => n) rfl rfl rfl (rn_bool_tf rfl) rfl (entl_bor (use_lo rfl) rfl rfl entl_nil))))))))))))
 (fun c2 h => no_some h))
 (fun c1 h => no_some h))))
theorem a3 (ca : Int) (af : Int) (al nl ml : Nat) (tl : Nat → Int) (vl : Nat → Int) (gl : Nat → Bool) (ov : Int) (re : Int) (fz : Bool) (st : Int) (sv : Int) (sg : Bool) {r : Rt3} (h : Goes ((q3 ca af al nl ml tl vl gl ov re fz st sv sg)) ((p3 ca af al nl ml tl vl gl ov re fz st sv sg)) r) : CallR Try.prog 3 [.agg [.int .i64 ca, .int .i64 af, .loose ⟨0, 3, al, 0⟩ nl, .int .i64 ov, .int .i64 re, .bool fz], .agg [.int .i64 st, .int .i64 sv, .bool sg]] [[(0, (false, .cols ml [.int .i64 tl, .int .i64 vl, .bool gl]))]] 1 ((V3 ca af al nl ml tl vl gl ov re fz st sv sg) r) ((fun r => [newL (1 + 1) ((N3 ca af al nl ml tl vl gl ov re fz st sv sg) r) ++ [(0, (false, .cols ml [.int .i64 tl, .int .i64 vl, .bool gl]))]]) r) 400 ∧ ∃ F, Try.prog.funcs[3]? = some F ∧ F.body.isSome = true ∧ (F.name == "runtime.NumGoroutine") = false := by
  refine dec_calls (f := 3) (lo := 1) (hi := 400) (H := [[(0, (false, .cols ml [.int .i64 tl, .int .i64 vl, .bool gl]))]]) (args := [.agg [.int .i64 ca, .int .i64 af, .loose ⟨0, 3, al, 0⟩ nl, .int .i64 ov, .int .i64 re, .bool fz], .agg [.int .i64 st, .int .i64 sv, .bool sg]]) Try.envOk Try.mixed xD_ok ((I3 ca af al nl ml tl vl gl ov re fz st sv sg)) ((V3 ca af al nl ml tl vl gl ov re fz st sv sg)) (fun r => [newL (1 + 1) ((N3 ca af al nl ml tl vl gl ov re fz st sv sg) r) ++ [(0, (false, .cols ml [.int .i64 tl, .int .i64 vl, .bool gl]))]]) (fn := mkFn Try.f3) (ts := []) (n := 400) rfl (by decide) (by simp) (names_of rfl) ?_ ?_ ?_ h
  · intro s; exact s.elim
  · intro Kst Kret x hS hR h
    exact Holds.eq (te3 cond Kst Kret ca af al nl ml tl vl gl ov re fz st sv sg) (be3 ca af al nl ml tl vl gl ov re fz st sv sg Kst Kret x hS hR h)
  · intro Kst Kret x hS hR s h; exact s.elim
noncomputable def k3 : Con := ⟨3, [.agg [.plain (.int .i64), .plain (.int .i64), .list [.int .i64, .int .i64, .bool], .plain (.int .i64), .plain (.int .i64), .plain (.bool)], .agg [.plain (.int .i64), .plain (.int .i64), .plain (.bool)]], fun (x : (Int × Int × (Nat × Nat × Nat × (Nat → Int) × (Nat → Int) × (Nat → Bool) × Unit) × Int × Int × Bool × Unit) × (Int × Int × Bool × Unit) × Unit) => (fun (ca : Int) (af : Int) (al nl ml : Nat) (tl : Nat → Int) (vl : Nat → Int) (gl : Nat → Bool) (ov : Int) (re : Int) (fz : Bool) (st : Int) (sv : Int) (sg : Bool) => decide (al + nl ≤ ml)) x.1.1 x.1.2.1 x.1.2.2.1.1 x.1.2.2.1.2.1 x.1.2.2.1.2.2.1 x.1.2.2.1.2.2.2.1 x.1.2.2.1.2.2.2.2.1 x.1.2.2.1.2.2.2.2.2.1 x.1.2.2.2.1 x.1.2.2.2.2.1 x.1.2.2.2.2.2.1 x.2.1.1 x.2.1.2.1 x.2.1.2.2.1, fun (x : (Int × Int × (Nat × Nat × Nat × (Nat → Int) × (Nat → Int) × (Nat → Bool) × Unit) × Int × Int × Bool × Unit) × (Int × Int × Bool × Unit) × Unit) => (fun (ca : Int) (af : Int) (al nl ml : Nat) (tl : Nat → Int) (vl : Nat → Int) (gl : Nat → Bool) (ov : Int) (re : Int) (fz : Bool) (st : Int) (sv : Int) (sg : Bool) => (V3 ca af al nl ml tl vl gl ov re fz st sv sg) (true)) x.1.1 x.1.2.1 x.1.2.2.1.1 x.1.2.2.1.2.1 x.1.2.2.1.2.2.1 x.1.2.2.1.2.2.2.1 x.1.2.2.1.2.2.2.2.1 x.1.2.2.1.2.2.2.2.2.1 x.1.2.2.2.1 x.1.2.2.2.2.1 x.1.2.2.2.2.2.1 x.2.1.1 x.2.1.2.1 x.2.1.2.2.1, fun (x : (Int × Int × (Nat × Nat × Nat × (Nat → Int) × (Nat → Int) × (Nat → Bool) × Unit) × Int × Int × Bool × Unit) × (Int × Int × Bool × Unit) × Unit) => (fun (ca : Int) (af : Int) (al nl ml : Nat) (tl : Nat → Int) (vl : Nat → Int) (gl : Nat → Bool) (ov : Int) (re : Int) (fz : Bool) (st : Int) (sv : Int) (sg : Bool) => (N3 ca af al nl ml tl vl gl ov re fz st sv sg) (true)) x.1.1 x.1.2.1 x.1.2.2.1.1 x.1.2.2.1.2.1 x.1.2.2.1.2.2.1 x.1.2.2.1.2.2.2.1 x.1.2.2.1.2.2.2.2.1 x.1.2.2.1.2.2.2.2.2.1 x.1.2.2.2.1 x.1.2.2.2.2.1 x.1.2.2.2.2.2.1 x.2.1.1 x.2.1.2.1 x.2.1.2.2.1⟩
set_option maxHeartbeats 4000000 in
theorem s3 (ca : Int) (af : Int) (al nl ml : Nat) (tl : Nat → Int) (vl : Nat → Int) (gl : Nat → Bool) (ov : Int) (re : Int) (fz : Bool) (st : Int) (sv : Int) (sg : Bool) (hp : al + nl ≤ ml) : Goes ((q3 ca af al nl ml tl vl gl ov re fz st sv sg)) ((p3 ca af al nl ml tl vl gl ov re fz st sv sg)) (true) := by
  unfold p3
  simp only [vB_mkl, putS_mkl, mkl3_at]
  simp only [mkl_len]
  have h1 : (S.putS ca af nl (fun j => tl (j + al)) (fun j => vl (j + al)) (fun j => gl (j + al)) ov re fz st sv sg).2.2.2.2.2.2.length ≤ nl + 1 := putS_len
  generalize S.putS ca af nl (fun j => tl (j + al)) (fun j => vl (j + al)) (fun j => gl (j + al)) ov re fz st sv sg = P at h1 ⊢
  generalize S.vB ca af nl (fun j => tl (j + al)) (fun j => vl (j + al)) ov re fz = e
  by_cases hb : (nl : Int) > 210
  · exact goes_ok (decide_eq_true hb) rfl
  refine goes_no (decide_eq_false hb) ?_
  by_cases h0 : e = 0 <;> (try simp only [h0, if_true, if_false]) <;> (
    repeat' first
      | exact goes_inr.mpr rfl
      | refine goes_ok (by first | exact beq_self_eq_true _ | exact decide_eq_true trivial | (apply decide_eq_true; omega) | (apply decide_eq_true; simp only [mkl_len, mkl_zero, List.length_nil, true_and, and_true, and_self, Nat.zero_add, Nat.add_zero, Nat.le_refl]; done) | (apply decide_eq_true; simp only [mkl_len, mkl_zero, List.length_nil, true_and, and_true, and_self, Nat.zero_add, Nat.add_zero, Nat.le_refl]; omega)) ?_
  )

theorem k3_ok : k3.ok Try.prog := by
  intro x hx
  obtain ⟨⟨ca, af, ⟨al, nl, ml, tl, vl, gl, _⟩, ov, re, fz, _⟩, ⟨st, sv, sg, _⟩, _⟩ := x
  have hp : al + nl ≤ ml := of_decide_eq_true hx
  obtain ⟨h1, h2⟩ := a3 ca af al nl ml tl vl gl ov re fz st sv sg (s3 ca af al nl ml tl vl gl ov re fz st sv sg hp)
  exact ⟨⟨400, (by decide : 1 + 1 + 0 ≤ 400), h1⟩, h2⟩

end Go.Ev
