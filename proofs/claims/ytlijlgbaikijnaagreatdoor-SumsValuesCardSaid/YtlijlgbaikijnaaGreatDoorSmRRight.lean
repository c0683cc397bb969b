/-
  What marks are and what a name is, by the reference: level, sets, kids, Letter, name. Conditions: names of at most a million bytes.
  How many Ops are in one another, and whether an expression may be shown, by the reference. Conditions: at most a million Ops; names of at most a million bytes.
  Whether an expression may be shown, by the reference. Conditions: names of at most a million bytes.
-/
import Derived.Test.YtlijlgbaikijnaaGreatDoorSmRNumber
import Derived.Test.YtlijlgbaikijnaaGreatDoorSmCheck
import Derived.Test.YtlijlgbaikijnaaGreatDoorSmPlain
import Derived.BigQuiet
import Derived.Deep.QuietTactic
namespace Go.Proofs.YtlijlgbaikijnaaGreatDoor
open Go Go.RowKit

theorem list_of_beq {l m : List UInt8} (h : (l == m) = true) : l = m := by simpa using h

set_option maxHeartbeats 1000000 in
set_option maxRecDepth 100000 in
theorem rLevel_any (x : ByteArray) (w : World) : Calls Tryz.prog 96 #[.string x] w fun e w' => e = .returned (.int .i64 (rowV (tl x) : Int)) ∧ w' = w := by
  have hx : Hid (x.toList = tl x) := Lib.toList_data x
  cases h0 : (tl x == [124, 124]) with
  | true =>
    have g0 : (x.toList == [124, 124]) = true := by rw [hx.out]; exact h0
    rw [show rowV (tl x) = 1 by rw [list_of_beq h0]; decide]
    clear hx h0
    go_enter Tryz.func96, Tryz.ntmps96
    go_wp2
    go_ret
    exact ⟨rfl, rfl⟩
  | false =>
    have g0 : (x.toList == [124, 124]) = false := by rw [hx.out]; exact h0
    cases h1 : (tl x == [38, 38]) with
    | true =>
      have g1 : (x.toList == [38, 38]) = true := by rw [hx.out]; exact h1
      rw [show rowV (tl x) = 2 by rw [list_of_beq h1]; decide]
      clear hx h0 h1
      go_enter Tryz.func96, Tryz.ntmps96
      go_wp2
      go_ret
      exact ⟨rfl, rfl⟩
    | false =>
      have g1 : (x.toList == [38, 38]) = false := by rw [hx.out]; exact h1
      cases h2 : (tl x == [124]) with
      | true =>
        have g2 : (x.toList == [124]) = true := by rw [hx.out]; exact h2
        rw [show rowV (tl x) = 3 by rw [list_of_beq h2]; decide]
        clear hx h0 h1 h2
        go_enter Tryz.func96, Tryz.ntmps96
        go_wp2
        go_ret
        exact ⟨rfl, rfl⟩
      | false =>
        have g2 : (x.toList == [124]) = false := by rw [hx.out]; exact h2
        cases h3 : (tl x == [94]) with
        | true =>
          have g3 : (x.toList == [94]) = true := by rw [hx.out]; exact h3
          rw [show rowV (tl x) = 4 by rw [list_of_beq h3]; decide]
          clear hx h0 h1 h2 h3
          go_enter Tryz.func96, Tryz.ntmps96
          go_wp2
          go_ret
          exact ⟨rfl, rfl⟩
        | false =>
          have g3 : (x.toList == [94]) = false := by rw [hx.out]; exact h3
          cases h4 : (tl x == [38]) with
          | true =>
            have g4 : (x.toList == [38]) = true := by rw [hx.out]; exact h4
            rw [show rowV (tl x) = 5 by rw [list_of_beq h4]; decide]
            clear hx h0 h1 h2 h3 h4
            go_enter Tryz.func96, Tryz.ntmps96
            go_wp2
            go_ret
            exact ⟨rfl, rfl⟩
          | false =>
            have g4 : (x.toList == [38]) = false := by rw [hx.out]; exact h4
            cases h5 : (tl x == [61, 61]) with
            | true =>
              have g5 : (x.toList == [61, 61]) = true := by rw [hx.out]; exact h5
              rw [show rowV (tl x) = 6 by rw [list_of_beq h5]; decide]
              clear hx h0 h1 h2 h3 h4 h5
              go_enter Tryz.func96, Tryz.ntmps96
              go_wp2
              go_ret
              exact ⟨rfl, rfl⟩
            | false =>
              have g5 : (x.toList == [61, 61]) = false := by rw [hx.out]; exact h5
              cases h6 : (tl x == [33, 61]) with
              | true =>
                have g6 : (x.toList == [33, 61]) = true := by rw [hx.out]; exact h6
                rw [show rowV (tl x) = 6 by rw [list_of_beq h6]; decide]
                clear hx h0 h1 h2 h3 h4 h5 h6
                go_enter Tryz.func96, Tryz.ntmps96
                go_wp2
                go_ret
                exact ⟨rfl, rfl⟩
              | false =>
                have g6 : (x.toList == [33, 61]) = false := by rw [hx.out]; exact h6
                cases h7 : (tl x == [60]) with
                | true =>
                  have g7 : (x.toList == [60]) = true := by rw [hx.out]; exact h7
                  rw [show rowV (tl x) = 7 by rw [list_of_beq h7]; decide]
                  clear hx h0 h1 h2 h3 h4 h5 h6 h7
                  go_enter Tryz.func96, Tryz.ntmps96
                  go_wp2
                  go_ret
                  exact ⟨rfl, rfl⟩
                | false =>
                  have g7 : (x.toList == [60]) = false := by rw [hx.out]; exact h7
                  cases h8 : (tl x == [60, 61]) with
                  | true =>
                    have g8 : (x.toList == [60, 61]) = true := by rw [hx.out]; exact h8
                    rw [show rowV (tl x) = 7 by rw [list_of_beq h8]; decide]
                    clear hx h0 h1 h2 h3 h4 h5 h6 h7 h8
                    go_enter Tryz.func96, Tryz.ntmps96
                    go_wp2
                    go_ret
                    exact ⟨rfl, rfl⟩
                  | false =>
                    have g8 : (x.toList == [60, 61]) = false := by rw [hx.out]; exact h8
                    cases h9 : (tl x == [62]) with
                    | true =>
                      have g9 : (x.toList == [62]) = true := by rw [hx.out]; exact h9
                      rw [show rowV (tl x) = 7 by rw [list_of_beq h9]; decide]
                      clear hx h0 h1 h2 h3 h4 h5 h6 h7 h8 h9
                      go_enter Tryz.func96, Tryz.ntmps96
                      go_wp2
                      go_ret
                      exact ⟨rfl, rfl⟩
                    | false =>
                      have g9 : (x.toList == [62]) = false := by rw [hx.out]; exact h9
                      cases h10 : (tl x == [62, 61]) with
                      | true =>
                        have g10 : (x.toList == [62, 61]) = true := by rw [hx.out]; exact h10
                        rw [show rowV (tl x) = 7 by rw [list_of_beq h10]; decide]
                        clear hx h0 h1 h2 h3 h4 h5 h6 h7 h8 h9 h10
                        go_enter Tryz.func96, Tryz.ntmps96
                        go_wp2
                        go_ret
                        exact ⟨rfl, rfl⟩
                      | false =>
                        have g10 : (x.toList == [62, 61]) = false := by rw [hx.out]; exact h10
                        cases h11 : (tl x == [60, 60]) with
                        | true =>
                          have g11 : (x.toList == [60, 60]) = true := by rw [hx.out]; exact h11
                          rw [show rowV (tl x) = 8 by rw [list_of_beq h11]; decide]
                          clear hx h0 h1 h2 h3 h4 h5 h6 h7 h8 h9 h10 h11
                          go_enter Tryz.func96, Tryz.ntmps96
                          go_wp2
                          go_ret
                          exact ⟨rfl, rfl⟩
                        | false =>
                          have g11 : (x.toList == [60, 60]) = false := by rw [hx.out]; exact h11
                          cases h12 : (tl x == [62, 62]) with
                          | true =>
                            have g12 : (x.toList == [62, 62]) = true := by rw [hx.out]; exact h12
                            rw [show rowV (tl x) = 8 by rw [list_of_beq h12]; decide]
                            clear hx h0 h1 h2 h3 h4 h5 h6 h7 h8 h9 h10 h11 h12
                            go_enter Tryz.func96, Tryz.ntmps96
                            go_wp2
                            go_ret
                            exact ⟨rfl, rfl⟩
                          | false =>
                            have g12 : (x.toList == [62, 62]) = false := by rw [hx.out]; exact h12
                            cases h13 : (tl x == [43]) with
                            | true =>
                              have g13 : (x.toList == [43]) = true := by rw [hx.out]; exact h13
                              rw [show rowV (tl x) = 9 by rw [list_of_beq h13]; decide]
                              clear hx h0 h1 h2 h3 h4 h5 h6 h7 h8 h9 h10 h11 h12 h13
                              go_enter Tryz.func96, Tryz.ntmps96
                              go_wp2
                              go_ret
                              exact ⟨rfl, rfl⟩
                            | false =>
                              have g13 : (x.toList == [43]) = false := by rw [hx.out]; exact h13
                              cases h14 : (tl x == [45]) with
                              | true =>
                                have g14 : (x.toList == [45]) = true := by rw [hx.out]; exact h14
                                rw [show rowV (tl x) = 9 by rw [list_of_beq h14]; decide]
                                clear hx h0 h1 h2 h3 h4 h5 h6 h7 h8 h9 h10 h11 h12 h13 h14
                                go_enter Tryz.func96, Tryz.ntmps96
                                go_wp2
                                go_ret
                                exact ⟨rfl, rfl⟩
                              | false =>
                                have g14 : (x.toList == [45]) = false := by rw [hx.out]; exact h14
                                cases h15 : (tl x == [42]) with
                                | true =>
                                  have g15 : (x.toList == [42]) = true := by rw [hx.out]; exact h15
                                  rw [show rowV (tl x) = 10 by rw [list_of_beq h15]; decide]
                                  clear hx h0 h1 h2 h3 h4 h5 h6 h7 h8 h9 h10 h11 h12 h13 h14 h15
                                  go_enter Tryz.func96, Tryz.ntmps96
                                  go_wp2
                                  go_ret
                                  exact ⟨rfl, rfl⟩
                                | false =>
                                  have g15 : (x.toList == [42]) = false := by rw [hx.out]; exact h15
                                  cases h16 : (tl x == [47]) with
                                  | true =>
                                    have g16 : (x.toList == [47]) = true := by rw [hx.out]; exact h16
                                    rw [show rowV (tl x) = 10 by rw [list_of_beq h16]; decide]
                                    clear hx h0 h1 h2 h3 h4 h5 h6 h7 h8 h9 h10 h11 h12 h13 h14 h15 h16
                                    go_enter Tryz.func96, Tryz.ntmps96
                                    go_wp2
                                    go_ret
                                    exact ⟨rfl, rfl⟩
                                  | false =>
                                    have g16 : (x.toList == [47]) = false := by rw [hx.out]; exact h16
                                    cases h17 : (tl x == [37]) with
                                    | true =>
                                      have g17 : (x.toList == [37]) = true := by rw [hx.out]; exact h17
                                      rw [show rowV (tl x) = 10 by rw [list_of_beq h17]; decide]
                                      clear hx h0 h1 h2 h3 h4 h5 h6 h7 h8 h9 h10 h11 h12 h13 h14 h15 h16 h17
                                      go_enter Tryz.func96, Tryz.ntmps96
                                      go_wp2
                                      go_ret
                                      exact ⟨rfl, rfl⟩
                                    | false =>
                                      have g17 : (x.toList == [37]) = false := by rw [hx.out]; exact h17
                                      rw [show rowV (tl x) = 0 by simp only [rowV, h0, h1, h2, h3, h4, h5, h6, h7, h8, h9, h10, h11, h12, h13, h14, h15, h16, h17, Bool.false_eq_true, if_false]]
                                      clear hx h0 h1 h2 h3 h4 h5 h6 h7 h8 h9 h10 h11 h12 h13 h14 h15 h16 h17
                                      go_enter Tryz.func96, Tryz.ntmps96
                                      go_wp2
                                      go_ret
                                      exact ⟨rfl, rfl⟩

set_option maxHeartbeats 1000000 in
set_option maxRecDepth 100000 in
theorem rSets_any (x : ByteArray) (w : World) : Calls Tryz.prog 67 #[.string x] w fun e w' => e = .returned (.bool (asgV (tl x))) ∧ w' = w := by
  have hx : Hid (x.toList = tl x) := Lib.toList_data x
  cases h0 : (tl x == [61]) with
  | true =>
    have g0 : (x.toList == [61]) = true := by rw [hx.out]; exact h0
    rw [show asgV (tl x) = true by rw [list_of_beq h0]; decide]
    clear hx h0
    go_enter Tryz.func67, Tryz.ntmps67
    go_wp2
    go_ret
    exact ⟨rfl, rfl⟩
  | false =>
    have g0 : (x.toList == [61]) = false := by rw [hx.out]; exact h0
    cases h1 : (tl x == [42, 61]) with
    | true =>
      have g1 : (x.toList == [42, 61]) = true := by rw [hx.out]; exact h1
      rw [show asgV (tl x) = true by rw [list_of_beq h1]; decide]
      clear hx h0 h1
      go_enter Tryz.func67, Tryz.ntmps67
      go_wp2
      go_ret
      exact ⟨rfl, rfl⟩
    | false =>
      have g1 : (x.toList == [42, 61]) = false := by rw [hx.out]; exact h1
      cases h2 : (tl x == [47, 61]) with
      | true =>
        have g2 : (x.toList == [47, 61]) = true := by rw [hx.out]; exact h2
        rw [show asgV (tl x) = true by rw [list_of_beq h2]; decide]
        clear hx h0 h1 h2
        go_enter Tryz.func67, Tryz.ntmps67
        go_wp2
        go_ret
        exact ⟨rfl, rfl⟩
      | false =>
        have g2 : (x.toList == [47, 61]) = false := by rw [hx.out]; exact h2
        cases h3 : (tl x == [37, 61]) with
        | true =>
          have g3 : (x.toList == [37, 61]) = true := by rw [hx.out]; exact h3
          rw [show asgV (tl x) = true by rw [list_of_beq h3]; decide]
          clear hx h0 h1 h2 h3
          go_enter Tryz.func67, Tryz.ntmps67
          go_wp2
          go_ret
          exact ⟨rfl, rfl⟩
        | false =>
          have g3 : (x.toList == [37, 61]) = false := by rw [hx.out]; exact h3
          cases h4 : (tl x == [43, 61]) with
          | true =>
            have g4 : (x.toList == [43, 61]) = true := by rw [hx.out]; exact h4
            rw [show asgV (tl x) = true by rw [list_of_beq h4]; decide]
            clear hx h0 h1 h2 h3 h4
            go_enter Tryz.func67, Tryz.ntmps67
            go_wp2
            go_ret
            exact ⟨rfl, rfl⟩
          | false =>
            have g4 : (x.toList == [43, 61]) = false := by rw [hx.out]; exact h4
            cases h5 : (tl x == [45, 61]) with
            | true =>
              have g5 : (x.toList == [45, 61]) = true := by rw [hx.out]; exact h5
              rw [show asgV (tl x) = true by rw [list_of_beq h5]; decide]
              clear hx h0 h1 h2 h3 h4 h5
              go_enter Tryz.func67, Tryz.ntmps67
              go_wp2
              go_ret
              exact ⟨rfl, rfl⟩
            | false =>
              have g5 : (x.toList == [45, 61]) = false := by rw [hx.out]; exact h5
              cases h6 : (tl x == [60, 60, 61]) with
              | true =>
                have g6 : (x.toList == [60, 60, 61]) = true := by rw [hx.out]; exact h6
                rw [show asgV (tl x) = true by rw [list_of_beq h6]; decide]
                clear hx h0 h1 h2 h3 h4 h5 h6
                go_enter Tryz.func67, Tryz.ntmps67
                go_wp2
                go_ret
                exact ⟨rfl, rfl⟩
              | false =>
                have g6 : (x.toList == [60, 60, 61]) = false := by rw [hx.out]; exact h6
                cases h7 : (tl x == [62, 62, 61]) with
                | true =>
                  have g7 : (x.toList == [62, 62, 61]) = true := by rw [hx.out]; exact h7
                  rw [show asgV (tl x) = true by rw [list_of_beq h7]; decide]
                  clear hx h0 h1 h2 h3 h4 h5 h6 h7
                  go_enter Tryz.func67, Tryz.ntmps67
                  go_wp2
                  go_ret
                  exact ⟨rfl, rfl⟩
                | false =>
                  have g7 : (x.toList == [62, 62, 61]) = false := by rw [hx.out]; exact h7
                  cases h8 : (tl x == [38, 61]) with
                  | true =>
                    have g8 : (x.toList == [38, 61]) = true := by rw [hx.out]; exact h8
                    rw [show asgV (tl x) = true by rw [list_of_beq h8]; decide]
                    clear hx h0 h1 h2 h3 h4 h5 h6 h7 h8
                    go_enter Tryz.func67, Tryz.ntmps67
                    go_wp2
                    go_ret
                    exact ⟨rfl, rfl⟩
                  | false =>
                    have g8 : (x.toList == [38, 61]) = false := by rw [hx.out]; exact h8
                    cases h9 : (tl x == [94, 61]) with
                    | true =>
                      have g9 : (x.toList == [94, 61]) = true := by rw [hx.out]; exact h9
                      rw [show asgV (tl x) = true by rw [list_of_beq h9]; decide]
                      clear hx h0 h1 h2 h3 h4 h5 h6 h7 h8 h9
                      go_enter Tryz.func67, Tryz.ntmps67
                      go_wp2
                      go_ret
                      exact ⟨rfl, rfl⟩
                    | false =>
                      have g9 : (x.toList == [94, 61]) = false := by rw [hx.out]; exact h9
                      cases h10 : (tl x == [124, 61]) with
                      | true =>
                        have g10 : (x.toList == [124, 61]) = true := by rw [hx.out]; exact h10
                        rw [show asgV (tl x) = true by rw [list_of_beq h10]; decide]
                        clear hx h0 h1 h2 h3 h4 h5 h6 h7 h8 h9 h10
                        go_enter Tryz.func67, Tryz.ntmps67
                        go_wp2
                        go_ret
                        exact ⟨rfl, rfl⟩
                      | false =>
                        have g10 : (x.toList == [124, 61]) = false := by rw [hx.out]; exact h10
                        rw [show asgV (tl x) = false by simp only [asgV, h0, h1, h2, h3, h4, h5, h6, h7, h8, h9, h10, Bool.false_eq_true, if_false]]
                        clear hx h0 h1 h2 h3 h4 h5 h6 h7 h8 h9 h10
                        go_enter Tryz.func67, Tryz.ntmps67
                        go_wp2
                        go_ret
                        exact ⟨rfl, rfl⟩

set_option maxHeartbeats 1000000 in
set_option maxRecDepth 100000 in
theorem rKids_any (x : ByteArray) (w : World) : Calls Tryz.prog 66 #[.string x] w fun e w' => e = .returned (.int .i64 (kidsV (tl x))) ∧ w' = w := by
  have hx : Hid (x.toList = tl x) := Lib.toList_data x
  have hr := fun W => rLevel_any x W
  have ha := fun W => rSets_any x W
  cases h0 : (tl x == [110, 117, 109]) with
  | true =>
    have g0 : (x.toList == [110, 117, 109]) = true := by rw [hx.out]; exact h0
    rw [show kidsV (tl x) = 0 by rw [list_of_beq h0]; decide]
    clear hx h0
    go_enter Tryz.func66, Tryz.ntmps66
    go_wp2
    go_ret
    exact ⟨rfl, rfl⟩
  | false =>
    have g0 : (x.toList == [110, 117, 109]) = false := by rw [hx.out]; exact h0
    cases h1 : (tl x == [110, 97, 109, 101]) with
    | true =>
      have g1 : (x.toList == [110, 97, 109, 101]) = true := by rw [hx.out]; exact h1
      rw [show kidsV (tl x) = 0 by rw [list_of_beq h1]; decide]
      clear hx h0 h1
      go_enter Tryz.func66, Tryz.ntmps66
      go_wp2
      go_ret
      exact ⟨rfl, rfl⟩
    | false =>
      have g1 : (x.toList == [110, 97, 109, 101]) = false := by rw [hx.out]; exact h1
      cases h2 : (tl x == [110, 101, 103]) with
      | true =>
        have g2 : (x.toList == [110, 101, 103]) = true := by rw [hx.out]; exact h2
        rw [show kidsV (tl x) = 1 by rw [list_of_beq h2]; decide]
        clear hx h0 h1 h2
        go_enter Tryz.func66, Tryz.ntmps66
        go_wp2
        go_ret
        exact ⟨rfl, rfl⟩
      | false =>
        have g2 : (x.toList == [110, 101, 103]) = false := by rw [hx.out]; exact h2
        cases h3 : (tl x == [112, 111, 115]) with
        | true =>
          have g3 : (x.toList == [112, 111, 115]) = true := by rw [hx.out]; exact h3
          rw [show kidsV (tl x) = 1 by rw [list_of_beq h3]; decide]
          clear hx h0 h1 h2 h3
          go_enter Tryz.func66, Tryz.ntmps66
          go_wp2
          go_ret
          exact ⟨rfl, rfl⟩
        | false =>
          have g3 : (x.toList == [112, 111, 115]) = false := by rw [hx.out]; exact h3
          cases h4 : (tl x == [110, 111, 116]) with
          | true =>
            have g4 : (x.toList == [110, 111, 116]) = true := by rw [hx.out]; exact h4
            rw [show kidsV (tl x) = 1 by rw [list_of_beq h4]; decide]
            clear hx h0 h1 h2 h3 h4
            go_enter Tryz.func66, Tryz.ntmps66
            go_wp2
            go_ret
            exact ⟨rfl, rfl⟩
          | false =>
            have g4 : (x.toList == [110, 111, 116]) = false := by rw [hx.out]; exact h4
            cases h5 : (tl x == [99, 111, 109]) with
            | true =>
              have g5 : (x.toList == [99, 111, 109]) = true := by rw [hx.out]; exact h5
              rw [show kidsV (tl x) = 1 by rw [list_of_beq h5]; decide]
              clear hx h0 h1 h2 h3 h4 h5
              go_enter Tryz.func66, Tryz.ntmps66
              go_wp2
              go_ret
              exact ⟨rfl, rfl⟩
            | false =>
              have g5 : (x.toList == [99, 111, 109]) = false := by rw [hx.out]; exact h5
              cases h6 : (tl x == [63]) with
              | true =>
                have g6 : (x.toList == [63]) = true := by rw [hx.out]; exact h6
                rw [show kidsV (tl x) = 3 by rw [list_of_beq h6]; decide]
                clear hx h0 h1 h2 h3 h4 h5 h6
                go_enter Tryz.func66, Tryz.ntmps66
                go_wp2
                go_ret
                exact ⟨rfl, rfl⟩
              | false =>
                have g6 : (x.toList == [63]) = false := by rw [hx.out]; exact h6
                rw [show kidsV (tl x) = if asgV (tl x) = true then 1 else if 0 < rowV (tl x) then 2 else -1 by simp [kidsV, markV, h0, h1, h2, h3, h4, h5, h6]]
                clear hx h0 h1 h2 h3 h4 h5 h6
                cases hz : asgV (tl x) with
                | true =>
                  rw [hz] at ha
                  rw [if_pos rfl]
                  clear hr hz
                  go_enter Tryz.func66, Tryz.ntmps66
                  go_wp2_with fail
                  refine (ha _).mono ?_
                  rintro e w1 ⟨rfl, hw1⟩
                  obtain rfl := hw1.symm
                  go_wp2
                  go_ret
                  exact ⟨rfl, rfl⟩
                | false =>
                  rw [hz] at ha
                  rw [if_neg (by simp)]
                  generalize rowV (tl x) = r at hr ⊢
                  clear hz
                  by_cases h0 : 0 < r
                  · rw [if_pos h0]
                    have i0 : (0 : Int) < (r : Int) := by omega
                    clear h0
                    go_enter Tryz.func66, Tryz.ntmps66
                    go_wp2_with fail
                    refine (ha _).mono ?_
                    rintro e w1 ⟨rfl, hw1⟩
                    obtain rfl := hw1.symm
                    go_wp2_with fail
                    refine (hr _).mono ?_
                    rintro e w1 ⟨rfl, hw1⟩
                    obtain rfl := hw1.symm
                    go_wp2
                    go_ret
                    exact ⟨rfl, rfl⟩
                  · rw [if_neg h0]
                    have i0 : ¬ (0 : Int) < (r : Int) := by omega
                    clear h0
                    go_enter Tryz.func66, Tryz.ntmps66
                    go_wp2_with fail
                    refine (ha _).mono ?_
                    rintro e w1 ⟨rfl, hw1⟩
                    obtain rfl := hw1.symm
                    go_wp2_with fail
                    refine (hr _).mono ?_
                    rintro e w1 ⟨rfl, hw1⟩
                    obtain rfl := hw1.symm
                    go_wp2
                    go_ret
                    exact ⟨rfl, rfl⟩

/-- What may begin a name. -/
def letB (b : UInt8) : Bool := decide ((97 ≤ b.toNat ∧ b.toNat ≤ 122) ∨ (65 ≤ b.toNat ∧ b.toNat ≤ 90) ∨ b.toNat = 95)
set_option maxHeartbeats 1000000 in
set_option maxRecDepth 100000 in
theorem rLetter_any (b : UInt8) (w : World) : Calls Tryz.prog 97 #[.int .u8 (b.toNat : Int)] w fun e w' => e = .returned (.bool (letB b)) ∧ w' = w := by
  unfold letB
  obtain ⟨n, hn⟩ : ∃ n, b.toNat = n := ⟨_, rfl⟩
  rw [hn]
  clear hn
  by_cases h1 : 97 ≤ n ∧ n ≤ 122
  · rw [show decide ((97 ≤ n ∧ n ≤ 122) ∨ (65 ≤ n ∧ n ≤ 90) ∨ n = 95) = true by simp; omega]
    have i1 : (97 : Int) ≤ (n : Int) := by omega
    have i2 : (n : Int) ≤ (122 : Int) := by omega
    clear h1
    go_enter Tryz.func97, Tryz.ntmps97
    go_wp2
    go_ret
    exact ⟨rfl, rfl⟩
  · by_cases h2 : 65 ≤ n ∧ n ≤ 90
    · rw [show decide ((97 ≤ n ∧ n ≤ 122) ∨ (65 ≤ n ∧ n ≤ 90) ∨ n = 95) = true by simp; omega]
      have i1 : ¬ (97 : Int) ≤ (n : Int) := by omega
      have i2 : (65 : Int) ≤ (n : Int) := by omega
      have i3 : (n : Int) ≤ (90 : Int) := by omega
      clear h1 h2
      go_enter Tryz.func97, Tryz.ntmps97
      go_wp2
      go_ret
      exact ⟨rfl, rfl⟩
    · rw [show decide ((97 ≤ n ∧ n ≤ 122) ∨ (65 ≤ n ∧ n ≤ 90) ∨ n = 95) = decide (n = 95) by rw [Bool.eq_iff_iff]; simp; omega]
      have i5 : ((n : Int) == 95) = decide (n = 95) := by rw [Bool.eq_iff_iff]; simp; omega
      rw [← i5]
      by_cases h3 : 97 ≤ n
      · have i1 : (97 : Int) ≤ (n : Int) := by omega
        have i2 : ¬ (n : Int) ≤ (122 : Int) := by omega
        have i3 : (65 : Int) ≤ (n : Int) := by omega
        have i4 : ¬ (n : Int) ≤ (90 : Int) := by omega
        clear h1 h2 h3 i5
        go_enter Tryz.func97, Tryz.ntmps97
        go_wp2
        go_ret
        exact ⟨rfl, rfl⟩
      · have i1 : ¬ (97 : Int) ≤ (n : Int) := by omega
        by_cases h4 : 65 ≤ n
        · have i3 : (65 : Int) ≤ (n : Int) := by omega
          have i4 : ¬ (n : Int) ≤ (90 : Int) := by omega
          clear h1 h2 h3 h4 i5
          go_enter Tryz.func97, Tryz.ntmps97
          go_wp2
          go_ret
          exact ⟨rfl, rfl⟩
        · have i3 : ¬ (65 : Int) ≤ (n : Int) := by omega
          clear h1 h2 h3 h4 i5
          go_enter Tryz.func97, Tryz.ntmps97
          go_wp2
          go_ret
          exact ⟨rfl, rfl⟩

/-- Whether a byte may stand at a place of a name. -/
def nmAt (i : Nat) (b : UInt8) : Bool := letB b || !decide (i = 0) && digB b
theorem nameB_or (b : UInt8) : nameB b = (letB b || digB b) := by
  unfold nameB letB digB; rw [Bool.eq_iff_iff]; simp; omega
theorem let_no_dig {b : UInt8} (h : digB b = true) : letB b = false := by
  unfold letB; unfold digB at h; simp at h ⊢; omega
theorem takeWhile_len {p : UInt8 → Bool} {l : List UInt8} : (l.takeWhile p).length = l.length ↔ ∀ b ∈ l, p b = true := by
  induction l with
  | nil => simp
  | cons x l ih =>
    cases h : p x with
    | true => simp [h, ih]
    | false => simp [h]
theorem isNmB_iff (l : List UInt8) : isNmB l = true ↔ l ≠ [] ∧ ∀ i (h : i < l.length), nmAt i l[i] = true := by
  unfold isNmB
  rw [Bool.and_eq_true, decide_eq_true_eq]
  cases l with
  | nil => simp
  | cons x l =>
    have hne : (!(x :: l).isEmpty) = true := rfl
    by_cases hd : digB x = true
    · rw [nameLen_first (l := x :: l) (by simp) (by simpa using hd)]
      constructor
      · intro h; simp at h
      · intro h
        have := h.2 0 (by simp)
        unfold nmAt at this
        simp [let_no_dig hd] at this
    · have hn : nameLen (x :: l) = ((x :: l).takeWhile nameB).length := by unfold nameLen; rw [if_neg (by simpa using hd)]
      rw [hn, takeWhile_len]
      constructor
      · intro h
        refine ⟨by simp, fun i hi => ?_⟩
        have := h.2 _ (List.getElem_mem hi)
        rw [nameB_or] at this
        unfold nmAt
        cases i with
        | zero => simpa [show digB x = false by simpa using hd] using this
        | succ i => simpa using this
      · intro h
        refine ⟨hne, fun b hb => ?_⟩
        obtain ⟨i, hi, rfl⟩ := List.getElem_of_mem hb
        have := h.2 i hi
        unfold nmAt at this
        rw [nameB_or]
        revert this
        cases letB (x :: l)[i] <;> cases digB (x :: l)[i] <;> simp

set_option maxHeartbeats 1000000 in
set_option maxRecDepth 100000 in
theorem rName_any (s : ByteArray) (w : World) (hs : s.size ≤ 1000000) : Calls Tryz.prog 68 #[.string s] w fun e w' => e = .returned (.bool (isNmB (tl s))) ∧ w' = w := by
  obtain ⟨q, hq0⟩ : ∃ q, isNmB (tl s) = q := ⟨_, rfl⟩
  rw [hq0]
  have hq := Lib.hid hq0
  have hl := Lib.hid (tl_len s)
  clear hq0
  go_enter Tryz.func68, Tryz.ntmps68
  go_wp2
  go_loopw [3] (fun i wr => ∃ k : Nat, k ≤ s.size ∧ i = .int .i64 k ∧ wr = w ∧ Hid (∀ j (h : j < (tl s).length), j < k → nmAt j (tl s)[j] = true)) (fun i _ => s.size - (intOf i).toNat)
  case atStart => exact ⟨0, Nat.zero_le _, rfl, rfl, fun _ _ h => absurd h (Nat.not_lt_zero _)⟩
  case round =>
    obtain ⟨k, hk, rfl, rfl, hyes⟩ := hrel
    by_cases hlt : k < s.size
    · have hlt' : k < (tl s).length := by rw [hl.out]; exact hlt
      have e1 : (tl s)[k] = s[k] := tl_get s k hlt
      have hlet := fun W => rLetter_any s[k] W
      have hdig := fun W => rDigit_any s[k] W
      have hno : Hid (nmAt k (tl s)[k] = false → q = false) := fun h => by
        rw [← hq.out, ← Bool.not_eq_true, isNmB_iff]
        intro h2
        rw [h2.2 k hlt'] at h
        cases h
      have hgo : Hid (nmAt k (tl s)[k] = true → ∀ j (h : j < (tl s).length), j < k + 1 → nmAt j (tl s)[j] = true) := fun h j hj hjk => by
        rcases Nat.lt_or_ge j k with h' | h'
        · exact hyes.out j hj h'
        · obtain rfl : j = k := by omega
          exact h
      rw [e1] at hno hgo
      clear hyes e1
      cases hb : letB s[k] with
      | true =>
        rw [hb] at hlet
        have hi := Lib.hid (hgo.out (by unfold nmAt; rw [hb]; rfl))
        clear hno hgo hb hdig
        go_wp2_with fail
        refine (hlet _).mono ?_
        rintro e w' ⟨rfl, rfl⟩
        go_wp2
        go_roundw
        case rel => exact ⟨k + 1, by omega, by go_num, trivial, hi⟩
        case measure => simp [intOf]; omega
      | false =>
        rw [hb] at hlet
        by_cases h0 : k = 0
        · have hqf : q = false := hno.out (by unfold nmAt; rw [hb]; simp [h0])
          subst hqf
          have i0 : ((k : Int) == 0) = true := by rw [h0]; rfl
          clear hno hgo hb hdig h0
          go_wp2_with fail
          refine (hlet _).mono ?_
          rintro e w' ⟨rfl, rfl⟩
          go_wp2
          go_ret
          exact ⟨rfl, rfl⟩
        · have i0 : ((k : Int) == 0) = false := by simp; omega
          cases hd : digB s[k] with
          | true =>
            rw [hd] at hdig
            have hi := Lib.hid (hgo.out (by unfold nmAt; rw [hb, hd]; simp [h0]))
            clear hno hgo hb hd
            go_wp2_with fail
            refine (hlet _).mono ?_
            rintro e w' ⟨rfl, rfl⟩
            go_wp2_with fail
            refine (hdig _).mono ?_
            rintro e w' ⟨rfl, rfl⟩
            go_wp2
            go_roundw
            case rel => exact ⟨k + 1, by omega, by go_num, trivial, hi⟩
            case measure => simp [intOf]; omega
          | false =>
            rw [hd] at hdig
            have hqf : q = false := hno.out (by unfold nmAt; rw [hb, hd]; simp)
            subst hqf
            clear hno hgo hb hd
            go_wp2_with fail
            refine (hlet _).mono ?_
            rintro e w' ⟨rfl, rfl⟩
            go_wp2_with fail
            refine (hdig _).mono ?_
            rintro e w' ⟨rfl, rfl⟩
            go_wp2
            go_ret
            exact ⟨rfl, rfl⟩
    · obtain rfl : k = s.size := by omega
      have hqe : q = !(tl s).isEmpty := by
        rw [← hq.out]
        cases he : (tl s).isEmpty with
        | true => unfold isNmB; rw [he]; rfl
        | false =>
          refine (isNmB_iff _).2 ⟨fun e => (by rw [e] at he; cases he), fun i hi => hyes.out i hi (by rw [← hl.out]; exact hi)⟩
      have he : s.toList.isEmpty = (tl s).isEmpty := by rw [Lib.toList_data]; rfl
      rw [← he] at hqe
      subst hqe
      clear hyes he
      go_wp2
      go_ret
      exact ⟨rfl, rfl⟩
end Go.Proofs.YtlijlgbaikijnaaGreatDoor

namespace Go.Proofs.YtlijlgbaikijnaaGreatDoor
open Go Go.RowKit

mutual
def deepE : E → Nat
  | .mk _ _ _ kids => deepL kids + 1
def deepL : List E → Nat
  | [] => 0
  | e :: es => max (deepE e) (deepL es)
end
theorem deepL_take : ∀ (l : List E) (m : Nat) (h : m < l.length), deepL (l.take (m + 1)) = max (deepL (l.take m)) (deepE l[m])
  | [], m, h => by simp at h
  | x :: l, 0, _ => by simp [deepL]
  | x :: l, m + 1, h => by
    have := deepL_take l m (by simpa using h)
    simp only [List.take_succ_cons, deepL, List.getElem_cons_succ]
    omega
theorem deepL_mem : ∀ {l : List E}, ∀ x ∈ l, deepE x ≤ deepL l
  | [], x, hx => by cases hx
  | e :: es, x, hx => by
    unfold deepL
    rcases List.mem_cons.1 hx with rfl | hx
    · omega
    · have := deepL_mem x hx; omega
theorem deepL_le {n : Nat} : ∀ {l : List E}, (∀ x ∈ l, deepE x ≤ n) → deepL l ≤ n
  | [], _ => Nat.zero_le _
  | e :: es, h => by
    have h1 := h e (by simp)
    have h2 := deepL_le (l := es) fun x hx => h x (by simp [hx])
    unfold deepL
    omega
mutual
theorem deep_size : ∀ x : E, deepE x ≤ sizeE x
  | .mk op num name kids => by have := deep_sizeL kids; unfold deepE sizeE; omega
theorem deep_sizeL : ∀ l : List E, deepL l ≤ sizeL l
  | [] => Nat.le_refl _
  | e :: es => by have h1 := deep_size e; have h2 := deep_sizeL es; unfold deepL sizeL; omega
end
theorem dpLe_deep : ∀ (n : Nat) (x : E), dpLe n x = decide (deepE x ≤ n)
  | 0, .mk op num name kids => by
    rw [dpLe, deepE]
    symm
    rw [decide_eq_false_iff_not]
    omega
  | n + 1, .mk op num name kids => by
    rw [dpLe, deepE, Bool.eq_iff_iff, List.all_eq_true, decide_eq_true_eq]
    constructor
    · intro h
      have := deepL_le (n := n) fun x hx => by have := h x hx; rw [dpLe_deep n x] at this; simpa using this
      omega
    · intro h x hx
      rw [dpLe_deep n x, decide_eq_true_eq]
      have := deepL_mem x hx
      omega

set_option maxHeartbeats 2000000 in
set_option maxRecDepth 100000 in
theorem deep_step (op name : List UInt8) (num : Int) (kids : List E) (hsz : sizeE (.mk op num name kids) ≤ 1000000) (ih : ∀ x ∈ kids, Answers 40 x (.int .i64 (deepE x : Int))) : Answers 40 (.mk op num name kids) (.int .i64 (deepE (.mk op num name kids) : Int)) := by
  intro v ok w hx hok
  obtain ⟨A, cc, rfl, hcc, hcm, hkr⟩ := hx.form
  unfold maxLen at hcm
  have hdz := deep_size (.mk op num name kids)
  obtain ⟨S, hS⟩ : ∃ S, deepE (.mk op num name kids) = S := ⟨_, rfl⟩
  rw [hS] at hdz ⊢
  rw [deepE] at hS
  have hS1 : S ≤ 1000000 := by omega
  clear hdz hsz
  obtain ⟨KL, hKL⟩ : ∃ KL, kids.length = KL := ⟨_, rfl⟩
  rw [hKL] at hcc ⊢
  have hdm : ∀ m, deepL (kids.take m) ≤ deepL kids := fun m => deepL_le fun x hx => deepL_mem x (List.mem_of_mem_take hx)
  have hdk : ∀ x ∈ kids, deepE x ≤ deepL kids := deepL_mem
  replace hS := Lib.hid hS
  replace hKL := Lib.hid hKL
  replace hkr := Lib.hid hkr
  replace hok := Lib.hid hok
  replace ih := Lib.hid ih
  replace hdm := Lib.hid hdm
  replace hdk := Lib.hid hdk
  clear hx
  go_enter Tryz.func40, Tryz.ntmps40
  go_upto_region 1 with fail
  obtain ⟨w2, hW2, hs2, hgr, hcz, hfz, hold⟩ := one_new w #[.string ⟨op.toArray⟩, .int .i64 num, .string ⟨name.toArray⟩, .slice A KL cc] 37
  rw [hW2]
  obtain ⟨z, hz⟩ : ∃ z, w.heap.size = z := ⟨_, rfl⟩
  rw [hz] at hcz hs2 ⊢
  have q3 := hcz 3 _ rfl
  have hg2 := Lib.hid (hgr none)
  replace hz := Lib.hid hz
  clear hW2 hgr hcz hfz hold
  go_wp2
  go_loopw [3, 4] (fun sv nv wr => ∃ m : Nat, m ≤ KL ∧ nv = .int .i64 (m : Int) ∧ sv = .int .i64 ((deepL (kids.take m) : Nat) : Int) ∧ Hid (w2.grownBy wr none)) (fun _ nv _ => KL - (intOf nv).toNat)
  case atStart => exact ⟨0, Nat.zero_le _, rfl, by simp [deepL], grownBy_refl' _ _⟩
  case round =>
    obtain ⟨m, hm, rfl, rfl, hg⟩ := hrel
    have q3r := hg.out.cell q3 (by simp)
    by_cases hlt : m < KL
    · have hlt' : m < kids.length := by rw [hKL.out]; exact hlt
      have hgw := grownBy_trans' hg2.out hg.out
      obtain ⟨g, off, v0, v1, v2, v3, rfl, c0, c1, c2, c3, hxk⟩ := kid_at hkr.out (fun g h => hgw.block g (hok.out g h) (by simp)) m hlt'
      have hcl := ih.out kids[m] (List.getElem_mem hlt') _ ok wr hxk (fun g h => Nat.lt_of_lt_of_le (hok.out g h) hgw.size)
      have hnx : max (deepL (kids.take m)) (deepE kids[m]) = deepL (kids.take (m + 1)) := (deepL_take kids m hlt').symm
      clear hxk hgw q3
      generalize deepE kids[m] = sk at hcl hnx
      generalize deepL (kids.take m) = sm at hnx ⊢
      replace hnx := Lib.hid hnx
      by_cases hle : sm < sk
      · have i1 : (sm : Int) < (sk : Int) := by omega
        have hmx : max sm sk = sk := by omega
        rw [Hid, hmx] at hnx
        replace hnx := Lib.hid hnx
        clear hle hmx
        go_wp2_with fail
        refine hcl.mono ?_
        rintro e w5 ⟨rfl, hg5⟩
        have hgE := Lib.hid (grownBy_trans' hg.out hg5)
        clear hcl c0 c1 c2 c3 hg5 hg q3r
        go_wp2
        go_roundw
        case rel => exact ⟨m + 1, by omega, by go_num, by rw [← hnx.out]; first | rfl | (congr 1; omega), hgE⟩
        case measure => simp [intOf]; omega
      · have i1 : ¬ (sm : Int) < (sk : Int) := by omega
        have i2 : (sk : Int) ≤ (sm : Int) := by omega
        have hmx : max sm sk = sm := by omega
        rw [Hid, hmx] at hnx
        replace hnx := Lib.hid hnx
        clear hle hmx
        go_wp2_with fail
        refine hcl.mono ?_
        rintro e w5 ⟨rfl, hg5⟩
        have hgE := Lib.hid (grownBy_trans' hg.out hg5)
        clear hcl c0 c1 c2 c3 hg5 hg q3r
        go_wp2
        go_roundw
        case rel => exact ⟨m + 1, by omega, by go_num, by rw [← hnx.out]; first | rfl | (congr 1; omega), hgE⟩
        case measure => simp [intOf]; omega
    · obtain rfl : m = KL := by omega
      have hfin : deepL (kids.take m) + 1 = S := by rw [List.take_of_length_le (by have := hKL.out; omega)]; exact hS.out
      generalize deepL (kids.take m) = sm at hfin ⊢
      have e1 : wrap64 ((sm : Int) + 1) = (S : Int) := by unfold wrap64; omega
      clear hfin
      go_wp2
      go_ret
      exact ⟨ret_int e1, grownBy_trans' hg2.out hg.out⟩
theorem deep_all : ∀ (n : Nat) (x : E), sizeE x ≤ n → sizeE x ≤ 1000000 → Answers 40 x (.int .i64 (deepE x : Int))
  | 0, .mk _ _ _ _, h, _ => by unfold sizeE at h; omega
  | n + 1, .mk op num name kids, h, h6 => by
    refine deep_step op name num kids h6 fun x hx => ?_
    unfold sizeE at h h6
    exact deep_all n x (by have := sizeL.mem x hx; omega) (by have := sizeL.mem x hx; omega)
theorem rDeep_any (x : E) (h : sizeE x ≤ 1000000) : Answers 40 x (.int .i64 (deepE x : Int)) := deep_all _ x (Nat.le_refl _) h
end Go.Proofs.YtlijlgbaikijnaaGreatDoor

namespace Go.Proofs.YtlijlgbaikijnaaGreatDoor
open Go Go.RowKit

set_option maxHeartbeats 4000000 in
set_option maxRecDepth 100000 in
theorem right_step (op name : List UInt8) (num : Int) (kids : List E) (hsh : ShortE (.mk op num name kids)) (ih : ∀ x ∈ kids, Answers 39 x (.bool (rightE x))) : Answers 39 (.mk op num name kids) (.bool (rightE (.mk op num name kids))) := by
  intro v ok w hx hok
  obtain ⟨A, cc, rfl, hcc, hcm, hkr⟩ := hx.form
  unfold maxLen at hcm
  unfold ShortE at hsh
  obtain ⟨KL, hKL⟩ : ∃ KL, kids.length = KL := ⟨_, rfl⟩
  obtain ⟨x, hxx⟩ : ∃ x : ByteArray, (⟨op.toArray⟩ : ByteArray) = x := ⟨_, rfl⟩
  obtain ⟨nx, hnx⟩ : ∃ nx : ByteArray, (⟨name.toArray⟩ : ByteArray) = nx := ⟨_, rfl⟩
  have hxt : tl x = op := by rw [← hxx]; rfl
  have hnt : tl nx = name := by rw [← hnx]; rfl
  have hkd := fun W => rKids_any x W
  have has := fun W => rSets_any x W
  have his := fun W => rName_any nx W (by rw [← tl_len, hnt]; omega)
  rw [hxt] at hkd has
  rw [hnt] at his
  obtain ⟨KV, hKV⟩ : ∃ KV, kidsV op = KV := ⟨_, rfl⟩
  obtain ⟨ab, hab⟩ : ∃ b, asgV op = b := ⟨_, rfl⟩
  obtain ⟨mb, hmb⟩ : ∃ b, isNmB name = b := ⟨_, rfl⟩
  obtain ⟨r, hr⟩ : ∃ r, rightE (.mk op num name kids) = r := ⟨_, rfl⟩
  rw [hr]
  obtain ⟨n1, hn1⟩ : ∃ b, (op == [110, 117, 109]) = b := ⟨_, rfl⟩
  obtain ⟨n2, hn2⟩ : ∃ b, (op == [110, 97, 109, 101]) = b := ⟨_, rfl⟩
  obtain ⟨sb, hsb⟩ : ∃ b, decide (num < 0) = b := ⟨_, rfl⟩
  obtain ⟨kn, hkb⟩ : ∃ b, (KV != (KL : Int)) = b := ⟨_, rfl⟩
  have hxl : x.toList = op := by rw [Lib.toList_data]; exact hxt
  have k1 : (x.toList == [110, 117, 109]) = n1 := by rw [hxl, hn1]
  have k2 : (x.toList == [110, 97, 109, 101]) = n2 := by rw [hxl, hn2]
  have h12 : n1 = true → n2 = false ∧ ab = false := by
    intro h
    have e : op = [110, 117, 109] := by rw [h] at hn1; simpa using hn1
    subst e
    exact ⟨by rw [← hn2]; decide, by rw [← hab]; decide⟩
  rw [rightE, hKV, hab, hmb, hn1, hn2, hsb] at hr
  rw [show decide ((kids.length : Int) = KV) = !kn by rw [← hkb, hKL]; unfold bne; rw [Bool.not_not, Bool.eq_iff_iff]; simp; exact eq_comm] at hr
  rw [hKV] at hkd
  rw [hab] at has
  rw [hmb] at his
  rw [hxx, hnx]
  rw [hKL] at hcc ⊢
  replace hr := Lib.hid hr
  replace hKL := Lib.hid hKL
  replace hkr := Lib.hid hkr
  replace hok := Lib.hid hok
  replace ih := Lib.hid ih
  replace h12 := Lib.hid h12
  clear hx hxl hxx hnx hxt hnt hKV hab hmb hn1 hn2 hsh
  go_enter Tryz.func39, Tryz.ntmps39
  go_upto_region 1 with fail
  obtain ⟨w2, hW2, hs2, hgr, hcz, hfz, hold⟩ := one_new w #[.string x, .int .i64 num, .string nx, .slice A KL cc] 37
  rw [hW2]
  obtain ⟨z, hz⟩ : ∃ z, w.heap.size = z := ⟨_, rfl⟩
  rw [hz] at hcz hs2 ⊢
  have q0 := hcz 0 _ rfl
  have q1 := hcz 1 _ rfl
  have q2 := hcz 2 _ rfl
  have q3 := hcz 3 _ rfl
  have hg2 := Lib.hid (hgr none)
  replace hz := Lib.hid hz
  clear hW2 hgr hcz hfz hold
  obtain ⟨nk, hokb⟩ : ∃ b, (!(!kn && !(n1 && sb) && (!(n2 || ab) || mb))) = b := ⟨_, rfl⟩
  have hr2 : Hid ((!nk && rightL kids) = r) := by rw [Hid, ← hr.out, ← hokb, Bool.not_not]
  replace hokb := Lib.hid hokb
  clear hr
  go_cut [36] from 4 to 35 (fun c wx => c = .bool nk ∧ ∃ d, wx = w2.drewN d)
  case first =>
    clear ih hkr hok hr2
    cases kn with
    | true =>
      clear hsb has his h12
      obtain rfl := hokb.out
      go_quiet ((go_at_call 66; refine Calls.quiet_of_same (hkd _)))
      go_wp2
      go_meet
      exact ⟨rfl, _, rfl⟩
    | false =>
    cases n1 with
    | true =>
      obtain ⟨rfl, rfl⟩ := h12.out rfl
      cases sb with
      | true =>
        have i0 : num < 0 := by simpa using hsb
        clear has his h12
        obtain rfl := hokb.out
        go_quiet ((go_at_call 66; refine Calls.quiet_of_same (hkd _)))
        go_wp2
        go_meet
        exact ⟨rfl, _, rfl⟩
      | false =>
        have i0 : ¬ num < 0 := by simpa using hsb
        clear his h12
        obtain rfl := hokb.out
        go_quiet ((first | (go_at_call 66; refine Calls.quiet_of_same (hkd _)) | (go_at_call 67; refine Calls.quiet_of_same (has _))))
        go_wp2
        go_meet
        exact ⟨rfl, _, rfl⟩
    | false =>
    clear hsb h12
    cases n2 with
    | true =>
      clear has
      cases mb with
      | true =>
        obtain rfl := hokb.out
        go_quiet ((first | (go_at_call 66; refine Calls.quiet_of_same (hkd _)) | (go_at_call 68; refine Calls.quiet_of_same (his _))))
        go_wp2
        go_meet
        exact ⟨rfl, _, rfl⟩
      | false =>
        obtain rfl := hokb.out
        go_quiet ((first | (go_at_call 66; refine Calls.quiet_of_same (hkd _)) | (go_at_call 68; refine Calls.quiet_of_same (his _))))
        go_wp2
        go_meet
        exact ⟨rfl, _, rfl⟩
    | false =>
    cases ab with
    | true =>
      cases mb with
      | true =>
        obtain rfl := hokb.out
        go_quiet ((first | (go_at_call 66; refine Calls.quiet_of_same (hkd _)) | (go_at_call 67; refine Calls.quiet_of_same (has _)) | (go_at_call 68; refine Calls.quiet_of_same (his _))))
        go_wp2
        go_meet
        exact ⟨rfl, _, rfl⟩
      | false =>
        obtain rfl := hokb.out
        go_quiet ((first | (go_at_call 66; refine Calls.quiet_of_same (hkd _)) | (go_at_call 67; refine Calls.quiet_of_same (has _)) | (go_at_call 68; refine Calls.quiet_of_same (his _))))
        go_wp2
        go_meet
        exact ⟨rfl, _, rfl⟩
    | false =>
      clear his
      obtain rfl := hokb.out
      go_quiet ((first | (go_at_call 66; refine Calls.quiet_of_same (hkd _)) | (go_at_call 67; refine Calls.quiet_of_same (has _))))
      go_wp2
      go_meet
      exact ⟨rfl, _, rfl⟩
  case rest =>
  obtain ⟨rfl, d, hd⟩ := hcut
  have hgd : w2.grownBy wc none := by rw [hd]; exact ⟨rfl, rfl, rfl, Nat.le_refl _, fun _ _ _ => rfl⟩
  have q3 := hgd.cell q3 (by simp)
  have hg2 := Lib.hid (grownBy_trans' hg2.out hgd)
  clear hd hgd hkd has his k1 k2 hsb hkb h12 hokb q0 q1 q2 hs2
  cases nk with
  | true =>
    have hrf : r = false := by rw [← hr2.out]; rfl
    subst hrf
    clear hr2
    go_wp2
    go_ret
    exact ⟨rfl, hg2.out⟩
  | false =>
  have hrp : Hid (rightL kids = r) := by rw [Hid, ← hr2.out]; rfl
  clear hr2
  go_wp2
  go_loopw [3] (fun nv wr => ∃ m : Nat, m ≤ KL ∧ nv = .int .i64 (m : Int) ∧ Hid (wc.grownBy wr none) ∧ Hid (∀ i (hi : i < kids.length), i < m → rightE kids[i] = true)) (fun nv _ => KL - (intOf nv).toNat)
  case atStart => exact ⟨0, Nat.zero_le _, rfl, grownBy_refl' _ _, fun _ _ h => absurd h (Nat.not_lt_zero _)⟩
  case round =>
    obtain ⟨m, hm, rfl, hg, hyes⟩ := hrel
    have q3r := hg.out.cell q3 (by simp)
    by_cases hlt : m < KL
    · have hlt' : m < kids.length := by rw [hKL.out]; exact hlt
      have hgw := grownBy_trans' hg2.out hg.out
      obtain ⟨g, off, v0, v1, v2, v3, rfl, c0, c1, c2, c3, hxk⟩ := kid_at hkr.out (fun g h => hgw.block g (hok.out g h) (by simp)) m hlt'
      have hcl := ih.out kids[m] (List.getElem_mem hlt') _ ok wr hxk (fun g h => Nat.lt_of_lt_of_le (hok.out g h) hgw.size)
      obtain ⟨q, hq⟩ : ∃ q, rightE kids[m] = q := ⟨_, rfl⟩
      rw [hq] at hcl
      have hq := Lib.hid hq
      clear hxk hgw q3
      cases q with
      | true =>
        have hyes2 : Hid (∀ i (hi : i < kids.length), i < m + 1 → rightE kids[i] = true) := fun i hi h => by
          rcases Nat.lt_or_ge i m with h' | h'
          · exact hyes.out i hi h'
          · obtain rfl : i = m := by omega
            exact hq.out
        clear hyes hq
        go_wp2_with fail
        refine hcl.mono ?_
        rintro e w5 ⟨rfl, hg5⟩
        have hgE := Lib.hid (grownBy_trans' hg.out hg5)
        clear hcl c0 c1 c2 c3 hg5 hg q3r
        go_wp2
        go_roundw
        case rel => exact ⟨m + 1, by omega, by go_num, hgE, hyes2⟩
        case measure => simp [intOf]; omega
      | false =>
        have hrf : r = false := by
          rw [← hrp.out, Bool.eq_false_iff]
          intro h
          have := rightL_iff.1 h kids[m] (List.getElem_mem hlt')
          rw [hq.out] at this
          cases this
        subst hrf
        clear hyes hq hrp
        go_wp2_with fail
        refine hcl.mono ?_
        rintro e w5 ⟨rfl, hg5⟩
        have hgE := grownBy_trans' hg2.out (grownBy_trans' hg.out hg5)
        clear hcl c0 c1 c2 c3 hg5 hg q3r
        go_wp2
        go_ret
        exact ⟨rfl, hgE⟩
    · obtain rfl : m = KL := by omega
      have hrf : r = true := by
        rw [← hrp.out, rightL_iff]
        intro y hy
        obtain ⟨i, hi, rfl⟩ := List.getElem_of_mem hy
        exact hyes.out i hi (by have := hKL.out; omega)
      subst hrf
      clear hyes hrp
      go_wp2
      go_ret
      exact ⟨rfl, grownBy_trans' hg2.out hg.out⟩
theorem right_all : ∀ (n : Nat) (x : E), sizeE x ≤ n → ShortE x → Answers 39 x (.bool (rightE x))
  | 0, .mk _ _ _ _, h, _ => by unfold sizeE at h; omega
  | n + 1, .mk op num name kids, h, hs => by
    unfold sizeE at h
    refine right_step op name num kids hs fun x hx => ?_
    unfold ShortE at hs
    exact right_all n x (by have := sizeL.mem x hx; omega) (hs.2.mem x hx)
theorem rRight_any (x : E) (h : ShortE x) : Answers 39 x (.bool (rightE x)) := right_all _ x (Nat.le_refl _) h
end Go.Proofs.YtlijlgbaikijnaaGreatDoor
