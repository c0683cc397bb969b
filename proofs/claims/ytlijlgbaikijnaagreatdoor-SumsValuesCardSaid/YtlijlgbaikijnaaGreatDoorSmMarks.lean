/-
  What marks are, by the package: which Op a mark ahead is, and back; how early a mark goes; which marks assign. Conditions: none.
-/
import Derived.Test.YtlijlgbaikijnaaGreatDoorSmText
namespace Go.Proofs.YtlijlgbaikijnaaGreatDoor
open Go Go.RowKit

def opV (l : List UInt8) : List UInt8 :=
  if l == [45] then [110, 101, 103] else if l == [43] then [112, 111, 115] else if l == [33] then [110, 111, 116] else if l == [126] then [99, 111, 109] else []
set_option maxHeartbeats 1000000 in
set_option maxRecDepth 100000 in
theorem opAhead_any (x : ByteArray) (w : World) : Calls Tryz.prog 128 #[.string x] w fun e w' => e = .returned (.string ⟨(opV (tl x)).toArray⟩) ∧ w' = w := by
  have hx : Hid (x.toList = tl x) := Lib.toList_data x
  cases h0 : (tl x == [45]) with
  | true =>
    have g0 : (x.toList == [45]) = true := by rw [hx.out]; exact h0
    rw [show opV (tl x) = [110, 101, 103] by simp only [opV, h0, if_true]]
    clear hx h0
    go_enter Tryz.func128, Tryz.ntmps128
    go_wp2
    go_ret
    exact ⟨rfl, rfl⟩
  | false =>
    have g0 : (x.toList == [45]) = false := by rw [hx.out]; exact h0
    cases h1 : (tl x == [43]) with
    | true =>
      have g1 : (x.toList == [43]) = true := by rw [hx.out]; exact h1
      rw [show opV (tl x) = [112, 111, 115] by simp only [opV, h0, h1, if_true, Bool.false_eq_true, if_false]]
      clear hx h0 h1
      go_enter Tryz.func128, Tryz.ntmps128
      go_wp2
      go_ret
      exact ⟨rfl, rfl⟩
    | false =>
      have g1 : (x.toList == [43]) = false := by rw [hx.out]; exact h1
      cases h2 : (tl x == [33]) with
      | true =>
        have g2 : (x.toList == [33]) = true := by rw [hx.out]; exact h2
        rw [show opV (tl x) = [110, 111, 116] by simp only [opV, h0, h1, h2, if_true, Bool.false_eq_true, if_false]]
        clear hx h0 h1 h2
        go_enter Tryz.func128, Tryz.ntmps128
        go_wp2
        go_ret
        exact ⟨rfl, rfl⟩
      | false =>
        have g2 : (x.toList == [33]) = false := by rw [hx.out]; exact h2
        cases h3 : (tl x == [126]) with
        | true =>
          have g3 : (x.toList == [126]) = true := by rw [hx.out]; exact h3
          rw [show opV (tl x) = [99, 111, 109] by simp only [opV, h0, h1, h2, h3, if_true, Bool.false_eq_true, if_false]]
          clear hx h0 h1 h2 h3
          go_enter Tryz.func128, Tryz.ntmps128
          go_wp2
          go_ret
          exact ⟨rfl, rfl⟩
        | false =>
          have g3 : (x.toList == [126]) = false := by rw [hx.out]; exact h3
          rw [show opV (tl x) = [] by simp only [opV, h0, h1, h2, h3, Bool.false_eq_true, if_false]]
          clear hx h0 h1 h2 h3
          go_enter Tryz.func128, Tryz.ntmps128
          go_wp2
          go_ret
          exact ⟨rfl, rfl⟩
def markV (l : List UInt8) : List UInt8 :=
  if l == [110, 101, 103] then [45] else if l == [112, 111, 115] then [43] else if l == [110, 111, 116] then [33] else if l == [99, 111, 109] then [126] else []
set_option maxHeartbeats 1000000 in
set_option maxRecDepth 100000 in
theorem markAhead_any (x : ByteArray) (w : World) : Calls Tryz.prog 65 #[.string x] w fun e w' => e = .returned (.string ⟨(markV (tl x)).toArray⟩) ∧ w' = w := by
  have hx : Hid (x.toList = tl x) := Lib.toList_data x
  cases h0 : (tl x == [110, 101, 103]) with
  | true =>
    have g0 : (x.toList == [110, 101, 103]) = true := by rw [hx.out]; exact h0
    rw [show markV (tl x) = [45] by simp only [markV, h0, if_true]]
    clear hx h0
    go_enter Tryz.func65, Tryz.ntmps65
    go_wp2
    go_ret
    exact ⟨rfl, rfl⟩
  | false =>
    have g0 : (x.toList == [110, 101, 103]) = false := by rw [hx.out]; exact h0
    cases h1 : (tl x == [112, 111, 115]) with
    | true =>
      have g1 : (x.toList == [112, 111, 115]) = true := by rw [hx.out]; exact h1
      rw [show markV (tl x) = [43] by simp only [markV, h0, h1, if_true, Bool.false_eq_true, if_false]]
      clear hx h0 h1
      go_enter Tryz.func65, Tryz.ntmps65
      go_wp2
      go_ret
      exact ⟨rfl, rfl⟩
    | false =>
      have g1 : (x.toList == [112, 111, 115]) = false := by rw [hx.out]; exact h1
      cases h2 : (tl x == [110, 111, 116]) with
      | true =>
        have g2 : (x.toList == [110, 111, 116]) = true := by rw [hx.out]; exact h2
        rw [show markV (tl x) = [33] by simp only [markV, h0, h1, h2, if_true, Bool.false_eq_true, if_false]]
        clear hx h0 h1 h2
        go_enter Tryz.func65, Tryz.ntmps65
        go_wp2
        go_ret
        exact ⟨rfl, rfl⟩
      | false =>
        have g2 : (x.toList == [110, 111, 116]) = false := by rw [hx.out]; exact h2
        cases h3 : (tl x == [99, 111, 109]) with
        | true =>
          have g3 : (x.toList == [99, 111, 109]) = true := by rw [hx.out]; exact h3
          rw [show markV (tl x) = [126] by simp only [markV, h0, h1, h2, h3, if_true, Bool.false_eq_true, if_false]]
          clear hx h0 h1 h2 h3
          go_enter Tryz.func65, Tryz.ntmps65
          go_wp2
          go_ret
          exact ⟨rfl, rfl⟩
        | false =>
          have g3 : (x.toList == [99, 111, 109]) = false := by rw [hx.out]; exact h3
          rw [show markV (tl x) = [] by simp only [markV, h0, h1, h2, h3, Bool.false_eq_true, if_false]]
          clear hx h0 h1 h2 h3
          go_enter Tryz.func65, Tryz.ntmps65
          go_wp2
          go_ret
          exact ⟨rfl, rfl⟩
def rowV (l : List UInt8) : Nat :=
  if l == [42] then 10 else if l == [47] then 10 else if l == [37] then 10 else if l == [43] then 9 else if l == [45] then 9 else if l == [60, 60] then 8 else if l == [62, 62] then 8 else if l == [60] then 7 else if l == [60, 61] then 7 else if l == [62] then 7 else if l == [62, 61] then 7 else if l == [61, 61] then 6 else if l == [33, 61] then 6 else if l == [38] then 5 else if l == [94] then 4 else if l == [124] then 3 else if l == [38, 38] then 2 else if l == [124, 124] then 1 else 0
set_option maxHeartbeats 1000000 in
set_option maxRecDepth 100000 in
theorem row_any (x : ByteArray) (w : World) : Calls Tryz.prog 92 #[.string x] w fun e w' => e = .returned (.int .i64 (rowV (tl x) : Int)) ∧ w' = w := by
  have hx : Hid (x.toList = tl x) := Lib.toList_data x
  cases h0 : (tl x == [42]) with
  | true =>
    have g0 : (x.toList == [42]) = true := by rw [hx.out]; exact h0
    rw [show rowV (tl x) = 10 by simp only [rowV, h0, if_true]]
    clear hx h0
    go_enter Tryz.func92, Tryz.ntmps92
    go_wp2
    go_ret
    exact ⟨rfl, rfl⟩
  | false =>
    have g0 : (x.toList == [42]) = false := by rw [hx.out]; exact h0
    cases h1 : (tl x == [47]) with
    | true =>
      have g1 : (x.toList == [47]) = true := by rw [hx.out]; exact h1
      rw [show rowV (tl x) = 10 by simp only [rowV, h0, h1, if_true, Bool.false_eq_true, if_false]]
      clear hx h0 h1
      go_enter Tryz.func92, Tryz.ntmps92
      go_wp2
      go_ret
      exact ⟨rfl, rfl⟩
    | false =>
      have g1 : (x.toList == [47]) = false := by rw [hx.out]; exact h1
      cases h2 : (tl x == [37]) with
      | true =>
        have g2 : (x.toList == [37]) = true := by rw [hx.out]; exact h2
        rw [show rowV (tl x) = 10 by simp only [rowV, h0, h1, h2, if_true, Bool.false_eq_true, if_false]]
        clear hx h0 h1 h2
        go_enter Tryz.func92, Tryz.ntmps92
        go_wp2
        go_ret
        exact ⟨rfl, rfl⟩
      | false =>
        have g2 : (x.toList == [37]) = false := by rw [hx.out]; exact h2
        cases h3 : (tl x == [43]) with
        | true =>
          have g3 : (x.toList == [43]) = true := by rw [hx.out]; exact h3
          rw [show rowV (tl x) = 9 by simp only [rowV, h0, h1, h2, h3, if_true, Bool.false_eq_true, if_false]]
          clear hx h0 h1 h2 h3
          go_enter Tryz.func92, Tryz.ntmps92
          go_wp2
          go_ret
          exact ⟨rfl, rfl⟩
        | false =>
          have g3 : (x.toList == [43]) = false := by rw [hx.out]; exact h3
          cases h4 : (tl x == [45]) with
          | true =>
            have g4 : (x.toList == [45]) = true := by rw [hx.out]; exact h4
            rw [show rowV (tl x) = 9 by simp only [rowV, h0, h1, h2, h3, h4, if_true, Bool.false_eq_true, if_false]]
            clear hx h0 h1 h2 h3 h4
            go_enter Tryz.func92, Tryz.ntmps92
            go_wp2
            go_ret
            exact ⟨rfl, rfl⟩
          | false =>
            have g4 : (x.toList == [45]) = false := by rw [hx.out]; exact h4
            cases h5 : (tl x == [60, 60]) with
            | true =>
              have g5 : (x.toList == [60, 60]) = true := by rw [hx.out]; exact h5
              rw [show rowV (tl x) = 8 by simp only [rowV, h0, h1, h2, h3, h4, h5, if_true, Bool.false_eq_true, if_false]]
              clear hx h0 h1 h2 h3 h4 h5
              go_enter Tryz.func92, Tryz.ntmps92
              go_wp2
              go_ret
              exact ⟨rfl, rfl⟩
            | false =>
              have g5 : (x.toList == [60, 60]) = false := by rw [hx.out]; exact h5
              cases h6 : (tl x == [62, 62]) with
              | true =>
                have g6 : (x.toList == [62, 62]) = true := by rw [hx.out]; exact h6
                rw [show rowV (tl x) = 8 by simp only [rowV, h0, h1, h2, h3, h4, h5, h6, if_true, Bool.false_eq_true, if_false]]
                clear hx h0 h1 h2 h3 h4 h5 h6
                go_enter Tryz.func92, Tryz.ntmps92
                go_wp2
                go_ret
                exact ⟨rfl, rfl⟩
              | false =>
                have g6 : (x.toList == [62, 62]) = false := by rw [hx.out]; exact h6
                cases h7 : (tl x == [60]) with
                | true =>
                  have g7 : (x.toList == [60]) = true := by rw [hx.out]; exact h7
                  rw [show rowV (tl x) = 7 by simp only [rowV, h0, h1, h2, h3, h4, h5, h6, h7, if_true, Bool.false_eq_true, if_false]]
                  clear hx h0 h1 h2 h3 h4 h5 h6 h7
                  go_enter Tryz.func92, Tryz.ntmps92
                  go_wp2
                  go_ret
                  exact ⟨rfl, rfl⟩
                | false =>
                  have g7 : (x.toList == [60]) = false := by rw [hx.out]; exact h7
                  cases h8 : (tl x == [60, 61]) with
                  | true =>
                    have g8 : (x.toList == [60, 61]) = true := by rw [hx.out]; exact h8
                    rw [show rowV (tl x) = 7 by simp only [rowV, h0, h1, h2, h3, h4, h5, h6, h7, h8, if_true, Bool.false_eq_true, if_false]]
                    clear hx h0 h1 h2 h3 h4 h5 h6 h7 h8
                    go_enter Tryz.func92, Tryz.ntmps92
                    go_wp2
                    go_ret
                    exact ⟨rfl, rfl⟩
                  | false =>
                    have g8 : (x.toList == [60, 61]) = false := by rw [hx.out]; exact h8
                    cases h9 : (tl x == [62]) with
                    | true =>
                      have g9 : (x.toList == [62]) = true := by rw [hx.out]; exact h9
                      rw [show rowV (tl x) = 7 by simp only [rowV, h0, h1, h2, h3, h4, h5, h6, h7, h8, h9, if_true, Bool.false_eq_true, if_false]]
                      clear hx h0 h1 h2 h3 h4 h5 h6 h7 h8 h9
                      go_enter Tryz.func92, Tryz.ntmps92
                      go_wp2
                      go_ret
                      exact ⟨rfl, rfl⟩
                    | false =>
                      have g9 : (x.toList == [62]) = false := by rw [hx.out]; exact h9
                      cases h10 : (tl x == [62, 61]) with
                      | true =>
                        have g10 : (x.toList == [62, 61]) = true := by rw [hx.out]; exact h10
                        rw [show rowV (tl x) = 7 by simp only [rowV, h0, h1, h2, h3, h4, h5, h6, h7, h8, h9, h10, if_true, Bool.false_eq_true, if_false]]
                        clear hx h0 h1 h2 h3 h4 h5 h6 h7 h8 h9 h10
                        go_enter Tryz.func92, Tryz.ntmps92
                        go_wp2
                        go_ret
                        exact ⟨rfl, rfl⟩
                      | false =>
                        have g10 : (x.toList == [62, 61]) = false := by rw [hx.out]; exact h10
                        cases h11 : (tl x == [61, 61]) with
                        | true =>
                          have g11 : (x.toList == [61, 61]) = true := by rw [hx.out]; exact h11
                          rw [show rowV (tl x) = 6 by simp only [rowV, h0, h1, h2, h3, h4, h5, h6, h7, h8, h9, h10, h11, if_true, Bool.false_eq_true, if_false]]
                          clear hx h0 h1 h2 h3 h4 h5 h6 h7 h8 h9 h10 h11
                          go_enter Tryz.func92, Tryz.ntmps92
                          go_wp2
                          go_ret
                          exact ⟨rfl, rfl⟩
                        | false =>
                          have g11 : (x.toList == [61, 61]) = false := by rw [hx.out]; exact h11
                          cases h12 : (tl x == [33, 61]) with
                          | true =>
                            have g12 : (x.toList == [33, 61]) = true := by rw [hx.out]; exact h12
                            rw [show rowV (tl x) = 6 by simp only [rowV, h0, h1, h2, h3, h4, h5, h6, h7, h8, h9, h10, h11, h12, if_true, Bool.false_eq_true, if_false]]
                            clear hx h0 h1 h2 h3 h4 h5 h6 h7 h8 h9 h10 h11 h12
                            go_enter Tryz.func92, Tryz.ntmps92
                            go_wp2
                            go_ret
                            exact ⟨rfl, rfl⟩
                          | false =>
                            have g12 : (x.toList == [33, 61]) = false := by rw [hx.out]; exact h12
                            cases h13 : (tl x == [38]) with
                            | true =>
                              have g13 : (x.toList == [38]) = true := by rw [hx.out]; exact h13
                              rw [show rowV (tl x) = 5 by simp only [rowV, h0, h1, h2, h3, h4, h5, h6, h7, h8, h9, h10, h11, h12, h13, if_true, Bool.false_eq_true, if_false]]
                              clear hx h0 h1 h2 h3 h4 h5 h6 h7 h8 h9 h10 h11 h12 h13
                              go_enter Tryz.func92, Tryz.ntmps92
                              go_wp2
                              go_ret
                              exact ⟨rfl, rfl⟩
                            | false =>
                              have g13 : (x.toList == [38]) = false := by rw [hx.out]; exact h13
                              cases h14 : (tl x == [94]) with
                              | true =>
                                have g14 : (x.toList == [94]) = true := by rw [hx.out]; exact h14
                                rw [show rowV (tl x) = 4 by simp only [rowV, h0, h1, h2, h3, h4, h5, h6, h7, h8, h9, h10, h11, h12, h13, h14, if_true, Bool.false_eq_true, if_false]]
                                clear hx h0 h1 h2 h3 h4 h5 h6 h7 h8 h9 h10 h11 h12 h13 h14
                                go_enter Tryz.func92, Tryz.ntmps92
                                go_wp2
                                go_ret
                                exact ⟨rfl, rfl⟩
                              | false =>
                                have g14 : (x.toList == [94]) = false := by rw [hx.out]; exact h14
                                cases h15 : (tl x == [124]) with
                                | true =>
                                  have g15 : (x.toList == [124]) = true := by rw [hx.out]; exact h15
                                  rw [show rowV (tl x) = 3 by simp only [rowV, h0, h1, h2, h3, h4, h5, h6, h7, h8, h9, h10, h11, h12, h13, h14, h15, if_true, Bool.false_eq_true, if_false]]
                                  clear hx h0 h1 h2 h3 h4 h5 h6 h7 h8 h9 h10 h11 h12 h13 h14 h15
                                  go_enter Tryz.func92, Tryz.ntmps92
                                  go_wp2
                                  go_ret
                                  exact ⟨rfl, rfl⟩
                                | false =>
                                  have g15 : (x.toList == [124]) = false := by rw [hx.out]; exact h15
                                  cases h16 : (tl x == [38, 38]) with
                                  | true =>
                                    have g16 : (x.toList == [38, 38]) = true := by rw [hx.out]; exact h16
                                    rw [show rowV (tl x) = 2 by simp only [rowV, h0, h1, h2, h3, h4, h5, h6, h7, h8, h9, h10, h11, h12, h13, h14, h15, h16, if_true, Bool.false_eq_true, if_false]]
                                    clear hx h0 h1 h2 h3 h4 h5 h6 h7 h8 h9 h10 h11 h12 h13 h14 h15 h16
                                    go_enter Tryz.func92, Tryz.ntmps92
                                    go_wp2
                                    go_ret
                                    exact ⟨rfl, rfl⟩
                                  | false =>
                                    have g16 : (x.toList == [38, 38]) = false := by rw [hx.out]; exact h16
                                    cases h17 : (tl x == [124, 124]) with
                                    | true =>
                                      have g17 : (x.toList == [124, 124]) = true := by rw [hx.out]; exact h17
                                      rw [show rowV (tl x) = 1 by simp only [rowV, h0, h1, h2, h3, h4, h5, h6, h7, h8, h9, h10, h11, h12, h13, h14, h15, h16, h17, if_true, Bool.false_eq_true, if_false]]
                                      clear hx h0 h1 h2 h3 h4 h5 h6 h7 h8 h9 h10 h11 h12 h13 h14 h15 h16 h17
                                      go_enter Tryz.func92, Tryz.ntmps92
                                      go_wp2
                                      go_ret
                                      exact ⟨rfl, rfl⟩
                                    | false =>
                                      have g17 : (x.toList == [124, 124]) = false := by rw [hx.out]; exact h17
                                      rw [show rowV (tl x) = 0 by simp only [rowV, h0, h1, h2, h3, h4, h5, h6, h7, h8, h9, h10, h11, h12, h13, h14, h15, h16, h17, Bool.false_eq_true, if_false]]
                                      clear hx h0 h1 h2 h3 h4 h5 h6 h7 h8 h9 h10 h11 h12 h13 h14 h15 h16 h17
                                      go_enter Tryz.func92, Tryz.ntmps92
                                      go_wp2
                                      go_ret
                                      exact ⟨rfl, rfl⟩
def asgV (l : List UInt8) : Bool :=
  if l == [61] then true else if l == [42, 61] then true else if l == [47, 61] then true else if l == [37, 61] then true else if l == [43, 61] then true else if l == [45, 61] then true else if l == [60, 60, 61] then true else if l == [62, 62, 61] then true else if l == [38, 61] then true else if l == [94, 61] then true else if l == [124, 61] then true else false
set_option maxHeartbeats 1000000 in
set_option maxRecDepth 100000 in
theorem assigns_any (x : ByteArray) (w : World) : Calls Tryz.prog 62 #[.string x] w fun e w' => e = .returned (.bool (asgV (tl x))) ∧ w' = w := by
  have hx : Hid (x.toList = tl x) := Lib.toList_data x
  cases h0 : (tl x == [61]) with
  | true =>
    have g0 : (x.toList == [61]) = true := by rw [hx.out]; exact h0
    rw [show asgV (tl x) = true by simp only [asgV, h0, if_true]]
    clear hx h0
    go_enter Tryz.func62, Tryz.ntmps62
    go_wp2
    go_ret
    exact ⟨rfl, rfl⟩
  | false =>
    have g0 : (x.toList == [61]) = false := by rw [hx.out]; exact h0
    cases h1 : (tl x == [42, 61]) with
    | true =>
      have g1 : (x.toList == [42, 61]) = true := by rw [hx.out]; exact h1
      rw [show asgV (tl x) = true by simp only [asgV, h0, h1, if_true, Bool.false_eq_true, if_false]]
      clear hx h0 h1
      go_enter Tryz.func62, Tryz.ntmps62
      go_wp2
      go_ret
      exact ⟨rfl, rfl⟩
    | false =>
      have g1 : (x.toList == [42, 61]) = false := by rw [hx.out]; exact h1
      cases h2 : (tl x == [47, 61]) with
      | true =>
        have g2 : (x.toList == [47, 61]) = true := by rw [hx.out]; exact h2
        rw [show asgV (tl x) = true by simp only [asgV, h0, h1, h2, if_true, Bool.false_eq_true, if_false]]
        clear hx h0 h1 h2
        go_enter Tryz.func62, Tryz.ntmps62
        go_wp2
        go_ret
        exact ⟨rfl, rfl⟩
      | false =>
        have g2 : (x.toList == [47, 61]) = false := by rw [hx.out]; exact h2
        cases h3 : (tl x == [37, 61]) with
        | true =>
          have g3 : (x.toList == [37, 61]) = true := by rw [hx.out]; exact h3
          rw [show asgV (tl x) = true by simp only [asgV, h0, h1, h2, h3, if_true, Bool.false_eq_true, if_false]]
          clear hx h0 h1 h2 h3
          go_enter Tryz.func62, Tryz.ntmps62
          go_wp2
          go_ret
          exact ⟨rfl, rfl⟩
        | false =>
          have g3 : (x.toList == [37, 61]) = false := by rw [hx.out]; exact h3
          cases h4 : (tl x == [43, 61]) with
          | true =>
            have g4 : (x.toList == [43, 61]) = true := by rw [hx.out]; exact h4
            rw [show asgV (tl x) = true by simp only [asgV, h0, h1, h2, h3, h4, if_true, Bool.false_eq_true, if_false]]
            clear hx h0 h1 h2 h3 h4
            go_enter Tryz.func62, Tryz.ntmps62
            go_wp2
            go_ret
            exact ⟨rfl, rfl⟩
          | false =>
            have g4 : (x.toList == [43, 61]) = false := by rw [hx.out]; exact h4
            cases h5 : (tl x == [45, 61]) with
            | true =>
              have g5 : (x.toList == [45, 61]) = true := by rw [hx.out]; exact h5
              rw [show asgV (tl x) = true by simp only [asgV, h0, h1, h2, h3, h4, h5, if_true, Bool.false_eq_true, if_false]]
              clear hx h0 h1 h2 h3 h4 h5
              go_enter Tryz.func62, Tryz.ntmps62
              go_wp2
              go_ret
              exact ⟨rfl, rfl⟩
            | false =>
              have g5 : (x.toList == [45, 61]) = false := by rw [hx.out]; exact h5
              cases h6 : (tl x == [60, 60, 61]) with
              | true =>
                have g6 : (x.toList == [60, 60, 61]) = true := by rw [hx.out]; exact h6
                rw [show asgV (tl x) = true by simp only [asgV, h0, h1, h2, h3, h4, h5, h6, if_true, Bool.false_eq_true, if_false]]
                clear hx h0 h1 h2 h3 h4 h5 h6
                go_enter Tryz.func62, Tryz.ntmps62
                go_wp2
                go_ret
                exact ⟨rfl, rfl⟩
              | false =>
                have g6 : (x.toList == [60, 60, 61]) = false := by rw [hx.out]; exact h6
                cases h7 : (tl x == [62, 62, 61]) with
                | true =>
                  have g7 : (x.toList == [62, 62, 61]) = true := by rw [hx.out]; exact h7
                  rw [show asgV (tl x) = true by simp only [asgV, h0, h1, h2, h3, h4, h5, h6, h7, if_true, Bool.false_eq_true, if_false]]
                  clear hx h0 h1 h2 h3 h4 h5 h6 h7
                  go_enter Tryz.func62, Tryz.ntmps62
                  go_wp2
                  go_ret
                  exact ⟨rfl, rfl⟩
                | false =>
                  have g7 : (x.toList == [62, 62, 61]) = false := by rw [hx.out]; exact h7
                  cases h8 : (tl x == [38, 61]) with
                  | true =>
                    have g8 : (x.toList == [38, 61]) = true := by rw [hx.out]; exact h8
                    rw [show asgV (tl x) = true by simp only [asgV, h0, h1, h2, h3, h4, h5, h6, h7, h8, if_true, Bool.false_eq_true, if_false]]
                    clear hx h0 h1 h2 h3 h4 h5 h6 h7 h8
                    go_enter Tryz.func62, Tryz.ntmps62
                    go_wp2
                    go_ret
                    exact ⟨rfl, rfl⟩
                  | false =>
                    have g8 : (x.toList == [38, 61]) = false := by rw [hx.out]; exact h8
                    cases h9 : (tl x == [94, 61]) with
                    | true =>
                      have g9 : (x.toList == [94, 61]) = true := by rw [hx.out]; exact h9
                      rw [show asgV (tl x) = true by simp only [asgV, h0, h1, h2, h3, h4, h5, h6, h7, h8, h9, if_true, Bool.false_eq_true, if_false]]
                      clear hx h0 h1 h2 h3 h4 h5 h6 h7 h8 h9
                      go_enter Tryz.func62, Tryz.ntmps62
                      go_wp2
                      go_ret
                      exact ⟨rfl, rfl⟩
                    | false =>
                      have g9 : (x.toList == [94, 61]) = false := by rw [hx.out]; exact h9
                      cases h10 : (tl x == [124, 61]) with
                      | true =>
                        have g10 : (x.toList == [124, 61]) = true := by rw [hx.out]; exact h10
                        rw [show asgV (tl x) = true by simp only [asgV, h0, h1, h2, h3, h4, h5, h6, h7, h8, h9, h10, if_true, Bool.false_eq_true, if_false]]
                        clear hx h0 h1 h2 h3 h4 h5 h6 h7 h8 h9 h10
                        go_enter Tryz.func62, Tryz.ntmps62
                        go_wp2
                        go_ret
                        exact ⟨rfl, rfl⟩
                      | false =>
                        have g10 : (x.toList == [124, 61]) = false := by rw [hx.out]; exact h10
                        rw [show asgV (tl x) = false by simp only [asgV, h0, h1, h2, h3, h4, h5, h6, h7, h8, h9, h10, Bool.false_eq_true, if_false]]
                        clear hx h0 h1 h2 h3 h4 h5 h6 h7 h8 h9 h10
                        go_enter Tryz.func62, Tryz.ntmps62
                        go_wp2
                        go_ret
                        exact ⟨rfl, rfl⟩
end Go.Proofs.YtlijlgbaikijnaaGreatDoor
