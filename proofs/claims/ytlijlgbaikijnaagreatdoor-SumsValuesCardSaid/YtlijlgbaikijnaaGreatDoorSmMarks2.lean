/-
  What is a mark, how many Kids an Op has, and the longest mark with which a text begins, by the package. Conditions: at most a million bytes.
-/
import Derived.Test.YtlijlgbaikijnaaGreatDoorSmMarks
namespace Go.Proofs.YtlijlgbaikijnaaGreatDoor
open Go Go.RowKit

def isMarkV (l : List UInt8) : Bool := l == [40] || l == [41] || l == [63] || l == [58] || !(opV l).isEmpty || decide (0 < rowV l) || asgV l
def kidsV (l : List UInt8) : Int := if l == [110, 117, 109] || l == [110, 97, 109, 101] then 0 else if !(markV l).isEmpty || asgV l then 1 else if 0 < rowV l then 2 else if l == [63] then 3 else -1
def longFrom : Nat → List UInt8 → List UInt8
  | 0, l => l.take 1
  | 1, l => l.take 1
  | n + 2, l => if isMarkV (l.take (n + 2)) then l.take (n + 2) else longFrom (n + 1) l
def longV (l : List UInt8) : List UInt8 := longFrom (min 3 l.length) l

theorem str_empty (l : List UInt8) : (⟨l.toArray⟩ : ByteArray).toList.isEmpty = l.isEmpty := by rw [Lib.toList_data]

set_option maxHeartbeats 1000000 in
set_option maxRecDepth 100000 in
theorem isMark_any (x : ByteArray) (w : World) : Calls Tryz.prog 116 #[.string x] w fun e w' => e = .returned (.bool (isMarkV (tl x))) ∧ w' = w := by
  have hx : Hid (x.toList = tl x) := Lib.toList_data x
  have ho := fun W => opAhead_any x W
  have hr := fun W => row_any x W
  have ha := fun W => assigns_any x W
  have hy := str_empty (opV (tl x))
  obtain ⟨b, hb0⟩ : ∃ b, isMarkV (tl x) = b := ⟨_, rfl⟩
  rw [hb0]
  have hb := Lib.hid hb0
  clear hb0
  by_cases h : (tl x == [40] || tl x == [41] || tl x == [63] || tl x == [58]) = true
  · obtain rfl : b = true := by rw [← hb.out]; unfold isMarkV; rw [h]; rfl
    have h0 : (x.toList == [40] || x.toList == [41] || x.toList == [63] || x.toList == [58]) = true := by rw [hx.out]; exact h
    clear hb h hx hy
    cases g1 : (x.toList == [40]) with
    | true =>
      clear h0
      go_enter Tryz.func116, Tryz.ntmps116
      go_wp2
      go_ret
      exact ⟨rfl, rfl⟩
    | false =>
      cases g2 : (x.toList == [41]) with
      | true =>
        clear h0
        go_enter Tryz.func116, Tryz.ntmps116
        go_wp2
        go_ret
        exact ⟨rfl, rfl⟩
      | false =>
        cases g3 : (x.toList == [63]) with
        | true =>
          clear h0
          go_enter Tryz.func116, Tryz.ntmps116
          go_wp2
          go_ret
          exact ⟨rfl, rfl⟩
        | false =>
          have g4 : (x.toList == [58]) = true := by rw [g1, g2, g3] at h0; simpa using h0
          clear h0
          go_enter Tryz.func116, Tryz.ntmps116
          go_wp2
          go_ret
          exact ⟨rfl, rfl⟩
  · rw [Bool.not_eq_true] at h
    have hb2 : Hid (b = (!(opV (tl x)).isEmpty || decide (0 < rowV (tl x)) || asgV (tl x))) := by rw [Hid, ← hb.out]; unfold isMarkV; rw [h]; rfl
    simp only [Bool.or_eq_false_iff] at h
    obtain ⟨⟨⟨h1, h2⟩, h3⟩, h4⟩ := h
    have g1 : (x.toList == [40]) = false := by rw [hx.out]; exact h1
    have g2 : (x.toList == [41]) = false := by rw [hx.out]; exact h2
    have g3 : (x.toList == [63]) = false := by rw [hx.out]; exact h3
    have g4 : (x.toList == [58]) = false := by rw [hx.out]; exact h4
    clear h1 h2 h3 h4 hx hb
    generalize opV (tl x) = o at ho hy hb2
    generalize rowV (tl x) = r at hr hb2
    generalize asgV (tl x) = a at ha hb2
    generalize (⟨o.toArray⟩ : ByteArray) = y at ho hy
    cases hoe : o.isEmpty with
    | false =>
      rw [hoe] at hy hb2
      obtain rfl : b = true := hb2.out
      clear hoe hb2
      go_enter Tryz.func116, Tryz.ntmps116
      go_wp2_with fail
      refine (ho _).mono ?_
      rintro e w1 ⟨rfl, rfl⟩
      go_wp2
      go_ret
      exact ⟨rfl, rfl⟩
    | true =>
      rw [hoe] at hy hb2
      by_cases hr0 : 0 < r
      · obtain rfl : b = true := by rw [hb2.out, decide_eq_true hr0]; rfl
        have i1 : (0 : Int) < (r : Int) := by omega
        clear hoe hb2 hr0
        go_enter Tryz.func116, Tryz.ntmps116
        go_wp2_with fail
        refine (ho _).mono ?_
        rintro e w1 ⟨rfl, rfl⟩
        go_wp2_with fail
        refine (hr _).mono ?_
        rintro e w1 ⟨rfl, rfl⟩
        go_wp2
        go_ret
        exact ⟨rfl, rfl⟩
      · obtain rfl : b = a := by rw [hb2.out, decide_eq_false hr0]; rfl
        have i1 : ¬ (0 : Int) < (r : Int) := by omega
        clear hoe hb2 hr0
        go_enter Tryz.func116, Tryz.ntmps116
        go_wp2_with fail
        refine (ho _).mono ?_
        rintro e w1 ⟨rfl, rfl⟩
        go_wp2_with fail
        refine (hr _).mono ?_
        rintro e w1 ⟨rfl, rfl⟩
        go_wp2_with fail
        refine (ha _).mono ?_
        rintro e w1 ⟨rfl, rfl⟩
        go_wp2
        go_ret
        exact ⟨rfl, rfl⟩

set_option maxHeartbeats 1000000 in
set_option maxRecDepth 100000 in
theorem longestMark_any (s : ByteArray) (w : World) (h0 : 0 < s.size) (hs : s.size ≤ 1000000) : Calls Tryz.prog 102 #[.string s] w fun e w' => e = .returned (.string ⟨(longV (tl s)).toArray⟩) ∧ w' = w := by
  obtain ⟨R, hR0⟩ : ∃ R, longV (tl s) = R := ⟨_, rfl⟩
  rw [hR0]
  have hR : Hid (longFrom (min 3 s.size) (tl s) = R) := by rw [Hid, ← hR0, longV, tl_len]
  clear hR0
  have hend : Hid (∀ k, (tl s).take k = R → s.extract 0 k = ⟨R.toArray⟩) := fun k h => tl_inj (by rw [tl_upto, h]; rfl)
  obtain ⟨m, hm⟩ : ∃ m, min 3 s.size = m := ⟨_, rfl⟩
  rw [hm] at hR
  have hm1 : 1 ≤ m ∧ m ≤ 3 ∧ m ≤ s.size := by omega
  have hm := Lib.hid hm
  go_enter Tryz.func102, Tryz.ntmps102
  go_wp2
  go_loopw [3] (fun nv wr => ∃ n : Nat, 1 ≤ n ∧ n ≤ 3 ∧ n ≤ s.size ∧ nv = .int .i64 (n : Int) ∧ wr = w ∧ Hid (longFrom n (tl s) = R)) (fun nv _ => (intOf nv).toNat)
  case atStart =>
    exact ⟨m, hm1.1, hm1.2.1, hm1.2.2, by congr 1; have := hm.out; omega, rfl, hR⟩
  case round =>
    obtain ⟨n, hn1, hn3, hns, rfl, rfl, hq⟩ := hrel
    clear hR
    by_cases hn : 1 < n
    · have hc := isMark_any (s.extract 0 n) wr
      rw [tl_upto] at hc
      have hst : Hid (longFrom n (tl s) = if isMarkV ((tl s).take n) then (tl s).take n else longFrom (n - 1) (tl s)) := by
        obtain ⟨k, rfl⟩ : ∃ k, n = k + 2 := ⟨n - 2, by omega⟩
        rfl
      cases hb : isMarkV ((tl s).take n) with
      | true =>
        rw [hb] at hc
        have he : Hid (s.extract 0 n = ⟨R.toArray⟩) := hend.out n (by rw [← hq.out, hst.out, if_pos hb])
        clear hq hb hst hend hm hm1
        go_wp2_with fail
        refine hc.mono ?_
        rintro e w1 ⟨rfl, rfl⟩
        go_wp2
        go_ret
        exact ⟨ret_str he.out, rfl⟩
      | false =>
        rw [hb] at hc
        have hq2 : Hid (longFrom (n - 1) (tl s) = R) := by rw [Hid, ← hq.out, hst.out, if_neg (by rw [hb]; simp)]
        clear hq hb hst hm hm1
        go_wp2_with fail
        refine hc.mono ?_
        rintro e w1 ⟨rfl, rfl⟩
        go_wp2
        go_roundw
        case rel => exact ⟨n - 1, by omega, by omega, by omega, by go_num, trivial, hq2⟩
        case measure => simp [intOf]; omega
    · obtain rfl : n = 1 := by omega
      have he : Hid (s.extract 0 1 = ⟨R.toArray⟩) := hend.out 1 (by rw [← hq.out]; rfl)
      clear hq hend hm hm1
      go_wp2
      go_ret
      exact ⟨ret_str he.out, rfl⟩

set_option maxHeartbeats 1000000 in
set_option maxRecDepth 100000 in
theorem kids_any (x : ByteArray) (w : World) : Calls Tryz.prog 61 #[.string x] w fun e w' => e = .returned (.int .i64 (kidsV (tl x))) ∧ w' = w := by
  have hx : Hid (x.toList = tl x) := Lib.toList_data x
  have ho := fun W => markAhead_any x W
  have hr := fun W => row_any x W
  have ha := fun W => assigns_any x W
  have hy := str_empty (markV (tl x))
  obtain ⟨b, hb0⟩ : ∃ b, kidsV (tl x) = b := ⟨_, rfl⟩
  rw [hb0]
  have hb := Lib.hid hb0
  clear hb0
  cases h1 : (tl x == [110, 117, 109]) with
  | true =>
    obtain rfl : b = 0 := by rw [← hb.out]; unfold kidsV; rw [h1]; rfl
    have g1 : (x.toList == [110, 117, 109]) = true := by rw [hx.out]; exact h1
    clear hb h1 hx hy
    go_enter Tryz.func61, Tryz.ntmps61
    go_wp2
    go_ret
    exact ⟨rfl, rfl⟩
  | false =>
    have g1 : (x.toList == [110, 117, 109]) = false := by rw [hx.out]; exact h1
    cases h2 : (tl x == [110, 97, 109, 101]) with
    | true =>
      obtain rfl : b = 0 := by rw [← hb.out]; unfold kidsV; rw [h1, h2]; rfl
      have g2 : (x.toList == [110, 97, 109, 101]) = true := by rw [hx.out]; exact h2
      clear hb h1 h2 hx hy
      go_enter Tryz.func61, Tryz.ntmps61
      go_wp2
      go_ret
      exact ⟨rfl, rfl⟩
    | false =>
      have g2 : (x.toList == [110, 97, 109, 101]) = false := by rw [hx.out]; exact h2
      have hb2 : Hid (b = if !(markV (tl x)).isEmpty || asgV (tl x) then 1 else if 0 < rowV (tl x) then 2 else if tl x == [63] then 3 else -1) := by rw [Hid, ← hb.out]; unfold kidsV; rw [h1, h2]; rfl
      have g3 : (x.toList == [63]) = (tl x == [63]) := by rw [hx.out]
      clear h1 h2 hx hb
      generalize markV (tl x) = o at ho hy hb2
      generalize rowV (tl x) = r at hr hb2
      generalize asgV (tl x) = a at ha hb2
      generalize (⟨o.toArray⟩ : ByteArray) = y at ho hy
      cases hoe : o.isEmpty with
      | false =>
        rw [hoe] at hy hb2
        obtain rfl : b = 1 := hb2.out
        clear hoe hb2 g3
        go_enter Tryz.func61, Tryz.ntmps61
        go_wp2_with fail
        refine (ho _).mono ?_
        rintro e w1 ⟨rfl, rfl⟩
        go_wp2
        go_ret
        exact ⟨rfl, rfl⟩
      | true =>
        rw [hoe] at hy hb2
        cases a with
        | true =>
          obtain rfl : b = 1 := hb2.out
          clear hoe hb2 g3
          go_enter Tryz.func61, Tryz.ntmps61
          go_wp2_with fail
          refine (ho _).mono ?_
          rintro e w1 ⟨rfl, rfl⟩
          go_wp2_with fail
          refine (ha _).mono ?_
          rintro e w1 ⟨rfl, rfl⟩
          go_wp2
          go_ret
          exact ⟨rfl, rfl⟩
        | false =>
          by_cases hr0 : 0 < r
          · obtain rfl : b = 2 := by rw [hb2.out]; simp [hr0]
            have i1 : (0 : Int) < (r : Int) := by omega
            clear hoe hb2 hr0 g3
            go_enter Tryz.func61, Tryz.ntmps61
            go_wp2_with fail
            refine (ho _).mono ?_
            rintro e w1 ⟨rfl, rfl⟩
            go_wp2_with fail
            refine (ha _).mono ?_
            rintro e w1 ⟨rfl, rfl⟩
            go_wp2_with fail
            refine (hr _).mono ?_
            rintro e w1 ⟨rfl, rfl⟩
            go_wp2
            go_ret
            exact ⟨rfl, rfl⟩
          · have i1 : ¬ (0 : Int) < (r : Int) := by omega
            have hb3 : Hid (b = if tl x == [63] then 3 else -1) := by rw [Hid, hb2.out]; simp [hr0]
            clear hoe hb2 hr0
            cases h4 : (tl x == [63]) with
            | true =>
              rw [h4] at g3 hb3
              obtain rfl : b = 3 := hb3.out
              clear hb3 h4
              go_enter Tryz.func61, Tryz.ntmps61
              go_wp2_with fail
              refine (ho _).mono ?_
              rintro e w1 ⟨rfl, rfl⟩
              go_wp2_with fail
              refine (ha _).mono ?_
              rintro e w1 ⟨rfl, rfl⟩
              go_wp2_with fail
              refine (hr _).mono ?_
              rintro e w1 ⟨rfl, rfl⟩
              go_wp2
              go_ret
              exact ⟨rfl, rfl⟩
            | false =>
              rw [h4] at g3 hb3
              obtain rfl : b = -1 := hb3.out
              clear hb3 h4
              go_enter Tryz.func61, Tryz.ntmps61
              go_wp2_with fail
              refine (ho _).mono ?_
              rintro e w1 ⟨rfl, rfl⟩
              go_wp2_with fail
              refine (ha _).mono ?_
              rintro e w1 ⟨rfl, rfl⟩
              go_wp2_with fail
              refine (hr _).mono ?_
              rintro e w1 ⟨rfl, rfl⟩
              go_wp2
              go_ret
              exact ⟨rfl, rfl⟩
end Go.Proofs.YtlijlgbaikijnaaGreatDoor
