/-
  Which number a text is, by the package; which text a number. Conditions: at most a million bytes.
-/
import Derived.Test.YtlijlgbaikijnaaGreatDoorSmDigits
import Derived.Test.YtlijlgbaikijnaaGreatDoorSmShelf
namespace Go.Proofs.YtlijlgbaikijnaaGreatDoor
open Go Go.RowKit

/-- What a number is behind its sign. -/
def numTail (minus : Bool) (rest : List UInt8) : Option Int :=
  if (digitsP rest).2 = 0 ∨ (digitsP rest).2 < rest.length ∨ (if minus then 9223372036854775808 else 9223372036854775807) < (digitsP rest).1 then none
  else some (if minus then -((digitsP rest).1 : Int) else ((digitsP rest).1 : Int))
def numT : List UInt8 → Option Int
  | [] => some 0
  | c :: r => if c = 45 then numTail true r else if c = 43 then numTail false r else numTail false (c :: r)
def numP (l : List UInt8) : Option Int := numT (Lib.trimS l [9, 10, 11, 12, 13, 32])
/-- A number and what is wrong, as two values. -/
def numR (o : Option Int) : Value := match o with | some n => .tuple #[.int .i64 n, .int .i64 0] | none => .tuple #[.int .i64 0, .int .i64 23]

theorem tl_mk (l : List UInt8) : tl ⟨l.toArray⟩ = l := rfl
theorem tl_inj {a b : ByteArray} (h : tl a = tl b) : a = b := by
  cases a with | mk a => cases b with | mk b => simp only [tl] at h; rw [ByteArray.mk.injEq]; exact Array.toList_inj.1 h
theorem trimS_len (l cs : List UInt8) : (Lib.trimS l cs).length ≤ l.length := by
  unfold Lib.trimS Lib.trimLeftS Lib.trimRightS
  have h1 := (List.dropWhile_sublist (cs.contains ·) (l := l.reverse)).length_le
  have h2 := (List.dropWhile_sublist (cs.contains ·) (l := (l.reverse.dropWhile (cs.contains ·)).reverse)).length_le
  simp only [List.length_reverse] at h1 h2
  omega
theorem neg_u64 (V : Nat) (h : V ≤ 9223372036854775808) : ∃ X : Int, IntKind.u64.wrap (-(V : Int)) = X ∧ IntKind.i64.wrap X = -(V : Int) := by
  by_cases h0 : V = 0
  · subst h0; exact ⟨0, by decide, by decide⟩
  · refine ⟨18446744073709551616 - V, ?_, ?_⟩
    · simp [IntKind.wrap, IntKind.bits, IntKind.signed]; omega
    · rw [IntKind.wrap_i64]; omega

set_option maxHeartbeats 4000000 in
set_option maxRecDepth 100000 in
theorem number_any (s : ByteArray) (w : World) (hs : s.size ≤ 1000000) :
    Calls Tryz.prog 8 #[.string s] w fun e w' => e = .returned (numR (numP (tl s))) ∧ Below w.heap.size w w' := by
  have htr := Tryz.trimBlank s w (by omega)
  have hlen := trimS_len (tl s) [9, 10, 11, 12, 13, 32]
  rw [tl_len] at hlen
  unfold numP
  rw [show s.data.toList = tl s from rfl] at htr
  obtain ⟨x, hx⟩ : ∃ x : ByteArray, (⟨(Lib.trimS (tl s) [9, 10, 11, 12, 13, 32]).toArray⟩ : ByteArray) = x := ⟨_, rfl⟩
  have hxl : Lib.trimS (tl s) [9, 10, 11, 12, 13, 32] = tl x := by rw [← hx]; rfl
  rw [hx] at htr
  rw [hxl, tl_len] at hlen
  rw [hxl]
  clear hxl hx
  cases hc : tl x with
  | nil =>
    have hx0 : x = ⟨#[]⟩ := tl_inj hc
    subst hx0
    clear hc
    go_enter Tryz.func8, Tryz.ntmps8
    go_wp2_with fail
    refine htr.mono ?_
    rintro e w1 ⟨rfl, hb⟩
    go_wp2
    go_ret2
    exact ⟨rfl, hb⟩
  | cons c r =>
    have hsz : 0 < x.size := by rw [← tl_len, hc]; simp
    have hx0 : x[0] = c := by have := tl_get x 0 hsz; rw [← this]; simp [hc]
    have hdr : tl (x.extract 1 x.size) = r := by rw [tl_from, hc]; rfl
    have hne : x.toList.isEmpty = false := by
      rw [Lib.toList_data]
      show (tl x).isEmpty = false
      rw [hc]; rfl
    have hd1 := fun W => digits_any (x.extract 1 x.size) W (by rw [ByteArray.size_extract]; omega)
    have hd0 := fun W => digits_any x W (by omega)
    rw [hdr] at hd1
    rw [hc] at hd0
    by_cases h45 : c = 45
    · have hR : numT (c :: r) = numTail true r := by rw [numT, if_pos h45]
      rw [hR]
      have i1 : (x[0].toNat : Int) = 45 := by rw [hx0, h45]; rfl
      clear hd0 hR h45
      obtain ⟨V, N, hVN⟩ : ∃ V N, digitsP (r) = (V, N) := ⟨_, _, rfl⟩
      have hT : numTail true (r) = if N = 0 ∨ N < (r).length ∨ 9223372036854775808 < V then none else some (-(V : Int)) := by unfold numTail; rw [hVN]; simp
      rw [hVN] at hd1
      simp only at hd1
      rw [hT]
      obtain ⟨m, hm⟩ : ∃ m, min V tooBig = m := ⟨_, rfl⟩
      rw [hm] at hd1
      have hyl : (x.extract 1 x.size).size = (r).length := by rw [← tl_len, hdr]
      generalize (r).length = L at hyl
      have hgt : Hid (9223372036854775808 < V ↔ 9223372036854775808 < m) := by rw [Hid, ← hm]; unfold tooBig; omega
      have hle : Hid (V ≤ 9223372036854775808 → m = V) := fun h => by rw [← hm]; unfold tooBig; omega
      have hml : m ≤ 9223372036854775809 := by rw [← hm]; unfold tooBig; omega
      clear hVN hT hm hdr hc hx0
      by_cases hN : N = 0
      · rw [if_pos (.inl hN)]
        have j1 : (N : Int) = 0 := by omega
        clear hgt hle
        go_enter Tryz.func8, Tryz.ntmps8
        go_wp2_with fail
        refine htr.mono ?_
        rintro e w1 ⟨rfl, hb⟩
        go_wp2_with fail
        refine (hd1 _).mono ?_
        rintro e w2 ⟨rfl, rfl⟩
        generalize x.extract 1 x.size = y at hyl ⊢
        have hyl2 : (y.size : Int) = (L : Int) := by omega
        clear htr hd1
        go_wp2
        go_ret2
        exact ⟨rfl, hb⟩
      · skip
        by_cases hN2 : N < L
        · rw [if_pos (.inr (.inl hN2))]
          have j1 : ¬ (N : Int) = 0 := by omega
          have j1b : ((N : Int) == 0) = false := by rw [beq_eq_false_iff_ne]; exact j1
          have j2 : (N : Int) < (L : Int) := by omega
          clear hgt hle
          go_enter Tryz.func8, Tryz.ntmps8
          go_wp2_with fail
          refine htr.mono ?_
          rintro e w1 ⟨rfl, hb⟩
          go_wp2_with fail
          refine (hd1 _).mono ?_
          rintro e w2 ⟨rfl, rfl⟩
          generalize x.extract 1 x.size = y at hyl ⊢
          have hyl2 : (y.size : Int) = (L : Int) := by omega
          clear htr hd1
          go_wp2
          go_ret2
          exact ⟨rfl, hb⟩
        · skip
          by_cases hV : 9223372036854775808 < V
          · rw [if_pos (.inr (.inr hV))]
            have j1 : ¬ (N : Int) = 0 := by omega
            have j1b : ((N : Int) == 0) = false := by rw [beq_eq_false_iff_ne]; exact j1
            have j2 : ¬ (N : Int) < (L : Int) := by omega
            have j3 : (9223372036854775808 : Int) < (m : Int) := by have := hgt.out.1 hV; omega
            clear hgt hle
            go_enter Tryz.func8, Tryz.ntmps8
            go_wp2_with fail
            refine htr.mono ?_
            rintro e w1 ⟨rfl, hb⟩
            go_wp2_with fail
            refine (hd1 _).mono ?_
            rintro e w2 ⟨rfl, rfl⟩
            generalize x.extract 1 x.size = y at hyl ⊢
            have hyl2 : (y.size : Int) = (L : Int) := by omega
            clear htr hd1
            go_wp2
            go_ret2
            exact ⟨rfl, hb⟩
          · skip
            rw [if_neg (by omega)]
            obtain rfl : m = V := hle.out (by omega)
            have j1 : ¬ (N : Int) = 0 := by omega
            have j1b : ((N : Int) == 0) = false := by rw [beq_eq_false_iff_ne]; exact j1
            have j2 : ¬ (N : Int) < (L : Int) := by omega
            have j3 : ¬ (9223372036854775808 : Int) < (m : Int) := by omega
            obtain ⟨X, n1, n2⟩ := neg_u64 m (by omega)
            clear hgt hle
            go_enter Tryz.func8, Tryz.ntmps8
            go_wp2_with fail
            refine htr.mono ?_
            rintro e w1 ⟨rfl, hb⟩
            go_wp2_with fail
            refine (hd1 _).mono ?_
            rintro e w2 ⟨rfl, rfl⟩
            generalize x.extract 1 x.size = y at hyl ⊢
            have hyl2 : (y.size : Int) = (L : Int) := by omega
            clear htr hd1
            go_wp2
            go_ret2
            exact ⟨rfl, hb⟩
    · have i1 : ¬ (x[0].toNat : Int) = 45 := fun h => h45 (UInt8.toNat_inj.1 (by rw [← hx0]; show x[0].toNat = 45; omega))
      by_cases h43 : c = 43
      · have hR : numT (c :: r) = numTail false r := by rw [numT, if_neg h45, if_pos h43]
        rw [hR]
        have i2 : (x[0].toNat : Int) = 43 := by rw [hx0, h43]; rfl
        clear hd0 hR h43 h45
        obtain ⟨V, N, hVN⟩ : ∃ V N, digitsP (r) = (V, N) := ⟨_, _, rfl⟩
        have hT : numTail false (r) = if N = 0 ∨ N < (r).length ∨ 9223372036854775807 < V then none else some ((V : Int)) := by unfold numTail; rw [hVN]; simp
        rw [hVN] at hd1
        simp only at hd1
        rw [hT]
        obtain ⟨m, hm⟩ : ∃ m, min V tooBig = m := ⟨_, rfl⟩
        rw [hm] at hd1
        have hyl : (x.extract 1 x.size).size = (r).length := by rw [← tl_len, hdr]
        generalize (r).length = L at hyl
        have hgt : Hid (9223372036854775807 < V ↔ 9223372036854775807 < m) := by rw [Hid, ← hm]; unfold tooBig; omega
        have hle : Hid (V ≤ 9223372036854775807 → m = V) := fun h => by rw [← hm]; unfold tooBig; omega
        have hml : m ≤ 9223372036854775809 := by rw [← hm]; unfold tooBig; omega
        clear hVN hT hm hdr hc hx0
        by_cases hN : N = 0
        · rw [if_pos (.inl hN)]
          have j1 : (N : Int) = 0 := by omega
          clear hgt hle
          go_enter Tryz.func8, Tryz.ntmps8
          go_wp2_with fail
          refine htr.mono ?_
          rintro e w1 ⟨rfl, hb⟩
          go_wp2_with fail
          refine (hd1 _).mono ?_
          rintro e w2 ⟨rfl, rfl⟩
          generalize x.extract 1 x.size = y at hyl ⊢
          have hyl2 : (y.size : Int) = (L : Int) := by omega
          clear htr hd1
          go_wp2
          go_ret2
          exact ⟨rfl, hb⟩
        · skip
          by_cases hN2 : N < L
          · rw [if_pos (.inr (.inl hN2))]
            have j1 : ¬ (N : Int) = 0 := by omega
            have j1b : ((N : Int) == 0) = false := by rw [beq_eq_false_iff_ne]; exact j1
            have j2 : (N : Int) < (L : Int) := by omega
            clear hgt hle
            go_enter Tryz.func8, Tryz.ntmps8
            go_wp2_with fail
            refine htr.mono ?_
            rintro e w1 ⟨rfl, hb⟩
            go_wp2_with fail
            refine (hd1 _).mono ?_
            rintro e w2 ⟨rfl, rfl⟩
            generalize x.extract 1 x.size = y at hyl ⊢
            have hyl2 : (y.size : Int) = (L : Int) := by omega
            clear htr hd1
            go_wp2
            go_ret2
            exact ⟨rfl, hb⟩
          · skip
            by_cases hV : 9223372036854775807 < V
            · rw [if_pos (.inr (.inr hV))]
              have j1 : ¬ (N : Int) = 0 := by omega
              have j1b : ((N : Int) == 0) = false := by rw [beq_eq_false_iff_ne]; exact j1
              have j2 : ¬ (N : Int) < (L : Int) := by omega
              have j3 : (9223372036854775807 : Int) < (m : Int) := by have := hgt.out.1 hV; omega
              clear hgt hle
              go_enter Tryz.func8, Tryz.ntmps8
              go_wp2_with fail
              refine htr.mono ?_
              rintro e w1 ⟨rfl, hb⟩
              go_wp2_with fail
              refine (hd1 _).mono ?_
              rintro e w2 ⟨rfl, rfl⟩
              generalize x.extract 1 x.size = y at hyl ⊢
              have hyl2 : (y.size : Int) = (L : Int) := by omega
              clear htr hd1
              go_wp2
              go_ret2
              exact ⟨rfl, hb⟩
            · skip
              rw [if_neg (by omega)]
              obtain rfl : m = V := hle.out (by omega)
              have j1 : ¬ (N : Int) = 0 := by omega
              have j1b : ((N : Int) == 0) = false := by rw [beq_eq_false_iff_ne]; exact j1
              have j2 : ¬ (N : Int) < (L : Int) := by omega
              have j3 : ¬ (9223372036854775807 : Int) < (m : Int) := by omega
              have n2 : IntKind.i64.wrap (m : Int) = (m : Int) := IntWalk.i64_in _ (by omega)
              clear hgt hle
              go_enter Tryz.func8, Tryz.ntmps8
              go_wp2_with fail
              refine htr.mono ?_
              rintro e w1 ⟨rfl, hb⟩
              go_wp2_with fail
              refine (hd1 _).mono ?_
              rintro e w2 ⟨rfl, rfl⟩
              generalize x.extract 1 x.size = y at hyl ⊢
              have hyl2 : (y.size : Int) = (L : Int) := by omega
              clear htr hd1
              go_wp2
              go_ret2
              exact ⟨rfl, hb⟩
      · have i2 : ¬ (x[0].toNat : Int) = 43 := fun h => h43 (UInt8.toNat_inj.1 (by rw [← hx0]; show x[0].toNat = 43; omega))
        have hR : numT (c :: r) = numTail false (c :: r) := by rw [numT, if_neg h45, if_neg h43]
        rw [hR]
        clear hd1 hR h43 h45
        obtain ⟨V, N, hVN⟩ : ∃ V N, digitsP (c :: r) = (V, N) := ⟨_, _, rfl⟩
        have hT : numTail false (c :: r) = if N = 0 ∨ N < (c :: r).length ∨ 9223372036854775807 < V then none else some ((V : Int)) := by unfold numTail; rw [hVN]; simp
        rw [hVN] at hd0
        simp only at hd0
        rw [hT]
        obtain ⟨m, hm⟩ : ∃ m, min V tooBig = m := ⟨_, rfl⟩
        rw [hm] at hd0
        have hyl : x.size = (c :: r).length := by rw [← tl_len, hc]
        generalize (c :: r).length = L at hyl
        have hgt : Hid (9223372036854775807 < V ↔ 9223372036854775807 < m) := by rw [Hid, ← hm]; unfold tooBig; omega
        have hle : Hid (V ≤ 9223372036854775807 → m = V) := fun h => by rw [← hm]; unfold tooBig; omega
        have hml : m ≤ 9223372036854775809 := by rw [← hm]; unfold tooBig; omega
        clear hVN hT hm hdr hc hx0
        by_cases hN : N = 0
        · rw [if_pos (.inl hN)]
          have j1 : (N : Int) = 0 := by omega
          clear hgt hle
          go_enter Tryz.func8, Tryz.ntmps8
          go_wp2_with fail
          refine htr.mono ?_
          rintro e w1 ⟨rfl, hb⟩
          go_wp2_with fail
          refine (hd0 _).mono ?_
          rintro e w2 ⟨rfl, rfl⟩
          have hyl2 : (x.size : Int) = (L : Int) := by omega
          clear htr hd0
          go_wp2
          go_ret2
          exact ⟨rfl, hb⟩
        · skip
          by_cases hN2 : N < L
          · rw [if_pos (.inr (.inl hN2))]
            have j1 : ¬ (N : Int) = 0 := by omega
            have j1b : ((N : Int) == 0) = false := by rw [beq_eq_false_iff_ne]; exact j1
            have j2 : (N : Int) < (L : Int) := by omega
            clear hgt hle
            go_enter Tryz.func8, Tryz.ntmps8
            go_wp2_with fail
            refine htr.mono ?_
            rintro e w1 ⟨rfl, hb⟩
            go_wp2_with fail
            refine (hd0 _).mono ?_
            rintro e w2 ⟨rfl, rfl⟩
            have hyl2 : (x.size : Int) = (L : Int) := by omega
            clear htr hd0
            go_wp2
            go_ret2
            exact ⟨rfl, hb⟩
          · skip
            by_cases hV : 9223372036854775807 < V
            · rw [if_pos (.inr (.inr hV))]
              have j1 : ¬ (N : Int) = 0 := by omega
              have j1b : ((N : Int) == 0) = false := by rw [beq_eq_false_iff_ne]; exact j1
              have j2 : ¬ (N : Int) < (L : Int) := by omega
              have j3 : (9223372036854775807 : Int) < (m : Int) := by have := hgt.out.1 hV; omega
              clear hgt hle
              go_enter Tryz.func8, Tryz.ntmps8
              go_wp2_with fail
              refine htr.mono ?_
              rintro e w1 ⟨rfl, hb⟩
              go_wp2_with fail
              refine (hd0 _).mono ?_
              rintro e w2 ⟨rfl, rfl⟩
              have hyl2 : (x.size : Int) = (L : Int) := by omega
              clear htr hd0
              go_wp2
              go_ret2
              exact ⟨rfl, hb⟩
            · skip
              rw [if_neg (by omega)]
              obtain rfl : m = V := hle.out (by omega)
              have j1 : ¬ (N : Int) = 0 := by omega
              have j1b : ((N : Int) == 0) = false := by rw [beq_eq_false_iff_ne]; exact j1
              have j2 : ¬ (N : Int) < (L : Int) := by omega
              have j3 : ¬ (9223372036854775807 : Int) < (m : Int) := by omega
              have n2 : IntKind.i64.wrap (m : Int) = (m : Int) := IntWalk.i64_in _ (by omega)
              clear hgt hle
              go_enter Tryz.func8, Tryz.ntmps8
              go_wp2_with fail
              refine htr.mono ?_
              rintro e w1 ⟨rfl, hb⟩
              go_wp2_with fail
              refine (hd0 _).mono ?_
              rintro e w2 ⟨rfl, rfl⟩
              have hyl2 : (x.size : Int) = (L : Int) := by omega
              clear htr hd0
              go_wp2
              go_ret2
              exact ⟨rfl, hb⟩
end Go.Proofs.YtlijlgbaikijnaaGreatDoor
