/-
  The document's answer to Trim. Conditions: at most 4096 bytes and a million marked bytes.
-/
import Derived.Test.YtmoihdddmeienaaGreatDoorPaTrim
import Derived.Test.YtmoihdddmeienaaGreatDoorGbRefCompile
import Derived.Test.YtmoihdddmeienaaGreatDoorGbRefFits
namespace Go.Proofs.YtmoihdddmeienaaGreatDoor
open Go Go.RowKit
set_option maxHeartbeats 4000000 in
set_option maxRecDepth 100000 in
theorem rTrim_6 (t : List Ch) (s : ByteArray) (v : Value) (w : World) (ht : Tx w w.heap.size v t) (hl : t.length ≤ 999999) (hs : s.size ≤ 4096) :
    Calls Tryz.prog 6 #[.int .i64 6, .string s, v] w fun e w' => e = .returned (.tuple #[.string (leftP 0 (compileP false t) s), .int .i64 0]) ∧ Below w.heap.size w w' := by
  obtain ⟨A0, c0, rfl, _, _⟩ := ht.form
  have hcm := compileRef_any t false _ _ w ht (Nat.le_refl _) (by omega)
  have hpl : (compileP false t).length ≤ 999999 := Nat.le_trans (compileP_len false t) hl
  generalize compileP false t = p at hcm hpl ⊢
  obtain ⟨y, hy⟩ : ∃ y, cutH (headI p (bl s) false) s = y := ⟨_, rfl⟩
  rw [show leftP 0 p s = y from hy]
  obtain ⟨F, hF⟩ : ∃ F : Nat → Bool, F = fun n => mt p ((bl s).take n) := ⟨_, rfl⟩
  have hfin : Hid (∀ x, pickI F false (s.size + 1) = x → cutH x s = y) := Lib.hid (fun x hx => by
    rw [← hy, ← hx, hF]
    unfold headI
    rw [bl_len])
  have hm := fun n (hn : n ≤ s.size) V W (hW : Its W W.heap.size V p) => matchRef_any p V (s.extract 0 n) _ W hW (Nat.le_refl _) (by omega) (by simp; omega)
  have hm2 : ∀ n, mt p (bl (s.extract 0 n)) = F n := fun n => by rw [hF, bl_upto]
  simp only [hm2] at hm
  clear hm2 hF hy
  replace hm := Lib.hid hm
  go_enter Tryz.func6, Tryz.ntmps6
  go_wp2_with fail
  refine hcm.mono ?_
  rintro e w1 ⟨v1, rfl, hits, hb1⟩
  clear hcm ht
  obtain ⟨A1, c1, rfl, _, _⟩ := hits.form
  go_wp2_with fail
  go_loopw [9, 10, 11] (fun best nv _ wr => ∃ (n : Nat) (x : Int), n ≤ s.size + 1 ∧ best = .int .i64 x ∧ nv = .int .i64 n ∧ Below w1.heap.size w1 wr ∧ -1 ≤ x ∧ x < n ∧ Hid (pickI F false n = x)) (fun _ nv _ _ => s.size + 1 - (intOf nv).toNat)
  case atStart => exact ⟨0, -1, by omega, rfl, rfl, Below.refl _ _, by omega, by omega, Lib.hid rfl⟩
  case round =>
    obtain ⟨n, x, hn, rfl, rfl, hb, hx1, hx2, hx⟩ := hrel
    by_cases hlt : n < s.size + 1
    · have hsz := hb.size
      have hmn := hm.out n (by omega) _ wr ((hits.below hb).more hsz)
      have hst : Hid (∀ z : Int, (if F n && (false || decide (x < 0)) then (n : Int) else x) = z → pickI F false (n + 1) = z) := Lib.hid (fun z hz => by
        rw [← hz]
        have := hx.out
        simp only [pickI, this])
      generalize F n = m at hmn hst
      clear hx
      have hle : (n : Int) ≤ s.size := by omega
      cases m with
      | false =>
        have hst2 : Hid (pickI F false (n + 1) = x) := Lib.hid (hst.out x (by simp))
        clear hst
        go_wp2_with fail
        refine hmn.mono ?_
        rintro e w2 ⟨rfl, hb2⟩
        have hbA := hb.trans (hb2.mono hsz)
        clear hb2 hmn hb
        go_wp2
        go_roundw
        case rel => exact ⟨n + 1, x, by omega, rfl, by go_num, hbA, by omega, by omega, hst2⟩
        case measure => simp [intOf]; omega
      | true =>
        by_cases hneg : x < 0
        · have hst2 : Hid (pickI F false (n + 1) = n) := Lib.hid (hst.out n (by simp [hneg]))
          clear hst
          go_wp2_with fail
          refine hmn.mono ?_
          rintro e w2 ⟨rfl, hb2⟩
          have hbA := hb.trans (hb2.mono hsz)
          clear hb2 hmn hb
          go_wp2
          go_roundw
          case rel => exact ⟨n + 1, n, by omega, rfl, by go_num, hbA, by omega, by omega, hst2⟩
          case measure => simp [intOf]; omega
        · have hst2 : Hid (pickI F false (n + 1) = x) := Lib.hid (hst.out x (by simp [hneg]))
          have hnb : decide (x < 0) = false := by simpa using hneg
          clear hst
          go_wp2_with fail
          refine hmn.mono ?_
          rintro e w2 ⟨rfl, hb2⟩
          have hbA := hb.trans (hb2.mono hsz)
          clear hb2 hmn hb
          go_wp2
          go_roundw
          case rel => exact ⟨n + 1, x, by omega, rfl, by go_num, hbA, by omega, by omega, hst2⟩
          case measure => simp [intOf]; omega
    · obtain rfl : n = s.size + 1 := by omega
      have hf := hfin.out x hx.out
      have hbA := hb1.trans (hb.mono hb1.size)
      have hgt : ¬ ((s.size + 1 : Nat) : Int) ≤ s.size := by omega
      unfold cutH at hf
      by_cases hneg : x < 0
      · rw [if_neg (by omega)] at hf
        clear hfin hm hx hb
        go_wp2
        subst hf
        go_ret2
        exact ⟨rfl, hbA⟩
      · obtain ⟨q, rfl⟩ : ∃ q : Nat, x = q := ⟨x.toNat, by omega⟩
        rw [if_pos (by omega), Int.toNat_natCast] at hf
        have hq2 : q ≤ s.size := by omega
        clear hfin hm hx hb
        go_wp2
        subst hf
        go_ret2
        exact ⟨rfl, hbA⟩
set_option maxHeartbeats 4000000 in
set_option maxRecDepth 100000 in
theorem rTrim_7 (t : List Ch) (s : ByteArray) (v : Value) (w : World) (ht : Tx w w.heap.size v t) (hl : t.length ≤ 999999) (hs : s.size ≤ 4096) :
    Calls Tryz.prog 6 #[.int .i64 7, .string s, v] w fun e w' => e = .returned (.tuple #[.string (leftP 1 (compileP false t) s), .int .i64 0]) ∧ Below w.heap.size w w' := by
  obtain ⟨A0, c0, rfl, _, _⟩ := ht.form
  have hcm := compileRef_any t false _ _ w ht (Nat.le_refl _) (by omega)
  have hpl : (compileP false t).length ≤ 999999 := Nat.le_trans (compileP_len false t) hl
  generalize compileP false t = p at hcm hpl ⊢
  obtain ⟨y, hy⟩ : ∃ y, cutH (headI p (bl s) true) s = y := ⟨_, rfl⟩
  rw [show leftP 1 p s = y from hy]
  obtain ⟨F, hF⟩ : ∃ F : Nat → Bool, F = fun n => mt p ((bl s).take n) := ⟨_, rfl⟩
  have hfin : Hid (∀ x, pickI F true (s.size + 1) = x → cutH x s = y) := Lib.hid (fun x hx => by
    rw [← hy, ← hx, hF]
    unfold headI
    rw [bl_len])
  have hm := fun n (hn : n ≤ s.size) V W (hW : Its W W.heap.size V p) => matchRef_any p V (s.extract 0 n) _ W hW (Nat.le_refl _) (by omega) (by simp; omega)
  have hm2 : ∀ n, mt p (bl (s.extract 0 n)) = F n := fun n => by rw [hF, bl_upto]
  simp only [hm2] at hm
  clear hm2 hF hy
  replace hm := Lib.hid hm
  go_enter Tryz.func6, Tryz.ntmps6
  go_wp2_with fail
  refine hcm.mono ?_
  rintro e w1 ⟨v1, rfl, hits, hb1⟩
  clear hcm ht
  obtain ⟨A1, c1, rfl, _, _⟩ := hits.form
  go_wp2_with fail
  go_loopw [9, 10, 11] (fun best nv _ wr => ∃ (n : Nat) (x : Int), n ≤ s.size + 1 ∧ best = .int .i64 x ∧ nv = .int .i64 n ∧ Below w1.heap.size w1 wr ∧ -1 ≤ x ∧ x < n ∧ Hid (pickI F true n = x)) (fun _ nv _ _ => s.size + 1 - (intOf nv).toNat)
  case atStart => exact ⟨0, -1, by omega, rfl, rfl, Below.refl _ _, by omega, by omega, Lib.hid rfl⟩
  case round =>
    obtain ⟨n, x, hn, rfl, rfl, hb, hx1, hx2, hx⟩ := hrel
    by_cases hlt : n < s.size + 1
    · have hsz := hb.size
      have hmn := hm.out n (by omega) _ wr ((hits.below hb).more hsz)
      have hst : Hid (∀ z : Int, (if F n && (true || decide (x < 0)) then (n : Int) else x) = z → pickI F true (n + 1) = z) := Lib.hid (fun z hz => by
        rw [← hz]
        have := hx.out
        simp only [pickI, this])
      generalize F n = m at hmn hst
      clear hx
      have hle : (n : Int) ≤ s.size := by omega
      cases m with
      | false =>
        have hst2 : Hid (pickI F true (n + 1) = x) := Lib.hid (hst.out x (by simp))
        clear hst
        go_wp2_with fail
        refine hmn.mono ?_
        rintro e w2 ⟨rfl, hb2⟩
        have hbA := hb.trans (hb2.mono hsz)
        clear hb2 hmn hb
        go_wp2
        go_roundw
        case rel => exact ⟨n + 1, x, by omega, rfl, by go_num, hbA, by omega, by omega, hst2⟩
        case measure => simp [intOf]; omega
      | true =>
        have hst2 : Hid (pickI F true (n + 1) = n) := Lib.hid (hst.out n (by simp))
        clear hst
        by_cases hneg : x < 0
        · have hnb : decide (x < 0) = true := by simpa using hneg
          go_wp2_with fail
          refine hmn.mono ?_
          rintro e w2 ⟨rfl, hb2⟩
          have hbA := hb.trans (hb2.mono hsz)
          clear hb2 hmn hb
          go_wp2
          go_roundw
          case rel => exact ⟨n + 1, n, by omega, rfl, by go_num, hbA, by omega, by omega, hst2⟩
          case measure => simp [intOf]; omega
        · have hnb : decide (x < 0) = false := by simpa using hneg
          go_wp2_with fail
          refine hmn.mono ?_
          rintro e w2 ⟨rfl, hb2⟩
          have hbA := hb.trans (hb2.mono hsz)
          clear hb2 hmn hb
          go_wp2
          go_roundw
          case rel => exact ⟨n + 1, n, by omega, rfl, by go_num, hbA, by omega, by omega, hst2⟩
          case measure => simp [intOf]; omega
    · obtain rfl : n = s.size + 1 := by omega
      have hf := hfin.out x hx.out
      have hbA := hb1.trans (hb.mono hb1.size)
      have hgt : ¬ ((s.size + 1 : Nat) : Int) ≤ s.size := by omega
      unfold cutH at hf
      by_cases hneg : x < 0
      · rw [if_neg (by omega)] at hf
        clear hfin hm hx hb
        go_wp2
        subst hf
        go_ret2
        exact ⟨rfl, hbA⟩
      · obtain ⟨q, rfl⟩ : ∃ q : Nat, x = q := ⟨x.toNat, by omega⟩
        rw [if_pos (by omega), Int.toNat_natCast] at hf
        have hq2 : q ≤ s.size := by omega
        clear hfin hm hx hb
        go_wp2
        subst hf
        go_ret2
        exact ⟨rfl, hbA⟩
set_option maxHeartbeats 4000000 in
set_option maxRecDepth 100000 in
theorem rTrim_8 (t : List Ch) (s : ByteArray) (v : Value) (w : World) (ht : Tx w w.heap.size v t) (hl : t.length ≤ 999999) (hs : s.size ≤ 4096) :
    Calls Tryz.prog 6 #[.int .i64 8, .string s, v] w fun e w' => e = .returned (.tuple #[.string (leftP 2 (compileP false t) s), .int .i64 0]) ∧ Below w.heap.size w w' := by
  obtain ⟨A0, c0, rfl, _, _⟩ := ht.form
  have hcm := compileRef_any t false _ _ w ht (Nat.le_refl _) (by omega)
  have hpl : (compileP false t).length ≤ 999999 := Nat.le_trans (compileP_len false t) hl
  generalize compileP false t = p at hcm hpl ⊢
  obtain ⟨y, hy⟩ : ∃ y, cutT (tailI p (bl s) false) s = y := ⟨_, rfl⟩
  rw [show leftP 2 p s = y from hy]
  obtain ⟨F, hF⟩ : ∃ F : Nat → Bool, F = fun n => mt p ((bl s).drop (s.size - n)) := ⟨_, rfl⟩
  have hfin : Hid (∀ x, pickI F false (s.size + 1) = x → cutT x s = y) := Lib.hid (fun x hx => by
    rw [← hy, ← hx, hF]
    unfold tailI
    rw [bl_len])
  have hm := fun n (hn : n ≤ s.size) V W (hW : Its W W.heap.size V p) => matchRef_any p V (s.extract (s.size - n) s.size) _ W hW (Nat.le_refl _) (by omega) (by simp; omega)
  have hm2 : ∀ n, mt p (bl (s.extract (s.size - n) s.size)) = F n := fun n => by rw [hF, bl_from]
  simp only [hm2] at hm
  clear hm2 hF hy
  replace hm := Lib.hid hm
  go_enter Tryz.func6, Tryz.ntmps6
  go_wp2_with fail
  refine hcm.mono ?_
  rintro e w1 ⟨v1, rfl, hits, hb1⟩
  clear hcm ht
  obtain ⟨A1, c1, rfl, _, _⟩ := hits.form
  go_wp2_with fail
  go_loopw [9, 10, 11] (fun best nv _ wr => ∃ (n : Nat) (x : Int), n ≤ s.size + 1 ∧ best = .int .i64 x ∧ nv = .int .i64 n ∧ Below w1.heap.size w1 wr ∧ -1 ≤ x ∧ x < n ∧ Hid (pickI F false n = x)) (fun _ nv _ _ => s.size + 1 - (intOf nv).toNat)
  case atStart => exact ⟨0, -1, by omega, rfl, rfl, Below.refl _ _, by omega, by omega, Lib.hid rfl⟩
  case round =>
    obtain ⟨n, x, hn, rfl, rfl, hb, hx1, hx2, hx⟩ := hrel
    by_cases hlt : n < s.size + 1
    · have hsz := hb.size
      have hmn := hm.out n (by omega) _ wr ((hits.below hb).more hsz)
      have hst : Hid (∀ z : Int, (if F n && (false || decide (x < 0)) then (n : Int) else x) = z → pickI F false (n + 1) = z) := Lib.hid (fun z hz => by
        rw [← hz]
        have := hx.out
        simp only [pickI, this])
      generalize F n = m at hmn hst
      clear hx
      have hle : (n : Int) ≤ s.size := by omega
      obtain ⟨k, hk⟩ : ∃ k : Nat, s.size - n = k := ⟨_, rfl⟩
      rw [hk] at hmn
      have hk1 : (s.size : Int) - n = k := by omega
      have hk2 : k ≤ s.size := by omega
      clear hk
      cases m with
      | false =>
        have hst2 : Hid (pickI F false (n + 1) = x) := Lib.hid (hst.out x (by simp))
        clear hst
        go_wp2_with fail
        refine hmn.mono ?_
        rintro e w2 ⟨rfl, hb2⟩
        have hbA := hb.trans (hb2.mono hsz)
        clear hb2 hmn hb
        go_wp2
        go_roundw
        case rel => exact ⟨n + 1, x, by omega, rfl, by go_num, hbA, by omega, by omega, hst2⟩
        case measure => simp [intOf]; omega
      | true =>
        by_cases hneg : x < 0
        · have hst2 : Hid (pickI F false (n + 1) = n) := Lib.hid (hst.out n (by simp [hneg]))
          clear hst
          go_wp2_with fail
          refine hmn.mono ?_
          rintro e w2 ⟨rfl, hb2⟩
          have hbA := hb.trans (hb2.mono hsz)
          clear hb2 hmn hb
          go_wp2
          go_roundw
          case rel => exact ⟨n + 1, n, by omega, rfl, by go_num, hbA, by omega, by omega, hst2⟩
          case measure => simp [intOf]; omega
        · have hst2 : Hid (pickI F false (n + 1) = x) := Lib.hid (hst.out x (by simp [hneg]))
          have hnb : decide (x < 0) = false := by simpa using hneg
          clear hst
          go_wp2_with fail
          refine hmn.mono ?_
          rintro e w2 ⟨rfl, hb2⟩
          have hbA := hb.trans (hb2.mono hsz)
          clear hb2 hmn hb
          go_wp2
          go_roundw
          case rel => exact ⟨n + 1, x, by omega, rfl, by go_num, hbA, by omega, by omega, hst2⟩
          case measure => simp [intOf]; omega
    · obtain rfl : n = s.size + 1 := by omega
      have hf := hfin.out x hx.out
      have hbA := hb1.trans (hb.mono hb1.size)
      have hgt : ¬ ((s.size + 1 : Nat) : Int) ≤ s.size := by omega
      unfold cutT at hf
      by_cases hneg : x < 0
      · rw [if_neg (by omega)] at hf
        clear hfin hm hx hb
        go_wp2
        subst hf
        go_ret2
        exact ⟨rfl, hbA⟩
      · obtain ⟨q, rfl⟩ : ∃ q : Nat, x = q := ⟨x.toNat, by omega⟩
        rw [if_pos (by omega), Int.toNat_natCast] at hf
        have hq2 : q ≤ s.size := by omega
        obtain ⟨k, hk⟩ : ∃ k : Nat, s.size - q = k := ⟨_, rfl⟩
        rw [hk] at hf
        have hk1 : (s.size : Int) - q = k := by omega
        have hk2 : k ≤ s.size := by omega
        clear hk
        clear hfin hm hx hb
        go_wp2
        subst hf
        go_ret2
        exact ⟨rfl, hbA⟩
set_option maxHeartbeats 4000000 in
set_option maxRecDepth 100000 in
theorem rTrim_9 (t : List Ch) (s : ByteArray) (v : Value) (w : World) (ht : Tx w w.heap.size v t) (hl : t.length ≤ 999999) (hs : s.size ≤ 4096) :
    Calls Tryz.prog 6 #[.int .i64 9, .string s, v] w fun e w' => e = .returned (.tuple #[.string (leftP 3 (compileP false t) s), .int .i64 0]) ∧ Below w.heap.size w w' := by
  obtain ⟨A0, c0, rfl, _, _⟩ := ht.form
  have hcm := compileRef_any t false _ _ w ht (Nat.le_refl _) (by omega)
  have hpl : (compileP false t).length ≤ 999999 := Nat.le_trans (compileP_len false t) hl
  generalize compileP false t = p at hcm hpl ⊢
  obtain ⟨y, hy⟩ : ∃ y, cutT (tailI p (bl s) true) s = y := ⟨_, rfl⟩
  rw [show leftP 3 p s = y from hy]
  obtain ⟨F, hF⟩ : ∃ F : Nat → Bool, F = fun n => mt p ((bl s).drop (s.size - n)) := ⟨_, rfl⟩
  have hfin : Hid (∀ x, pickI F true (s.size + 1) = x → cutT x s = y) := Lib.hid (fun x hx => by
    rw [← hy, ← hx, hF]
    unfold tailI
    rw [bl_len])
  have hm := fun n (hn : n ≤ s.size) V W (hW : Its W W.heap.size V p) => matchRef_any p V (s.extract (s.size - n) s.size) _ W hW (Nat.le_refl _) (by omega) (by simp; omega)
  have hm2 : ∀ n, mt p (bl (s.extract (s.size - n) s.size)) = F n := fun n => by rw [hF, bl_from]
  simp only [hm2] at hm
  clear hm2 hF hy
  replace hm := Lib.hid hm
  go_enter Tryz.func6, Tryz.ntmps6
  go_wp2_with fail
  refine hcm.mono ?_
  rintro e w1 ⟨v1, rfl, hits, hb1⟩
  clear hcm ht
  obtain ⟨A1, c1, rfl, _, _⟩ := hits.form
  go_wp2_with fail
  go_loopw [9, 10, 11] (fun best nv _ wr => ∃ (n : Nat) (x : Int), n ≤ s.size + 1 ∧ best = .int .i64 x ∧ nv = .int .i64 n ∧ Below w1.heap.size w1 wr ∧ -1 ≤ x ∧ x < n ∧ Hid (pickI F true n = x)) (fun _ nv _ _ => s.size + 1 - (intOf nv).toNat)
  case atStart => exact ⟨0, -1, by omega, rfl, rfl, Below.refl _ _, by omega, by omega, Lib.hid rfl⟩
  case round =>
    obtain ⟨n, x, hn, rfl, rfl, hb, hx1, hx2, hx⟩ := hrel
    by_cases hlt : n < s.size + 1
    · have hsz := hb.size
      have hmn := hm.out n (by omega) _ wr ((hits.below hb).more hsz)
      have hst : Hid (∀ z : Int, (if F n && (true || decide (x < 0)) then (n : Int) else x) = z → pickI F true (n + 1) = z) := Lib.hid (fun z hz => by
        rw [← hz]
        have := hx.out
        simp only [pickI, this])
      generalize F n = m at hmn hst
      clear hx
      have hle : (n : Int) ≤ s.size := by omega
      obtain ⟨k, hk⟩ : ∃ k : Nat, s.size - n = k := ⟨_, rfl⟩
      rw [hk] at hmn
      have hk1 : (s.size : Int) - n = k := by omega
      have hk2 : k ≤ s.size := by omega
      clear hk
      cases m with
      | false =>
        have hst2 : Hid (pickI F true (n + 1) = x) := Lib.hid (hst.out x (by simp))
        clear hst
        go_wp2_with fail
        refine hmn.mono ?_
        rintro e w2 ⟨rfl, hb2⟩
        have hbA := hb.trans (hb2.mono hsz)
        clear hb2 hmn hb
        go_wp2
        go_roundw
        case rel => exact ⟨n + 1, x, by omega, rfl, by go_num, hbA, by omega, by omega, hst2⟩
        case measure => simp [intOf]; omega
      | true =>
        have hst2 : Hid (pickI F true (n + 1) = n) := Lib.hid (hst.out n (by simp))
        clear hst
        by_cases hneg : x < 0
        · have hnb : decide (x < 0) = true := by simpa using hneg
          go_wp2_with fail
          refine hmn.mono ?_
          rintro e w2 ⟨rfl, hb2⟩
          have hbA := hb.trans (hb2.mono hsz)
          clear hb2 hmn hb
          go_wp2
          go_roundw
          case rel => exact ⟨n + 1, n, by omega, rfl, by go_num, hbA, by omega, by omega, hst2⟩
          case measure => simp [intOf]; omega
        · have hnb : decide (x < 0) = false := by simpa using hneg
          go_wp2_with fail
          refine hmn.mono ?_
          rintro e w2 ⟨rfl, hb2⟩
          have hbA := hb.trans (hb2.mono hsz)
          clear hb2 hmn hb
          go_wp2
          go_roundw
          case rel => exact ⟨n + 1, n, by omega, rfl, by go_num, hbA, by omega, by omega, hst2⟩
          case measure => simp [intOf]; omega
    · obtain rfl : n = s.size + 1 := by omega
      have hf := hfin.out x hx.out
      have hbA := hb1.trans (hb.mono hb1.size)
      have hgt : ¬ ((s.size + 1 : Nat) : Int) ≤ s.size := by omega
      unfold cutT at hf
      by_cases hneg : x < 0
      · rw [if_neg (by omega)] at hf
        clear hfin hm hx hb
        go_wp2
        subst hf
        go_ret2
        exact ⟨rfl, hbA⟩
      · obtain ⟨q, rfl⟩ : ∃ q : Nat, x = q := ⟨x.toNat, by omega⟩
        rw [if_pos (by omega), Int.toNat_natCast] at hf
        have hq2 : q ≤ s.size := by omega
        obtain ⟨k, hk⟩ : ∃ k : Nat, s.size - q = k := ⟨_, rfl⟩
        rw [hk] at hf
        have hk1 : (s.size : Int) - q = k := by omega
        have hk2 : k ≤ s.size := by omega
        clear hk
        clear hfin hm hx hb
        go_wp2
        subst hf
        go_ret2
        exact ⟨rfl, hbA⟩
theorem rTrim_any (k : Nat) (hk : k ≤ 3) (t : List Ch) (s : ByteArray) (v : Value) (w : World) (ht : Tx w w.heap.size v t) (hl : t.length ≤ 999999) (hs : s.size ≤ 4096) :
    Calls Tryz.prog 6 #[.int .i64 (6 + (k : Int)), .string s, v] w fun e w' => e = .returned (.tuple #[.string (leftP k (compileP false t) s), .int .i64 0]) ∧ Below w.heap.size w w' := by
  rcases (by omega : k = 0 ∨ k = 1 ∨ k = 2 ∨ k = 3) with rfl | rfl | rfl | rfl
  · exact rTrim_6 t s v w ht hl hs
  · exact rTrim_7 t s v w ht hl hs
  · exact rTrim_8 t s v w ht hl hs
  · exact rTrim_9 t s v w ht hl hs
set_option maxHeartbeats 1000000 in
set_option maxRecDepth 100000 in
theorem rTrim_op (s : ByteArray) (w : World) (op : Int) (h : op < 6 ∨ 9 < op) (A : Option Addr) (n c : Nat) :
    Calls Tryz.prog 6 #[.int .i64 op, .string s, .slice A n c] w fun e w' => e = .returned (.tuple #[.string ⟨#[]⟩, .int .i64 1]) ∧ w = w' := by
  have h6 : (op != 6) = true := by simp; omega
  have h7 : (op != 7) = true := by simp; omega
  have h8 : (op != 8) = true := by simp; omega
  have h9 : (op != 9) = true := by simp; omega
  clear h
  go_enter Tryz.func6, Tryz.ntmps6
  go_wp2
  go_ret2
  exact ⟨rfl, rfl⟩
set_option maxHeartbeats 1000000 in
set_option maxRecDepth 100000 in
theorem rTrim_big6 (s : ByteArray) (w : World) (A : Option Addr) (n c : Nat) (hs : 4096 < s.size) (hs2 : s.size ≤ 1000000) :
    Calls Tryz.prog 6 #[.int .i64 6, .string s, .slice A n c] w fun e w' => e = .returned (.tuple #[.string ⟨#[]⟩, .int .i64 21]) ∧ w = w' := by
  go_enter Tryz.func6, Tryz.ntmps6
  go_wp2
  go_ret2
  exact ⟨rfl, rfl⟩
set_option maxHeartbeats 1000000 in
set_option maxRecDepth 100000 in
theorem rTrim_big7 (s : ByteArray) (w : World) (A : Option Addr) (n c : Nat) (hs : 4096 < s.size) (hs2 : s.size ≤ 1000000) :
    Calls Tryz.prog 6 #[.int .i64 7, .string s, .slice A n c] w fun e w' => e = .returned (.tuple #[.string ⟨#[]⟩, .int .i64 21]) ∧ w = w' := by
  go_enter Tryz.func6, Tryz.ntmps6
  go_wp2
  go_ret2
  exact ⟨rfl, rfl⟩
set_option maxHeartbeats 1000000 in
set_option maxRecDepth 100000 in
theorem rTrim_big8 (s : ByteArray) (w : World) (A : Option Addr) (n c : Nat) (hs : 4096 < s.size) (hs2 : s.size ≤ 1000000) :
    Calls Tryz.prog 6 #[.int .i64 8, .string s, .slice A n c] w fun e w' => e = .returned (.tuple #[.string ⟨#[]⟩, .int .i64 21]) ∧ w = w' := by
  go_enter Tryz.func6, Tryz.ntmps6
  go_wp2
  go_ret2
  exact ⟨rfl, rfl⟩
set_option maxHeartbeats 1000000 in
set_option maxRecDepth 100000 in
theorem rTrim_big9 (s : ByteArray) (w : World) (A : Option Addr) (n c : Nat) (hs : 4096 < s.size) (hs2 : s.size ≤ 1000000) :
    Calls Tryz.prog 6 #[.int .i64 9, .string s, .slice A n c] w fun e w' => e = .returned (.tuple #[.string ⟨#[]⟩, .int .i64 21]) ∧ w = w' := by
  go_enter Tryz.func6, Tryz.ntmps6
  go_wp2
  go_ret2
  exact ⟨rfl, rfl⟩
theorem rTrim_big (k : Nat) (hk : k ≤ 3) (s : ByteArray) (w : World) (A : Option Addr) (n c : Nat) (hs : 4096 < s.size) (hs2 : s.size ≤ 1000000) :
    Calls Tryz.prog 6 #[.int .i64 (6 + (k : Int)), .string s, .slice A n c] w fun e w' => e = .returned (.tuple #[.string ⟨#[]⟩, .int .i64 21]) ∧ w = w' := by
  rcases (by omega : k = 0 ∨ k = 1 ∨ k = 2 ∨ k = 3) with rfl | rfl | rfl | rfl
  · exact rTrim_big6 s w A n c hs hs2
  · exact rTrim_big7 s w A n c hs hs2
  · exact rTrim_big8 s w A n c hs hs2
  · exact rTrim_big9 s w A n c hs hs2
end Go.Proofs.YtmoihdddmeienaaGreatDoor
