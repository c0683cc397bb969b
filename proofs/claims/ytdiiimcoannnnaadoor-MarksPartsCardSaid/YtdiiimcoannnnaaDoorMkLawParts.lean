/-
  The walk of MarksParts: it answers true and leaves what was there. Conditions: the text lies in memory that was there; the string is no longer than a machine's.
-/
import Derived.Test.YtdiiimcoannnnaaDoorMkAwake
import Derived.Test.YtdiiimcoannnnaaDoorMkSame
import Derived.Test.YtdiiimcoannnnaaDoorMkRFind
import Derived.Test.YtdiiimcoannnnaaDoorMkRPart
import Derived.Test.YtdiiimcoannnnaaDoorMkStrip
namespace Go.Proofs.YtdiiimcoannnnaaDoor
open Go Go.RowKit

theorem stripL_length (S : List UInt8) (l : List Ch) : (stripL S l).length ≤ l.length := by
  have h1 := (List.dropWhile_sublist (inSet S) (l := l)).length_le
  have h2 := (List.dropWhile_sublist (inSet S) (l := (l.dropWhile (inSet S)).reverse)).length_le
  simp only [stripL, trimR, List.length_reverse] at h2 ⊢
  omega

theorem partA_each (b : UInt8) : ∀ (l now m : List Ch), m ∈ partA b now l → m.length ≤ now.length + l.length
  | [], now, m, h => by
    have : m = now := by simpa [partA] using h
    rw [this]; simp
  | c :: r, now, m, h => by
    rw [partA] at h
    split at h
    · rcases List.mem_cons.1 h with h | h
      · rw [h]; omega
      · have := partA_each b r [] m h
        simp only [List.length_nil, List.length_cons] at this ⊢; omega
    · have := partA_each b r (now ++ [c]) m h
      simp only [List.length_append, List.length_cons, List.length_nil] at this ⊢; omega

set_option maxHeartbeats 2000000 in
set_option maxRecDepth 100000 in
theorem lawParts_any (l : List Ch) (b : UInt8) (s : ByteArray) (v : Value) (w : World) (ht : Tx w w.heap.size v l) (hsm : s.size ≤ maxLen) :
    Calls Tryd.prog 4 #[v, .int .u8 (b.toNat : Int), .string s] w fun e w' => e = .returned (.bool true) ∧ Below w.heap.size w w' := by
  obtain ⟨A, c, rfl, hc, hcm⟩ := ht.form
  unfold maxLen at hcm hsm
  by_cases hl : l.length ≤ 2000
  · by_cases hs : s.size ≤ 300
    · go_enter Tryd.func4, Tryd.ntmps4
      go_wp2_with fail
      refine (text_any l _ _ _ ht (Nat.le_refl _) (by omega)).mono ?_
      rintro e w1 ⟨v1, rfl, hx1, hb1⟩
      have ht1 := (ht.below hb1).more hb1.size
      clear ht
      go_wp2_with fail
      refine (part_any l b _ _ _ ht1 (Nat.le_refl _) (by omega)).mono ?_
      rintro e w2 ⟨v2, rfl, hp2, hb2⟩
      have hp2 := hp2.read
      have ht2 := (ht1.below hb2).more hb2.size
      have hx2 := (hx1.below hb2).more hb2.size
      have hb2' : Below w.heap.size w w2 := hb1.trans (hb2.mono hb1.size)
      clear ht1 hx1 hb1 hb2
      go_wp2_with fail
      refine (rpart_any l b _ _ _ hx2 (Nat.le_refl _) (by omega)).mono ?_
      rintro e w3 ⟨v3, rfl, hq3, hb3⟩
      have hq3 := hq3.read
      have hp3 := (hp2.below hb3).more hb3.size
      have ht3 := (ht2.below hb3).more hb3.size
      have hx3 := (hx2.below hb3).more hb3.size
      have hb3' : Below w.heap.size w w3 := hb2'.trans (hb3.mono hb2'.size)
      clear ht2 hx2 hp2 hb2' hb3
      have hll : (partL b l).length ≤ 2001 := by have := partA_length b l []; unfold partL; omega
      have hle := Lib.hid (fun m (hm : m ∈ partL b l) => partA_each b l [] m hm)
      generalize partL b l = ls at hp3 hq3 hll hle
      obtain ⟨A8, c8, rfl, hc8, hcm8⟩ := hp3.form
      obtain ⟨A9, c9, rfl, hc9, hcm9⟩ := hq3.form
      obtain ⟨A7, c7, rfl, _, _⟩ := hx3.form
      unfold maxLen at hcm8 hcm9
      go_wp2_with fail
      go_loopw [10] (fun i wr => ∃ k : Nat, k ≤ ls.length ∧ i = .int .i64 k ∧ Below w3.heap.size w3 wr) (fun i _ => ls.length - (intOf i).toNat)
      case atStart => exact ⟨0, Nat.zero_le _, rfl, Below.refl _ _⟩
      case round =>
        obtain ⟨k, hk, rfl, hb⟩ := hrel
        have hsz := hb.size
        by_cases hlt : k < ls.length
        · obtain ⟨blk, off, u, hA, hblk, g0, hu⟩ := (hp3.below hb).at_ hlt
          obtain ⟨blk2, off2, u2, hA2, hblk2, f0, hu2⟩ := (hq3.below hb).at_ hlt
          subst hA hA2
          have hkl : ls[k].length ≤ 2000 := by have := hle.out _ (List.getElem_mem hlt); simp only [List.length_nil] at this; omega
          generalize ls[k] = m at hu hu2 hkl
          obtain ⟨Au, cu, rfl, _, _⟩ := hu.form
          obtain ⟨Au2, cu2, rfl, _, _⟩ := hu2.form
          have hbk := Nat.lt_of_lt_of_le hblk hsz
          have hbk2 := Nat.lt_of_lt_of_le hblk2 hsz
          have i0 : (0 : Int) ≤ (k : Int) := Int.natCast_nonneg _
          have i1 : (k : Int) < (ls.length : Int) := by omega
          go_wp2_with fail
          go_region_held3 (fun w' => w'.cell? ⟨blk, off + k, none⟩ = some (.slice Au m.length cu) ∧ w'.cell? ⟨blk2, off2 + k, none⟩ = some (.slice Au2 m.length cu2))
            (first
              | go_keep
              | exact ⟨(hb1.cell (p := ⟨blk, off + k, none⟩) hbk).trans g0, (hb1.cell (p := ⟨blk2, off2 + k, none⟩) hbk2).trans f0⟩
              | exact ⟨(hb2.cell (p := ⟨blk, off + k, none⟩) hbk).trans g0, (hb2.cell (p := ⟨blk2, off2 + k, none⟩) hbk2).trans f0⟩)
            (first
              | (go_at_call 11; refine (text_any m _ _ _ (show Tx wr.drew wr.heap.size _ m from hu.more hsz) (Nat.le_refl _) (by omega)).mono ?_; rintro e w1 ⟨v1, rfl, h1, hb1'⟩; have hb1 : Below wr.heap.size wr w1 := ((Below.refl _ wr).drew).trans hb1')
              | (go_at_call 10; refine (rsame_any m m _ _ w1.heap.size _ h1 ((hu2.more hsz).below hb1 |>.more hb1.size) (Nat.le_refl _)).mono ?_; rintro e w2 ⟨rfl, hb2'⟩; have hb2 : Below wr.heap.size wr w2 := hb1.trans (hb2'.mono hb1.size)))
          have hb3 : Below w3.heap.size w3 w2 := hb.trans (hb2.mono hsz)
          clear hb hb1 hb2 hb1' hb2' h1 hu hu2 g0 f0
          go_wp2
          go_roundw
          case rel => exact ⟨k + 1, by omega, by go_num, hb3⟩
          case measure => simp [intOf]; omega
        · have ht4 := (ht3.below hb).more hsz
          have hx4 := (hx3.below hb).more hsz
          have hb4 : Below w.heap.size w wr := hb3'.trans (hb.mono hb3'.size)
          clear ht3 hx3 hp3 hq3 hb3' hb hle
          obtain ⟨p, hp⟩ : ∃ p, Hid (p = someQ l) := ⟨_, rfl⟩
          obtain ⟨q, hq⟩ : ∃ p, Hid (p = allQ l) := ⟨_, rfl⟩
          obtain ⟨n, hn⟩ : ∃ p, Hid (p = findInt l b) := ⟨_, rfl⟩
          go_wp2_with fail
          refine (hard_any l _ _ _ ht4 (Nat.le_refl _)).mono ?_
          rintro e w5 ⟨rfl, hb5⟩
          rw [← hp.out, ← hq.out]
          have ht5 := (ht4.below hb5).more hb5.size
          have hx5 := (hx4.below hb5).more hb5.size
          have hb5' := hb4.trans (hb5.mono hb4.size)
          clear ht4 hx4 hb4 hb5
          go_wp2_with fail
          refine (rhard_any l _ _ _ hx5).mono ?_
          rintro e w6 ⟨rfl, rfl⟩
          rw [← hp.out, ← hq.out]
          clear hp hq
          go_wp2_with fail
          refine (find_any l b _ _ _ ht5 (Nat.le_refl _)).mono ?_
          rintro e w7 ⟨rfl, hb7⟩
          rw [← hn.out]
          have ht7 := (ht5.below hb7).more hb7.size
          have hx7 := (hx5.below hb7).more hb7.size
          have hb7' := hb5'.trans (hb7.mono hb5'.size)
          clear ht5 hx5 hb5' hb7
          go_wp2_with fail
          refine (rfind_any l b _ _ _ hx7).mono ?_
          rintro e w8 ⟨rfl, rfl⟩
          rw [← hn.out]
          clear hn
          have hsl := stripL_length s.data.toList l
          go_wp2_with fail
          refine (strip_any l s _ _ _ ht7 (Nat.le_refl _) (by omega) (by omega)).mono ?_
          rintro e w9 ⟨v9, rfl, ho9, hb9⟩
          have hs9 : Tx w9 w9.heap.size v9 (stripL s.data.toList l) := Sl.of_own ho9
          have hx9 := (hx7.below hb9).more hb9.size
          have hb9' := hb7'.trans (hb9.mono hb7'.size)
          clear ht7 hx7 hb7' hb9 ho9
          go_wp2_with fail
          refine (text_any (stripL s.data.toList l) _ _ _ hs9 (Nat.le_refl _) (by omega)).mono ?_
          rintro e w10 ⟨v10, rfl, h10, hb10⟩
          have hx10 := (hx9.below hb10).more hb10.size
          have hb10' := hb9'.trans (hb10.mono hb9'.size)
          clear hs9 hx9 hb9' hb10
          go_wp2_with fail
          refine (rstrip_any l s _ _ _ hx10 (Nat.le_refl _) (by omega) (by omega)).mono ?_
          rintro e w11 ⟨v11, rfl, h11, hb11⟩
          have h10b := (h10.below hb11).more hb11.size
          have hb11' := hb10'.trans (hb11.mono hb10'.size)
          clear h10 hx10 hb10' hb11
          generalize stripL s.data.toList l = sl at h10b h11 hsl
          go_wp2_with fail
          refine (rsame_any sl sl _ _ _ _ h10b h11 (Nat.le_refl _)).mono ?_
          rintro e w12 ⟨rfl, hb12⟩
          rw [show decide (sl = sl) = true by simp]
          have hb12' := hb11'.trans (hb12.mono hb11'.size)
          clear h10b h11 hb11' hb12
          go_wp2_with fail
          refine (awake_any _).mono ?_
          rintro e w13 ⟨rfl, hb13⟩
          have hb13' := hb12'.trans (hb13.mono hb12'.size)
          clear hb12' hb13
          go_wp2
          go_ret
          exact ⟨rfl, hb13'⟩
    · go_enter Tryd.func4, Tryd.ntmps4
      go_wp2_with fail
      refine (awake_any _).mono ?_
      rintro e w1 ⟨rfl, hb1⟩
      go_wp2
      go_ret
      exact ⟨rfl, hb1⟩
  · go_enter Tryd.func4, Tryd.ntmps4
    go_wp2_with fail
    refine (awake_any _).mono ?_
    rintro e w1 ⟨rfl, hb1⟩
    go_wp2
    go_ret
    exact ⟨rfl, hb1⟩
end Go.Proofs.YtdiiimcoannnnaaDoor
