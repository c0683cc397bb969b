/-
  The walk of MarksHard: it answers true and leaves what was there. Conditions: the two texts lie in memory that was there.
-/
import Derived.Test.YtdiiimcoannnnaaDoorMkAwake
namespace Go.Proofs.YtdiiimcoannnnaaDoor
open Go Go.RowKit

theorem txs_two {w : World} {a b : Value} {A B : List Ch} (t : TypeId) (ha : Tx w w.heap.size a A) (hb : Tx w w.heap.size b B) :
    Txs (w.alloc (.cells #[a, b] t)) (w.alloc (.cells #[a, b] t)).heap.size (.slice (some ⟨w.heap.size, 0, none⟩) 2 2) [A, B] := by
  have hbl : Below w.heap.size w (w.alloc (.cells #[a, b] t)) := (Below.refl _ _).alloc (Nat.le_refl _) _
  have hs : w.heap.size ≤ (w.alloc (.cells #[a, b] t)).heap.size := hbl.size
  refine ⟨[a, b], ⟨_, 2, rfl, Nat.le_refl _, by decide, rfl, fun _ => ⟨w.heap.size, 0, rfl, by simp, fun j u hu => ?_⟩⟩, fun i l hl => ?_⟩
  · have := new_cells w #[a, b] t j u hu
    rwa [add_plain0] at this
  · match i, hl with
    | 0, hl => injection hl with hl; subst hl; exact ⟨a, rfl, (ha.below hbl).more hs⟩
    | 1, hl => injection hl with hl; subst hl; exact ⟨b, rfl, (hb.below hbl).more hs⟩

theorem someQ_append (l m : List Ch) : someQ (l ++ m) = (someQ l || someQ m) := by simp [someQ]
theorem allQ_append (l m : List Ch) : allQ (l ++ m) = (allQ l && allQ m) := by simp [allQ]
theorem plainS_append (l m : List Ch) : plainS (l ++ m) = plainS l ++ plainS m := by
  unfold plainS plainL
  rw [List.map_append]
  apply ByteArray.ext
  simp
theorem plainS_size (l : List Ch) : (plainS l).size = l.length := by rw [Lib.size_eq]; simp [plainS, plainL]
theorem flat_two {α : Type} (a b : List α) : [a, b].flatten = a ++ b := by simp

set_option maxHeartbeats 1000000 in
set_option maxRecDepth 100000 in
theorem lawHard_any (l m : List Ch) (v u : Value) (w : World) (ht : Tx w w.heap.size v l) (hu : Tx w w.heap.size u m) :
    Calls Tryd.prog 8 #[v, u] w fun e w' => e = .returned (.bool true) ∧ Below w.heap.size w w' := by
  obtain ⟨A, c, rfl, hc, hcm⟩ := ht.form
  obtain ⟨D, d, rfl, hd, hdm⟩ := hu.form
  unfold maxLen at hcm hdm
  by_cases hl : l.length ≤ 1000
  · by_cases hm : m.length ≤ 1000
    · obtain ⟨p, hp⟩ : ∃ p, Hid (p = someQ l) := ⟨_, rfl⟩
      obtain ⟨q, hq⟩ : ∃ p, Hid (p = allQ l) := ⟨_, rfl⟩
      obtain ⟨r, hr⟩ : ∃ p, Hid (p = someQ m) := ⟨_, rfl⟩
      obtain ⟨s, hs⟩ : ∃ p, Hid (p = allQ m) := ⟨_, rfl⟩
      have hps := Lib.hid (plainS_append l m)
      have hp1 := plainS_size l
      have hp2 := plainS_size m
      have hps1 : (plainS l).size ≤ 1000 := by omega
      have hps2 : (plainS m).size ≤ 1000 := by omega
      clear hp1 hp2
      go_enter Tryd.func8, Tryd.ntmps8
      go_wp2_with fail
      refine (hard_any l _ _ _ ht (Nat.le_refl _)).mono ?_
      rintro e w1 ⟨rfl, hb1⟩
      rw [← hp.out, ← hq.out]
      have ht1 := (ht.below hb1).more hb1.size
      have hu1 := (hu.below hb1).more hb1.size
      clear ht hu
      go_wp2_with fail
      refine (hard_any m _ _ _ hu1 (Nat.le_refl _)).mono ?_
      rintro e w2 ⟨rfl, hb2⟩
      rw [← hr.out, ← hs.out]
      have ht2 := (ht1.below hb2).more hb2.size
      have hu2 := (hu1.below hb2).more hb2.size
      have hb2' : Below w.heap.size w w2 := hb1.trans (hb2.mono hb1.size)
      clear ht1 hu1 hb1 hb2
      have hts := txs_two 22 ht2 hu2
      go_wp2_with fail
      refine (join_any _ _ _ _ hts (Nat.le_refl _) (by simp) (by rw [flat_two, List.length_append]; omega)).mono ?_
      rintro e w3 ⟨v3, rfl, h3, hb3⟩
      rw [flat_two] at h3
      have hs2 := hb2'.size
      have hb23 : Below w2.heap.size w2 w3 := ((Below.refl _ _).alloc (Nat.le_refl _) _).trans (hb3.mono (by simp))
      have ht3 := (ht2.below hb23).more hb23.size
      have hu3 := (hu2.below hb23).more hb23.size
      have hb3' : Below w.heap.size w w3 := hb2'.trans (hb23.mono hs2)
      clear hts hb3 ht2 hu2 hb23 hb2' hs2
      go_wp2_with fail
      refine (hard_any _ _ _ _ h3 (Nat.le_refl _)).mono ?_
      rintro e w4 ⟨rfl, hb4⟩
      rw [someQ_append, allQ_append, ← hp.out, ← hq.out, ← hr.out, ← hs.out]
      have ht4 := (ht3.below hb4).more hb4.size
      have hu4 := (hu3.below hb4).more hb4.size
      have hb4' : Below w.heap.size w w4 := hb3'.trans (hb4.mono hb3'.size)
      clear ht3 hu3 hb3' hb4 h3
      have hts := txs_two 22 ht4 hu4
      have hs4 := hb4'.size
      clear hp hq hr hs
      cases p <;> cases q <;> cases r <;> cases s
      all_goals
        go_wp2_with fail
        refine (join_any _ _ _ _ hts (Nat.le_refl _) (by simp) (by rw [flat_two, List.length_append]; omega)).mono ?_
        rintro e w5 ⟨v5, rfl, h5, hb5⟩
        rw [flat_two] at h5
        have hb45 : Below w4.heap.size w4 w5 := ((Below.refl _ _).alloc (Nat.le_refl _) _).trans (hb5.mono (by simp))
        have ht5 := (ht4.below hb45).more hb45.size
        have hu5 := (hu4.below hb45).more hb45.size
        have hb5' : Below w.heap.size w w5 := hb4'.trans (hb45.mono hs4)
        clear hts ht4 hu4 hb4' hs4 hb45 hb5
        go_wp2_with fail
        refine (plain_any _ _ _ _ h5 (Nat.le_refl _) (by rw [List.length_append]; omega)).mono ?_
        rintro e w6 ⟨rfl, hb6⟩
        rw [hps.out]
        have ht6 := (ht5.below hb6).more hb6.size
        have hu6 := (hu5.below hb6).more hb6.size
        have hb6' : Below w.heap.size w w6 := hb5'.trans (hb6.mono hb5'.size)
        clear ht5 hu5 hb5' hb6 h5
        go_wp2_with fail
        refine (plain_any l _ _ _ ht6 (Nat.le_refl _) (by omega)).mono ?_
        rintro e w7 ⟨rfl, hb7⟩
        have hu7 := (hu6.below hb7).more hb7.size
        have hb7' : Below w.heap.size w w7 := hb6'.trans (hb7.mono hb6'.size)
        clear ht6 hu6 hb6' hb7
        go_wp2_with fail
        refine (plain_any m _ _ _ hu7 (Nat.le_refl _) (by omega)).mono ?_
        rintro e w8 ⟨rfl, hb8⟩
        have hb8' : Below w.heap.size w w8 := hb7'.trans (hb8.mono hb7'.size)
        clear hu7 hb7' hb8
        go_wp2_with fail
        refine (awake_any _).mono ?_
        rintro e w9 ⟨rfl, hb9⟩
        have hb9' : Below w.heap.size w w9 := hb8'.trans (hb9.mono hb8'.size)
        clear hb8' hb9
        go_wp2
        go_ret
        exact ⟨rfl, hb9'⟩
    · go_enter Tryd.func8, Tryd.ntmps8
      go_wp2_with fail
      refine (awake_any _).mono ?_
      rintro e w1 ⟨rfl, hb1⟩
      go_wp2
      go_ret
      exact ⟨rfl, hb1⟩
  · go_enter Tryd.func8, Tryd.ntmps8
    go_wp2_with fail
    refine (awake_any _).mono ?_
    rintro e w1 ⟨rfl, hb1⟩
    go_wp2
    go_ret
    exact ⟨rfl, hb1⟩
end Go.Proofs.YtdiiimcoannnnaaDoor
