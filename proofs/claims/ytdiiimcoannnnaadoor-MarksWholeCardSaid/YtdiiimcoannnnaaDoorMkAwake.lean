/-
  The chapter's examples come out as they should: awake answers true, in every world. Conditions: none.
-/
import Derived.Test.YtdiiimcoannnnaaDoorMkJoin
import Derived.Test.YtdiiimcoannnnaaDoorMkRead
import Derived.Test.YtdiiimcoannnnaaDoorMkHard
import Derived.Test.YtdiiimcoannnnaaDoorMkChomp
namespace Go.Proofs.YtdiiimcoannnnaaDoor
open Go Go.RowKit

def aw1 : List Ch := [(97, false), (98, true), (32, true), (99, true), (100, true)]
theorem aw_read : readT [97, 39, 98, 32, 99, 39, 92, 100] = aw1 ∧ readE [97, 39, 98, 32, 99, 39, 92, 100] = 0 := by decide
theorem aw_more : readT [39, 97] = [] ∧ readE [39, 97] = 30 := by decide
theorem aw_join : [ofL ⟨#[97, 58]⟩ false, ofL ⟨#[58]⟩ true, ofL ⟨#[98, 58]⟩ false].flatten = [(97, false), (58, false), (58, true), (98, false), (58, false)] := by decide
theorem aw_part : partL 58 [(97, false), (58, false), (58, true), (98, false), (58, false)] = [[(97, false)], [(58, true), (98, false)], []] := by decide

/-- Three texts laid side by side in a new block. -/
theorem txs_three {w : World} {a b c : Value} {A B C : List Ch} (t : TypeId) (ha : Tx w w.heap.size a A) (hb : Tx w w.heap.size b B) (hc : Tx w w.heap.size c C) :
    Txs (w.alloc (.cells #[a, b, c] t)) (w.alloc (.cells #[a, b, c] t)).heap.size (.slice (some ⟨w.heap.size, 0, none⟩) 3 3) [A, B, C] := by
  have hbl : Below w.heap.size w (w.alloc (.cells #[a, b, c] t)) := (Below.refl _ _).alloc (Nat.le_refl _) _
  have hs : w.heap.size ≤ (w.alloc (.cells #[a, b, c] t)).heap.size := hbl.size
  refine ⟨[a, b, c], ⟨_, 3, rfl, Nat.le_refl _, by decide, rfl, fun _ => ⟨w.heap.size, 0, rfl, by simp, fun j u hu => ?_⟩⟩, fun i l hl => ?_⟩
  · have := new_cells w #[a, b, c] t j u hu
    rwa [add_plain0] at this
  · match i, hl with
    | 0, hl => injection hl with hl; subst hl; exact ⟨a, rfl, (ha.below hbl).more hs⟩
    | 1, hl => injection hl with hl; subst hl; exact ⟨b, rfl, (hb.below hbl).more hs⟩
    | 2, hl => injection hl with hl; subst hl; exact ⟨c, rfl, (hc.below hbl).more hs⟩

set_option maxHeartbeats 1000000 in
set_option maxRecDepth 100000 in
theorem awake_any (w : World) : Calls Tryd.prog 9 #[] w fun e w' => e = .returned (.bool true) ∧ Below w.heap.size w w' := by
  go_enter Tryd.func9, Tryd.ntmps9
  go_wp2_with fail
  refine (read_any ⟨#[97, 39, 98, 32, 99, 39, 92, 100]⟩ _ (by decide)).mono ?_
  rintro e w1 ⟨v1, rfl, ht1, hb1⟩
  rw [show (⟨#[97, 39, 98, 32, 99, 39, 92, 100]⟩ : ByteArray).data.toList = [97, 39, 98, 32, 99, 39, 92, 100] from rfl, aw_read.1] at ht1
  rw [show (⟨#[97, 39, 98, 32, 99, 39, 92, 100]⟩ : ByteArray).data.toList = [97, 39, 98, 32, 99, 39, 92, 100] from rfl, aw_read.2]
  go_wp2_with fail
  refine (read_any ⟨#[39, 97]⟩ _ (by decide)).mono ?_
  rintro e w2 ⟨v2, rfl, ht2, hb2⟩
  rw [show (⟨#[39, 97]⟩ : ByteArray).data.toList = [39, 97] from rfl, aw_more.2]
  have hb2' : Below w.heap.size w w2 := hb1.trans (hb2.mono hb1.size)
  have ht1b := (ht1.below hb2).more hb2.size
  clear ht2 ht1 hb1 hb2
  go_wp2_with fail
  refine (of_any ⟨#[97, 58]⟩ false _ (by decide)).mono ?_
  rintro e w3 ⟨a3, rfl, ha3, hb3⟩
  go_wp2_with fail
  refine (of_any ⟨#[58]⟩ true _ (by decide)).mono ?_
  rintro e w4 ⟨a4, rfl, ha4, hb4⟩
  go_wp2_with fail
  refine (of_any ⟨#[98, 58]⟩ false _ (by decide)).mono ?_
  rintro e w5 ⟨a5, rfl, ha5, hb5⟩
  have h3 := (((ha3.below hb4).more hb4.size).below hb5).more hb5.size
  have h4 := (ha4.below hb5).more hb5.size
  have hb25 : Below w2.heap.size w2 w5 := hb3.trans ((hb4.trans (hb5.mono hb4.size)).mono hb3.size)
  have ht1c := (ht1b.below hb25).more hb25.size
  have hb5' : Below w.heap.size w w5 := hb2'.trans (hb25.mono hb2'.size)
  clear ha3 ha4 hb3 hb4 hb5 ht1b hb2' hb25
  obtain ⟨A3, c3, rfl, _, _⟩ := h3.form
  obtain ⟨A4, c4, rfl, _, _⟩ := h4.form
  obtain ⟨A5, c5, rfl, _, _⟩ := ha5.form
  have hts := txs_three 22 h3 h4 ha5
  go_wp2_with fail
  refine (join_any _ _ _ _ hts (Nat.le_refl _) (by simp) (by rw [aw_join]; simp)).mono ?_
  rintro e w6 ⟨v6, rfl, h6, hb6⟩
  rw [aw_join] at h6
  have hb6' : Below w.heap.size w w6 := (hb5'.alloc hb5'.size _).trans (hb6.mono (by simp; have := hb5'.size; omega))
  have ht1d := (ht1c.below (((Below.refl _ _).alloc (Nat.le_refl _) _).trans (hb6.mono (by simp)))).more (show w5.heap.size ≤ w6.heap.size by have := hb6.size; simp at this; omega)
  clear hts h3 h4 ha5 hb5' hb6 ht1c
  go_wp2_with fail
  refine (part_any _ 58 v6 _ _ h6 (Nat.le_refl _) (by simp)).mono ?_
  rintro e w7 ⟨v7, rfl, h7, hb7⟩
  have h7r := h7.read
  rw [aw_part] at h7r
  have hb7' : Below w.heap.size w w7 := hb6'.trans (hb7.mono hb6'.size)
  have ht1e := (ht1d.below hb7).more hb7.size
  clear h7 h6 hb6' hb7 ht1d
  obtain ⟨A7, c7, rfl, _, _⟩ := h7r.form
  go_wp2_with fail
  refine (hard_any _ v1 _ _ ht1e (Nat.le_refl _)).mono ?_
  rintro e w8 ⟨rfl, hb8⟩
  rw [show someQ aw1 = true from rfl, show allQ aw1 = false from rfl]
  have hb8' : Below w.heap.size w w8 := hb7'.trans (hb8.mono hb7'.size)
  have ht1f := (ht1e.below hb8).more hb8.size
  have h8r := (h7r.below hb8).more hb8.size
  clear h7r ht1e hb7' hb8
  go_wp2_with fail
  refine (plain_any _ v1 _ _ ht1f (Nat.le_refl _) (by decide)).mono ?_
  rintro e w9 ⟨rfl, hb9⟩
  rw [show plainS aw1 = ⟨#[97, 98, 32, 99, 100]⟩ from rfl]
  have hb9' : Below w.heap.size w w9 := hb8'.trans (hb9.mono hb8'.size)
  have h9r := (h8r.below hb9).more hb9.size
  clear h8r ht1f hb8' hb9
  obtain ⟨blk, off, u, rfl, hblk, g0, hu⟩ := h9r.at_ (k := 1) (by simp)
  obtain ⟨Au, cu, rfl, _, _⟩ := hu.form
  go_wp2_with fail
  refine (plain_any [(58, true), (98, false)] _ _ _ hu (Nat.le_refl _) (by decide)).mono ?_
  rintro e w10 ⟨rfl, hb10⟩
  rw [show plainS [(58, true), (98, false)] = ⟨#[58, 98]⟩ from rfl]
  have hb10' : Below w.heap.size w w10 := hb9'.trans (hb10.mono hb9'.size)
  clear hb10 hb9' hu h9r g0
  go_wp2_with fail
  refine (of_any ⟨#[42]⟩ true _ (by decide)).mono ?_
  rintro e w11 ⟨v11, rfl, h11, hb11⟩
  rw [show ofL ⟨#[42]⟩ true = [(42, true)] from rfl] at h11
  have hb11' : Below w.heap.size w w11 := hb10'.trans (hb11.mono hb10'.size)
  clear hb10' hb11
  go_wp2_with fail
  refine (escape_any [(42, true)] _ _ _ h11 (Nat.le_refl _) (by decide)).mono ?_
  rintro e w12 ⟨rfl, hb12⟩
  rw [show escS [(42, true)] = ⟨#[92, 42]⟩ from rfl]
  have hb12' : Below w.heap.size w w12 := hb11'.trans (hb12.mono hb11'.size)
  clear hb11' hb12 h11
  go_wp2_with fail
  refine (chomp_any ⟨#[97, 10, 10]⟩ _ (by decide)).mono ?_
  rintro e w13 ⟨rfl, rfl⟩
  rw [show chompS ⟨#[97, 10, 10]⟩ = ⟨#[97]⟩ from rfl]
  go_wp2
  go_ret
  exact ⟨rfl, hb12'⟩
end Go.Proofs.YtdiiimcoannnnaaDoor
