/-
  The walk of MarksEscapes: it answers true and leaves what was there. Conditions: the text lies in memory that was there; the string is no longer than a machine's.
-/
import Derived.Test.YtdiiimcoannnnaaDoorMkAwake
import Derived.Test.YtdiiimcoannnnaaDoorMkSame
import Derived.Test.YtdiiimcoannnnaaDoorMkRRead
namespace Go.Proofs.YtdiiimcoannnnaaDoor
open Go Go.RowKit

set_option maxHeartbeats 1000000 in
set_option maxRecDepth 100000 in
theorem lawEscapes_any (l : List Ch) (s : ByteArray) (v : Value) (w : World) (ht : Tx w w.heap.size v l) (hsm : s.size ≤ maxLen) :
    Calls Tryd.prog 5 #[v, .string s] w fun e w' => e = .returned (.bool true) ∧ Below w.heap.size w w' := by
  obtain ⟨A, c, rfl, hc, hcm⟩ := ht.form
  unfold maxLen at hcm hsm
  by_cases hl : l.length ≤ 2000
  · by_cases hs : s.size ≤ 2000
    · go_enter Tryd.func5, Tryd.ntmps5
      go_wp2_with fail
      refine (read_any s _ (by omega)).mono ?_
      rintro e w1 ⟨v1, rfl, h1, hb1⟩
      have ht1 := (ht.below hb1).more hb1.size
      clear ht
      go_wp2_with fail
      refine (rread_any s _ (by omega)).mono ?_
      rintro e w2 ⟨v2, rfl, h2, hb2⟩
      have ht2 := (ht1.below hb2).more hb2.size
      have h1b := (h1.below hb2).more hb2.size
      have hb2' : Below w.heap.size w w2 := hb1.trans (hb2.mono hb1.size)
      clear ht1 h1 hb1 hb2
      generalize readE s.data.toList = E
      have hlT : (readT s.data.toList).length ≤ 1000000 := readT_length s (by omega)
      generalize readT s.data.toList = T at h1b h2 hlT
      go_wp2_with fail
      refine (escape_any l _ _ _ ht2 (Nat.le_refl _) (by omega)).mono ?_
      rintro e w3 ⟨rfl, hb3⟩
      have ht3 := (ht2.below hb3).more hb3.size
      have h1c := (h1b.below hb3).more hb3.size
      have h2c := (h2.below hb3).more hb3.size
      have hb3' : Below w.heap.size w w3 := hb2'.trans (hb3.mono hb2'.size)
      clear ht2 h1b h2 hb2' hb3
      go_wp2_with fail
      refine (text_any l _ _ _ ht3 (Nat.le_refl _) (by omega)).mono ?_
      rintro e w4 ⟨v4, rfl, h4, hb4⟩
      have h1d := (h1c.below hb4).more hb4.size
      have h2d := (h2c.below hb4).more hb4.size
      have hb4' : Below w.heap.size w w4 := hb3'.trans (hb4.mono hb3'.size)
      clear ht3 h1c h2c hb3' hb4
      go_wp2_with fail
      refine (rescape_any l _ _ _ h4 (Nat.le_refl _) (by omega)).mono ?_
      rintro e w5 ⟨rfl, hb5⟩
      have h1e := (h1d.below hb5).more hb5.size
      have h2e := (h2d.below hb5).more hb5.size
      have hb5' : Below w.heap.size w w5 := hb4'.trans (hb5.mono hb4'.size)
      clear h1d h2d h4 hb4' hb5
      generalize escS l = ES
      go_wp2_with fail
      refine (text_any T _ _ _ h1e (Nat.le_refl _) hlT).mono ?_
      rintro e w6 ⟨v6, rfl, h6, hb6⟩
      have h2f := (h2e.below hb6).more hb6.size
      have hb6' : Below w.heap.size w w6 := hb5'.trans (hb6.mono hb5'.size)
      clear h1e h2e hb5' hb6
      go_wp2_with fail
      refine (rsame_any T T _ _ _ _ h6 h2f (Nat.le_refl _)).mono ?_
      rintro e w7 ⟨rfl, hb7⟩
      rw [show decide (T = T) = true by simp]
      have hb7' : Below w.heap.size w w7 := hb6'.trans (hb7.mono hb6'.size)
      clear h6 h2f hb6' hb7
      go_wp2_with fail
      refine (chomp_any s _ (by omega)).mono ?_
      rintro e w8 ⟨rfl, rfl⟩
      go_wp2_with fail
      refine (rchomp_any s _ (by omega)).mono ?_
      rintro e w9 ⟨rfl, rfl⟩
      generalize chompS s = CS
      go_wp2_with fail
      refine (awake_any _).mono ?_
      rintro e w10 ⟨rfl, hb10⟩
      have hb10' := hb7'.trans (hb10.mono hb7'.size)
      clear hb7' hb10
      go_wp2
      go_ret
      exact ⟨rfl, hb10'⟩
    · go_enter Tryd.func5, Tryd.ntmps5
      go_wp2_with fail
      refine (awake_any _).mono ?_
      rintro e w1 ⟨rfl, hb1⟩
      go_wp2
      go_ret
      exact ⟨rfl, hb1⟩
  · go_enter Tryd.func5, Tryd.ntmps5
    go_wp2_with fail
    refine (awake_any _).mono ?_
    rintro e w1 ⟨rfl, hb1⟩
    go_wp2
    go_ret
    exact ⟨rfl, hb1⟩
end Go.Proofs.YtdiiimcoannnnaaDoor
