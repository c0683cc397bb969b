/-
  The walk of MarksMakes: it answers true and leaves what was there. Conditions: the texts lie in memory that was there; the string is no longer than a machine's.
-/
import Derived.Test.YtdiiimcoannnnaaDoorMkAwake
import Derived.Test.YtdiiimcoannnnaaDoorMkSame
import Derived.Test.YtdiiimcoannnnaaDoorMkROf
import Derived.Test.YtdiiimcoannnnaaDoorMkRPart
import Derived.Test.YtdiiimcoannnnaaDoorMkRs
namespace Go.Proofs.YtdiiimcoannnnaaDoor
open Go Go.RowKit

theorem same_true {α} [DecidableEq α] (x : α) : decide (x = x) = true := by simp

set_option maxHeartbeats 2000000 in
set_option maxRecDepth 100000 in
theorem lawMakes_any (s : ByteArray) (l m : List Ch) (v u : Value) (w : World) (hsm : s.size ≤ maxLen) (ht : Tx w w.heap.size v l) (hu : Tx w w.heap.size u m) :
    Calls Tryd.prog 3 #[.string s, v, u] w fun e w' => e = .returned (.bool true) ∧ Below w.heap.size w w' := by
  obtain ⟨A, c, rfl, hc, hcm⟩ := ht.form
  obtain ⟨A', c', rfl, hc', hcm'⟩ := hu.form
  unfold maxLen at hcm hcm' hsm
  by_cases hgo : s.size ≤ 2000 ∧ l.length ≤ 2000 ∧ m.length ≤ 2000
  · obtain ⟨hs, hl, hm⟩ := hgo
    go_enter Tryd.func3, Tryd.ntmps3
    go_wp2_with fail
    refine (of_any s true _ (by omega)).mono ?_
    rintro e w1 ⟨v1, rfl, h1, hb1⟩
    have ht1 := (ht.below hb1).more hb1.size
    have hu1 := (hu.below hb1).more hb1.size
    have hL := Lib.hid (ofL_length s true)
    clear ht hu
    go_wp2_with fail
    refine (text_any _ v1 _ _ h1 (Nat.le_refl _) (by rw [hL.out]; omega)).mono ?_
    rintro e w2 ⟨v2, rfl, h2, hb2⟩
    have ht2 := (ht1.below hb2).more hb2.size
    have hu2 := (hu1.below hb2).more hb2.size
    have hb2' : Below w.heap.size w w2 := hb1.trans (hb2.mono hb1.size)
    clear ht1 hu1 hb1 hb2 h1
    go_wp2_with fail
    refine (rof_any s true _ (by omega)).mono ?_
    rintro e w3 ⟨v3, rfl, h3, hb3⟩
    have ht3 := (ht2.below hb3).more hb3.size
    have hu3 := (hu2.below hb3).more hb3.size
    have h2b := (h2.below hb3).more hb3.size
    have hb3' : Below w.heap.size w w3 := hb2'.trans (hb3.mono hb2'.size)
    clear ht2 hu2 hb2' hb3 h2
    go_wp2_with fail
    refine (rsame_any _ _ _ _ _ _ h2b h3 (Nat.le_refl _)).mono ?_
    rintro e w4 ⟨rfl, hb4⟩
    rw [same_true]
    have ht4 := (ht3.below hb4).more hb4.size
    have hu4 := (hu3.below hb4).more hb4.size
    have hb4' : Below w.heap.size w w4 := hb3'.trans (hb4.mono hb3'.size)
    clear ht3 hu3 hb3' hb4 h2b h3 hL
    go_wp2_with fail
    refine (of_any s false _ (by omega)).mono ?_
    rintro e w5 ⟨v5, rfl, h5, hb5⟩
    have ht5 := (ht4.below hb5).more hb5.size
    have hu5 := (hu4.below hb5).more hb5.size
    have hb5' : Below w.heap.size w w5 := hb4'.trans (hb5.mono hb4'.size)
    have hL := Lib.hid (ofL_length s false)
    clear ht4 hu4 hb4' hb5
    go_wp2_with fail
    refine (text_any _ v5 _ _ h5 (Nat.le_refl _) (by rw [hL.out]; omega)).mono ?_
    rintro e w6 ⟨v6, rfl, h6, hb6⟩
    have ht6 := (ht5.below hb6).more hb6.size
    have hu6 := (hu5.below hb6).more hb6.size
    have hb6' : Below w.heap.size w w6 := hb5'.trans (hb6.mono hb5'.size)
    clear ht5 hu5 hb5' hb6 h5
    go_wp2_with fail
    refine (rof_any s false _ (by omega)).mono ?_
    rintro e w7 ⟨v7, rfl, h7, hb7⟩
    have ht7 := (ht6.below hb7).more hb7.size
    have hu7 := (hu6.below hb7).more hb7.size
    have h6b := (h6.below hb7).more hb7.size
    have hb7' : Below w.heap.size w w7 := hb6'.trans (hb7.mono hb6'.size)
    clear ht6 hu6 hb6' hb7 h6
    go_wp2_with fail
    refine (rsame_any _ _ _ _ _ _ h6b h7 (Nat.le_refl _)).mono ?_
    rintro e w8 ⟨rfl, hb8⟩
    rw [same_true]
    have ht8 := (ht7.below hb8).more hb8.size
    have hu8 := (hu7.below hb8).more hb8.size
    have hb8' : Below w.heap.size w w8 := hb7'.trans (hb8.mono hb7'.size)
    clear ht7 hu7 hb7' hb8 h6b h7 hL
    go_wp2_with fail
    refine (runs_any l _ _ _ ht8 (Nat.le_refl _) (by omega)).mono ?_
    rintro e w9 ⟨v9, rfl, ho9, hb9⟩
    have h9 := Rs.of_own ho9
    have ht9 := (ht8.below hb9).more hb9.size
    have hu9 := (hu8.below hb9).more hb9.size
    have hb9' : Below w.heap.size w w9 := hb8'.trans (hb9.mono hb8'.size)
    clear ht8 hu8 hb8' hb9 ho9
    go_wp2_with fail
    refine (text_any l _ _ _ ht9 (Nat.le_refl _) (by omega)).mono ?_
    rintro e w10 ⟨v10, rfl, h10, hb10⟩
    have ht10 := (ht9.below hb10).more hb10.size
    have hu10 := (hu9.below hb10).more hb10.size
    have h9b := (h9.below hb10).more hb10.size
    have hb10' : Below w.heap.size w w10 := hb9'.trans (hb10.mono hb9'.size)
    clear ht9 hu9 hb9' hb10 h9
    go_wp2_with fail
    refine (rruns_any l _ _ _ h10 (Nat.le_refl _) (by omega)).mono ?_
    rintro e w11 ⟨v11, rfl, ho11, hb11⟩
    have h11 := Rs.of_own ho11
    have ht11 := (ht10.below hb11).more hb11.size
    have hu11 := (hu10.below hb11).more hb11.size
    have h9c := (h9b.below hb11).more hb11.size
    have hb11' : Below w.heap.size w w11 := hb10'.trans (hb11.mono hb10'.size)
    clear ht10 hu10 hb10' hb11 h9b h10 ho11
    have hRl := runsL_length l
    generalize runsL l = R at h9c h11 hRl
    obtain ⟨A9, c9, rfl, hc9, hcm9⟩ := h9c.form
    obtain ⟨A11, c11, rfl, hc11, hcm11⟩ := h11.form
    unfold maxLen at hcm9 hcm11
    go_wp2_with fail
    go_loopw [9] (fun i wr => ∃ k : Nat, k ≤ R.length ∧ i = .int .i64 k ∧ ∃ n, wr = w11.drewN n) (fun i _ => R.length - (intOf i).toNat)
    case atStart => exact ⟨0, Nat.zero_le _, rfl, 0, rfl⟩
    case round =>
      obtain ⟨k, hk, rfl, n, rfl⟩ := hrel
      by_cases hlt : k < R.length
      · obtain ⟨blk, off, rfl, hblk, f0, f1⟩ := h9c.at_ hlt
        obtain ⟨blk2, off2, rfl, hblk2, g0, g1⟩ := h11.at_ hlt
        generalize R[k].1 = x at f0 g0
        generalize R[k].2 = q at f1 g1
        go_wp2_with fail
        go_quiet (fail)
        go_wp2
        go_roundw
        case rel => exact ⟨k + 1, by omega, by go_num, _, rfl⟩
        case measure => simp [intOf]; omega
      · have ht12 := ht11.drewN n
        have hu12 := hu11.drewN n
        have hb12 := below_drewN hb11' n
        have ht12 : Tx (w11.drewN n) (w11.drewN n).heap.size _ l := ht12
        have hu12 : Tx (w11.drewN n) (w11.drewN n).heap.size _ m := hu12
        clear ht11 hu11 hb11' h9c h11
        generalize w11.drewN n = w12 at *
        go_wp2_with fail
        refine (plain_any l _ _ _ ht12 (Nat.le_refl _) (by omega)).mono ?_
        rintro e w13 ⟨rfl, hb13⟩
        have ht13 := (ht12.below hb13).more hb13.size
        have hu13 := (hu12.below hb13).more hb13.size
        have hb13' : Below w.heap.size w w13 := hb12.trans (hb13.mono hb12.size)
        clear ht12 hu12 hb12 hb13
        go_wp2_with fail
        refine (text_any l _ _ _ ht13 (Nat.le_refl _) (by omega)).mono ?_
        rintro e w14 ⟨v14, rfl, h14, hb14⟩
        have ht14 := (ht13.below hb14).more hb14.size
        have hu14 := (hu13.below hb14).more hb14.size
        have hb14' : Below w.heap.size w w14 := hb13'.trans (hb14.mono hb13'.size)
        clear ht13 hu13 hb13' hb14
        go_wp2_with fail
        refine (rplain_any l _ _ _ h14 (Nat.le_refl _) (by omega)).mono ?_
        rintro e w15 ⟨rfl, hb15⟩
        have ht15 := (ht14.below hb15).more hb15.size
        have hu15 := (hu14.below hb15).more hb15.size
        have hb15' : Below w.heap.size w w15 := hb14'.trans (hb15.mono hb14'.size)
        clear ht14 hu14 hb14' hb15 h14
        generalize plainS l = P
        have hx := txs_three 22 ht15 hu15 ht15
        have hbl : Below w15.heap.size w15 (w15.alloc (.cells #[.slice A l.length c, .slice A' m.length c', .slice A l.length c] 22)) := (Below.refl _ _).alloc (Nat.le_refl _) _
        have ht16 := (ht15.below hbl).more hbl.size
        have hu16 := (hu15.below hbl).more hbl.size
        have hb16 := hb15'.trans (hbl.mono hb15'.size)
        have hlen : [l, m, l].flatten.length ≤ 6000 := by simp; omega
        clear ht15 hu15 hb15' hbl
        go_wp2_with fail
        refine (join_any [l, m, l] _ _ _ hx (Nat.le_refl _) (by simp) (by omega)).mono ?_
        rintro e w17 ⟨v17, rfl, h17, hb17⟩
        have ht17 := (ht16.below hb17).more hb17.size
        have hu17 := (hu16.below hb17).more hb17.size
        have hb17' : Below w.heap.size w w17 := hb16.trans (hb17.mono hb16.size)
        clear ht16 hu16 hb16 hb17 hx
        go_wp2_with fail
        refine (text_any [l, m, l].flatten _ _ _ h17 (Nat.le_refl _) (by omega)).mono ?_
        rintro e w18 ⟨v18, rfl, h18, hb18⟩
        have ht18 := (ht17.below hb18).more hb18.size
        have hu18 := (hu17.below hb18).more hb18.size
        have hb18' : Below w.heap.size w w18 := hb17'.trans (hb18.mono hb17'.size)
        clear ht17 hu17 hb17' hb18 h17
        go_wp2_with fail
        refine (text_any l _ _ _ ht18 (Nat.le_refl _) (by omega)).mono ?_
        rintro e w19 ⟨v19, rfl, h19, hb19⟩
        have ht19 := (ht18.below hb19).more hb19.size
        have hu19 := (hu18.below hb19).more hb19.size
        have h18b := (h18.below hb19).more hb19.size
        have hb19' : Below w.heap.size w w19 := hb18'.trans (hb19.mono hb18'.size)
        clear ht18 hu18 hb18' hb19 h18
        go_wp2_with fail
        refine (text_any m _ _ _ hu19 (Nat.le_refl _) (by omega)).mono ?_
        rintro e w20 ⟨v20, rfl, h20, hb20⟩
        have ht20 := (ht19.below hb20).more hb20.size
        have h18c := (h18b.below hb20).more hb20.size
        have h19b := (h19.below hb20).more hb20.size
        have hb20' : Below w.heap.size w w20 := hb19'.trans (hb20.mono hb19'.size)
        clear ht19 hu19 hb19' hb20 h18b h19
        go_wp2_with fail
        refine (text_any l _ _ _ ht20 (Nat.le_refl _) (by omega)).mono ?_
        rintro e w21 ⟨v21, rfl, h21, hb21⟩
        have h18d := (h18c.below hb21).more hb21.size
        have h19c := (h19b.below hb21).more hb21.size
        have h20b := (h20.below hb21).more hb21.size
        have hb21' : Below w.heap.size w w21 := hb20'.trans (hb21.mono hb20'.size)
        clear ht20 hb20' hb21 h18c h19b h20
        have hx := txs_three 25 h19c h20b h21
        obtain ⟨A19, c19, rfl, _, _⟩ := h19c.form
        obtain ⟨A20, c20, rfl, _, _⟩ := h20b.form
        obtain ⟨A21, c21, rfl, _, _⟩ := h21.form
        have hbl : Below w21.heap.size w21 (w21.alloc (.cells #[.slice A19 l.length c19, .slice A20 m.length c20, .slice A21 l.length c21] 25)) := (Below.refl _ _).alloc (Nat.le_refl _) _
        have h18e := (h18d.below hbl).more hbl.size
        have hb22 := hb21'.trans (hbl.mono hb21'.size)
        clear h18d h19c h20b h21 hbl hb21'
        go_wp2_with fail
        refine (rjoin_any [l, m, l] _ _ _ hx (Nat.le_refl _) (by simp) (by omega)).mono ?_
        rintro e w23 ⟨v23, rfl, h23, hb23⟩
        have h18f := (h18e.below hb23).more hb23.size
        have hb23' : Below w.heap.size w w23 := hb22.trans (hb23.mono hb22.size)
        clear h18e hb22 hb23 hx
        go_wp2_with fail
        refine (rsame_any _ _ _ _ _ _ h18f h23 (Nat.le_refl _)).mono ?_
        rintro e w24 ⟨rfl, hb24⟩
        rw [same_true]
        have hb24' : Below w.heap.size w w24 := hb23'.trans (hb24.mono hb23'.size)
        clear hb23' hb24 h18f h23
        go_wp2_with fail
        refine (awake_any _).mono ?_
        rintro e w25 ⟨rfl, hb25⟩
        have hb25' := hb24'.trans (hb25.mono hb24'.size)
        clear hb24' hb25
        go_wp2
        go_ret
        exact ⟨rfl, hb25'⟩
  · have hg : ¬ s.size ≤ 2000 ∨ (s.size ≤ 2000 ∧ ¬ l.length ≤ 2000) ∨ (s.size ≤ 2000 ∧ l.length ≤ 2000 ∧ ¬ m.length ≤ 2000) := by omega
    clear hgo
    rcases hg with h1 | ⟨h1, h2⟩ | ⟨h1, h2, h3⟩
    all_goals
      go_enter Tryd.func3, Tryd.ntmps3
      go_wp2_with fail
      refine (awake_any _).mono ?_
      rintro e w1 ⟨rfl, hb1⟩
      go_wp2
      go_ret
      exact ⟨rfl, hb1⟩
end Go.Proofs.YtdiiimcoannnnaaDoor
