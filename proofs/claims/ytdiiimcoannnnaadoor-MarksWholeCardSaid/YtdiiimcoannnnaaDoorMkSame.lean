/-
  Same (of the reference and of the laws) tells whether two marked texts are one. Conditions: at most a million bytes each.
-/
import Derived.Test.YtdiiimcoannnnaaDoorMkText
namespace Go.Proofs.YtdiiimcoannnnaaDoor
open Go Go.RowKit

theorem take_same_snoc {l m : List Ch} {k : Nat} (h1 : k < l.length) (h2 : k < m.length) (h : l.take k = m.take k) (e : l[k] = m[k]) : l.take (k + 1) = m.take (k + 1) := by
  rw [List.take_succ_eq_append_getElem h1, List.take_succ_eq_append_getElem h2, h, e]
theorem same_full {l m : List Ch} {k : Nat} (hl : l.length = m.length) (hk : l.length ≤ k) (h : l.take k = m.take k) : l = m := by
  rwa [List.take_of_length_le hk, List.take_of_length_le (by omega)] at h

set_option maxHeartbeats 400000 in
set_option maxRecDepth 100000 in
theorem rsame_any (l m : List Ch) (v u : Value) (B : Nat) (w : World) (ht : Tx w B v l) (hu : Tx w B u m) (hB : B ≤ w.heap.size) :
    Calls Tryd.prog 10 #[v, u] w fun e w' => e = .returned (.bool (decide (l = m))) ∧ Below w.heap.size w w' := by
  obtain ⟨A, c, rfl, hc, hcm⟩ := ht.form
  obtain ⟨D, d, rfl, hd, hdm⟩ := hu.form
  unfold maxLen at hcm hdm
  by_cases hlen : l.length = m.length
  · have H := Lib.hid hlen
    have hneq : ((l.length : Int) != (m.length : Int)) = false := by rw [hlen]; simp
    have hle : l.length ≤ m.length := by omega
    clear hlen
    go_enter Tryd.func10, Tryd.ntmps10
    go_wp2
    go_loopw [5] (fun i wr => ∃ (k : Nat), k ≤ l.length ∧ i = .int .i64 k ∧ Below w.heap.size w wr ∧ Hid (l.take k = m.take k)) (fun i _ => l.length - (intOf i).toNat)
    case atStart => exact ⟨0, Nat.zero_le _, rfl, Below.refl _ _, rfl⟩
    case round =>
      obtain ⟨k, hk, rfl, hb, hs⟩ := hrel
      have hsz := hb.size
      by_cases hlt : k < l.length
      · obtain ⟨blk, off, rfl, hblk, g0, g1⟩ := ((ht.more hB).below hb).at_ hlt
        obtain ⟨blk2, off2, rfl, hblk2, f0, f1⟩ := ((hu.more hB).below hb).at_ (k := k) (by omega)
        have hlt2 : k < m.length := by omega
        have hsn := Lib.hid (@take_same_snoc l m k hlt hlt2 hs.out)
        have hne := Lib.hid (fun (h : l = m) => (show l[k] = m[k] by subst h; rfl))
        generalize l[k] = z at g0 g1 hsn hne
        generalize m[k] = y at f0 f1 hsn hne
        obtain ⟨x, q⟩ := z
        obtain ⟨x2, q2⟩ := y
        simp only at g0 g1 f0 f1
        by_cases hx : x = x2
        · subst hx
          by_cases hq : q = q2
          · subst hq
            go_wp2
            go_quiet (fail)
            go_wp2
            go_roundw
            case rel => exact ⟨k + 1, by omega, by go_num, below_drewN hb _, hsn.out (by first | rfl | trivial)⟩
            case measure => simp [intOf]; omega
          · have hn : ¬ l = m := fun h => hq (by have := hne.out h; injection this)
            have hq' : (q == q2) = false := by simpa using hq
            have HN := Lib.hid hn
            clear hq hn
            go_wp2
            go_quiet (fail)
            go_wp2
            go_ret
            exact ⟨ret_bool (by simp [HN.out]), below_drewN hb _⟩
        · have hn : ¬ l = m := fun h => hx (by have := hne.out h; injection this)
          have hx' : ((x.toNat : Int) == (x2.toNat : Int)) = false := by
            rw [beq_eq_false_iff_ne]; intro h; exact hx (UInt8.toNat.inj (by omega))
          have HN := Lib.hid hn
          clear hx hn
          go_wp2
          go_quiet (fail)
          go_wp2
          go_ret
          exact ⟨ret_bool (by simp [HN.out]), below_drewN hb _⟩
      · go_wp2
        go_ret
        exact ⟨ret_bool (by simp [same_full H.out (by omega) hs.out]), hb⟩
  · have hneq : ((l.length : Int) != (m.length : Int)) = true := by simp; omega
    have HN := Lib.hid hlen
    clear hlen
    go_enter Tryd.func10, Tryd.ntmps10
    go_wp2
    go_ret
    exact ⟨ret_bool (by have : ¬ l = m := fun h => HN.out (by rw [h]); simp [this]), Below.refl _ _⟩

set_option maxHeartbeats 400000 in
set_option maxRecDepth 100000 in
theorem lsame_any (l m : List Ch) (v u : Value) (B : Nat) (w : World) (ht : Tx w B v l) (hu : Tx w B u m) (hB : B ≤ w.heap.size) (hl : l.length ≤ 1000000) (hm : m.length ≤ 1000000) :
    Calls Tryd.prog 34 #[v, u] w fun e w' => e = .returned (.bool (decide (l = m))) ∧ Below w.heap.size w w' := by
  go_enter Tryd.func34, Tryd.ntmps34
  go_wp2_with fail
  refine (text_any l v B _ ht hB hl).mono ?_
  rintro e w1 ⟨v1, rfl, h1, hb1⟩
  go_wp2_with fail
  refine (text_any m u _ _ (((hu.more hB).below hb1)) hb1.size hm).mono ?_
  rintro e w2 ⟨v2, rfl, h2, hb2⟩
  go_wp2_with fail
  refine (rsame_any l m v1 v2 w2.heap.size _ ((h1.below hb2).more hb2.size) h2 (Nat.le_refl _)).mono ?_
  rintro e w3 ⟨rfl, hb3⟩
  go_wp2
  go_ret
  exact ⟨rfl, (hb1.trans (hb2.mono hb1.size)).trans (hb3.mono (Nat.le_trans hb1.size hb2.size))⟩
end Go.Proofs.YtdiiimcoannnnaaDoor
