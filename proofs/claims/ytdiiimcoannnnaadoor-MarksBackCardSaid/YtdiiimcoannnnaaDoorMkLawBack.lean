/-
  The walk of MarksBack: it answers true and leaves what was there. Conditions: the text lies in memory that was there.
-/
import Derived.Test.YtdiiimcoannnnaaDoorMkAwake
import Derived.Test.YtdiiimcoannnnaaDoorMkSame
namespace Go.Proofs.YtdiiimcoannnnaaDoor
open Go Go.RowKit

theorem rd_esc (c : Ch) (r : List UInt8) (h : bad c = false) : rd 0 (esc c ++ r) = (rd 0 r).map (c :: ·) := by
  obtain ⟨x, q⟩ := c
  cases q
  · have h2 : ¬ x = 92 ∧ ¬ x = 39 := by simpa [bad] using h
    simp [esc, rd, h2.1, h2.2]
  · by_cases hx : x = 10
    · subst hx
      simp only [esc, if_true, beq_self_eq_true, List.cons_append, List.nil_append]
      rw [rd, if_pos rfl, rd, if_neg (by decide), rd, if_pos rfl]
      all_goals omega
    · simp [esc, rd, hx]
theorem rd_escs (l : List Ch) (h : l.any bad = false) : rd 0 (escs l) = some l := by
  induction l with
  | nil => rfl
  | cons c l ih =>
    simp only [List.any_cons, Bool.or_eq_false_iff] at h
    have := rd_esc c (escs l) h.1
    rw [ih h.2] at this
    exact this
theorem read_esc (l : List Ch) (h : l.any bad = false) : readT (escS l).data.toList = l ∧ readE (escS l).data.toList = 0 := by
  refine readT_some ?_
  show rd 0 (escL l) = some l
  rw [escL, if_neg (by simp [h]), rd_escs l h]
theorem escS_size (l : List Ch) : (escS l).size ≤ 3 * l.length := by
  rw [Lib.size_eq]
  show (escL l).length ≤ _
  unfold escL
  split
  · simp
  · exact escs_length l

set_option maxHeartbeats 1000000 in
set_option maxRecDepth 100000 in
theorem lawBack_any (l : List Ch) (v : Value) (w : World) (ht : Tx w w.heap.size v l) :
    Calls Tryd.prog 6 #[v] w fun e w' => e = .returned (.bool true) ∧ Below w.heap.size w w' := by
  obtain ⟨A, c, rfl, hc, hcm⟩ := ht.form
  unfold maxLen at hcm
  by_cases hl : l.length ≤ 1000
  · have hS0 : (escS l).size ≤ 1000000 := by have := escS_size l; omega
    obtain ⟨S, hS⟩ : ∃ S, Hid (S = escS l) := ⟨_, rfl⟩
    have hSz : S.size ≤ 1000000 := by rw [hS.out]; exact hS0
    clear hS0
    go_enter Tryd.func6, Tryd.ntmps6
    go_wp2_with fail
    refine (escape_any l _ _ _ ht (Nat.le_refl _) (by omega)).mono ?_
    rintro e w1 ⟨rfl, hb1⟩
    rw [← hS.out]
    have ht1 := (ht.below hb1).more hb1.size
    clear ht
    go_wp2_with fail
    go_loop [4] (fun i => ∃ k : Nat, k ≤ l.length ∧ i = .int .i64 k ∧ Hid ((l.take k).any bad = false)) (fun i => l.length - (intOf i).toNat)
    case atStart => exact ⟨0, Nat.zero_le _, rfl, rfl⟩
    case round =>
      obtain ⟨k, hk, rfl, hg⟩ := hrel
      by_cases hlt : k < l.length
      · obtain ⟨blk, off, rfl, hblk, g0, g1⟩ := ht1.at_ hlt
        have hbs := Lib.hid (@bad_snoc l k hlt hg.out)
        have hba := Lib.hid (@escS_bad l k hlt)
        generalize l[k] = z at g0 g1 hbs hba
        obtain ⟨x, q⟩ := z
        simp only at g0 g1
        cases q
        · by_cases h92 : x = 92
          · subst h92
            have hS1 : S = ⟨#[]⟩ := by rw [hS.out]; exact hba.out rfl
            subst hS1
            go_wp2_with fail
            refine (awake_any _).mono ?_
            rintro e w2 ⟨rfl, hb2⟩
            go_wp2
            go_ret
            exact ⟨rfl, hb1.trans (hb2.mono hb1.size)⟩
          · have e92 : ((x.toNat : Int) == 92) = false := u8_neb (n := 92) h92
            by_cases h39 : x = 39
            · subst h39
              have hS1 : S = ⟨#[]⟩ := by rw [hS.out]; exact hba.out rfl
              subst hS1
              clear h92
              go_wp2_with fail
              refine (awake_any _).mono ?_
              rintro e w2 ⟨rfl, hb2⟩
              go_wp2
              go_ret
              exact ⟨rfl, hb1.trans (hb2.mono hb1.size)⟩
            · have e39 : ((x.toNat : Int) == 39) = false := u8_neb (n := 39) h39
              have hgood : Hid (bad (x, false) = false) := by simp [bad, h92, h39, Hid]
              clear h92 h39
              go_wp2
              go_round
              case rel => exact ⟨k + 1, by omega, by go_num, hbs.out hgood.out⟩
              case measure => simp [intOf]; omega
        · go_wp2
          go_round
          case rel => exact ⟨k + 1, by omega, by go_num, hbs.out (by rfl)⟩
          case measure => simp [intOf]; omega
      · have hall : l.any bad = false := by
          have := hg.out
          rwa [List.take_of_length_le (by omega)] at this
        have hre := read_esc l hall
        rw [← hS.out] at hre
        have HR := Lib.hid hre
        clear hre hall hS
        go_wp2_with fail
        refine (read_any S _ hSz).mono ?_
        rintro e w2 ⟨v2, rfl, ht2, hb2⟩
        rw [HR.out.1] at ht2
        rw [HR.out.2]
        have ht3 := (ht1.below hb2).more hb2.size
        have hb2' : Below w.heap.size w w2 := hb1.trans (hb2.mono hb1.size)
        clear HR ht1 hb1 hb2
        go_wp2_with fail
        refine (lsame_any l l _ _ _ _ ht3 ht2 (Nat.le_refl _) (by omega) (by omega)).mono ?_
        rintro e w3 ⟨rfl, hb3⟩
        rw [show decide (l = l) = true by simp]
        have hb3' : Below w.heap.size w w3 := hb2'.trans (hb3.mono hb2'.size)
        clear ht3 ht2 hb2' hb3
        go_wp2_with fail
        refine (awake_any _).mono ?_
        rintro e w4 ⟨rfl, hb4⟩
        have hb4' : Below w.heap.size w w4 := hb3'.trans (hb4.mono hb3'.size)
        clear hb3' hb4
        go_wp2
        go_ret
        exact ⟨rfl, hb4'⟩
  · go_enter Tryd.func6, Tryd.ntmps6
    go_wp2_with fail
    refine (awake_any _).mono ?_
    rintro e w1 ⟨rfl, hb1⟩
    go_wp2
    go_ret
    exact ⟨rfl, hb1⟩
end Go.Proofs.YtdiiimcoannnnaaDoor
