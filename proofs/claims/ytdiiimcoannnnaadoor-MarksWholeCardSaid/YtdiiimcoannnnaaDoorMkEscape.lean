/-
  marks.Escape answers the text that a marked text is told as. Conditions: at most a million bytes.
-/
import Derived.Test.YtdiiimcoannnnaaDoorMkPlain
namespace Go.Proofs.YtdiiimcoannnnaaDoor
open Go Go.RowKit

/-- A bare \ or ': it can't be told. -/
def bad (c : Ch) : Bool := !c.2 && (c.1 == 92 || c.1 == 39)
def esc (c : Ch) : List UInt8 := if c.2 then (if c.1 == 10 then [39, 10, 39] else [92, c.1]) else [c.1]
def escs (l : List Ch) : List UInt8 := l.flatMap esc
def escL (l : List Ch) : List UInt8 := if l.any bad then [] else escs l
def escS (l : List Ch) : ByteArray := ⟨(escL l).toArray⟩

theorem escs_snoc (l : List Ch) (k : Nat) (h : k < l.length) : escs (l.take (k + 1)) = escs (l.take k) ++ esc l[k] := by
  rw [List.take_succ_eq_append_getElem h]; simp only [escs, List.flatMap_append, List.flatMap_cons, List.flatMap_nil, List.append_nil]
theorem bad_snoc {l : List Ch} {k : Nat} (h : k < l.length) (hb : (l.take k).any bad = false) (hc : bad l[k] = false) : (l.take (k + 1)).any bad = false := by
  rw [List.take_succ_eq_append_getElem h]; simp only [List.any_append, List.any_cons, List.any_nil, Bool.or_false, hb, hc]
theorem escL_bad {l : List Ch} {k : Nat} (h : k < l.length) (hc : bad l[k] = true) : escL l = [] := by
  have : l.any bad = true := List.any_eq_true.2 ⟨l[k], List.getElem_mem h, hc⟩
  simp [escL, this]
theorem escS_bad {l : List Ch} {k : Nat} (h : k < l.length) (hc : bad l[k] = true) : escS l = ⟨#[]⟩ := by rw [escS, escL_bad h hc]
theorem escL_full {l : List Ch} {k : Nat} (h : l.length ≤ k) (hb : (l.take k).any bad = false) : escs (l.take k) = escL l := by
  rw [List.take_of_length_le h] at hb ⊢
  simp [escL, hb]
theorem esc_length (c : Ch) : (esc c).length ≤ 3 := by unfold esc; split <;> (try split) <;> simp
theorem escs_length (l : List Ch) : (escs l).length ≤ 3 * l.length := by
  induction l with
  | nil => simp [escs]
  | cons c l ih =>
    have := esc_length c
    simp only [escs, List.flatMap_cons, List.length_append, List.length_cons] at ih ⊢
    omega
theorem escs_take_length (l : List Ch) (k : Nat) : (escs (l.take k)).length ≤ 3 * k := by
  have h1 := escs_length (l.take k)
  have h2 : (l.take k).length ≤ k := List.length_take_le _ _
  omega
theorem byteCells_append (l m : List UInt8) : Lib.byteCells (l ++ m) = Lib.byteCells l ++ Lib.byteCells m := by simp [Lib.byteCells]
theorem u8_ne {x : UInt8} {n : Nat} (h : ¬ x = UInt8.ofNat n) : ¬ (x.toNat : Int) = (n : Int) := by
  intro e
  exact h (by rw [show n = x.toNat by omega, UInt8.ofNat_toNat])

set_option maxHeartbeats 400000 in
set_option maxRecDepth 100000 in
theorem escape_any (l : List Ch) (v : Value) (B : Nat) (w : World) (ht : Tx w B v l) (hB : B ≤ w.heap.size) (hl : l.length ≤ 1000000) :
    Calls Tryd.prog 30 #[v] w fun e w' => e = .returned (.string (escS l)) ∧ Below w.heap.size w w' := by
  obtain ⟨A, c, rfl, hc, hcm⟩ := ht.form
  unfold maxLen at hcm
  go_enter Tryd.func30, Tryd.ntmps30
  go_wp2_with fail
  go_loopw [8] (fun i wr => ∃ (k : Nat), k ≤ l.length ∧ i = .int .i64 k ∧ Below w.heap.size w wr ∧ IsB w.heap.size w.heap.size (Lib.byteCells (escs (l.take k))) wr ∧ Hid ((l.take k).any bad = false)) (fun i _ => l.length - (intOf i).toNat)
  case atStart => exact ⟨0, Nat.zero_le _, rfl, (Below.refl _ _).alloc (Nat.le_refl _) _, fresh_isB _, rfl⟩
  case round =>
    obtain ⟨k, hk, rfl, hb, hA, hg⟩ := hrel
    have hsz := hb.size
    by_cases hlt : k < l.length
    · obtain ⟨blk, off, rfl, hblk, g0, g1⟩ := ((ht.more hB).below hb).at_ hlt
      have hs := Lib.hid (escs_snoc l k hlt)
      have hbs := Lib.hid (@bad_snoc l k hlt hg.out)
      have hba := Lib.hid (@escS_bad l k hlt)
      have hlen := escs_take_length l k
      have hl2 : (Lib.byteCells (escs (l.take k))).length ≤ 3 * k := by rw [Lib.byteCells_length]; exact hlen
      generalize l[k] = z at g0 g1 hs hbs hba
      obtain ⟨x, q⟩ := z
      simp only at g0 g1
      have hbk : blk < wr.heap.size := by omega
      have hA1 : IsB w.heap.size w.heap.size (Lib.byteCells (escs (l.take k))) (wr.alloc (.cells #[.int .u8 (x.toNat : Int), .bool q] 61)) := hA.imp (·.alloc _) (·.alloc _)
      have hb1 : Below w.heap.size w (wr.alloc (.cells #[.int .u8 (x.toNat : Int), .bool q] 61)) := hb.alloc hsz _
      have hbl : w.heap.size < wr.heap.size := hA.elim (·.lt) (·.lt)
      clear hA hb hlen
      cases q
      · by_cases h92 : x = 92
        · subst h92
          go_wp2
          go_ret
          exact ⟨ret_str (hba.out rfl).symm, hb1⟩
        · by_cases h39 : x = 39
          · subst h39
            go_wp2
            go_ret
            exact ⟨ret_str (hba.out rfl).symm, hb1⟩
          · have e92 := u8_ne (n := 92) h92
            have e39 := u8_ne (n := 39) h39
            have hgood : Hid (bad (x, false) = false) := by simp [bad, h92, h39, Hid]
            clear h92 h39
            go_wp2_with fail
            all_goals
              refine (bWriteByte w.heap.size w.heap.size (Lib.byteCells (escs (l.take k))) _ _ hA1 (by omega) (by simp; omega)).mono ?_
              rintro e w2 ⟨rfl, hA2, hb2, _⟩
              have hb3 : Below w.heap.size w w2 := hb1.trans hb2
              have hA3 : IsB w.heap.size w.heap.size (Lib.byteCells (escs (l.take (k + 1)))) w2 := by rw [hs.out, byteCells_append]; exact .inr hA2
              clear hA1 hA2 hb1 hb2
              go_wp2
              go_roundw
              case rel => exact ⟨k + 1, by omega, by go_num, hb3, hA3, hbs.out hgood.out⟩
              case measure => simp [intOf]; omega
      · by_cases h10 : x = 10
        · subst h10
          go_wp2_with fail
          all_goals
            refine (bWriteString w.heap.size w.heap.size (Lib.byteCells (escs (l.take k))) _ _ hA1 (by simp [ByteArray.size]; omega) (by simp; omega)).mono ?_
            rintro e w2 ⟨rfl, hA2, hb2, _⟩
            have hb3 : Below w.heap.size w w2 := hb1.trans hb2
            have hA3 : IsB w.heap.size w.heap.size (Lib.byteCells (escs (l.take (k + 1)))) w2 := by rw [hs.out, byteCells_append]; exact .inr hA2
            clear hA1 hA2 hb1 hb2
            go_wp2
            go_roundw
            case rel => exact ⟨k + 1, by omega, by go_num, hb3, hA3, hbs.out rfl⟩
            case measure => simp [intOf]; omega
        · have e10 := u8_ne (n := 10) h10
          have hesc : Hid (esc (x, true) = [92, x]) := by simp [esc, h10, Hid]
          clear h10
          go_wp2_with fail
          all_goals
            refine (bWriteByte w.heap.size w.heap.size (Lib.byteCells (escs (l.take k))) _ _ hA1 (by omega) (by simp; omega)).mono ?_
            rintro e w2 ⟨rfl, hA2, hb2, hk2⟩
            have hb3 : Below w.heap.size w w2 := hb1.trans hb2
            have hsz2 := hb3.size
            have c0 : w2.cell? ⟨wr.heap.size, 0, none⟩ = some (.int .u8 (x.toNat : Int)) := by
              rw [cell_of_row w2 wr.heap.size 0 _ _ _ (hk2 _ _ (heap_alloc_new wr _) (by simp; omega) (by intro c fz h; injection h with _ h2; exact absurd h2 (by decide)))]; rfl
            clear hk2
            go_wp2_with fail
            refine (bWriteByte w.heap.size w.heap.size _ _ _ (.inr hA2) (by simp; omega) hsz2).mono ?_
            rintro e w3 ⟨rfl, hA4, hb4, _⟩
            have hb5 : Below w.heap.size w w3 := hb3.trans hb4
            have hA5 : IsB w.heap.size w.heap.size (Lib.byteCells (escs (l.take (k + 1)))) w3 := by rw [hs.out, hesc.out, byteCells_append]; exact .inr (by simpa [Lib.byteCells] using hA4)
            clear hA1 hA2 hA4 hb1 hb2 hb3 hb4
            go_wp2
            go_roundw
            case rel => exact ⟨k + 1, by omega, by go_num, hb5, hA5, hbs.out (by rfl)⟩
            case measure => simp [intOf]; omega
    · have hA3 : IsB w.heap.size w.heap.size (Lib.byteCells (escL l)) wr := by rw [escL_full (by omega) hg.out] at hA; exact hA
      clear hA
      go_wp2_with fail
      refine (bString w.heap.size w.heap.size (escL l) _ hA3 hsz).mono ?_
      rintro e w2 ⟨rfl, hb2⟩
      go_wp2
      go_ret
      exact ⟨rfl, hb.trans hb2⟩
end Go.Proofs.YtdiiimcoannnnaaDoor
