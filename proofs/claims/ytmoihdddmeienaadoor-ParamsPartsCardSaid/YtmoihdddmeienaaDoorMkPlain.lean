/-
  Plain (of the package and of the reference) answers a text's bytes. Conditions: at most a million bytes.
-/
import Derived.Test.YtmoihdddmeienaaDoorMkText
import Derived.Test.YtmoihdddmeienaaDoorMkShelf
import Derived.Laws.IdiomStrings
import Derived.Lib.BufferRead
namespace Go.Proofs.YtmoihdddmeienaaDoor
open Go Go.RowKit

/-- The bytes of a marked text. -/
def plainL (l : List Ch) : List UInt8 := l.map (·.1)
def plainS (l : List Ch) : ByteArray := ⟨(plainL l).toArray⟩
theorem plainL_snoc (l : List Ch) (k : Nat) (h : k < l.length) : Lib.byteCells (plainL (l.take (k + 1))) = Lib.byteCells (plainL (l.take k)) ++ [.int .u8 (l[k].1.toNat : Int)] := by
  rw [List.take_succ_eq_append_getElem h]; simp only [plainL, Lib.byteCells, List.map_append, List.map_cons, List.map_nil]
theorem plainL_length (l : List Ch) : (plainL l).length = l.length := by simp [plainL]

/-- string(b) of a row of bytes that the call has made; nil too. -/
theorem run_string_own {w : World} {base n : Nat} {v : Value} {l : List UInt8} (h : w.ownsRow base 5 1 v n (Lib.byteCells l)) :
    (convert 38 9 v).run Tryd.prog w = .ok (.string ⟨l.toArray⟩) w := by
  have hl := h.1
  rw [Lib.byteCells_length, Nat.mul_one] at hl
  rcases h.2 with ⟨rfl, h0⟩ | ⟨g, cap, cur, rfl, r⟩
  · have : l = [] := List.eq_nil_of_length_eq_zero (by omega)
    subst this
    exact Lib.run_convert_nil_bytes w _ _ _ _ Tryd.underlying38 Tryd.underlying5 Tryd.underlying9
  · subst hl
    refine run_convert_bytes_back w _ _ 5 _ _ l Tryd.underlying38 Tryd.underlying5 Tryd.underlying9 (fun j hj => ?_)
    refine h.cells (g := g) rfl j _ ?_
    simp [Lib.byteCells, hj]

theorem infoByte : (Tryd.prog.info? 5).map (fun i => (i.zero, i.size, i.bytes)) = some (some (.int .u8 0), 1, 1) := by kernel_rfl

set_option maxHeartbeats 400000 in
set_option maxRecDepth 100000 in
theorem plain_any (l : List Ch) (v : Value) (B : Nat) (w : World) (ht : Tx w B v l) (hB : B ≤ w.heap.size) (hl : l.length ≤ 1000000) :
    Calls Tryd.prog 17 #[v] w fun e w' => e = .returned (.string (plainS l)) ∧ Below w.heap.size w w' := by
  obtain ⟨A, c, rfl, hc, hcm⟩ := ht.form
  unfold maxLen at hcm
  go_enter Tryd.func17, Tryd.ntmps17
  go_wp2_with fail
  refine (bGrow w.heap.size w.heap.size l.length _ (Nat.le_refl _) (heap_alloc_new w _) (by simp) (by omega)).mono ?_
  rintro e w1 ⟨rfl, hA, hb1⟩
  have hbw1 : Below w.heap.size w w1 := ((Below.refl _ _).alloc (Nat.le_refl _) _).trans hb1
  clear hb1
  go_wp2_with fail
  go_loopw [11] (fun i wr => ∃ (k : Nat), k ≤ l.length ∧ i = .int .i64 k ∧ Below w.heap.size w wr ∧ AtB w.heap.size w.heap.size (.pointer (some ⟨w.heap.size, 0, none⟩)) (Lib.byteCells (plainL (l.take k))) wr) (fun i _ => l.length - (intOf i).toNat)
  case atStart => exact ⟨0, Nat.zero_le _, rfl, hbw1, hA⟩
  case round =>
    clear hA hbw1
    obtain ⟨k, hk, rfl, hb, hA⟩ := hrel
    have hsz := hb.size
    by_cases hlt : k < l.length
    · obtain ⟨blk, off, rfl, hblk, g0, g1⟩ := ((ht.more hB).below hb).at_ hlt
      have hs := Lib.hid (plainL_snoc l k hlt)
      generalize l[k] = z at g0 g1 hs
      obtain ⟨x, q⟩ := z
      simp only at g0 g1
      have hbk : blk < wr.heap.size := by omega
      go_wp2_with fail
      refine (bWriteByte w.heap.size w.heap.size (Lib.byteCells (plainL (l.take k))) _ _ (.inr (hA.alloc _)) (by rw [Lib.byteCells_length, plainL_length, List.length_take]; omega) (by simp; omega)).mono ?_
      rintro e w2 ⟨rfl, hA2, hb2, _⟩
      have hb3 : Below w.heap.size w w2 := (hb.alloc hsz _).trans hb2
      have hA3 : AtB w.heap.size w.heap.size (.pointer (some ⟨w.heap.size, 0, none⟩)) (Lib.byteCells (plainL (l.take (k + 1)))) w2 := by rw [hs.out]; exact hA2
      clear hA hA2 hb hb2
      go_wp2
      go_roundw
      case rel => exact ⟨k + 1, by omega, by go_num, hb3, hA3⟩
      case measure => simp [intOf]; omega
    · have hA3 : AtB w.heap.size w.heap.size (.pointer (some ⟨w.heap.size, 0, none⟩)) (Lib.byteCells (plainL l)) wr := by
        rw [List.take_of_length_le (by omega)] at hA; exact hA
      clear hA
      go_wp2_with fail
      refine (bString w.heap.size w.heap.size (plainL l) _ (.inr hA3) hsz).mono ?_
      rintro e w2 ⟨rfl, hb2⟩
      go_wp2
      go_ret
      exact ⟨rfl, hb.trans hb2⟩

end Go.Proofs.YtmoihdddmeienaaDoor
