/-
  marks.Of answers the bytes of a string, all quoted or all bare. Conditions: at most a million bytes.
-/
import Derived.Test.YtmoihdddmeienaaDoorMkText
import Derived.Laws.MakeOwn
import Derived.Lib.Strings
import Derived.Lib.IndexBytes
namespace Go.Proofs.YtmoihdddmeienaaDoor
open Go Go.RowKit

/-- The bytes of a string, all quoted, or all bare. -/
def ofL (s : ByteArray) (q : Bool) : List Ch := s.data.toList.map fun b => (b, q)
theorem ofL_length (s : ByteArray) (q : Bool) : (ofL s q).length = s.size := by rw [ofL, List.length_map, ← Lib.size_eq]
theorem ofL_get (s : ByteArray) (q : Bool) (k : Nat) (h : k < s.size) : (ofL s q)[k]'(by rw [ofL_length]; exact h) = (s[k], q) := by
  have := Lib.data_getElem? s k h
  rw [List.getElem?_eq_some_iff] at this
  obtain ⟨h1, h2⟩ := this
  simp only [ofL, List.getElem_map, h2]
def zch : Ch := (0, false)
/-- A made text whose first k places are laid. -/
def partOf (l : List Ch) (k : Nat) : List Ch := l.take k ++ List.replicate (l.length - k) zch
theorem partOf_length {l : List Ch} {k : Nat} (h : k ≤ l.length) : (partOf l k).length = l.length := by
  simp only [partOf, List.length_append, List.length_take, List.length_replicate]; omega
theorem partOf_full {l : List Ch} {k : Nat} (h : l.length ≤ k) : partOf l k = l := by
  simp only [partOf, List.take_of_length_le h, show l.length - k = 0 by omega, List.replicate_zero, List.append_nil]
theorem partOf_set {l : List Ch} {k : Nat} (h : k < l.length) : (partOf l k).set k l[k] = partOf l (k + 1) := by
  have e : l.length - k = (l.length - (k + 1)) + 1 := by omega
  have hk : (l.take k).length = k := by rw [List.length_take]; omega
  simp only [partOf]
  rw [List.take_succ_eq_append_getElem h, e, List.replicate_succ, List.set_append_right _ _ (by omega), hk, Nat.sub_self, List.set_cons_zero, List.append_assoc, List.singleton_append]
theorem cellsCh_set (l : List Ch) (k : Nat) (x : UInt8) (q : Bool) (h : k < l.length) : ((cellsCh l).set (k * 2) (.int .u8 (x.toNat : Int))).set (k * 2 + 1) (.bool q) = cellsCh (l.set k (x, q)) := by
  induction l generalizing k with
  | nil => simp at h
  | cons a l ih =>
    cases k with
    | zero => rfl
    | succ k =>
      have e : (k + 1) * 2 = k * 2 + 1 + 1 := by omega
      have := ih k (by simpa using h)
      simp only [cellsCh, List.flatMap_cons, cc, e, List.cons_append, List.nil_append, List.set_cons_succ] at this ⊢
      rw [this]
theorem madeCh (n : Nat) : (madeCells #[.int .u8 0, .bool false] (n * 2)).toList = cellsCh (List.replicate n zch) := by
  apply List.ext_getElem?
  intro j
  have hl : (cellsCh (List.replicate n zch)).length = n * 2 := by rw [cellsCh_length, List.length_replicate]
  by_cases hj : j < n * 2
  · have h2 : j / 2 < n := by omega
    have hz : ∀ i (hi : i < (List.replicate n zch).length), (List.replicate n zch)[i] = zch := fun i hi => List.getElem_replicate _
    rcases Nat.mod_two_eq_zero_or_one j with e | e
    · have ej : j = j / 2 * 2 := by omega
      have h0 := cellsCh_0 (List.replicate n zch) (j / 2) (by simpa using h2)
      rw [hz, ← ej] at h0
      rw [h0]
      simp [madeCells, hj, e, zch]
    · have ej : j = j / 2 * 2 + 1 := by omega
      have h0 := cellsCh_1 (List.replicate n zch) (j / 2) (by simpa using h2)
      rw [hz, ← ej] at h0
      rw [h0]
      simp [madeCells, hj, e, zch]
  · rw [List.getElem?_eq_none (l := cellsCh (List.replicate n zch)) (by omega), List.getElem?_eq_none]
    simp [madeCells]; omega

theorem run_makeCh (n : Nat) (hn : n ≤ 1000000) (w : World) :
    (Instr.makeSlice 32 (.int .i64 (n : Int)) (.int .i64 (n : Int))).run Tryd.prog w = .ok (.slice (some ⟨w.heap.size, 0, none⟩) n n) (w.alloc (.cells (madeCells #[.int .u8 0, .bool false] (n * 2)) 55)) := by
  obtain ⟨i0, hi, hz0, hz1, hz2⟩ := info_parts infoCh
  have hr := run_make (P := Tryd.prog) w 32 55 i0 _ Tryd.underlying32 hi hz0 .i64 .i64 n n (by omega) (by omega) (by rw [hz2]; omega) (by omega)
  simp only [Int.toNat_natCast, hz1] at hr
  exact hr

set_option maxHeartbeats 400000 in
set_option maxRecDepth 100000 in
theorem of_any (s : ByteArray) (q : Bool) (w : World) (hs : s.size ≤ 1000000) :
    Calls Tryd.prog 15 #[.string s, .bool q] w fun e w' => ∃ v, e = .returned v ∧ Tx w' w'.heap.size v (ofL s q) ∧ Below w.heap.size w w' := by
  have hmk := run_makeCh s.size hs
  have hlen := ofL_length s q
  have hown0 : (w.alloc (.cells (madeCells #[.int .u8 0, .bool false] (s.size * 2)) 55)).ownsRow w.heap.size 55 2 (.slice (some ⟨w.heap.size, 0, none⟩) s.size s.size) s.size (cellsCh (partOf (ofL s q) 0)) := by
    have := World.ownsRow_lit (base := w.heap.size) (e := 55) (size := 2) w (madeCells #[.int .u8 0, .bool false] (s.size * 2)) s.size (Nat.le_refl _) (by simp only [maxLen]; omega) (size_madeCells _ _)
    rw [madeCh] at this
    simpa [partOf, hlen] using this
  have HL := Lib.hid hlen
  clear hlen
  go_enter Tryd.func15, Tryd.ntmps15
  go_wp2
  go_loopw [12] (fun i wr => ∃ (k : Nat), k ≤ s.size ∧ i = .int .i64 k ∧ Below w.heap.size w wr ∧ wr.ownsRow w.heap.size 55 2 (.slice (some ⟨w.heap.size, 0, none⟩) s.size s.size) s.size (cellsCh (partOf (ofL s q) k))) (fun i _ => s.size - (intOf i).toNat)
  case atStart => exact ⟨0, Nat.zero_le _, rfl, (Below.refl _ _).alloc (Nat.le_refl _) _, hown0⟩
  case round =>
    clear hown0 hmk
    obtain ⟨k, hk, rfl, hb, hown⟩ := hrel
    have hsz := hb.size
    by_cases hlt : k < s.size
    · have hkl : k < (partOf (ofL s q) k).length := by rw [partOf_length (by rw [HL.out]; omega), HL.out]; exact hlt
      have c0 := hown.cellAt (k * 2) (by omega)
      have c1 := hown.cellAt (k * 2 + 1) (by omega)
      rw [cellsCh_0 _ k hkl] at c0
      rw [cellsCh_1 _ k hkl] at c1
      have f0 := hown.frozenAt (k * 2)
      have f1 := hown.frozenAt (k * 2 + 1)
      obtain ⟨hs0, hg0⟩ := hown.stored (k * 2) (.int .u8 (s[k].toNat : Int))
      obtain ⟨hs1, hg1⟩ := hs0.stored (k * 2 + 1) (.bool q)
      have hset : cellsCh (partOf (ofL s q) (k + 1)) = ((cellsCh (partOf (ofL s q) k)).set (k * 2) (.int .u8 (s[k].toNat : Int))).set (k * 2 + 1) (.bool q) := by
        rw [cellsCh_set _ _ _ _ hkl, ← partOf_set (by rw [HL.out]; exact hlt), ofL_get s q k hlt]
      rw [← hset] at hs1
      have hb1 : Below w.heap.size w ((wr.setCell ⟨w.heap.size, k * 2, none⟩ (.int .u8 (s[k].toNat : Int))).setCell ⟨w.heap.size, k * 2 + 1, none⟩ (.bool q)) :=
        (hb.setCell (p := ⟨w.heap.size, k * 2, none⟩) (Nat.le_refl _) _).setCell (p := ⟨w.heap.size, k * 2 + 1, none⟩) (Nat.le_refl _) _
      clear hset hs0 hg0 hg1 hown hb
      generalize (partOf (ofL s q) k)[k].1 = z0 at c0
      generalize (partOf (ofL s q) k)[k].2 = z1 at c1
      clear hkl
      go_wp2
      go_roundw
      case rel => exact ⟨k + 1, by omega, by go_num, hb1, hs1⟩
      case measure => simp [intOf]; omega
    · have ho : Tx wr wr.heap.size (.slice (some ⟨w.heap.size, 0, none⟩) s.size s.size) (ofL s q) := by
        have := Sl.of_own hown
        rw [partOf_full (by rw [HL.out]; omega)] at this
        unfold Tx
        rw [HL.out]
        exact this
      clear hown
      go_wp2
      go_ret
      exact ⟨_, rfl, ho, hb⟩
end Go.Proofs.YtmoihdddmeienaaDoor
