/-
  marks.Find answers the place of the first bare byte, or -1. Conditions: the text lies in memory that was there before the call.
-/
import Derived.Test.YtmoihdddmeienaaDoorMkWords
import Derived.Test.YtmoihdddmeienaaDoorProg
namespace Go.Proofs.YtmoihdddmeienaaDoor
open Go Go.RowKit

def hit (b : UInt8) (c : Ch) : Bool := c.1 == b && !c.2
def findCh (l : List Ch) (b : UInt8) : Nat := l.findIdx (hit b)
def findInt (l : List Ch) (b : UInt8) : Int := if findCh l b < l.length then (findCh l b : Int) else -1

theorem findCh_le (l : List Ch) (b : UInt8) : findCh l b ≤ l.length := List.findIdx_le_length
theorem findCh_succ {l : List Ch} {b : UInt8} {k : Nat} (h : k ≤ findCh l b) (hk : k < l.length) (hm : hit b l[k] = false) : k + 1 ≤ findCh l b := by
  rcases Nat.lt_or_ge k (findCh l b) with h1 | h1
  · exact h1
  · have e : findCh l b = k := by omega
    have := List.findIdx_getElem (xs := l) (p := hit b) (w := by unfold findCh at e; omega)
    unfold findCh at e
    simp only [e, hm] at this
    cases this
theorem findCh_eq {l : List Ch} {b : UInt8} {k : Nat} (h : k ≤ findCh l b) (hk : k < l.length) (hm : hit b l[k] = true) : findCh l b = k := by
  rcases Nat.lt_or_ge k (findCh l b) with h1 | h1
  · have := List.not_of_lt_findIdx (xs := l) (p := hit b) h1
    simp [hm] at this
  · omega
theorem hit_byte {b x : UInt8} {q : Bool} (h : ¬ (x.toNat : Int) = (b.toNat : Int)) : hit b (x, q) = false := by
  have : ¬ x = b := fun e => h (by rw [e])
  simp [hit, this]
theorem hit_mark {b x : UInt8} {q : Bool} (h : q = true) : hit b (x, q) = false := by simp [hit, h]
theorem hit_yes {b x : UInt8} {q : Bool} (h : (x.toNat : Int) = (b.toNat : Int)) (hq : ¬ q = true) : hit b (x, q) = true := by
  have : x = b := UInt8.toNat.inj (by omega)
  simp [hit, this, hq]
theorem findInt_at {l : List Ch} {b : UInt8} {k : Nat} (h : findCh l b = k) (hk : k < l.length) : findInt l b = k := by simp [findInt, h, hk]
theorem findInt_none {l : List Ch} {b : UInt8} (h : l.length ≤ findCh l b) : findInt l b = -1 := by simp [findInt, Nat.not_lt.2 h]

set_option maxHeartbeats 400000 in
theorem find_any (l : List Ch) (b : UInt8) (v : Value) (B : Nat) (w : World) (ht : Tx w B v l) (hB : B ≤ w.heap.size) :
    Calls Tryd.prog 26 #[v, .int .u8 (b.toNat : Int)] w fun e w' => e = .returned (.int .i64 (findInt l b)) ∧ Below w.heap.size w w' := by
  obtain ⟨A, c, rfl, hc, hcm, hp⟩ := ht.parts
  unfold maxLen at hcm
  clear ht
  go_enter Tryd.func26, Tryd.ntmps26
  go_wp2
  go_loopw [12] (fun i wr => ∃ k : Nat, k ≤ l.length ∧ k ≤ findCh l b ∧ i = .int .i64 k ∧ Below (w.heap.size + 1) (w.alloc (.cells #[.int .u8 b.toNat, .bool false] 55)) wr) (fun i _ => l.length - (intOf i).toNat)
  case atStart => exact ⟨0, Nat.zero_le _, Nat.zero_le _, rfl, Below.refl _ _⟩
  case round =>
    obtain ⟨k, hk, hkf, rfl, hb⟩ := hrel
    by_cases hlt : k < l.length
    · obtain ⟨blk, off, rfl, hblk, hcell⟩ := hp k hlt
      obtain ⟨h0, h1⟩ := hcell k hlt
      clear hp hcell
      have g0 : wr.cell? ⟨blk, off + k * 2, none⟩ = some (.int .u8 (l[k].1.toNat : Int)) := by
        rw [hb.cell (p := ⟨blk, off + k * 2, none⟩) (by simp; omega), World.cell?_alloc_past _ _ _ (by omega)]; exact h0
      have g1 : wr.cell? ⟨blk, off + k * 2 + 1, none⟩ = some (.bool l[k].2) := by
        rw [hb.cell (p := ⟨blk, off + k * 2 + 1, none⟩) (by simp; omega), World.cell?_alloc_past _ _ _ (by omega)]; exact h1
      have b0 : wr.cell? ⟨w.heap.size, 0, none⟩ = some (.int .u8 (b.toNat : Int)) := by
        rw [hb.cell (p := ⟨w.heap.size, 0, none⟩) (by simp), World.cell?_alloc_at _ _ _ _ rfl]; rfl
      have b1 : wr.cell? ⟨w.heap.size, 1, none⟩ = some (.bool false) := by
        rw [hb.cell (p := ⟨w.heap.size, 1, none⟩) (by simp), World.cell?_alloc_at _ _ _ _ rfl]; rfl
      have hsz := hb.size
      simp only [World.size_alloc] at hsz
      have hsz1 : w.heap.size < wr.heap.size := by omega
      have hbk : blk < wr.heap.size := by omega
      clear hsz
      clear h0 h1
      go_wp2
      · go_roundw
        case rel => exact ⟨k + 1, by omega, findCh_succ hkf hlt (hit_mark ‹_›), by go_num, hb.alloc (by omega) _⟩
        case measure => simp [intOf]; omega
      · go_ret
        exact ⟨ret_int (findInt_at (findCh_eq hkf hlt (hit_yes ‹_› ‹_›)) hlt).symm, ((((Below.refl _ _).alloc (Nat.le_refl _) _).trans (hb.mono (by omega))).alloc (by omega) _)⟩
      · go_roundw
        case rel => exact ⟨k + 1, by omega, findCh_succ hkf hlt (hit_byte ‹_›), by go_num, hb.alloc (by omega) _⟩
        case measure => simp [intOf]; omega
    · go_wp2
      go_ret
      exact ⟨ret_int (findInt_none (by omega)).symm, ((Below.refl _ _).alloc (Nat.le_refl _) _).trans (hb.mono (by omega))⟩
end Go.Proofs.YtmoihdddmeienaaDoor
