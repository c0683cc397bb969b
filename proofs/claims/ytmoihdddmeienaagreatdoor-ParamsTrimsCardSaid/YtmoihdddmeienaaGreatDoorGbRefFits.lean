/-
  The reference's Match and Path tell whether a pattern fits all of a text, or of a path. Conditions: at most a million items and bytes.
-/
import Derived.Test.YtmoihdddmeienaaGreatDoorGbEnds
namespace Go.Proofs.YtmoihdddmeienaaGreatDoor
open Go Go.RowKit

theorem endQ_whole (p : List It) (s : List UInt8) : endQ (tM false s) p s.length = mt p s := by
  unfold mt mtM tM
  rw [if_neg (by simp), bareCh_length]
theorem endQ_path (p : List It) (s : List UInt8) : endQ (tM true s) p s.length = pathM p s := by
  unfold pathM mtM tM
  rw [if_pos rfl, pm_len]
theorem endQ_take (p : List It) (s : List UInt8) (n : Nat) (h : n ≤ s.length) : endQ (tM false s) p n = mt p (s.take n) := by
  unfold tM
  rw [if_neg (by simp)]
  exact endQ_bare p s n h

set_option maxHeartbeats 400000 in
set_option maxRecDepth 100000 in
theorem matchRef_any (p : List It) (v : Value) (s : ByteArray) (B : Nat) (w : World) (ht : Its w B v p) (hB : B ≤ w.heap.size) (hl : p.length ≤ 1000000) (hs : s.size ≤ 999999) :
    Calls Tryz.prog 15 #[v, .string s] w fun e w' => e = .returned (.bool (mt p (bl s))) ∧ Below w.heap.size w w' := by
  obtain ⟨A, c, rfl, hc, hcm⟩ := ht.form
  obtain ⟨m, hm⟩ : ∃ m, mt p (bl s) = m := ⟨_, rfl⟩
  rw [hm]
  go_enter Tryz.func15, Tryz.ntmps15
  go_wp2_with fail
  refine (ends_any p _ s false B w ht hB hl hs).mono ?_
  rintro e w1 ⟨g, rfl, hr, hb⟩
  have c0 := rowAt_cell hr (k := s.size) (by omega)
  have e0 := endQ_whole p (bl s)
  rw [bl_len] at e0
  rw [e0, hm] at c0
  clear hr e0 hm
  go_wp2
  go_ret
  exact ⟨rfl, hb⟩

end Go.Proofs.YtmoihdddmeienaaGreatDoor
