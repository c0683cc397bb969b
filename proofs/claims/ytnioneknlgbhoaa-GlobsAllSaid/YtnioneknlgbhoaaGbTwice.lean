/-
  twice tells whether a byte comes twice. Conditions: at most a million bytes.
-/
import Derived.Test.YtnioneknlgbhoaaGbPath
import Derived.Test.YtnioneknlgbhoaaMkShelf
namespace Go.Proofs.Ytnioneknlgbhoaa
open Go Go.RowKit

/-- Whether one of the first k bytes stands among those ahead of it. -/
def twiceQ (l : List UInt8) (k : Nat) : Bool := (List.range k).any fun i => match l[i]? with | some c => (l.take i).contains c | none => false
theorem twiceQ_succ (l : List UInt8) (k : Nat) {c : UInt8} (h : l[k]? = some c) : twiceQ l (k + 1) = (twiceQ l k || (l.take k).contains c) := by
  unfold twiceQ; rw [List.range_succ, List.any_append]; simp [h]
theorem twiceQ_true {l : List UInt8} {k n : Nat} (h : twiceQ l k = true) (hk : k ≤ n) : twiceQ l n = true := by
  unfold twiceQ at h ⊢
  rw [List.any_eq_true] at h ⊢
  obtain ⟨i, hi, h⟩ := h
  exact ⟨i, List.mem_range.2 (by have := List.mem_range.1 hi; omega), h⟩

set_option maxHeartbeats 1000000 in
set_option maxRecDepth 100000 in
theorem twice_any (s : ByteArray) (w : World) (hs : s.size ≤ 1000000) :
    Calls Try.prog 48 #[.string s] w fun e w' => e = .returned (.bool (twiceQ (bl s) s.size)) ∧ ∃ m, w' = w.drewN m := by
  obtain ⟨m, hm⟩ : ∃ m, twiceQ (bl s) s.size = m := ⟨_, rfl⟩
  rw [hm]
  have hm := Lib.hid hm
  go_enter Try.func48, Try.ntmps48
  go_wp2
  go_loopw [6] (fun iv wr => ∃ i : Nat, i ≤ s.size ∧ iv = .int .i64 i ∧ (∃ d, wr = w.drewN d) ∧ Hid (twiceQ (bl s) i = false)) (fun iv _ => s.size - (intOf iv).toNat)
  case atStart => exact ⟨0, Nat.zero_le _, rfl, ⟨0, rfl⟩, rfl⟩
  case round =>
    obtain ⟨i, hi, rfl, hd, hq⟩ := hrel
    by_cases hlt : i < s.size
    · have hst := twiceQ_succ (bl s) i (bl_get s i hlt)
      rw [hq.out, Bool.false_or] at hst
      have hib := fun W => indexByte (s.extract 0 i) (s[i].toNat : Int) W
      have e1 : ((s[i].toNat : Int)).toNat.toUInt8 = s[i] := by simp
      have e2 : (s.extract 0 i).data.toList = (bl s).take i := bl_upto s i
      simp only [e1, e2] at hib
      rcases idxB_split ((bl s).take i) s[i] with ⟨h1, h2⟩ | ⟨u, v, h1, _, h3⟩
      · rw [h1] at hib
        have hn : Hid (twiceQ (bl s) (i + 1) = false) := by rw [Hid, hst]; simpa using h2
        clear hst h1 h2 e1 e2 hq
        go_wp2_with fail
        go_quiet ((go_at_call 42; refine Calls.quiet_of_same (hib _)))
        clear hib
        go_wp2
        go_roundw
        case rel => exact ⟨i + 1, by omega, by go_num, drew_more hd _, hn⟩
        case measure => simp [intOf]; omega
      · rw [h3] at hib
        have hn : m = true := by
          rw [← hm.out]
          refine twiceQ_true (k := i + 1) ?_ (by omega)
          rw [hst, List.contains_iff_mem, h1]
          simp
        subst hn
        have hul : (0 : Int) ≤ (u.length : Int) := by omega
        clear hst h1 h3 e1 e2 hq
        go_wp2_with fail
        go_quiet ((go_at_call 42; refine Calls.quiet_of_same (hib _)))
        clear hib
        go_wp2
        go_ret
        exact ⟨rfl, drew_more hd _⟩
    · have hn : m = false := by
        rw [← hm.out, ← hq.out, show i = s.size by omega]
      subst hn
      clear hq
      go_wp2
      go_ret
      exact ⟨rfl, hd⟩
end Go.Proofs.Ytnioneknlgbhoaa
