/-
  SpillNil answers true, and leaves memory as it was. Conditions: none.
-/
import Derived.Test.YticoigpkgpdabaaSpAwake
namespace Go.Proofs.Yticoigpkgpdabaa
open Go Go.RowKit

set_option maxHeartbeats 2000000 in
set_option maxRecDepth 100000 in
theorem lawNil_any (s : ByteArray) (n : Int) (w : World) :
    Calls Try.prog 6 #[.string s, .int .i64 n] w fun e w' => e = .returned (.bool true) ∧ w.grownBy w' none := by
  have haw := awake_any w
  by_cases hs : 300 < s.size
  · have hi : (300 : Int) < (s.size : Int) := by omega
    go_enter Try.func6, Try.ntmps6
    go_wp2_with fail
    refine haw.mono ?_
    rintro e w' ⟨rfl, hg⟩
    replace hg := Lib.hid hg
    clear haw
    go_wp2
    go_ret
    exact ⟨rfl, hg.out⟩
  · have hi : ¬ (300 : Int) < (s.size : Int) := by omega
    have t1 : (⟨#[]⟩ : ByteArray).toList == [] := by decide +kernel
    go_enter Try.func6, Try.ntmps6
    go_wp2_with (first
      | (go_at_call 16; refine (drain_nil n).mono ?_; rintro e w1 ⟨rfl, hw⟩; obtain rfl := hw.symm)
      | (go_at_call 11; refine (Open_nil _).mono ?_; rintro e w1 ⟨rfl, hw⟩; obtain rfl := hw.symm)
      | (go_at_call 22; refine (held_nil _).mono ?_; rintro e w1 ⟨rfl, hw⟩; obtain rfl := hw.symm)
      | (go_at_call 24; refine (chunks_nil _).mono ?_; rintro e w1 ⟨rfl, hw⟩; obtain rfl := hw.symm)
      | (go_at_call 26; refine (buffers_nil _).mono ?_; rintro e w1 ⟨rfl, hw⟩; obtain rfl := hw.symm)
      | (go_at_call 14; refine (append_nil s).mono ?_; rintro e w1 ⟨rfl, hw⟩; obtain rfl := hw.symm)
      | (go_at_call 20; refine (len_nil _).mono ?_; rintro e w1 ⟨rfl, hw⟩; obtain rfl := hw.symm)
      | (go_at_call 18; refine (close_nil).mono ?_; rintro e w1 ⟨rfl, hw⟩; obtain rfl := hw.symm)
      | (go_at_call 8; refine haw.mono ?_; rintro e w1 ⟨rfl, hg⟩; replace hg := Lib.hid hg))
    go_ret
    exact ⟨rfl, hg.out⟩
end Go.Proofs.Yticoigpkgpdabaa
