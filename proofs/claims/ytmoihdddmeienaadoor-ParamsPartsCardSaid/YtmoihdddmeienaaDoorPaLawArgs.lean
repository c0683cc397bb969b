/-
  The walk of ParamsArgs: it answers true and leaves what was there. Conditions: the strings lie in memory that was there; strconv.ErrRange holds an error.
-/
import Derived.Test.YtmoihdddmeienaaDoorPaAwake
import Derived.Test.YtmoihdddmeienaaDoorPaRArg
import Derived.Test.YtmoihdddmeienaaDoorPaRText
namespace Go.Proofs.YtmoihdddmeienaaDoor
open Go Go.RowKit

theorem lens_le (l : List ByteArray) (h : ∀ k (hk : k < l.length), (l[k]).size ≤ 100) : Lib.lens (l.map (·.data.toList)) ≤ 100 * l.length := by
  induction l with
  | nil => simp [Lib.lens]
  | cons x r ih =>
    have h0 := h 0 (by simp)
    have h1 : x.data.toList.length = x.size := (Lib.size_eq x).symm
    have := ih (fun k hk => h (k + 1) (by simpa using hk))
    simp only [Lib.lens, List.map_cons, List.sum_cons, List.length_cons] at this ⊢
    simp only [List.getElem_cons_zero] at h0
    omega
theorem joinL_small {l : List ByteArray} {sep : List UInt8} (hs : sep.length ≤ 101) (h : fewL l = true) : (joinL l sep).length ≤ 1000000 := by
  obtain ⟨h1, h2⟩ := fewL_parts h
  cases l with
  | nil => simp [joinL, Lib.join_nil]
  | cons x r =>
    have h3 := lens_le _ h2
    unfold joinL
    rw [List.map_cons, Lib.join_cons, List.length_append, Lib.joinTail_length]
    simp only [Lib.lens, List.map_cons, List.sum_cons, List.length_cons] at h3 h1 ⊢
    have h4 : sep.length * (r.map (·.data.toList)).length ≤ 101 * 30 := Nat.mul_le_mul hs (by rw [List.length_map]; omega)
    omega
theorem sepP_le (s : List UInt8) (set : Bool) : (sepP s set).length ≤ 1 := by
  unfold sepP
  cases set with
  | false => exact Nat.le_refl _
  | true => exact List.length_take_le _ _

set_option maxHeartbeats 2000000 in
set_option maxRecDepth 100000 in
theorem lawArgs_any (l : List ByteArray) (s : ByteArray) (set : Bool) (v : Value) (w : World) (ht : Ls w w.heap.size v l) (hE : Erng w) :
    Calls Tryd.prog 3 #[v, .string s, .bool set] w fun e w' => e = .returned (.bool true) ∧ Below w.heap.size w w' := by
  have hfp := few_any l v _ w ht
  obtain ⟨A, c, rfl, hc, hcm⟩ := ht.form
  unfold maxLen at hcm
  cases hf : fewL l with
  | false =>
    rw [hf] at hfp
    clear hf
    go_enter Tryd.func3, Tryd.ntmps3
    go_wp2_with fail
    refine hfp.mono ?_
    rintro e w1 ⟨rfl, rfl⟩
    go_wp2_with fail
    refine (awake_any _).mono ?_
    rintro e w6 ⟨rfl, hb6⟩
    go_wp2
    go_ret
    exact ⟨rfl, hb6⟩
  | true =>
    rw [hf] at hfp
    by_cases hls : s.size ≤ 100
    · obtain ⟨hlp, _⟩ := fewL_parts hf
      have hj := joinL_small (Nat.le_trans (sepP_le (bl s) set) (by decide)) hf
      have ha := arg_any l s _ _ w ht (Nat.le_refl _) (by omega) (by omega) (fun _ => hE)
      have hb := fun W h => rArg_any l s (.slice A l.length c) w.heap.size W h (by omega) (by omega)
      have hc1 := fun W h hB => join_any l (.slice A l.length c) w.heap.size W s set h hB (by omega) (by omega) hj
      have hd := fun W h => rJoin_any l s set (.slice A l.length c) w.heap.size W h (by omega) (by omega) hj
      have hst := status_any l.length (by omega)
      have hrt := rText_any l.length (by omega)
      generalize (argP l (bl s)).1 = x1 at ha hb
      generalize (argP l (bl s)).2.1 = x2 at ha hb
      generalize (argP l (bl s)).2.2 = x3 at ha hb
      generalize joinP l (sepP (bl s) set) = x4 at hc1 hd
      generalize (⟨(Lib.decDigits l.length).toArray⟩ : ByteArray) = x5 at hst hrt
      clear hf hj hE
      go_enter Tryd.func3, Tryd.ntmps3
      go_wp2_with fail
      refine hfp.mono ?_
      rintro e w1 ⟨rfl, rfl⟩
      clear hfp
      go_wp2_with fail
      refine ha.mono ?_
      rintro e w2 ⟨rfl, hbA⟩
      clear ha
      go_wp2_with fail
      refine (hb _ (ht.below hbA)).mono ?_
      rintro e w3 ⟨rfl, rfl⟩
      clear hb
      go_wp2_with fail
      refine (hc1 _ (ht.below hbA) hbA.size).mono ?_
      rintro e w4 ⟨rfl, hb4⟩
      clear hc1
      have hbA := hbA.trans (hb4.mono hbA.size)
      clear hb4
      go_wp2_with fail
      refine (hd _ (ht.below hbA)).mono ?_
      rintro e w5 ⟨rfl, rfl⟩
      clear hd
      go_wp2_with fail
      refine (hst _).mono ?_
      rintro e w6 ⟨rfl, rfl⟩
      go_wp2_with fail
      refine (hrt _).mono ?_
      rintro e w7 ⟨rfl, hb7⟩
      have hbA := hbA.trans (hb7.mono hbA.size)
      clear hb7
      go_wp2_with fail
      refine (awake_any _).mono ?_
      rintro e w8 ⟨rfl, hb8⟩
      have hbA := hbA.trans (hb8.mono hbA.size)
      clear hb8
      go_wp2
      go_ret
      exact ⟨rfl, hbA⟩
    · clear hf
      go_enter Tryd.func3, Tryd.ntmps3
      go_wp2_with fail
      refine hfp.mono ?_
      rintro e w1 ⟨rfl, rfl⟩
      go_wp2_with fail
      refine (awake_any _).mono ?_
      rintro e w6 ⟨rfl, hb6⟩
      go_wp2
      go_ret
      exact ⟨rfl, hb6⟩
end Go.Proofs.YtmoihdddmeienaaDoor
