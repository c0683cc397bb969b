/-
  How many chunks a buffer has, by its numbers alone; the chapter's examples come out as they should: awake answers true.
-/
import Derived.Test.YticoigpkgpdabaaSpAll
namespace Go.Proofs.Yticoigpkgpdabaa
open Go Go.RowKit

/-- How many chunks are used of len bytes, gone of which are gone. -/
def nch (len gone M C : Nat) : Nat := (len - (M + (gone - M) / C * C) + C - 1) / C
theorem nch_of {len gone M C Q L : Nat} (hC : 0 < C) (hq : ∃ x, Q = M + x * C) (hg : gone < M ∧ Q = M ∨ Q ≤ gone ∧ gone < Q + C) (hhi : len - Q ≤ L * C) (hlo : ∀ i, i < L → Q + i * C < len) : L = nch len gone M C := by
  have hQ : M + (gone - M) / C * C = Q := by
    rcases hg with ⟨h1, h2⟩ | ⟨h1, h2⟩
    · rw [show gone - M = 0 by omega, Nat.zero_div]; omega
    · obtain ⟨x, hx⟩ := hq
      have : (gone - M) / C = x := by
        refine Nat.div_eq_of_lt_le (by omega) ?_
        rw [Nat.add_mul, Nat.one_mul]; omega
      rw [this]; omega
  unfold nch
  rw [hQ]
  symm
  refine Nat.div_eq_of_lt_le ?_ ?_
  · rcases Nat.eq_zero_or_pos L with h0 | h0
    · rw [h0]; omega
    · obtain ⟨I, rfl⟩ : ∃ I, L = I + 1 := ⟨L - 1, by omega⟩
      have := hlo I (by omega)
      rw [Nat.add_mul, Nat.one_mul]; omega
  · rw [Nat.add_mul, Nat.one_mul]; omega
theorem all_usedN {w : World} {B pb q M C tot k bb : Nat} {es : List Ent} {b : Bs} (h : All w B pb q M C es tot) (hk : es[k]? = some (bb, some b)) : b.cs.length = nch b.all.length b.gone M C := by
  have hC : 0 < C := by obtain ⟨_, _, _, h⟩ := h; exact h.par.2.2.1
  obtain ⟨h1, h2, h3, h4, _⟩ := all_used h hk
  exact nch_of hC h1 h2 h3 h4

theorem mv_none {w w' : World} {B : Nat} (h : Mv B (fun _ => True) w w') (hB : w.heap.size ≤ B) : w.grownBy w' none := ⟨h.os, h.tape, h.output, h.size, fun k hk _ => h.keep k hk (.inl (by omega))⟩

set_option maxHeartbeats 4000000 in
set_option maxRecDepth 100000 in
theorem awake_any (w : World) : Calls Try.prog 8 #[] w fun e w' => e = .returned (.bool true) ∧ w.grownBy w' none := by
  have hnew := all_new (w := w) (B := w.heap.size) 10 2 3 (by decide) (by decide) (by decide) (by decide) (Nat.le_refl _)
  obtain ⟨B, hB⟩ : ∃ B, w.heap.size = B := ⟨_, rfl⟩
  rw [hB] at hnew
  replace hB := Lib.hid hB
  go_enter Try.func8, Try.ntmps8
  go_wp2_with fail
  refine hnew.mono ?_
  rintro e w1 ⟨rfl, h1, m1, hs1⟩
  clear hnew
  have hop := all_open h1 (by decide)
  simp only [List.nil_append] at hop
  obtain ⟨bb, hbb⟩ : ∃ bb, w1.heap.size = bb := ⟨_, rfl⟩
  rw [hbb] at hop
  clear h1 hs1 hbb
  replace m1 := Lib.hid m1
  go_wp2_with fail
  refine hop.mono ?_
  rintro e w2 ⟨rfl, h2, m2', hs2⟩
  have m2 := Lib.hid (m1.out.trans m2')
  clear hop m1 m2' hs2
  have ha := all_append ⟨#[97, 98, 99, 100, 101, 102, 103, 104]⟩ h2 (k := 0) rfl (by decide)
  replace h2 := Lib.hid h2
  go_wp2_with fail
  refine ha.mono ?_
  rintro e w3 ⟨⟨_, rfl, b1, h3, ha1, hg1⟩ | ⟨hx, _, _⟩, m3'⟩
  rotate_left
  · exact absurd hx (by show ¬ (10 < 8); decide)
  have m3 := Lib.hid (m2.out.trans m3')
  have hu1 := all_usedN h3 (k := 0) rfl
  simp only [List.set_cons_zero] at h3
  simp only [List.nil_append] at ha1
  have ha1 : b1.all = [97, 98, 99, 100, 101, 102, 103, 104] := ha1
  have hg1 : b1.gone = 0 := hg1
  rw [ha1, hg1] at hu1
  have hu1 : b1.cs.length = 2 := hu1
  have hc := all_chunks h3
  have hd := all_drain 5 h3 (k := 0) rfl (by decide)
  simp only [tally, usedOf, hu1] at hc
  rw [ha1, hg1] at hd
  have e5 : (⟨((([97, 98, 99, 100, 101, 102, 103, 104] : List UInt8).drop 0).take 5).toArray⟩ : ByteArray) = ⟨#[97, 98, 99, 100, 101]⟩ := rfl
  rw [e5] at hd
  clear ha m2 m3' hu1 e5 h2
  replace h3 := Lib.hid h3
  replace ha1 := Lib.hid ha1
  replace hg1 := Lib.hid hg1
  go_wp2_with fail
  refine hc.mono ?_
  rintro e w' ⟨rfl, hw⟩
  obtain rfl := hw.symm
  clear hc hw
  go_wp2_with fail
  refine hd.mono ?_
  rintro e w4 ⟨rfl, ⟨b2, h4, ha2, hg2⟩, m4'⟩
  have m4 := Lib.hid (m3.out.trans m4')
  have hu2 := all_usedN h4 (k := 0) rfl
  simp only [List.set_cons_zero] at h4
  have ha2 : b2.all = [97, 98, 99, 100, 101, 102, 103, 104] := ha2
  have hg2 : b2.gone = 5 := hg2
  rw [ha2, hg2] at hu2
  have hu2 : b2.cs.length = 1 := hu2
  have hc := all_chunks h4
  have ha := all_append ⟨#[105, 106, 107, 108, 109, 110, 111, 112]⟩ h4 (k := 0) rfl (by decide)
  simp only [tally, usedOf, hu2] at hc
  clear hd m3 m4' hu2 h3 ha1 hg1
  replace h4 := Lib.hid h4
  replace ha2 := Lib.hid ha2
  replace hg2 := Lib.hid hg2
  go_wp2_with fail
  refine hc.mono ?_
  rintro e w' ⟨rfl, hw⟩
  obtain rfl := hw.symm
  clear hc hw
  go_wp2_with fail
  refine ha.mono ?_
  rintro e w5 ⟨⟨hx, _⟩ | ⟨_, rfl, h5⟩, m5'⟩
  · exact absurd hx (by simp [tally, heldOf, ha2.out, hg2.out]; decide)
  have m5 := Lib.hid (m4.out.trans m5')
  have ha := all_append ⟨#[105]⟩ h5 (k := 0) rfl (by decide)
  clear m4 m5' h4
  replace h5 := Lib.hid h5
  go_wp2_with fail
  refine ha.mono ?_
  rintro e w6 ⟨⟨_, rfl, b3, h6, ha3, hg3⟩ | ⟨hx, _, _⟩, m6'⟩
  rotate_left
  · exact absurd hx (by simp [tally, heldOf, ha2.out, hg2.out]; decide)
  have m6 := Lib.hid (m5.out.trans m6')
  simp only [List.set_cons_zero] at h6
  rw [ha2.out] at ha3
  rw [hg2.out] at hg3
  have ha3 : b3.all = [97, 98, 99, 100, 101, 102, 103, 104, 105] := ha3
  have hd := all_drain 9 h6 (k := 0) rfl (by decide)
  rw [ha3, hg3] at hd
  have e9 : (⟨((([97, 98, 99, 100, 101, 102, 103, 104, 105] : List UInt8).drop 5).take 9).toArray⟩ : ByteArray) = ⟨#[102, 103, 104, 105]⟩ := rfl
  rw [e9] at hd
  clear ha m5 m6' h5 ha2 hg2 e9
  replace h6 := Lib.hid h6
  replace ha3 := Lib.hid ha3
  replace hg3 := Lib.hid hg3
  go_wp2_with fail
  refine hd.mono ?_
  rintro e w7 ⟨rfl, ⟨b4, h7, ha4, hg4⟩, m7'⟩
  have m7 := Lib.hid (m6.out.trans m7')
  have hu4 := all_usedN h7 (k := 0) rfl
  simp only [List.set_cons_zero] at h7
  have ha4 : b4.all = [97, 98, 99, 100, 101, 102, 103, 104, 105] := ha4
  have hg4 : b4.gone = 9 := hg4
  rw [ha4, hg4] at hu4
  have hu4 : b4.cs.length = 1 := hu4
  have hc := all_chunks h7
  have hcl := all_close h7 (k := 0) rfl (by decide) (by simp)
  simp only [tally, usedOf, hu4] at hc
  clear hd m6 m7' hu4 h6 ha3 hg3 ha4 hg4
  replace h7 := Lib.hid h7
  go_wp2_with fail
  refine hc.mono ?_
  rintro e w' ⟨rfl, hw⟩
  obtain rfl := hw.symm
  clear hc hw
  go_wp2_with fail
  refine hcl.mono ?_
  rintro e w8 ⟨rfl, h8, m8'⟩
  have m8 := Lib.hid (m7.out.trans m8')
  have hc := all_chunks h8
  have hbf := all_buffers h8
  simp only [List.set_cons_zero, tally, usedOf, openOf] at hc hbf
  have t1 : (⟨#[97, 98, 99, 100, 101]⟩ : ByteArray).toList == [97, 98, 99, 100, 101] := by decide +kernel
  have t2 : (⟨#[102, 103, 104, 105]⟩ : ByteArray).toList == [102, 103, 104, 105] := by decide +kernel
  clear hcl m7 m8' h7 h8
  go_wp2_with fail
  refine hc.mono ?_
  rintro e w' ⟨rfl, hw⟩
  obtain rfl := hw.symm
  clear hc hw
  go_wp2_with fail
  refine hbf.mono ?_
  rintro e w' ⟨rfl, hw⟩
  obtain rfl := hw.symm
  clear hbf hw
  go_wp2
  go_ret
  exact ⟨rfl, mv_none m8.out (by rw [hB.out]; exact Nat.le_refl _)⟩
end Go.Proofs.Yticoigpkgpdabaa
