/-
  A text and a sink as handles: Text, Sink, Read of a text, Write and Seen of a sink. Conditions: none is back; at most a hundred thousand.
-/
import Derived.Test.YtffipbmonfodbaaGreatDoorHnOpen
import Derived.Test.YtffipbmonfodbaaGreatDoorHnRef
namespace Go.Proofs.YtffipbmonfodbaaGreatDoor
open Go Go.RowKit Go.ChangeMaps

section
variable {w : World} {F Ft Fp Fh : Nat → Prop} {c : Sy} {s : St}
set_option maxHeartbeats 1000000 in
set_option maxRecDepth 100000 in
theorem sys_Text (h : Sys w F c s) (hxs : s.xs = []) (htop : s.top < 100000) (t : ByteArray) (ht1 : t.size ≤ 1048576) :
    Calls Tryz.prog 9 #[ptrV c.tb, .string t] w fun e w' => e = .returned (.tuple #[.int .i64 ((s.top + 1 : Nat) : Int), .int .i64 0]) ∧
      ∃ F', Sys w' F' c { s with hs := s.hs ++ [(((s.top + 1 : Nat) : Int), ⟨1, .text (tl t) 0⟩)], top := s.top + 1, xs := [] } ∧ Chg F F' w w' := by
  obtain ⟨Ft, Fp, Fh, h, hF⟩ := h
  obtain ⟨lab, mb, mem, v, htb, hFh⟩ := h.tab
  have hi := isNil_no htb
  have i1 : ¬ (1048576 : Int) < (t.size : Int) := by omega
  have g6 : w.grownBy (w.alloc (.cells #[.string t, .int .i64 0] 92)) none := World.grownBy_alloc w _ _
  have h6 := h.grown g6
  have b6 : Blk (w.alloc (.cells #[.string t, .int .i64 0] 92)) w.heap.size [.string ⟨(tl t).toArray⟩, .int .i64 ((0 : Nat) : Int)] 92 := Blk.new w _ _
  have c6 : Chg (foot Ft Fp Fh) (fun g => foot Ft Fp Fh g ∨ g = w.heap.size) w (w.alloc (.cells #[.string t, .int .i64 0] 92)) := Chg.alloc _ w _
  have ht6 : TabF (w.alloc (.cells #[.string t, .int .i64 0] 92)) Fh c.fb c.plb c.tb s.hs s.pp s.top [] := by rw [← hxs]; exact h6.tab
  have hG : ∀ g, g = w.heap.size → g < (w.alloc (.cells #[.string t, .int .i64 0] 92)).heap.size ∧ ¬ Fh g := fun g hg => ⟨by rw [hg]; exact b6.lt, fun hf => absurd (h.tab.lt hf) (by omega)⟩
  have hG2 : ∀ g, g = w.heap.size → ¬ Ft g ∧ ¬ Fp g := fun g hg => ⟨fun hf => absurd (h.tree.lt hf) (by omega), fun hf => absurd (h.pool.lt hf) (by omega)⟩
  have hadd := tab_add ht6 (fun g => g = w.heap.size) hG htop (.text (tl t) 0) w.heap.size (fun w' lab' hg kb => ⟨(hg _ rfl).1.trans b6, (hg _ rfl).2, Nat.zero_le _, by rw [tl_len]; exact ht1⟩)
  have hend := fun w7 F7 (hT7 : TabF w7 F7 c.fb c.plb c.tb (s.hs ++ [(((s.top + 1 : Nat) : Int), ⟨1, .text (tl t) 0⟩)]) s.pp (s.top + 1) []) hC7 => Sys.of hF (h6.tabStep hG2 hT7 hC7).1 (c6.trans (h6.tabStep hG2 hT7 hC7).2)
  unfold ptrV at hi ⊢
  unfold doesV ptrV at hadd
  replace hend := Lib.hid hend
  replace hadd := Lib.hid hadd
  clear h6 b6 c6 ht6 hG hG2 g6 h htb hFh ht1
  go_enter Tryz.func9, Tryz.ntmps9
  go_wp2_with fail
  refine hi.mono ?_
  rintro e w' ⟨rfl, hw⟩
  obtain rfl := hw.symm
  clear hi hw
  go_wp2_with fail
  refine hadd.out.mono ?_
  rintro e w7 ⟨rfl, F7, hT7, hC7⟩
  have hres := hend.out w7 F7 hT7 hC7
  replace hres := Lib.hid hres
  clear hT7 hC7 hend hadd
  go_wp2
  go_ret2
  exact ⟨rfl, hres.out⟩
set_option maxHeartbeats 1000000 in
set_option maxRecDepth 100000 in
theorem sys_Sink (h : Sys w F c s) (hxs : s.xs = []) (htop : s.top < 100000) (m : Nat) (hm : m ≤ 1048576) :
    Calls Tryz.prog 11 #[ptrV c.tb, .int .i64 (m : Int)] w fun e w' => e = .returned (.tuple #[.int .i64 ((s.top + 1 : Nat) : Int), .int .i64 0]) ∧
      ∃ F', Sys w' F' c { s with hs := s.hs ++ [(((s.top + 1 : Nat) : Int), ⟨1, .sink [] m⟩)], top := s.top + 1, xs := [] } ∧ Chg F F' w w' := by
  obtain ⟨Ft, Fp, Fh, h, hF⟩ := h
  obtain ⟨lab, mb, mem, v, htb, hFh⟩ := h.tab
  have hi := isNil_no htb
  have i1 : ¬ (1048576 : Int) < (m : Int) := by omega
  have i2 : ¬ (m : Int) < 0 := by omega
  have g6 : w.grownBy (w.alloc (.cells #[.slice none 0 0, .int .i64 (m : Int)] 103)) none := World.grownBy_alloc w _ _
  have h6 := h.grown g6
  have b6 : Blk (w.alloc (.cells #[.slice none 0 0, .int .i64 (m : Int)] 103)) w.heap.size [.slice none 0 0, .int .i64 (m : Int)] 103 := Blk.new w _ _
  have c6 : Chg (foot Ft Fp Fh) (fun g => foot Ft Fp Fh g ∨ g = w.heap.size) w (w.alloc (.cells #[.slice none 0 0, .int .i64 (m : Int)] 103)) := Chg.alloc _ w _
  have ht6 : TabF (w.alloc (.cells #[.slice none 0 0, .int .i64 (m : Int)] 103)) Fh c.fb c.plb c.tb s.hs s.pp s.top [] := by rw [← hxs]; exact h6.tab
  have hG : ∀ g, g = w.heap.size → g < (w.alloc (.cells #[.slice none 0 0, .int .i64 (m : Int)] 103)).heap.size ∧ ¬ Fh g := fun g hg => ⟨by rw [hg]; exact b6.lt, fun hf => absurd (h.tab.lt hf) (by omega)⟩
  have hG2 : ∀ g, g = w.heap.size → ¬ Ft g ∧ ¬ Fp g := fun g hg => ⟨fun hf => absurd (h.tree.lt hf) (by omega), fun hf => absurd (h.pool.lt hf) (by omega)⟩
  have hadd := tab_add ht6 (fun g => g = w.heap.size) hG htop (.sink [] m) w.heap.size (fun w' lab' hg kb => ⟨(hg _ rfl).1.trans b6, (hg _ rfl).2, .inl ⟨rfl, rfl, rfl⟩, nofun, Nat.zero_le _, hm⟩)
  have hend := fun w7 F7 (hT7 : TabF w7 F7 c.fb c.plb c.tb (s.hs ++ [(((s.top + 1 : Nat) : Int), ⟨1, .sink [] m⟩)]) s.pp (s.top + 1) []) hC7 => Sys.of hF (h6.tabStep hG2 hT7 hC7).1 (c6.trans (h6.tabStep hG2 hT7 hC7).2)
  unfold ptrV at hi ⊢
  unfold doesV ptrV at hadd
  replace hend := Lib.hid hend
  replace hadd := Lib.hid hadd
  clear h6 b6 c6 ht6 hG hG2 g6 h htb hFh hm
  go_enter Tryz.func11, Tryz.ntmps11
  go_wp2_with fail
  refine hi.mono ?_
  rintro e w' ⟨rfl, hw⟩
  obtain rfl := hw.symm
  clear hi hw
  go_wp2_with fail
  refine hadd.out.mono ?_
  rintro e w7 ⟨rfl, F7, hT7, hC7⟩
  have hres := hend.out w7 F7 hT7 hC7
  replace hres := Lib.hid hres
  clear hT7 hC7 hend hadd
  go_wp2
  go_ret2
  exact ⟨rfl, hres.out⟩
end
end Go.Proofs.YtffipbmonfodbaaGreatDoor
