/-
  Things behind a law's own box of them; the chapter's example comes out as it should: awake answers true. Conditions: none.
-/
import Derived.Test.YtcobfimafpfbpaaUdBegun
namespace Go.Proofs.Ytcobfimafpfbpaa
open Go Go.RowKit Go.ChangeMaps

/-- Things, and the box in which a law keeps them. -/
structure ThL (w0 w : World) (Q : Nat → Prop) (a : Ad) (z pot : Nat) (t : Tg) : Prop where
  th : ThAt w w0.heap.size Q a pot t
  zb : Blk w z [ptrV a.l, ptrV a.m, ptrV a.c] 29
  ne : z ≠ a.o
  below : Below w0.heap.size w0 w
  hz : w0.heap.size ≤ z
section
variable {w0 w w' : World} {Q Q' : Nat → Prop} {a : Ad} {z pot pot' : Nat} {t t' : Tg}
theorem ThAt.o_lt {B : Nat} (h : ThAt w B Q a pot t) : a.o < w.heap.size := by
  obtain ⟨_, _, _, _, h, _⟩ := h
  exact h.map.lt
theorem ThL.start (h : ThAt w w0.heap.size Q a pot t) (hb : Below w0.heap.size w0 w) : ThL w0 (w.alloc (.cells #[ptrV a.l, ptrV a.m, ptrV a.c] 29)) Q a w.heap.size pot t :=
  ⟨h.below ((Below.refl _ w).alloc (Nat.le_refl _) _), Blk.new w _ _, fun e => by have := h.o_lt; omega, hb.alloc hb.size _, hb.size⟩
theorem not_thT {ty : TypeId} (h : (ty == 82 || ty == 86 || ty == 1 || ty == 88 || ty == 85 || ty == 93) = false) : ¬ ThT ty := by
  intro k
  rcases k with (k | k | k | k) | k | k <;> (subst k; revert h; decide)
theorem ThL.step (h : ThL w0 w Q a z pot t) (k : ThAt w' w0.heap.size Q' a pot' t') (f : FrT w0.heap.size a.o w w') : ThL w0 w' Q' a z pot' t' :=
  ⟨k, h.zb.fr f (not_thT (by decide)) h.ne, h.ne, h.below.trans (f.below h.below.size), h.hz⟩
theorem ThL.same (h : ThL w0 w Q a z pot t) (k : Below w.heap.size w w') : ThL w0 w' Q a z pot t :=
  ⟨h.th.below k, (k.block _ h.zb.lt).trans h.zb, h.ne, h.below.trans (k.mono h.below.size), h.hz⟩
theorem ThL.c0 (h : ThL w0 w Q a z pot t) : w.cell? ⟨z, 0, none⟩ = some (.pointer (some ⟨a.l, 0, none⟩)) := h.zb.cell (i := 0) rfl
theorem ThL.c1 (h : ThL w0 w Q a z pot t) : w.cell? ⟨z, 1, none⟩ = some (.pointer (some ⟨a.m, 0, none⟩)) := h.zb.cell (i := 1) rfl
theorem ThL.c2 (h : ThL w0 w Q a z pot t) : w.cell? ⟨z, 2, none⟩ = some (.pointer (some ⟨a.c, 0, none⟩)) := h.zb.cell (i := 2) rfl
end

def kA : ByteArray := ⟨#[97]⟩
def kB : ByteArray := ⟨#[98]⟩
def aw0 : Tg := new0 10 5
def aw1 : Tg := (aw0.put kA 1).2
def aw2 : Tg := aw1.mark.2.2
def aw3 : Tg := (aw2.put kA 2).2
def aw4 : Tg := (aw3.put kB 3).2
def aw5 : Tg := aw4.mark.2.2
def aw6 : Tg := (aw5.del kA).2
def aw7 : Tg := aw6.undo.2
def aw8 : Tg := aw7.undo.2
theorem awm1 : aw1.mark.1 = 1 ∧ aw1.mark.2.1 = 0 := ⟨by kernel_rfl, by kernel_rfl⟩
theorem awn4 : (aw4.ns.length : Int) = 2 := by kernel_rfl
theorem awm4 : aw4.mark.1 = 2 ∧ aw4.mark.2.1 = 0 := ⟨by kernel_rfl, by kernel_rfl⟩
theorem awn6 : (aw6.ns.length : Int) = 3 := by kernel_rfl
theorem awu6 : aw6.undo.1 = 0 := by kernel_rfl
theorem awg7 : aw7.cur.f kA = some 2 := by kernel_rfl
theorem awu7 : aw7.undo.1 = 0 := by kernel_rfl
theorem awg8 : aw8.cur.f kA = some 1 := by kernel_rfl
theorem awh8 : aw8.cur.f kB = none := by kernel_rfl
theorem awn8 : (aw8.ns.length : Int) = 0 := by kernel_rfl
theorem awu8 : aw8.undo.1 = 1 := by kernel_rfl

set_option maxRecDepth 100000 in
set_option maxHeartbeats 4000000 in
theorem awake_any (w : World) : Calls Try.prog 9 #[] w fun e w' => e = .returned (.bool true) ∧ Below w.heap.size w w' := by
  have hnew := begun_ok 10 5 (fun _ => True) w (by decide) (by decide) (by decide)
  replace hnew := Lib.hid hnew
  go_enter Try.func9, Try.ntmps9
  go_wp2_with fail
  refine hnew.out.mono ?_
  rintro e w1 ⟨a, rfl, hT1, hb1⟩
  have hL0 := ThL.start hT1 hb1
  replace hL0 : ThL w (w1.alloc (.cells #[ptrV a.l, ptrV a.m, ptrV a.c] 29)) (fun _ => True) a w1.heap.size 0 aw0 := hL0
  unfold thV
  unfold ptrV at hL0 ⊢
  clear hnew hT1 hb1
  go_upto_region 2 with fail
  obtain ⟨z, hz⟩ : ∃ z, w1.heap.size = z := ⟨_, rfl⟩
  rw [hz] at hL0 ⊢
  generalize w1.alloc (.cells #[.pointer (some ⟨a.l, 0, none⟩), .pointer (some ⟨a.m, 0, none⟩), .pointer (some ⟨a.c, 0, none⟩)] 29) = v0 at hL0 ⊢
  have c0 := hL0.c0
  have c1 := hL0.c1
  have hzl := hL0.zb.lt
  clear hz
  have hc := th_put hL0.th kA 1 (by decide)
  unfold ptrV at hc
  unfold kA at hc
  replace hc := Lib.hid hc
  replace hL0 := Lib.hid hL0
  go_wp2_with fail
  refine hc.out.mono ?_
  rintro e v1 ⟨rfl, hT, hF⟩
  have hL1 := hL0.out.step hT hF
  clear hc hL0 hT hF c0 c1 hzl
  change ThL w v1 _ a z _ aw1 at hL1
  have c0 := hL1.c0
  have c1 := hL1.c1
  have hzl := hL1.zb.lt
  have hc := th_mark hL1.th
  rw [awm1.1, awm1.2] at hc
  unfold ptrV at hc
  replace hc := Lib.hid hc
  replace hL1 := Lib.hid hL1
  go_wp2_with fail
  refine hc.out.mono ?_
  rintro e v2 ⟨rfl, hT, hF⟩
  have hL2 := hL1.out.step hT hF
  clear hc hL1 hT hF c0 c1 hzl
  change ThL w v2 _ a z _ aw2 at hL2
  have c0 := hL2.c0
  have c1 := hL2.c1
  have hzl := hL2.zb.lt
  have hc := th_put hL2.th kA 2 (by decide)
  unfold ptrV at hc
  unfold kA at hc
  replace hc := Lib.hid hc
  replace hL2 := Lib.hid hL2
  go_wp2_with fail
  refine hc.out.mono ?_
  rintro e v3 ⟨rfl, hT, hF⟩
  have hL3 := hL2.out.step hT hF
  clear hc hL2 hT hF c0 c1 hzl
  change ThL w v3 _ a z _ aw3 at hL3
  have c0 := hL3.c0
  have c1 := hL3.c1
  have hzl := hL3.zb.lt
  have hc := th_put hL3.th kB 3 (by decide)
  unfold ptrV at hc
  unfold kB at hc
  replace hc := Lib.hid hc
  replace hL3 := Lib.hid hL3
  go_wp2_with fail
  refine hc.out.mono ?_
  rintro e v4 ⟨rfl, hT, hF⟩
  have hL4 := hL3.out.step hT hF
  clear hc hL3 hT hF c0 c1 hzl
  change ThL w v4 _ a z _ aw4 at hL4
  have c0 := hL4.c0
  have c1 := hL4.c1
  have hzl := hL4.zb.lt
  have hc := th_lenN hL4.th
  rw [awn4] at hc
  unfold ptrV at hc
  replace hc := Lib.hid hc
  replace hL4 := Lib.hid hL4
  go_wp2_with fail
  refine hc.out.mono ?_
  rintro e w' ⟨rfl, hw⟩
  obtain rfl := hw.symm
  clear hc hw
  replace hL4 := hL4.out
  have hc := th_mark hL4.th
  rw [awm4.1, awm4.2] at hc
  unfold ptrV at hc
  replace hc := Lib.hid hc
  replace hL4 := Lib.hid hL4
  go_wp2_with fail
  refine hc.out.mono ?_
  rintro e v5 ⟨rfl, hT, hF⟩
  have hL5 := hL4.out.step hT hF
  clear hc hL4 hT hF c0 c1 hzl
  change ThL w v5 _ a z _ aw5 at hL5
  have c0 := hL5.c0
  have c1 := hL5.c1
  have hzl := hL5.zb.lt
  have hc := th_del hL5.th kA (by decide)
  unfold ptrV at hc
  unfold kA at hc
  replace hc := Lib.hid hc
  replace hL5 := Lib.hid hL5
  go_wp2_with fail
  refine hc.out.mono ?_
  rintro e v6 ⟨rfl, hT, hF⟩
  have hL6 := hL5.out.step hT hF
  clear hc hL5 hT hF c0 c1 hzl
  change ThL w v6 _ a z _ aw6 at hL6
  have c0 := hL6.c0
  have c1 := hL6.c1
  have hzl := hL6.zb.lt
  have hc := th_lenN hL6.th
  rw [awn6] at hc
  unfold ptrV at hc
  replace hc := Lib.hid hc
  replace hL6 := Lib.hid hL6
  go_wp2_with fail
  refine hc.out.mono ?_
  rintro e w' ⟨rfl, hw⟩
  obtain rfl := hw.symm
  clear hc hw
  replace hL6 := hL6.out
  have hc := th_undo hL6.th
  rw [awu6] at hc
  unfold ptrV at hc
  replace hc := Lib.hid hc
  replace hL6 := Lib.hid hL6
  go_wp2_with fail
  refine hc.out.mono ?_
  rintro e v7 ⟨rfl, hT, hF⟩
  have hL7 := hL6.out.step hT hF
  clear hc hL6 hT hF c0 c1 hzl
  change ThL w v7 _ a z _ aw7 at hL7
  have c0 := hL7.c0
  have c1 := hL7.c1
  have hzl := hL7.zb.lt
  have hc := th_get hL7.th kA
  rw [awg7] at hc
  unfold ptrV at hc
  unfold kA at hc
  simp only [Option.getD_some, Option.isSome_some] at hc
  replace hc := Lib.hid hc
  replace hL7 := Lib.hid hL7
  go_wp2_with fail
  refine hc.out.mono ?_
  rintro e w' ⟨rfl, hw⟩
  obtain rfl := hw.symm
  clear hc hw
  replace hL7 := hL7.out
  have hc := th_undo hL7.th
  rw [awu7] at hc
  unfold ptrV at hc
  replace hc := Lib.hid hc
  replace hL7 := Lib.hid hL7
  go_wp2_with fail
  refine hc.out.mono ?_
  rintro e v8 ⟨rfl, hT, hF⟩
  have hL8 := hL7.out.step hT hF
  clear hc hL7 hT hF c0 c1 hzl
  change ThL w v8 _ a z _ aw8 at hL8
  have c0 := hL8.c0
  have c1 := hL8.c1
  have hzl := hL8.zb.lt
  have hc := th_get hL8.th kA
  rw [awg8] at hc
  unfold ptrV at hc
  unfold kA at hc
  simp only [Option.getD_some, Option.isSome_some] at hc
  replace hc := Lib.hid hc
  replace hL8 := Lib.hid hL8
  go_wp2_with fail
  refine hc.out.mono ?_
  rintro e w' ⟨rfl, hw⟩
  obtain rfl := hw.symm
  clear hc hw
  replace hL8 := hL8.out
  have hc := th_get hL8.th kB
  rw [awh8] at hc
  unfold ptrV at hc
  unfold kB at hc
  simp only [Option.getD_none, Option.isSome_none] at hc
  replace hc := Lib.hid hc
  replace hL8 := Lib.hid hL8
  go_wp2_with fail
  refine hc.out.mono ?_
  rintro e w' ⟨rfl, hw⟩
  obtain rfl := hw.symm
  clear hc hw
  replace hL8 := hL8.out
  have hc := th_lenN hL8.th
  rw [awn8] at hc
  unfold ptrV at hc
  replace hc := Lib.hid hc
  replace hL8 := Lib.hid hL8
  go_wp2_with fail
  refine hc.out.mono ?_
  rintro e w' ⟨rfl, hw⟩
  obtain rfl := hw.symm
  clear hc hw
  replace hL8 := hL8.out
  have hc := th_undo hL8.th
  rw [awu8] at hc
  unfold ptrV at hc
  replace hc := Lib.hid hc
  replace hL8 := Lib.hid hL8
  go_wp2_with fail
  refine hc.out.mono ?_
  rintro e v9 ⟨rfl, hT, hF⟩
  have hL9 := hL8.out.step hT hF
  clear hc hL8 hT hF c0 c1 hzl
  change ThL w v9 _ a z _ aw8.undo.2 at hL9
  have c0 := hL9.c0
  have c1 := hL9.c1
  have hzl := hL9.zb.lt
  have hB := hL9.below
  replace hB := Lib.hid hB
  clear hL9
  go_wp2
  go_ret
  exact ⟨rfl, hB.out⟩
end Go.Proofs.Ytcobfimafpfbpaa
