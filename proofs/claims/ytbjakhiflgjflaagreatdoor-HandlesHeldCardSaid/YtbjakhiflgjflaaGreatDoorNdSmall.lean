/-
  Stat, Hold and Drop of a tree's nodes. Conditions: at most a million names, holds and bytes; what Drop leaves has a name, or is the root, or is held.
  Read of a tree's files and links: the bytes from a place on, so many at most. Conditions: numbers of 64 bits.
-/
import Derived.Test.YtbjakhiflgjflaaGreatDoorNdState
import Derived.Deep.RegionHeld3
import Derived.BigQuiet
import Derived.Lib.BufferRead
namespace Go.Proofs.YtbjakhiflgjflaaGreatDoor
open Go Go.RowKit

def nmsLen (x : Pn) : Nat := match x.nms with | some l => l.length | none => 0
def infoOf (x : Pn) : Value := .agg #[.int .i64 (x.kind : Int), .int .i64 ((x.data.length + nmsLen x : Nat) : Int), .int .i64 (x.named : Int), .int .i64 (x.holds : Int)]
def info0 : Value := .agg #[.int .i64 0, .int .i64 0, .int .i64 0, .int .i64 0]

theorem grownBy_drewN {w w' : World} {r : Option Nat} (h : w.grownBy w' r) (n : Nat) : w.grownBy (w'.drewN n) r := ⟨h.os, h.tape, h.output, h.size, h.block⟩

theorem grown_setNew {w w' : World} {z : Nat} (h : w.grownBy w' none) (hz : w.heap.size ≤ z) (i : Nat) (u : Value) : w.grownBy (w'.setCell ⟨z, i, none⟩ u) none :=
  ⟨h.os, h.tape, h.output, by simpa [World.setCell] using h.size, fun b hb hn => (heap_setCell_other w' _ b u (by show b ≠ z; omega)).trans (h.block b hb hn)⟩

section
variable {w : World} {lab : Nat → TL} {F : Nat → Prop} {fb most room mb : Nat} {nds : Nds} {mem : Int → NM}

theorem NodeAt.len {k : Int} {x : Pn} {m : NM} (h : NodeAt w lab k x m) : (Builtin.len_ #[135] 3 #[m.nv]).run Tryz.prog w = .ok (.int .i64 (nmsLen x : Int)) w := by
  unfold nmsLen
  cases hn : x.nms with
  | none =>
    rw [h.nil hn]
    exact Maps.len_nil Tryz.underlying135 _
  | some l =>
    obtain ⟨nb, h1, _, h3⟩ := h.nms l hn
    rw [h1]
    have := h3.count Tryz.underlying135 3
    rwa [List.length_map] at this
theorem NodeAt.nvForm {k : Int} {x : Pn} {m : NM} (h : NodeAt w lab k x m) : ∃ r, m.nv = .map r := by
  cases hn : x.nms with
  | none => exact ⟨none, h.nil hn⟩
  | some l =>
    obtain ⟨nb, h1, _, h3⟩ := h.nms l hn
    exact ⟨_, h1⟩

set_option maxHeartbeats 1000000 in
set_option maxRecDepth 100000 in
theorem stat_some (h : TreeR w lab fb most room nds mb mem) {k : Int} {x : Pn} (hx : look nds k = some x) (hl : nmsLen x ≤ 1000000) :
    Calls Tryz.prog 18 #[.pointer (some ⟨fb, 0, none⟩), .int .i64 k] w fun e w' => e = .returned (.tuple #[infoOf x, .int .i64 0]) ∧ w.grownBy w' none := by
  have hN := h.nd k x hx
  have hb := fun (W : World) (hW : ∀ g, g < w.heap.size → W.heap[g]? = w.heap[g]?) (hs : w.heap.size ≤ W.heap.size) => body_some (w := W) (lab := lab) (mb := mb) (mem := mem) (fb := fb) (most := most) (room := room) (nds := nds)
    ⟨(hW fb h.fs.lt).trans h.fs, h.lfs, h.map.keep (hW mb h.map.lt), h.lmap, fun k x hx => (h.nd k x hx).keep fun g hg _ => ⟨hW g hg, rfl⟩, fun g hg => h.new g (Nat.le_trans hs hg), h.lim⟩ hx
  have hlen := fun (W : World) (hW : ∀ g, g < w.heap.size → W.heap[g]? = w.heap[g]?) => (hN.keep (w' := W) (lab' := lab) fun g hg _ => ⟨hW g hg, rfl⟩).len
  obtain ⟨r, hr⟩ := hN.nvForm
  obtain ⟨A, c, hdv, hc, hcm⟩ := hN.data.form
  have hfew := hN.few
  have c0 := hN.blk.cell (show (bodyC x (mem k))[0]? = some _ from rfl)
  have c1 := hN.blk.cell (show (bodyC x (mem k))[1]? = some _ from rfl)
  have c2 := hN.blk.cell (show (bodyC x (mem k))[2]? = some _ from rfl)
  have c3 := hN.blk.cell (show (bodyC x (mem k))[3]? = some _ from rfl)
  have c4 := hN.blk.cell (show (bodyC x (mem k))[4]? = some _ from rfl)
  have hlt := hN.blk.lt
  rw [hdv] at c3
  rw [hr] at c4 hlen
  unfold infoOf
  generalize (mem k).blk = kb at hb c0 c1 c2 c3 c4 hlt
  generalize x.kind = xk at c0 ⊢
  generalize x.named = xn at c1 ⊢
  generalize x.holds = xh at c2 ⊢
  generalize x.data.length = xd at c3 hc hfew ⊢
  generalize nmsLen x = xl at hlen hl ⊢
  clear h hN hx hr hdv
  replace hb := Lib.hid hb
  replace hlen := Lib.hid hlen
  go_enter Tryz.func18, Tryz.ntmps18
  go_upto_region 1 with fail
  have b1 : Blk (w.alloc (.cells #[.int .i64 0, .int .i64 0, .int .i64 0, .int .i64 0] 50)) w.heap.size [.int .i64 0, .int .i64 0, .int .i64 0, .int .i64 0] 50 := Blk.new w _ _
  have k1 : ∀ g, g < w.heap.size → (w.alloc (.cells #[.int .i64 0, .int .i64 0, .int .i64 0, .int .i64 0] 50)).heap[g]? = w.heap[g]? := fun g hg => Below.heap_alloc w _ g hg
  have s1 : w.heap.size ≤ (w.alloc (.cells #[.int .i64 0, .int .i64 0, .int .i64 0, .int .i64 0] 50)).heap.size := by simp
  have g1 : w.grownBy (w.alloc (.cells #[.int .i64 0, .int .i64 0, .int .i64 0, .int .i64 0] 50)) none := World.grownBy_alloc w _ _
  have hb1 := hb.out _ k1 s1
  have hlen1 := fun n => hlen.out ((w.alloc (.cells #[.int .i64 0, .int .i64 0, .int .i64 0, .int .i64 0] 50)).drewN n) k1
  replace c0 := (World.cell?_of_block (a := ⟨kb, 0, none⟩) (k1 kb hlt)).trans c0
  replace c1 := (World.cell?_of_block (a := ⟨kb, 1, none⟩) (k1 kb hlt)).trans c1
  replace c2 := (World.cell?_of_block (a := ⟨kb, 2, none⟩) (k1 kb hlt)).trans c2
  replace c3 := (World.cell?_of_block (a := ⟨kb, 3, none⟩) (k1 kb hlt)).trans c3
  replace c4 := (World.cell?_of_block (a := ⟨kb, 4, none⟩) (k1 kb hlt)).trans c4
  obtain ⟨z, hz⟩ : ∃ z, w.heap.size = z := ⟨_, rfl⟩
  generalize (w.alloc (.cells #[.int .i64 0, .int .i64 0, .int .i64 0, .int .i64 0] 50)) = w1 at b1 g1 hb1 hlen1 c0 c1 c2 c3 c4 ⊢
  simp only [hz] at hlt b1 ⊢
  have z0 := b1.cell (i := 0) rfl
  have z1 := b1.cell (i := 1) rfl
  have z2 := b1.cell (i := 2) rfl
  have z3 := b1.cell (i := 3) rfl
  have zf := b1.frozen
  have hzl := b1.lt
  replace hz := Lib.hid hz
  replace g1 := Lib.hid g1
  replace b1 := Lib.hid b1
  have hne : kb ≠ z := by omega
  clear k1 s1 hb hlen
  go_wp2_with fail
  refine hb1.mono ?_
  rintro e w' ⟨rfl, hw⟩
  obtain rfl := hw.symm
  clear hb1 hw
  go_upto_region 4 with fail
  go_quiet (fail)
  have d0 : (w1.drewN nq).cell? ⟨kb, 0, none⟩ = _ := c0
  have d1 : (w1.drewN nq).cell? ⟨kb, 1, none⟩ = _ := c1
  have d2 : (w1.drewN nq).cell? ⟨kb, 2, none⟩ = _ := c2
  have y0 : (w1.drewN nq).cell? ⟨z, 0, none⟩ = _ := z0
  have y1 : (w1.drewN nq).cell? ⟨z, 1, none⟩ = _ := z1
  have y2 : (w1.drewN nq).cell? ⟨z, 2, none⟩ = _ := z2
  have y3 : (w1.drewN nq).cell? ⟨z, 3, none⟩ = _ := z3
  have yf : ∀ i, (w1.drewN nq).frozen? ⟨z, i, none⟩ = false := zf
  have b2 : Hid (Blk (w1.drewN nq) z _ _) := b1
  have g2 : Hid (w.grownBy (w1.drewN nq) none) := Lib.hid (grownBy_drewN g1.out nq)
  have y0f := yf 0
  have y1f := yf 1
  have y2f := yf 2
  have y3f := yf 3
  generalize w1.drewN nq = w2 at d0 d1 d2 y0 y1 y2 y3 y0f y1f y2f y3f b2 g2 ⊢
  clear c0 c1 c2 c3 c4 z0 z1 z2 z3 zf yf b1 g1 hlen1
  go_wp2_with fail
  go_region
  have b3 := (((b2.out.set 0 (.int .i64 (xk : Int))).set 1 (.int .i64 ((xd : Int) + (xl : Int)))).set 2 (.int .i64 (xn : Int))).set 3 (.int .i64 (xh : Int))
  have g3 := grownBy_drewN (grown_setNew (grown_setNew (grown_setNew (grown_setNew g2.out (Nat.le_of_eq hz.out) 0 (.int .i64 (xk : Int))) (Nat.le_of_eq hz.out) 1 (.int .i64 ((xd : Int) + (xl : Int)))) (Nat.le_of_eq hz.out) 2 (.int .i64 (xn : Int))) (Nat.le_of_eq hz.out) 3 (.int .i64 (xh : Int))) 1
  replace b3 : Blk (((((w2.setCell ⟨z, 0, none⟩ (.int .i64 (xk : Int))).setCell ⟨z, 1, none⟩ (.int .i64 ((xd : Int) + (xl : Int)))).setCell ⟨z, 2, none⟩ (.int .i64 (xn : Int))).setCell ⟨z, 3, none⟩ (.int .i64 (xh : Int))).drew) z _ _ := b3
  replace g3 : w.grownBy (((((w2.setCell ⟨z, 0, none⟩ (.int .i64 (xk : Int))).setCell ⟨z, 1, none⟩ (.int .i64 ((xd : Int) + (xl : Int)))).setCell ⟨z, 2, none⟩ (.int .i64 (xn : Int))).setCell ⟨z, 3, none⟩ (.int .i64 (xh : Int))).drew) none := g3
  generalize ((((w2.setCell ⟨z, 0, none⟩ (.int .i64 (xk : Int))).setCell ⟨z, 1, none⟩ (.int .i64 ((xd : Int) + (xl : Int)))).setCell ⟨z, 2, none⟩ (.int .i64 (xn : Int))).setCell ⟨z, 3, none⟩ (.int .i64 (xh : Int))).drew = w3 at b3 g3 ⊢
  have e0 := b3.cell (i := 0) rfl
  have e1 := b3.cell (i := 1) rfl
  have e2 := b3.cell (i := 2) rfl
  have e3 := b3.cell (i := 3) rfl
  go_wp2
  exact bodyPost_ret (v := .tuple #[.agg #[.int .i64 (xk : Int), .int .i64 ((xd : Int) + (xl : Int)), .int .i64 (xn : Int), .int .i64 (xh : Int)], .int .i64 0]) (by simp [results, Tryz.results18, go_sem, e0, e1, e2, e3]) rfl ⟨rfl, g3⟩
set_option maxHeartbeats 1000000 in
set_option maxRecDepth 100000 in
theorem stat_none (h : TreeR w lab fb most room nds mb mem) {k : Int} (hx : look nds k = none) :
    Calls Tryz.prog 18 #[.pointer (some ⟨fb, 0, none⟩), .int .i64 k] w fun e w' => e = .returned (.tuple #[info0, .int .i64 10]) ∧ w.grownBy w' none := by
  have hb := fun (W : World) (hW : ∀ g, g < w.heap.size → W.heap[g]? = w.heap[g]?) (hs : w.heap.size ≤ W.heap.size) => body_none (w := W) (lab := lab) (mb := mb) (mem := mem) (fb := fb) (most := most) (room := room) (nds := nds)
    ⟨(hW fb h.fs.lt).trans h.fs, h.lfs, h.map.keep (hW mb h.map.lt), h.lmap, fun k x hx => (h.nd k x hx).keep fun g hg _ => ⟨hW g hg, rfl⟩, fun g hg => h.new g (Nat.le_trans hs hg), h.lim⟩ hx
  clear h hx
  replace hb := Lib.hid hb
  go_enter Tryz.func18, Tryz.ntmps18
  go_upto_region 1 with fail
  have b1 : Blk (w.alloc (.cells #[.int .i64 0, .int .i64 0, .int .i64 0, .int .i64 0] 50)) w.heap.size [.int .i64 0, .int .i64 0, .int .i64 0, .int .i64 0] 50 := Blk.new w _ _
  have k1 : ∀ g, g < w.heap.size → (w.alloc (.cells #[.int .i64 0, .int .i64 0, .int .i64 0, .int .i64 0] 50)).heap[g]? = w.heap[g]? := fun g hg => Below.heap_alloc w _ g hg
  have s1 : w.heap.size ≤ (w.alloc (.cells #[.int .i64 0, .int .i64 0, .int .i64 0, .int .i64 0] 50)).heap.size := by simp
  have g1 : w.grownBy (w.alloc (.cells #[.int .i64 0, .int .i64 0, .int .i64 0, .int .i64 0] 50)) none := World.grownBy_alloc w _ _
  have hb1 := hb.out _ k1 s1
  obtain ⟨z, hz⟩ : ∃ z, w.heap.size = z := ⟨_, rfl⟩
  generalize (w.alloc (.cells #[.int .i64 0, .int .i64 0, .int .i64 0, .int .i64 0] 50)) = w1 at b1 g1 hb1 ⊢
  simp only [hz] at b1 ⊢
  have z0 := b1.cell (i := 0) rfl
  have z1 := b1.cell (i := 1) rfl
  have z2 := b1.cell (i := 2) rfl
  have z3 := b1.cell (i := 3) rfl
  have y0f := b1.frozen 0
  have y1f := b1.frozen 1
  have y2f := b1.frozen 2
  have y3f := b1.frozen 3
  replace hz := Lib.hid hz
  replace g1 := Lib.hid g1
  replace b1 := Lib.hid b1
  clear k1 s1 hb
  go_wp2_with fail
  refine hb1.mono ?_
  rintro e w' ⟨rfl, hw⟩
  obtain rfl := hw.symm
  clear hb1 hw
  go_upto_region 3 with fail
  go_wp2
  have b3 := (((b1.out.set 0 (.int .i64 0)).set 1 (.int .i64 0)).set 2 (.int .i64 0)).set 3 (.int .i64 0)
  have g3 := grown_setNew (grown_setNew (grown_setNew (grown_setNew g1.out (Nat.le_of_eq hz.out) 0 (.int .i64 0)) (Nat.le_of_eq hz.out) 1 (.int .i64 0)) (Nat.le_of_eq hz.out) 2 (.int .i64 0)) (Nat.le_of_eq hz.out) 3 (.int .i64 0)
  generalize (((w1.setCell ⟨z, 0, none⟩ (.int .i64 0)).setCell ⟨z, 1, none⟩ (.int .i64 0)).setCell ⟨z, 2, none⟩ (.int .i64 0)).setCell ⟨z, 3, none⟩ (.int .i64 0) = w3 at b3 g3 ⊢
  have e0 := b3.cell (i := 0) rfl
  have e1 := b3.cell (i := 1) rfl
  have e2 := b3.cell (i := 2) rfl
  have e3 := b3.cell (i := 3) rfl
  exact bodyPost_ret (v := .tuple #[info0, .int .i64 10]) (by simp [results, Tryz.results18, go_sem, e0, e1, e2, e3, info0]) rfl ⟨rfl, g3⟩

/-- One field of a node is set; its bytes and names stay. -/
theorem TreeR.set1 (h : TreeR w lab fb most room nds mb mem) (hF : ∀ g, F g ↔ lab g ≠ .free) {k : Int} {x y : Pn} (hx : look nds k = some x) (i : Nat) (v : Value) (hc : bodyC y (mem k) = (bodyC x (mem k)).set i v) (hd : y.data = x.data) (hn : y.nms = x.nms) :
    ∃ F', TreeF (w.setCell ⟨(mem k).blk, i, none⟩ v) F' fb most room (upd nds k y) ∧ Chg F F' w (w.setCell ⟨(mem k).blk, i, none⟩ v) := by
  have hN := h.nd k x hx
  have hu : usedN (upd nds k y) = usedN nds := by
    have := total_upd (f := fun x : Pn => x.data.length) h.apart hx y
    rw [hd] at this
    unfold usedN
    omega
  have ne : ∀ {g l}, lab g = l → l ≠ .body k → g ≠ (mem k).blk := fun {g l} hg hl e => by
    rw [e, hN.lb] at hg
    exact hl hg.symm
  refine h.step (S := fun g => g = (mem k).blk) (lab' := lab) (m' := mem k) hF hx (Chg.set (F := fun g => g = (mem k).blk) rfl i v) (fun g _ hg => .inr (by rw [hg, hN.lb]; exact rfl)) (fun _ _ => rfl) (fun g hg => h.new g (by simpa [World.setCell] using hg)) ?_ ?_ rfl (by rw [hu]; exact h.lim.2.2)
  · rw [hu]
    exact h.fs.other (ne h.lfs nofun) v
  · have hk : ∀ g l, lab g = l → l ≠ .body k → (w.setCell ⟨(mem k).blk, i, none⟩ v).heap[g]? = w.heap[g]? := fun g l hg hl => heap_setCell_other w _ g v (ne hg hl)
    exact {
      blk := by rw [hc]; exact hN.blk.set i v
      lb := hN.lb
      data := by rw [hd]; exact hN.data.keep fun g hg => hk g _ (hN.dl g hg) nofun
      dl := hN.dl
      few := by rw [hd]; exact hN.few
      nil := by rw [hn]; exact hN.nil
      nms := fun l hl => by
        rw [hn] at hl
        obtain ⟨nb, h1, h2, h3⟩ := hN.nms l hl
        exact ⟨nb, h1, h2, h3.keep (hk nb _ h2 nofun)⟩ }

set_option maxRecDepth 100000 in
theorem hold_some (h : TreeF w F fb most room nds) {k : Int} {x : Pn} (hx : look nds k = some x) (hh : x.holds ≤ 1000000) :
    Calls Tryz.prog 92 #[.pointer (some ⟨fb, 0, none⟩), .int .i64 k] w fun e w' => e = .returned (.int .i64 0) ∧ ∃ F', TreeF w' F' fb most room (upd nds k { x with holds := x.holds + 1 }) ∧ Chg F F' w w' := by
  obtain ⟨lab, mb, mem, h, hF⟩ := h
  have hb := body_some h hx
  have hN := h.nd k x hx
  have c2 := hN.blk.cell (show (bodyC x (mem k))[2]? = some _ from rfl)
  have hf := hN.blk.frozen 2
  have hlt := hN.blk.lt
  have hs := h.set1 hF hx 2 (.int .i64 ((x.holds + 1 : Nat) : Int)) (y := { x with holds := x.holds + 1 }) rfl rfl rfl
  generalize { x with holds := x.holds + 1 } = y at hs ⊢
  have e1 : ((x.holds + 1 : Nat) : Int) = (x.holds : Int) + 1 := by omega
  rw [e1] at hs
  generalize (mem k).blk = kb at hb c2 hf hlt hs
  generalize x.holds = xh at c2 hs hh
  replace hs := Lib.hid hs
  clear h hN hx hF e1
  go_enter Tryz.func92, Tryz.ntmps92
  go_wp2_with fail
  refine hb.mono ?_
  rintro e w' ⟨rfl, hw⟩
  obtain rfl := hw.symm
  clear hb hw
  go_wp2
  go_ret
  exact ⟨rfl, hs.out⟩
set_option maxRecDepth 100000 in
theorem hold_none (h : TreeR w lab fb most room nds mb mem) {k : Int} (hx : look nds k = none) :
    Calls Tryz.prog 92 #[.pointer (some ⟨fb, 0, none⟩), .int .i64 k] w fun e w' => e = .returned (.int .i64 10) ∧ w' = w := by
  have hb := body_none h hx
  clear h hx
  go_enter Tryz.func92, Tryz.ntmps92
  go_wp2_with fail
  refine hb.mono ?_
  rintro e w' ⟨rfl, hw⟩
  obtain rfl := hw.symm
  clear hb hw
  go_wp2
  go_ret
  exact ⟨rfl, rfl⟩
set_option maxRecDepth 100000 in
theorem sweep_stay (h : TreeF w F fb most room nds) {k : Int} {x : Pn} (hx : look nds k = some x) (hl : k = 1 ∨ 0 < x.named ∨ 0 < x.holds) :
    Calls Tryz.prog 131 #[.pointer (some ⟨fb, 0, none⟩), .int .i64 k] w fun e w' => e = .returned (.tuple #[]) ∧ w' = w := by
  obtain ⟨lab, mb, mem, h, hF⟩ := h
  have hfi := h.find_some hx
  have hN := h.nd k x hx
  have f0 := h.fs.cell (i := 0) rfl
  have c1 := hN.blk.cell (show (bodyC x (mem k))[1]? = some _ from rfl)
  have c2 := hN.blk.cell (show (bodyC x (mem k))[2]? = some _ from rfl)
  have hlt := hN.blk.lt
  have hfl := h.fs.lt
  generalize (mem k).blk = kb at hfi c1 c2 hlt
  generalize x.named = xn at c1 hl
  generalize x.holds = xh at c2 hl
  clear h hN hx hF
  by_cases h1 : k = 1
  · subst h1
    go_enter Tryz.func131, Tryz.ntmps131
    go_wp2
    exact bodyPost_ret (v := .tuple #[]) (by simp [results, Tryz.results131]) rfl ⟨rfl, rfl⟩
  · have e1 : (k == 1) = false := by simpa using h1
    by_cases h2 : 0 < xn
    · have e2 : (0 : Int) < (xn : Int) := by omega
      clear hl h1
      go_enter Tryz.func131, Tryz.ntmps131
      go_wp2
      exact bodyPost_ret (v := .tuple #[]) (by simp [results, Tryz.results131]) rfl ⟨rfl, rfl⟩
    · have e2 : ¬ (0 : Int) < (xn : Int) := by omega
      have e3 : (0 : Int) < (xh : Int) := by omega
      clear hl h1
      go_enter Tryz.func131, Tryz.ntmps131
      go_wp2
      exact bodyPost_ret (v := .tuple #[]) (by simp [results, Tryz.results131]) rfl ⟨rfl, rfl⟩
set_option maxRecDepth 100000 in
theorem drop_some (h : TreeF w F fb most room nds) {k : Int} {x : Pn} (hx : look nds k = some x) (hh : 0 < x.holds) (hm : x.holds ≤ 1000000) (hl : k = 1 ∨ 0 < x.named ∨ 1 < x.holds) :
    Calls Tryz.prog 156 #[.pointer (some ⟨fb, 0, none⟩), .int .i64 k] w fun e w' => e = .returned (.int .i64 0) ∧ ∃ F', TreeF w' F' fb most room (upd nds k { x with holds := x.holds - 1 }) ∧ Chg F F' w w' := by
  obtain ⟨lab, mb, mem, h, hF⟩ := h
  have hb := body_some h hx
  have hN := h.nd k x hx
  have c2 := hN.blk.cell (show (bodyC x (mem k))[2]? = some _ from rfl)
  have hf := hN.blk.frozen 2
  have hlt := hN.blk.lt
  obtain ⟨H, hH⟩ : ∃ H, x.holds = H + 1 := ⟨x.holds - 1, by omega⟩
  have hs := h.set1 hF hx 2 (.int .i64 ((x.holds - 1 : Nat) : Int)) (y := { x with holds := x.holds - 1 }) rfl rfl rfl
  obtain ⟨F', hT, hC⟩ := hs
  have hsw := sweep_stay hT (look_upd_same hx _) (by show k = 1 ∨ 0 < x.named ∨ 0 < x.holds - 1; omega)
  generalize { x with holds := x.holds - 1 } = y at hT hC ⊢
  have e1 : ((x.holds - 1 : Nat) : Int) = (H : Int) := by omega
  rw [e1] at hT hC hsw
  rw [hH] at c2 hm
  generalize (mem k).blk = kb at hb c2 hf hlt hT hC hsw
  have e2 : ((H : Int) + 1 == 0) = false := by simp; omega
  replace hT := Lib.hid hT
  replace hC := Lib.hid hC
  clear h hN hx hF e1 hl hh hH
  go_enter Tryz.func156, Tryz.ntmps156
  go_wp2_with fail
  refine hb.mono ?_
  rintro e w' ⟨rfl, hw⟩
  obtain rfl := hw.symm
  clear hb hw
  go_wp2_with fail
  refine hsw.mono ?_
  rintro e w' ⟨rfl, hw⟩
  obtain rfl := hw.symm
  clear hsw hw
  go_wp2
  go_ret
  exact ⟨rfl, F', hT.out, hC.out⟩
end
end Go.Proofs.YtbjakhiflgjflaaGreatDoor

namespace Go.Proofs.YtbjakhiflgjflaaGreatDoor
open Go Go.RowKit

theorem conv_row {w : World} {n : Nat} {v : Value} {l : List UInt8} (h : RowM w 5 v n (bc l)) : (convert 134 9 v).run Tryz.prog w = .ok (.string ⟨l.toArray⟩) w := by
  have hl := h.len
  rw [bc_len] at hl
  rcases h with ⟨rfl, rfl, he⟩ | ⟨g, off, cap, cur, rfl, h1, h2, h3, h4, h5⟩
  · have : l = [] := List.eq_nil_of_length_eq_zero hl
    subst this
    exact Lib.run_convert_nil_bytes w _ _ _ _ Tryz.underlying134 Tryz.underlying5 Tryz.underlying9
  · subst hl
    exact run_convert_bytes_back w 134 9 5 ⟨g, off, none⟩ cap l Tryz.underlying134 Tryz.underlying5 Tryz.underlying9 (fun j hj => by
      rw [add_plain0]
      refine RowM.cell (w := w) (e := 5) (n := l.length) (xs := bc l) (c := cap) (.inr ⟨g, off, cap, cur, rfl, h1, h2, h3, h4, h5⟩) ?_
      unfold bc
      rw [List.getElem?_map, List.getElem?_eq_getElem hj]
      rfl)
theorem conv_row_d {w : World} {n : Nat} {v : Value} {l : List UInt8} (h : RowM w 5 v n (bc l)) (k : Nat) : (convert 134 9 v).run Tryz.prog (w.drewN k) = .ok (.string ⟨l.toArray⟩) (w.drewN k) :=
  conv_row (w := w.drewN k) (n := n) (h.keep fun _ _ => rfl)

section
variable {w : World} {lab : Nat → TL} {F : Nat → Prop} {fb most room mb : Nat} {nds : Nds} {mem : Int → NM}

set_option maxHeartbeats 1000000 in
set_option maxRecDepth 100000 in
theorem read_some (h : TreeR w lab fb most room nds mb mem) {k : Int} {x : Pn} (hx : look nds k = some x) (hk : x.kind ≠ 1) (a n : Nat) (ha : a ≤ 1000000000) (hn : n ≤ 9223372036854775807) :
    Calls Tryz.prog 77 #[.pointer (some ⟨fb, 0, none⟩), .int .i64 k, .int .i64 (a : Int), .int .i64 (n : Int)] w fun e w' => e = .returned (.tuple #[.string ⟨((x.data.drop a).take n).toArray⟩, .int .i64 0]) ∧ ∃ m, w' = w.drewN m := by
  have hb := leaf_some h hx hk
  have hN := h.nd k x hx
  have c3 := hN.blk.cell (show (bodyC x (mem k))[3]? = some _ from rfl)
  have hlt := hN.blk.lt
  have hfew := hN.few
  obtain ⟨A, c, hdv, hc, hcm⟩ := hN.data.form
  have hD := hN.data
  rw [hdv] at hD c3
  generalize (mem k).blk = kb at hb c3 hlt
  obtain ⟨L, hL⟩ : ∃ L, x.data.length = L := ⟨_, rfl⟩
  rw [hL] at hD c3 hc hfew
  have hA0 : ¬ (a : Int) < 0 := by omega
  have hn0 : ¬ (n : Int) < 0 := by omega
  have hdl : ∀ q r : Nat, q = min a L → r = min n (L - q) → (x.data.drop q).take r = (x.data.drop a).take n := fun q r hq hr => by
    by_cases h : a ≤ L
    · obtain rfl : q = a := by omega
      by_cases h2 : n ≤ L - q
      · rw [show r = n by omega]
      · rw [List.take_of_length_le (by rw [List.length_drop]; omega), List.take_of_length_le (by rw [List.length_drop]; omega)]
    · rw [List.drop_eq_nil_of_le (by omega), List.drop_eq_nil_of_le (by omega)]; simp
  have hcv : ∀ q r : Nat, q = min a L → r = min n (L - q) → ∀ k : Nat, (convert 134 9 (.slice (if c = q then A else A.map (·.add q)) r (c - q))).run Tryz.prog (w.drewN k) = .ok (.string ⟨((x.data.drop a).take n).toArray⟩) (w.drewN k) := fun q r hq hr => by
    have hT := (hD.tail q (by omega)).head r (by omega)
    have e1 : (bc x.data).drop q = bc (x.data.drop q) := by unfold bc; rw [List.map_drop]
    have e2 : (bc (x.data.drop q)).take r = bc ((x.data.drop q).take r) := by unfold bc; rw [List.map_take]
    rw [e1, e2, hdl q r hq hr] at hT
    exact conv_row_d hT
  have hAs : 0 < c → ∃ g off, A = some ⟨g, off, none⟩ := fun hc0 => hD.formA hc0
  clear h hN hx hD hdv hk hdl hL
  unfold maxLen at hcm
  generalize ((x.data.drop a).take n).toArray = res at hcv ⊢
  by_cases h1 : L < a
  · have hcw := hcv L 0 (by omega) (by omega)
    clear hcv
    by_cases h2 : c = L
    · rw [if_pos h2] at hcw
      obtain rfl := h2
      simp only [Nat.sub_self] at hcw
      clear hAs
      by_cases h3 : n = 0
      · subst h3
        clear hn
        go_enter Tryz.func77, Tryz.ntmps77
        go_wp2_with fail
        refine hb.mono ?_
        rintro e w' ⟨rfl, hw⟩
        obtain rfl := hw.symm
        clear hb hw
        go_upto_region 6 with fail
        go_quiet (fail)
        go_wp2
        go_ret2
        exact ⟨rfl, _, rfl⟩
      · have h4 : 0 < n := by omega
        clear h3
        go_enter Tryz.func77, Tryz.ntmps77
        go_wp2_with fail
        refine hb.mono ?_
        rintro e w' ⟨rfl, hw⟩
        obtain rfl := hw.symm
        clear hb hw
        go_upto_region 6 with fail
        go_quiet (fail)
        go_wp2
        go_ret2
        exact ⟨rfl, _, rfl⟩
    · rw [if_neg h2] at hcw
      have h5 : L < c := by omega
      obtain ⟨g, off, rfl⟩ := hAs (by omega)
      clear hAs
      simp only [Option.map_some, add_plain0] at hcw
      by_cases h3 : n = 0
      · subst h3
        clear hn
        go_enter Tryz.func77, Tryz.ntmps77
        go_wp2_with fail
        refine hb.mono ?_
        rintro e w' ⟨rfl, hw⟩
        obtain rfl := hw.symm
        clear hb hw
        go_upto_region 6 with fail
        go_quiet (fail)
        go_wp2
        go_ret2
        exact ⟨rfl, _, rfl⟩
      · have h4 : 0 < n := by omega
        clear h3
        go_enter Tryz.func77, Tryz.ntmps77
        go_wp2_with fail
        refine hb.mono ?_
        rintro e w' ⟨rfl, hw⟩
        obtain rfl := hw.symm
        clear hb hw
        go_upto_region 6 with fail
        go_quiet (fail)
        go_wp2
        go_ret2
        exact ⟨rfl, _, rfl⟩
  · by_cases h3 : L - a < n
    · have hcw := hcv a (L - a) (by omega) (by omega)
      clear hcv
      by_cases h2 : c = a
      · rw [if_pos h2] at hcw
        have h6 : a = L := by omega
        subst h6
        subst h2
        simp only [Nat.sub_self] at hcw h3
        clear hAs
        go_enter Tryz.func77, Tryz.ntmps77
        go_wp2_with fail
        refine hb.mono ?_
        rintro e w' ⟨rfl, hw⟩
        obtain rfl := hw.symm
        clear hb hw
        go_upto_region 6 with fail
        go_quiet (fail)
        go_wp2
        go_ret2
        exact ⟨rfl, _, rfl⟩
      · rw [if_neg h2] at hcw
        have h5 : a < c := by omega
        obtain ⟨g, off, rfl⟩ := hAs (by omega)
        clear hAs
        simp only [Option.map_some, add_plain0] at hcw
        go_enter Tryz.func77, Tryz.ntmps77
        go_wp2_with fail
        refine hb.mono ?_
        rintro e w' ⟨rfl, hw⟩
        obtain rfl := hw.symm
        clear hb hw
        go_upto_region 6 with fail
        go_quiet (fail)
        go_wp2
        go_ret2
        exact ⟨rfl, _, rfl⟩
    · have hcw := hcv a n (by omega) (by omega)
      clear hcv
      have h7 : n ≤ L - a := by omega
      by_cases h2 : c = a
      · rw [if_pos h2] at hcw
        have h6 : a = L := by omega
        subst h6
        subst h2
        have h8 : n = 0 := by omega
        subst h8
        try simp only [Nat.sub_self] at hcw
        clear hAs h7 h3 hn
        go_enter Tryz.func77, Tryz.ntmps77
        go_wp2_with fail
        refine hb.mono ?_
        rintro e w' ⟨rfl, hw⟩
        obtain rfl := hw.symm
        clear hb hw
        go_upto_region 6 with fail
        go_quiet (fail)
        go_wp2
        go_ret2
        exact ⟨rfl, _, rfl⟩
      · rw [if_neg h2] at hcw
        have h5 : a < c := by omega
        obtain ⟨g, off, rfl⟩ := hAs (by omega)
        clear hAs
        simp only [Option.map_some, add_plain0] at hcw
        go_enter Tryz.func77, Tryz.ntmps77
        go_wp2_with fail
        refine hb.mono ?_
        rintro e w' ⟨rfl, hw⟩
        obtain rfl := hw.symm
        clear hb hw
        go_upto_region 6 with fail
        go_quiet (fail)
        go_wp2
        go_ret2
        exact ⟨rfl, _, rfl⟩
end
end Go.Proofs.YtbjakhiflgjflaaGreatDoor
