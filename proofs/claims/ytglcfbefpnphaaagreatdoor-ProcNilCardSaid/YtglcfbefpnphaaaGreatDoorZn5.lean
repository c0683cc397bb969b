/-
  Stat, Hold and Drop of a tree's nodes. Conditions: at most a million names, holds and bytes; what Drop leaves has a name, or is the root, or is held.
  Read of a tree's files and links: the bytes from a place on, so many at most. Conditions: numbers of 64 bits.
-/
import Derived.Deep.RegionHeld3
import Derived.BigQuiet
import Derived.Lib.BufferRead
import Derived.Test.YtglcfbefpnphaaaGreatDoorZn3
namespace Go.Proofs.YtglcfbefpnphaaaGreatDoor
open Go Go.RowKit

def nmsLen (x : Pn) : Nat := match x.nms with | some l => l.length | none => 0
def infoOf (x : Pn) : Value := .agg #[.int .i64 (x.kind : Int), .int .i64 ((x.data.length + nmsLen x : Nat) : Int), .int .i64 (x.named : Int), .int .i64 (x.holds : Int)]
def info0 : Value := .agg #[.int .i64 0, .int .i64 0, .int .i64 0, .int .i64 0]

theorem grownBy_drewN {w w' : World} {r : Option Nat} (h : w.grownBy w' r) (n : Nat) : w.grownBy (w'.drewN n) r := ⟨h.os, h.tape, h.output, h.size, h.block⟩

theorem grown_setNew {w w' : World} {z : Nat} (h : w.grownBy w' none) (hz : w.heap.size ≤ z) (i : Nat) (u : Value) : w.grownBy (w'.setCell ⟨z, i, none⟩ u) none :=
  ⟨h.os, h.tape, h.output, by simpa [World.setCell] using h.size, fun b hb hn => (heap_setCell_other w' _ b u (by show b ≠ z; omega)).trans (h.block b hb hn)⟩

section
variable {w : World} {lab : Nat → TL} {F : Nat → Prop} {fb most room mb : Nat} {nds : Nds} {mem : Int → NM}

theorem NodeAt.len {k : Int} {x : Pn} {m : NM} (h : NodeAt w lab k x m) : (Builtin.len_ #[154] 3 #[m.nv]).run Tryz.prog w = .ok (.int .i64 (nmsLen x : Int)) w := by
  unfold nmsLen
  cases hn : x.nms with
  | none =>
    rw [h.nil hn]
    exact Maps.len_nil Tryz.underlying154 _
  | some l =>
    obtain ⟨nb, h1, _, h3⟩ := h.nms l hn
    rw [h1]
    have := h3.count Tryz.underlying154 3
    rwa [List.length_map] at this
theorem NodeAt.nvForm {k : Int} {x : Pn} {m : NM} (h : NodeAt w lab k x m) : ∃ r, m.nv = .map r := by
  cases hn : x.nms with
  | none => exact ⟨none, h.nil hn⟩
  | some l =>
    obtain ⟨nb, h1, _, h3⟩ := h.nms l hn
    exact ⟨_, h1⟩

set_option maxHeartbeats 1000000 in
set_option maxRecDepth 100000 in
theorem stat_some (h : TreeR w lab fb most room nds mb mem) {k : Int} {x : Pn} (hx : look nds k = some x) (hl : nmsLen x ≤ 1000000) :
    Calls Tryz.prog 27 #[.pointer (some ⟨fb, 0, none⟩), .int .i64 k] w fun e w' => e = .returned (.tuple #[infoOf x, .int .i64 0]) ∧ w.grownBy w' none := by
  have hN := h.nd k x hx
  have hb := fun (W : World) (hW : ∀ g, g < w.heap.size → W.heap[g]? = w.heap[g]?) (hs : w.heap.size ≤ W.heap.size) => body_some (w := W) (lab := lab) (mb := mb) (mem := mem) (fb := fb) (most := most) (room := room) (nds := nds)
    ⟨(hW fb h.fs.lt).trans h.fs, h.lfs, h.map.keep (hW mb h.map.lt), h.lmap, fun k x hx => (h.nd k x hx).keep fun g hg _ => ⟨hW g hg, rfl⟩, fun g hg => h.new g (Nat.le_trans hs hg), h.lim⟩ hx
  have hlen := fun (W : World) (hW : ∀ g, g < w.heap.size → W.heap[g]? = w.heap[g]?) => (hN.keep (w' := W) (lab' := lab) fun g hg _ => ⟨hW g hg, rfl⟩).len
  obtain ⟨r, hr⟩ := hN.nvForm
  obtain ⟨A, c, hdv, hc, hcm⟩ := hN.data.form
  have hfew := hN.few
  have c0 := hN.blk.cell (show (bodyC x (mem k))[0]? = some _ from rfl)
  have c1 := hN.blk.cell (show (bodyC x (mem k))[1]? = some _ from rfl)
  have c2 := hN.blk.cell (show (bodyC x (mem k))[2]? = some _ from rfl)
  have c3 := hN.blk.cell (show (bodyC x (mem k))[3]? = some _ from rfl)
  have c4 := hN.blk.cell (show (bodyC x (mem k))[4]? = some _ from rfl)
  have hlt := hN.blk.lt
  rw [hdv] at c3
  rw [hr] at c4 hlen
  unfold infoOf
  generalize (mem k).blk = kb at hb c0 c1 c2 c3 c4 hlt
  generalize x.kind = xk at c0 ⊢
  generalize x.named = xn at c1 ⊢
  generalize x.holds = xh at c2 ⊢
  generalize x.data.length = xd at c3 hc hfew ⊢
  generalize nmsLen x = xl at hlen hl ⊢
  clear h hN hx hr hdv
  replace hb := Lib.hid hb
  replace hlen := Lib.hid hlen
  go_enter Tryz.func27, Tryz.ntmps27
  go_upto_region 1 with fail
  have b1 : Blk (w.alloc (.cells #[.int .i64 0, .int .i64 0, .int .i64 0, .int .i64 0] 68)) w.heap.size [.int .i64 0, .int .i64 0, .int .i64 0, .int .i64 0] 68 := Blk.new w _ _
  have k1 : ∀ g, g < w.heap.size → (w.alloc (.cells #[.int .i64 0, .int .i64 0, .int .i64 0, .int .i64 0] 68)).heap[g]? = w.heap[g]? := fun g hg => Below.heap_alloc w _ g hg
  have s1 : w.heap.size ≤ (w.alloc (.cells #[.int .i64 0, .int .i64 0, .int .i64 0, .int .i64 0] 68)).heap.size := by simp
  have g1 : w.grownBy (w.alloc (.cells #[.int .i64 0, .int .i64 0, .int .i64 0, .int .i64 0] 68)) none := World.grownBy_alloc w _ _
  have hb1 := hb.out _ k1 s1
  have hlen1 := fun n => hlen.out ((w.alloc (.cells #[.int .i64 0, .int .i64 0, .int .i64 0, .int .i64 0] 68)).drewN n) k1
  replace c0 := (World.cell?_of_block (a := ⟨kb, 0, none⟩) (k1 kb hlt)).trans c0
  replace c1 := (World.cell?_of_block (a := ⟨kb, 1, none⟩) (k1 kb hlt)).trans c1
  replace c2 := (World.cell?_of_block (a := ⟨kb, 2, none⟩) (k1 kb hlt)).trans c2
  replace c3 := (World.cell?_of_block (a := ⟨kb, 3, none⟩) (k1 kb hlt)).trans c3
  replace c4 := (World.cell?_of_block (a := ⟨kb, 4, none⟩) (k1 kb hlt)).trans c4
  obtain ⟨z, hz⟩ : ∃ z, w.heap.size = z := ⟨_, rfl⟩
  generalize (w.alloc (.cells #[.int .i64 0, .int .i64 0, .int .i64 0, .int .i64 0] 68)) = w1 at b1 g1 hb1 hlen1 c0 c1 c2 c3 c4 ⊢
  simp only [hz] at hlt b1 ⊢
  have z0 := b1.cell (i := 0) rfl
  have z1 := b1.cell (i := 1) rfl
  have z2 := b1.cell (i := 2) rfl
  have z3 := b1.cell (i := 3) rfl
  have zf := b1.frozen
  have hzl := b1.lt
  replace hz := Lib.hid hz
  replace g1 := Lib.hid g1
  replace b1 := Lib.hid b1
  have hne : kb ≠ z := by omega
  clear k1 s1 hb hlen
  go_wp2_with fail
  refine hb1.mono ?_
  rintro e w' ⟨rfl, hw⟩
  obtain rfl := hw.symm
  clear hb1 hw
  go_upto_region 4 with fail
  go_quiet (fail)
  have d0 : (w1.drewN nq).cell? ⟨kb, 0, none⟩ = _ := c0
  have d1 : (w1.drewN nq).cell? ⟨kb, 1, none⟩ = _ := c1
  have d2 : (w1.drewN nq).cell? ⟨kb, 2, none⟩ = _ := c2
  have y0 : (w1.drewN nq).cell? ⟨z, 0, none⟩ = _ := z0
  have y1 : (w1.drewN nq).cell? ⟨z, 1, none⟩ = _ := z1
  have y2 : (w1.drewN nq).cell? ⟨z, 2, none⟩ = _ := z2
  have y3 : (w1.drewN nq).cell? ⟨z, 3, none⟩ = _ := z3
  have yf : ∀ i, (w1.drewN nq).frozen? ⟨z, i, none⟩ = false := zf
  have b2 : Hid (Blk (w1.drewN nq) z _ _) := b1
  have g2 : Hid (w.grownBy (w1.drewN nq) none) := Lib.hid (grownBy_drewN g1.out nq)
  have y0f := yf 0
  have y1f := yf 1
  have y2f := yf 2
  have y3f := yf 3
  generalize w1.drewN nq = w2 at d0 d1 d2 y0 y1 y2 y3 y0f y1f y2f y3f b2 g2 ⊢
  clear c0 c1 c2 c3 c4 z0 z1 z2 z3 zf yf b1 g1 hlen1
  go_wp2_with fail
  go_region
  have b3 := (((b2.out.set 0 (.int .i64 (xk : Int))).set 1 (.int .i64 ((xd : Int) + (xl : Int)))).set 2 (.int .i64 (xn : Int))).set 3 (.int .i64 (xh : Int))
  have g3 := grownBy_drewN (grown_setNew (grown_setNew (grown_setNew (grown_setNew g2.out (Nat.le_of_eq hz.out) 0 (.int .i64 (xk : Int))) (Nat.le_of_eq hz.out) 1 (.int .i64 ((xd : Int) + (xl : Int)))) (Nat.le_of_eq hz.out) 2 (.int .i64 (xn : Int))) (Nat.le_of_eq hz.out) 3 (.int .i64 (xh : Int))) 1
  replace b3 : Blk (((((w2.setCell ⟨z, 0, none⟩ (.int .i64 (xk : Int))).setCell ⟨z, 1, none⟩ (.int .i64 ((xd : Int) + (xl : Int)))).setCell ⟨z, 2, none⟩ (.int .i64 (xn : Int))).setCell ⟨z, 3, none⟩ (.int .i64 (xh : Int))).drew) z _ _ := b3
  replace g3 : w.grownBy (((((w2.setCell ⟨z, 0, none⟩ (.int .i64 (xk : Int))).setCell ⟨z, 1, none⟩ (.int .i64 ((xd : Int) + (xl : Int)))).setCell ⟨z, 2, none⟩ (.int .i64 (xn : Int))).setCell ⟨z, 3, none⟩ (.int .i64 (xh : Int))).drew) none := g3
  generalize ((((w2.setCell ⟨z, 0, none⟩ (.int .i64 (xk : Int))).setCell ⟨z, 1, none⟩ (.int .i64 ((xd : Int) + (xl : Int)))).setCell ⟨z, 2, none⟩ (.int .i64 (xn : Int))).setCell ⟨z, 3, none⟩ (.int .i64 (xh : Int))).drew = w3 at b3 g3 ⊢
  have e0 := b3.cell (i := 0) rfl
  have e1 := b3.cell (i := 1) rfl
  have e2 := b3.cell (i := 2) rfl
  have e3 := b3.cell (i := 3) rfl
  go_wp2
  exact bodyPost_ret (v := .tuple #[.agg #[.int .i64 (xk : Int), .int .i64 ((xd : Int) + (xl : Int)), .int .i64 (xn : Int), .int .i64 (xh : Int)], .int .i64 0]) (by simp [results, Tryz.results27, go_sem, e0, e1, e2, e3]) rfl ⟨rfl, g3⟩
/-- One field of a node is set; its bytes and names stay. -/
theorem TreeR.set1 (h : TreeR w lab fb most room nds mb mem) (hF : ∀ g, F g ↔ lab g ≠ .free) {k : Int} {x y : Pn} (hx : look nds k = some x) (i : Nat) (v : Value) (hc : bodyC y (mem k) = (bodyC x (mem k)).set i v) (hd : y.data = x.data) (hn : y.nms = x.nms) :
    ∃ F', TreeF (w.setCell ⟨(mem k).blk, i, none⟩ v) F' fb most room (upd nds k y) ∧ Chg F F' w (w.setCell ⟨(mem k).blk, i, none⟩ v) := by
  have hN := h.nd k x hx
  have hu : usedN (upd nds k y) = usedN nds := by
    have := total_upd (f := fun x : Pn => x.data.length) h.apart hx y
    rw [hd] at this
    unfold usedN
    omega
  have ne : ∀ {g l}, lab g = l → l ≠ .body k → g ≠ (mem k).blk := fun {g l} hg hl e => by
    rw [e, hN.lb] at hg
    exact hl hg.symm
  refine h.step (S := fun g => g = (mem k).blk) (lab' := lab) (m' := mem k) hF hx (Chg.set (F := fun g => g = (mem k).blk) rfl i v) (fun g _ hg => .inr (by rw [hg, hN.lb]; exact rfl)) (fun _ _ => rfl) (fun g hg => h.new g (by simpa [World.setCell] using hg)) ?_ ?_ rfl (by rw [hu]; exact h.lim.2.2)
  · rw [hu]
    exact h.fs.other (ne h.lfs nofun) v
  · have hk : ∀ g l, lab g = l → l ≠ .body k → (w.setCell ⟨(mem k).blk, i, none⟩ v).heap[g]? = w.heap[g]? := fun g l hg hl => heap_setCell_other w _ g v (ne hg hl)
    exact {
      blk := by rw [hc]; exact hN.blk.set i v
      lb := hN.lb
      data := by rw [hd]; exact hN.data.keep fun g hg => hk g _ (hN.dl g hg) nofun
      dl := hN.dl
      few := by rw [hd]; exact hN.few
      nil := by rw [hn]; exact hN.nil
      nms := fun l hl => by
        rw [hn] at hl
        obtain ⟨nb, h1, h2, h3⟩ := hN.nms l hl
        exact ⟨nb, h1, h2, h3.keep (hk nb _ h2 nofun)⟩ }

set_option maxRecDepth 100000 in
theorem hold_some (h : TreeF w F fb most room nds) {k : Int} {x : Pn} (hx : look nds k = some x) (hh : x.holds ≤ 1000000) :
    Calls Tryz.prog 90 #[.pointer (some ⟨fb, 0, none⟩), .int .i64 k] w fun e w' => e = .returned (.int .i64 0) ∧ ∃ F', TreeF w' F' fb most room (upd nds k { x with holds := x.holds + 1 }) ∧ Chg F F' w w' := by
  obtain ⟨lab, mb, mem, h, hF⟩ := h
  have hb := body_some h hx
  have hN := h.nd k x hx
  have c2 := hN.blk.cell (show (bodyC x (mem k))[2]? = some _ from rfl)
  have hf := hN.blk.frozen 2
  have hlt := hN.blk.lt
  have hs := h.set1 hF hx 2 (.int .i64 ((x.holds + 1 : Nat) : Int)) (y := { x with holds := x.holds + 1 }) rfl rfl rfl
  generalize { x with holds := x.holds + 1 } = y at hs ⊢
  have e1 : ((x.holds + 1 : Nat) : Int) = (x.holds : Int) + 1 := by omega
  rw [e1] at hs
  generalize (mem k).blk = kb at hb c2 hf hlt hs
  generalize x.holds = xh at c2 hs hh
  replace hs := Lib.hid hs
  clear h hN hx hF e1
  go_enter Tryz.func90, Tryz.ntmps90
  go_wp2_with fail
  refine hb.mono ?_
  rintro e w' ⟨rfl, hw⟩
  obtain rfl := hw.symm
  clear hb hw
  go_wp2
  go_ret
  exact ⟨rfl, hs.out⟩
set_option maxRecDepth 100000 in
theorem sweep_stay (h : TreeF w F fb most room nds) {k : Int} {x : Pn} (hx : look nds k = some x) (hl : k = 1 ∨ 0 < x.named ∨ 0 < x.holds) :
    Calls Tryz.prog 125 #[.pointer (some ⟨fb, 0, none⟩), .int .i64 k] w fun e w' => e = .returned (.tuple #[]) ∧ w' = w := by
  obtain ⟨lab, mb, mem, h, hF⟩ := h
  have hfi := h.find_some hx
  have hN := h.nd k x hx
  have f0 := h.fs.cell (i := 0) rfl
  have c1 := hN.blk.cell (show (bodyC x (mem k))[1]? = some _ from rfl)
  have c2 := hN.blk.cell (show (bodyC x (mem k))[2]? = some _ from rfl)
  have hlt := hN.blk.lt
  have hfl := h.fs.lt
  generalize (mem k).blk = kb at hfi c1 c2 hlt
  generalize x.named = xn at c1 hl
  generalize x.holds = xh at c2 hl
  clear h hN hx hF
  by_cases h1 : k = 1
  · subst h1
    go_enter Tryz.func125, Tryz.ntmps125
    go_wp2
    exact bodyPost_ret (v := .tuple #[]) (by simp [results, Tryz.results125]) rfl ⟨rfl, rfl⟩
  · have e1 : (k == 1) = false := by simpa using h1
    by_cases h2 : 0 < xn
    · have e2 : (0 : Int) < (xn : Int) := by omega
      clear hl h1
      go_enter Tryz.func125, Tryz.ntmps125
      go_wp2
      exact bodyPost_ret (v := .tuple #[]) (by simp [results, Tryz.results125]) rfl ⟨rfl, rfl⟩
    · have e2 : ¬ (0 : Int) < (xn : Int) := by omega
      have e3 : (0 : Int) < (xh : Int) := by omega
      clear hl h1
      go_enter Tryz.func125, Tryz.ntmps125
      go_wp2
      exact bodyPost_ret (v := .tuple #[]) (by simp [results, Tryz.results125]) rfl ⟨rfl, rfl⟩
set_option maxRecDepth 100000 in
theorem drop_some (h : TreeF w F fb most room nds) {k : Int} {x : Pn} (hx : look nds k = some x) (hh : 0 < x.holds) (hm : x.holds ≤ 1000000) (hl : k = 1 ∨ 0 < x.named ∨ 1 < x.holds) :
    Calls Tryz.prog 151 #[.pointer (some ⟨fb, 0, none⟩), .int .i64 k] w fun e w' => e = .returned (.int .i64 0) ∧ ∃ F', TreeF w' F' fb most room (upd nds k { x with holds := x.holds - 1 }) ∧ Chg F F' w w' := by
  obtain ⟨lab, mb, mem, h, hF⟩ := h
  have hb := body_some h hx
  have hN := h.nd k x hx
  have c2 := hN.blk.cell (show (bodyC x (mem k))[2]? = some _ from rfl)
  have hf := hN.blk.frozen 2
  have hlt := hN.blk.lt
  obtain ⟨H, hH⟩ : ∃ H, x.holds = H + 1 := ⟨x.holds - 1, by omega⟩
  have hs := h.set1 hF hx 2 (.int .i64 ((x.holds - 1 : Nat) : Int)) (y := { x with holds := x.holds - 1 }) rfl rfl rfl
  obtain ⟨F', hT, hC⟩ := hs
  have hsw := sweep_stay hT (look_upd_same hx _) (by show k = 1 ∨ 0 < x.named ∨ 0 < x.holds - 1; omega)
  generalize { x with holds := x.holds - 1 } = y at hT hC ⊢
  have e1 : ((x.holds - 1 : Nat) : Int) = (H : Int) := by omega
  rw [e1] at hT hC hsw
  rw [hH] at c2 hm
  generalize (mem k).blk = kb at hb c2 hf hlt hT hC hsw
  have e2 : ((H : Int) + 1 == 0) = false := by simp; omega
  replace hT := Lib.hid hT
  replace hC := Lib.hid hC
  clear h hN hx hF e1 hl hh hH
  go_enter Tryz.func151, Tryz.ntmps151
  go_wp2_with fail
  refine hb.mono ?_
  rintro e w' ⟨rfl, hw⟩
  obtain rfl := hw.symm
  clear hb hw
  go_wp2_with fail
  refine hsw.mono ?_
  rintro e w' ⟨rfl, hw⟩
  obtain rfl := hw.symm
  clear hsw hw
  go_wp2
  go_ret
  exact ⟨rfl, F', hT.out, hC.out⟩
end
end Go.Proofs.YtglcfbefpnphaaaGreatDoor

namespace Go.Proofs.YtglcfbefpnphaaaGreatDoor
open Go Go.RowKit

theorem conv_row {w : World} {n : Nat} {v : Value} {l : List UInt8} (h : RowM w 5 v n (bc l)) : (convert 153 9 v).run Tryz.prog w = .ok (.string ⟨l.toArray⟩) w := by
  have hl := h.len
  rw [bc_len] at hl
  rcases h with ⟨rfl, rfl, he⟩ | ⟨g, off, cap, cur, rfl, h1, h2, h3, h4, h5⟩
  · have : l = [] := List.eq_nil_of_length_eq_zero hl
    subst this
    exact Lib.run_convert_nil_bytes w _ _ _ _ Tryz.underlying153 Tryz.underlying5 Tryz.underlying9
  · subst hl
    exact run_convert_bytes_back w 153 9 5 ⟨g, off, none⟩ cap l Tryz.underlying153 Tryz.underlying5 Tryz.underlying9 (fun j hj => by
      rw [add_plain0]
      refine RowM.cell (w := w) (e := 5) (n := l.length) (xs := bc l) (c := cap) (.inr ⟨g, off, cap, cur, rfl, h1, h2, h3, h4, h5⟩) ?_
      unfold bc
      rw [List.getElem?_map, List.getElem?_eq_getElem hj]
      rfl)
theorem conv_row_d {w : World} {n : Nat} {v : Value} {l : List UInt8} (h : RowM w 5 v n (bc l)) (k : Nat) : (convert 153 9 v).run Tryz.prog (w.drewN k) = .ok (.string ⟨l.toArray⟩) (w.drewN k) :=
  conv_row (w := w.drewN k) (n := n) (h.keep fun _ _ => rfl)

section
variable {w : World} {lab : Nat → TL} {F : Nat → Prop} {fb most room mb : Nat} {nds : Nds} {mem : Int → NM}

set_option maxHeartbeats 1000000 in
set_option maxRecDepth 100000 in
theorem read_some (h : TreeR w lab fb most room nds mb mem) {k : Int} {x : Pn} (hx : look nds k = some x) (hk : x.kind ≠ 1) (a n : Nat) (ha : a ≤ 1000000000) (hn : n ≤ 9223372036854775807) :
    Calls Tryz.prog 70 #[.pointer (some ⟨fb, 0, none⟩), .int .i64 k, .int .i64 (a : Int), .int .i64 (n : Int)] w fun e w' => e = .returned (.tuple #[.string ⟨((x.data.drop a).take n).toArray⟩, .int .i64 0]) ∧ ∃ m, w' = w.drewN m := by
  have hb := leaf_some h hx hk
  have hN := h.nd k x hx
  have c3 := hN.blk.cell (show (bodyC x (mem k))[3]? = some _ from rfl)
  have hlt := hN.blk.lt
  have hfew := hN.few
  obtain ⟨A, c, hdv, hc, hcm⟩ := hN.data.form
  have hD := hN.data
  rw [hdv] at hD c3
  generalize (mem k).blk = kb at hb c3 hlt
  obtain ⟨L, hL⟩ : ∃ L, x.data.length = L := ⟨_, rfl⟩
  rw [hL] at hD c3 hc hfew
  have hA0 : ¬ (a : Int) < 0 := by omega
  have hn0 : ¬ (n : Int) < 0 := by omega
  have hdl : ∀ q r : Nat, q = min a L → r = min n (L - q) → (x.data.drop q).take r = (x.data.drop a).take n := fun q r hq hr => by
    by_cases h : a ≤ L
    · obtain rfl : q = a := by omega
      by_cases h2 : n ≤ L - q
      · rw [show r = n by omega]
      · rw [List.take_of_length_le (by rw [List.length_drop]; omega), List.take_of_length_le (by rw [List.length_drop]; omega)]
    · rw [List.drop_eq_nil_of_le (by omega), List.drop_eq_nil_of_le (by omega)]; simp
  have hcv : ∀ q r : Nat, q = min a L → r = min n (L - q) → ∀ k : Nat, (convert 153 9 (.slice (if c = q then A else A.map (·.add q)) r (c - q))).run Tryz.prog (w.drewN k) = .ok (.string ⟨((x.data.drop a).take n).toArray⟩) (w.drewN k) := fun q r hq hr => by
    have hT := (hD.tail q (by omega)).head r (by omega)
    have e1 : (bc x.data).drop q = bc (x.data.drop q) := by unfold bc; rw [List.map_drop]
    have e2 : (bc (x.data.drop q)).take r = bc ((x.data.drop q).take r) := by unfold bc; rw [List.map_take]
    rw [e1, e2, hdl q r hq hr] at hT
    exact conv_row_d hT
  have hAs : 0 < c → ∃ g off, A = some ⟨g, off, none⟩ := fun hc0 => hD.formA hc0
  clear h hN hx hD hdv hk hdl hL
  unfold maxLen at hcm
  generalize ((x.data.drop a).take n).toArray = res at hcv ⊢
  by_cases h1 : L < a
  · have hcw := hcv L 0 (by omega) (by omega)
    clear hcv
    by_cases h2 : c = L
    · rw [if_pos h2] at hcw
      obtain rfl := h2
      simp only [Nat.sub_self] at hcw
      clear hAs
      by_cases h3 : n = 0
      · subst h3
        clear hn
        go_enter Tryz.func70, Tryz.ntmps70
        go_wp2_with fail
        refine hb.mono ?_
        rintro e w' ⟨rfl, hw⟩
        obtain rfl := hw.symm
        clear hb hw
        go_upto_region 6 with fail
        go_quiet (fail)
        go_wp2
        go_ret2
        exact ⟨rfl, _, rfl⟩
      · have h4 : 0 < n := by omega
        clear h3
        go_enter Tryz.func70, Tryz.ntmps70
        go_wp2_with fail
        refine hb.mono ?_
        rintro e w' ⟨rfl, hw⟩
        obtain rfl := hw.symm
        clear hb hw
        go_upto_region 6 with fail
        go_quiet (fail)
        go_wp2
        go_ret2
        exact ⟨rfl, _, rfl⟩
    · rw [if_neg h2] at hcw
      have h5 : L < c := by omega
      obtain ⟨g, off, rfl⟩ := hAs (by omega)
      clear hAs
      simp only [Option.map_some, add_plain0] at hcw
      by_cases h3 : n = 0
      · subst h3
        clear hn
        go_enter Tryz.func70, Tryz.ntmps70
        go_wp2_with fail
        refine hb.mono ?_
        rintro e w' ⟨rfl, hw⟩
        obtain rfl := hw.symm
        clear hb hw
        go_upto_region 6 with fail
        go_quiet (fail)
        go_wp2
        go_ret2
        exact ⟨rfl, _, rfl⟩
      · have h4 : 0 < n := by omega
        clear h3
        go_enter Tryz.func70, Tryz.ntmps70
        go_wp2_with fail
        refine hb.mono ?_
        rintro e w' ⟨rfl, hw⟩
        obtain rfl := hw.symm
        clear hb hw
        go_upto_region 6 with fail
        go_quiet (fail)
        go_wp2
        go_ret2
        exact ⟨rfl, _, rfl⟩
  · by_cases h3 : L - a < n
    · have hcw := hcv a (L - a) (by omega) (by omega)
      clear hcv
      by_cases h2 : c = a
      · rw [if_pos h2] at hcw
        have h6 : a = L := by omega
        subst h6
        subst h2
        simp only [Nat.sub_self] at hcw h3
        clear hAs
        go_enter Tryz.func70, Tryz.ntmps70
        go_wp2_with fail
        refine hb.mono ?_
        rintro e w' ⟨rfl, hw⟩
        obtain rfl := hw.symm
        clear hb hw
        go_upto_region 6 with fail
        go_quiet (fail)
        go_wp2
        go_ret2
        exact ⟨rfl, _, rfl⟩
      · rw [if_neg h2] at hcw
        have h5 : a < c := by omega
        obtain ⟨g, off, rfl⟩ := hAs (by omega)
        clear hAs
        simp only [Option.map_some, add_plain0] at hcw
        go_enter Tryz.func70, Tryz.ntmps70
        go_wp2_with fail
        refine hb.mono ?_
        rintro e w' ⟨rfl, hw⟩
        obtain rfl := hw.symm
        clear hb hw
        go_upto_region 6 with fail
        go_quiet (fail)
        go_wp2
        go_ret2
        exact ⟨rfl, _, rfl⟩
    · have hcw := hcv a n (by omega) (by omega)
      clear hcv
      have h7 : n ≤ L - a := by omega
      by_cases h2 : c = a
      · rw [if_pos h2] at hcw
        have h6 : a = L := by omega
        subst h6
        subst h2
        have h8 : n = 0 := by omega
        subst h8
        try simp only [Nat.sub_self] at hcw
        clear hAs h7 h3 hn
        go_enter Tryz.func70, Tryz.ntmps70
        go_wp2_with fail
        refine hb.mono ?_
        rintro e w' ⟨rfl, hw⟩
        obtain rfl := hw.symm
        clear hb hw
        go_upto_region 6 with fail
        go_quiet (fail)
        go_wp2
        go_ret2
        exact ⟨rfl, _, rfl⟩
      · rw [if_neg h2] at hcw
        have h5 : a < c := by omega
        obtain ⟨g, off, rfl⟩ := hAs (by omega)
        clear hAs
        simp only [Option.map_some, add_plain0] at hcw
        go_enter Tryz.func70, Tryz.ntmps70
        go_wp2_with fail
        refine hb.mono ?_
        rintro e w' ⟨rfl, hw⟩
        obtain rfl := hw.symm
        clear hb hw
        go_upto_region 6 with fail
        go_quiet (fail)
        go_wp2
        go_ret2
        exact ⟨rfl, _, rfl⟩
end
end Go.Proofs.YtglcfbefpnphaaaGreatDoor
/-
  Write of a tree's file: the bytes from a place on are the data's; bytes 0 between its end and the place. Conditions: places and data of fewer than a thousand million bytes.
-/
namespace Go.Proofs.YtglcfbefpnphaaaGreatDoor
open Go Go.RowKit

/-- What a file has behind a Write. -/
def putB (d : List UInt8) (a : Nat) (s : List UInt8) : List UInt8 := (d ++ List.replicate (a + s.length - d.length) 0).take a ++ s ++ (d ++ List.replicate (a + s.length - d.length) 0).drop (a + s.length)
theorem putB_len {d : List UInt8} {a : Nat} {s : List UInt8} : (putB d a s).length = max d.length (a + s.length) := by
  unfold putB
  simp only [List.length_append, List.length_take, List.length_drop, List.length_replicate]
  omega
theorem bc_rep (k : Nat) : List.replicate k (Value.int .u8 0) = bc (List.replicate k 0) := by
  unfold bc
  rw [List.map_replicate]
  rfl
theorem row_part {w : World} {n : Nat} {v : Value} {l : List UInt8} {a : Nat} {s : ByteArray} (h : RowM w 5 v n ((bc l).take a ++ byteCells s ++ (bc l).drop (a + s.size))) : RowM w 5 v n (bc (l.take a ++ tl s ++ l.drop (a + (tl s).length))) := by
  rw [bc_str] at h
  have e : bc (l.take a ++ tl s ++ l.drop (a + (tl s).length)) = (bc l).take a ++ bc (tl s) ++ (bc l).drop (a + s.size) := by
    unfold bc
    rw [List.map_append, List.map_append, List.map_take, List.map_drop, tl_len]
  rw [e]
  exact h

section
variable {w : World} {lab : Nat → TL} {F : Nat → Prop} {fb most room mb : Nat} {nds : Nds} {mem : Int → NM}

set_option maxHeartbeats 1000000 in
set_option maxRecDepth 100000 in
theorem write_empty (h : TreeR w lab fb most room nds mb mem) {k : Int} {x : Pn} (hx : look nds k = some x) (hk : x.kind = 2) (a : Nat) (s : ByteArray) (ha : a ≤ 4096) (hs : s.size = 0) :
    Calls Tryz.prog 267 #[.pointer (some ⟨fb, 0, none⟩), .int .i64 k, .int .i64 (a : Int), .string s] w fun e w' => e = .returned (.int .i64 0) ∧ w' = w := by
  have hl := leaf_some h hx (by omega)
  have hN := h.nd k x hx
  have c0 := hN.blk.cell (show (bodyC x (mem k))[0]? = some _ from rfl)
  rw [hk] at c0
  have hlt := hN.blk.lt
  generalize (mem k).blk = kb at hl c0 hlt
  have e1 : ¬ (a : Int) < 0 := by omega
  have e2 : ¬ (4096 : Int) - (a : Int) < (0 : Int) := by omega
  have e3 : s.toList.isEmpty = true := by rw [tl_emp]; simp [hs]
  clear h hN hx hk
  go_enter Tryz.func267, Tryz.ntmps267
  go_wp2_with fail
  refine hl.mono ?_
  rintro e w' ⟨rfl, hw⟩
  obtain rfl := hw.symm
  clear hl hw
  go_wp2
  go_ret
  exact ⟨rfl, rfl⟩
/-- The data of a node is a row in a block of its own, behind a step. -/
theorem TreeR.data_step {S S' : Nat → Prop} {w' : World} {k : Int} {x : Pn} {dv : Value} {d : List UInt8} (h : TreeR w lab fb most room nds mb mem) (hF : ∀ g, F g ↔ lab g ≠ .free) (hx : look nds k = some x) (c : Chg S S' w w')
    (hS : ∀ g, g < w.heap.size → S g → lab g = .fs ∨ lab g = .body k ∨ lab g = .data k)
    (hfs : Blk w' fb [.map (some mb), .int .i64 (most : Int), .int .i64 (room : Int), .int .i64 ((usedN nds + d.length - x.data.length : Nat) : Int)] 176)
    (hb : Blk w' (mem k).blk (bodyC { x with data := d } { mem k with dv := dv }) 156) (hd : RowM w' 5 dv d.length (bc d)) (ho : ∀ g, dv.ownBlock = some g → lab g = .data k ∨ w.heap.size ≤ g) (h4 : d.length ≤ 4096) (hu : usedN nds + d.length ≤ room + x.data.length) :
    ∃ F', TreeF w' F' fb most room (upd nds k { x with data := d }) ∧ Chg F F' w w' := by
  have hN := h.nd k x hx
  have htot := total_upd (f := fun x : Pn => x.data.length) h.apart hx { x with data := d }
  have hut : usedN (upd nds k { x with data := d }) = usedN nds + d.length - x.data.length := by
    unfold usedN
    simp only at htot
    omega
  have hsame : ∀ g l, lab g = l → l ≠ .fs → l ≠ .body k → l ≠ .data k → g < w.heap.size → w'.heap[g]? = w.heap[g]? := fun g l hg h1 h2 h3 hlt => c.block g hlt fun hs => by
    rcases hS g hlt hs with h | h | h
    · exact h1 (hg.symm.trans h)
    · exact h2 (hg.symm.trans h)
    · exact h3 (hg.symm.trans h)
  refine h.step (lab' := fun g => if w.heap.size ≤ g ∧ dv.ownBlock = some g then .data k else lab g) (m' := { mem k with dv := dv }) hF hx c (fun g hg hs => ?_) (fun g hg => if_neg (fun h => by omega)) (fun g hg => ?_) (by rw [hut]; exact hfs) ?_ rfl (by rw [hut]; omega)
  · rcases hS g hg hs with h | h | h
    · exact .inl h
    · exact .inr (by rw [h]; exact rfl)
    · exact .inr (by rw [h]; exact rfl)
  · rw [if_neg (fun h => by have := hd.lt h.2; omega)]
    exact h.new g (Nat.le_trans c.size hg)
  · exact {
      blk := hb
      lb := (if_neg (fun hh => by have := hN.blk.lt; have := hh.1; simp only at this; omega)).trans hN.lb
      data := hd
      dl := fun g hg => by
        by_cases hgw : w.heap.size ≤ g
        · exact if_pos ⟨hgw, hg⟩
        · rw [if_neg (fun hh => hgw hh.1)]
          exact (ho g hg).resolve_right hgw
      few := h4
      nil := hN.nil
      nms := fun l hl => by
        obtain ⟨nb, h1, h2, h3⟩ := hN.nms l hl
        exact ⟨nb, h1, (if_neg (fun hh => by have := h3.lt; omega)).trans h2, h3.keep (hsame nb _ h2 nofun nofun nofun h3.lt)⟩ }

set_option maxHeartbeats 1000000 in
set_option maxRecDepth 100000 in
theorem write_fit (h : TreeF w F fb most room nds) {k : Int} {x : Pn} (hx : look nds k = some x) (hk : x.kind = 2) (a : Nat) (s : ByteArray) (hs : 0 < s.size) (hm : a + s.size ≤ x.data.length) :
    Calls Tryz.prog 267 #[.pointer (some ⟨fb, 0, none⟩), .int .i64 k, .int .i64 (a : Int), .string s] w fun e w' => e = .returned (.int .i64 0) ∧ ∃ F', TreeF w' F' fb most room (upd nds k { x with data := putB x.data a (tl s) }) ∧ Chg F F' w w' := by
  obtain ⟨lab, mb, mem, h, hF⟩ := h
  have hl := leaf_some h hx (by omega)
  have hN := h.nd k x hx
  have c0 := hN.blk.cell (show (bodyC x (mem k))[0]? = some _ from rfl)
  have c3 := hN.blk.cell (show (bodyC x (mem k))[3]? = some _ from rfl)
  rw [hk] at c0
  have hfew := hN.few
  obtain ⟨g, off, c, hdv, hc, hcm⟩ := hN.data.form1 (by omega)
  rw [hdv] at c3
  have hlt := hN.blk.lt
  have hD := hN.data
  rw [hdv] at hD
  obtain ⟨w2, hrun, hD2, m2⟩ := run_copy_part (P := Tryz.prog) w 153 9 3 5 Tryz.underlying153 (by kernel_rfl) g off _ c a _ hD s hm (c - a)
  replace hD2 := row_part hD2
  have hgl : lab g = .data k := hN.dl g (by rw [hdv]; rfl)
  have hgt := hN.data.lt (by rw [hdv]; rfl : (mem k).dv.ownBlock = some g)
  have htl := tl_len s
  have hput : putB x.data a (tl s) = x.data.take a ++ tl s ++ x.data.drop (a + (tl s).length) := by
    unfold putB
    rw [show a + (tl s).length - x.data.length = 0 by omega, List.replicate_zero, List.append_nil]
  have hlen : (putB x.data a (tl s)).length = x.data.length := by rw [putB_len]; omega
  rw [← hput] at hD2
  have hdone := h.data_step (S := fun b => b = g) (dv := .slice (some ⟨g, off, none⟩) x.data.length c) (d := putB x.data a (tl s)) hF hx m2 (fun b _ hb => .inr (.inr (by rw [hb]; exact hgl)))
    (by rw [show usedN nds + (putB x.data a (tl s)).length - x.data.length = usedN nds by omega]; exact h.fs.chg m2 (fun e => by rw [← e, h.lfs] at hgl; cases hgl))
    (by
      have : bodyC { x with data := putB x.data a (tl s) } { mem k with dv := .slice (some ⟨g, off, none⟩) x.data.length c } = bodyC x (mem k) := by unfold bodyC; rw [hdv]
      rw [this]
      exact hN.blk.chg m2 (fun e => by rw [← e, hN.lb] at hgl; cases hgl))
    (by rw [hlen]; exact hD2) (fun b hb => by cases hb; exact .inl hgl) (by omega) (by have := h.lim.2.2; omega)
  obtain ⟨L, hL⟩ : ∃ L, x.data.length = L := ⟨_, rfl⟩
  rw [hL] at c3 hm hc hrun hfew
  generalize { x with data := putB x.data a (tl s) } = y at hdone ⊢
  generalize (mem k).blk = kb at hl c0 c3 hlt
  have e1 : ¬ (a : Int) < 0 := by omega
  have e2 : ¬ (4096 : Int) - (a : Int) < (s.size : Int) := by omega
  have e3 : s.toList.isEmpty = false := by rw [tl_emp]; exact decide_eq_false (by omega)
  have e4 : ¬ (0 : Int) < (a : Int) + (s.size : Int) - (L : Int) := by omega
  have e5 : a < c := by omega
  have e6 : (a : Int) ≤ (L : Int) := by omega
  have e7 : ¬ c = a := by omega
  have e8 : (0 : Int) ≤ (a : Int) := by omega
  have e9 : (L : Int) ≤ (c : Int) := by omega
  unfold maxLen at hcm
  replace hdone := Lib.hid hdone
  clear h hN hx hk hL hdv hD hD2 m2 hput hlen hgl hgt htl hF
  go_enter Tryz.func267, Tryz.ntmps267
  go_wp2_with fail
  refine hl.mono ?_
  rintro e w' ⟨rfl, hw⟩
  obtain rfl := hw.symm
  clear hl hw
  go_wp2
  go_ret
  exact ⟨rfl, hdone.out⟩
set_option maxHeartbeats 1000000 in
set_option maxRecDepth 100000 in
theorem write_more (h : TreeF w F fb most room nds) {k : Int} {x : Pn} (hx : look nds k = some x) (hk : x.kind = 2) (a : Nat) (s : ByteArray) (hs : 0 < s.size) (ha : a + s.size ≤ 4096) (hm : x.data.length < a + s.size) (hr : usedN nds + (a + s.size - x.data.length) ≤ room) :
    Calls Tryz.prog 267 #[.pointer (some ⟨fb, 0, none⟩), .int .i64 k, .int .i64 (a : Int), .string s] w fun e w' => e = .returned (.int .i64 0) ∧ ∃ F', TreeF w' F' fb most room (upd nds k { x with data := putB x.data a (tl s) }) ∧ Chg F F' w w' := by
  obtain ⟨lab, mb, mem, h, hF⟩ := h
  have hl := leaf_some h hx (by omega)
  have hN := h.nd k x hx
  have c0 := hN.blk.cell (show (bodyC x (mem k))[0]? = some _ from rfl)
  have c3 := hN.blk.cell (show (bodyC x (mem k))[3]? = some _ from rfl)
  have f2 := h.fs.cell (i := 2) rfl
  have f3 := h.fs.cell (i := 3) rfl
  rw [hk] at c0
  have hfew := hN.few
  have hlim := h.lim
  have hlt := hN.blk.lt
  have hfl := h.fs.lt
  have htl := tl_len s
  obtain ⟨i0, hi, hz0, hz1, hz2⟩ := info_parts infoU8
  obtain ⟨D, hD⟩ : ∃ D : Nat, D = a + s.size - x.data.length := ⟨_, rfl⟩
  -- the world behind the region that draws, whatever was drawn
  have hall : ∀ w0 : World, (∃ n, w0 = w.drewN n) → ∃ v1 w1 w4, (Builtin.append_ #[153, 3] 153 #[(mem k).dv, .int .i64 (D : Int)]).run Tryz.prog w0 = .ok v1 w1 ∧
      (∃ g off c, v1 = .slice (some ⟨g, off, none⟩) (a + s.size) c ∧ a + s.size ≤ c ∧ c ≤ maxLen ∧
        (Builtin.copy_ #[153, 9] 3 #[.slice (some ⟨g, off + a, none⟩) (a + s.size - a) (c - a), .string s]).run Tryz.prog ((w1.setCell ⟨(mem k).blk, 3, none⟩ v1).setCell ⟨fb, 3, none⟩ (.int .i64 ((usedN nds : Int) + (D : Int)))) = .ok (.int .i64 (s.size : Int)) w4) ∧
      w1.cell? ⟨(mem k).blk, 3, none⟩ = some (mem k).dv ∧ w1.frozen? ⟨(mem k).blk, 3, none⟩ = false ∧ w1.cell? ⟨fb, 3, none⟩ = some (.int .i64 (usedN nds : Int)) ∧ w1.frozen? ⟨fb, 3, none⟩ = false ∧ (mem k).blk ≠ fb ∧ (mem k).blk < w1.heap.size ∧ fb < w1.heap.size ∧
      ∃ F', TreeF w4 F' fb most room (upd nds k { x with data := putB x.data a (tl s) }) ∧ Chg F F' w w4 := by
    rintro w0 ⟨n, rfl⟩
    have hd0 : RowM (w.drewN n) 5 (mem k).dv x.data.length (bc x.data) := hN.data.keep fun _ _ => rfl
    have hbl0 : Blk (w.drewN n) (mem k).blk (bodyC x (mem k)) 156 := hN.blk
    have hfs0 : Blk (w.drewN n) fb [.map (some mb), .int .i64 (most : Int), .int .i64 (room : Int), .int .i64 (usedN nds : Int)] 176 := h.fs
    obtain ⟨v1, w1, hrun, hd1, m1, ho1⟩ := run_append_more (P := Tryz.prog) (w.drewN n) 153 3 153 5 i0 .i64 Tryz.underlying153 Tryz.underlying3 hi hz0 hz1 hz2 (mem k).dv _ _ hd0 .i64 D (by omega) (by omega)
    have hown : ∀ b, (mem k).dv.ownBlock = some b → lab b = .data k := hN.dl
    have hb1 := hbl0.chg m1 (fun e => by have := hown _ e; rw [hN.lb] at this; cases this)
    have hf1 := hfs0.chg m1 (fun e => by have := hown _ e; rw [h.lfs] at this; cases this)
    have hne : (mem k).blk ≠ fb := fun e => by have := hN.lb; rw [e, h.lfs] at this; cases this
    rw [bc_rep, ← bc_app, show x.data.length + D = a + s.size by omega] at hd1
    have hg1 : ∀ b, v1.ownBlock = some b → b ≠ (mem k).blk ∧ b ≠ fb := fun b hb => by
      rcases ho1 with h1 | h1
      · rw [h1] at hb
        have := hown b hb
        exact ⟨fun e => by (rw [e, hN.lb] at this; cases this), fun e => by (rw [e, h.lfs] at this; cases this)⟩
      · rw [h1] at hb
        cases hb
        exact ⟨fun e => by have := hN.blk.lt; have e : w.heap.size = (mem k).blk := e; omega, fun e => by have := h.fs.lt; have e : w.heap.size = fb := e; omega⟩
    have hb2 := (hb1.set 3 v1).other (a := ⟨fb, 3, none⟩) hne (.int .i64 ((usedN nds : Int) + (D : Int)))
    have hf2 := (hf1.other (a := ⟨(mem k).blk, 3, none⟩) hne.symm v1).set 3 (.int .i64 ((usedN nds : Int) + (D : Int)))
    have hd2 : RowM ((w1.setCell ⟨(mem k).blk, 3, none⟩ v1).setCell ⟨fb, 3, none⟩ (.int .i64 ((usedN nds : Int) + (D : Int)))) 5 v1 (a + s.size) (bc (x.data ++ List.replicate D 0)) :=
      hd1.keep fun g hg => (heap_setCell_other _ _ g _ (hg1 g hg).2).trans (heap_setCell_other _ _ g _ (hg1 g hg).1)
    have s1 : Chg (fun b => (mem k).dv.ownBlock = some b ∨ b = (mem k).blk ∨ b = fb) (fun b => (mem k).dv.ownBlock = some b ∨ b = (mem k).blk ∨ b = fb) w w1 := ((Chg.drewN _ w n).trans m1).mono (fun b hb => .inl hb) (fun b _ hb => .inr hb)
    have s2 := (s1.trans (Chg.set (b := (mem k).blk) (.inr (.inl rfl)) 3 v1)).trans (Chg.set (b := fb) (.inr (.inr rfl)) 3 (.int .i64 ((usedN nds : Int) + (D : Int))))
    obtain ⟨g, off, c, rfl, hc, hcm⟩ := hd1.form1 (by omega)
    obtain ⟨w4, hcopy, hd4, m4⟩ := run_copy_part (P := Tryz.prog) _ 153 9 3 5 Tryz.underlying153 (by kernel_rfl) g off _ c a _ hd2 s (by omega) (c - a)
    replace hd4 := row_part hd4
    have hput : putB x.data a (tl s) = (x.data ++ List.replicate D 0).take a ++ tl s ++ (x.data ++ List.replicate D 0).drop (a + (tl s).length) := by
      unfold putB
      rw [htl, hD]
    rw [← hput] at hd4
    have hlen : (putB x.data a (tl s)).length = a + s.size := by rw [putB_len, htl]; omega
    have hgg := hg1 g rfl
    refine ⟨_, w1, w4, hrun, ⟨g, off, c, rfl, hc, hcm, hcopy⟩, hb1.cell (show (bodyC x (mem k))[3]? = some _ from rfl), hb1.frozen 3, hf1.cell (i := 3) rfl, hf1.frozen 3, hne, hb1.lt, hf1.lt, ?_⟩
    refine h.data_step (S := fun b => ((mem k).dv.ownBlock = some b ∨ b = (mem k).blk ∨ b = fb) ∨ b = g) (dv := .slice (some ⟨g, off, none⟩) (a + s.size) c) (d := putB x.data a (tl s)) hF hx ((s2.wide (fun b => b = g)).trans (m4.mono (fun b hb => .inr hb) (fun b _ hb => .inr hb)))
      (fun b hb hS => ?_) ?_ ?_ (by rw [hlen]; exact hd4) (fun b hb => ?_) (by omega) (by omega)
    · rcases hS with (h1 | h1 | h1) | h1
      · exact .inr (.inr (hown b h1))
      · exact .inr (.inl (by rw [h1]; exact hN.lb))
      · exact .inl (by rw [h1]; exact h.lfs)
      · rcases ho1 with h2 | h2
        · exact .inr (.inr (hown b (by rw [← h2, h1]; rfl)))
        · have e : g = w.heap.size := by cases h2; rfl
          omega
    · have := hf2.chg m4 (fun e => hgg.2 e.symm)
      rw [show ((usedN nds + (putB x.data a (tl s)).length - x.data.length : Nat) : Int) = (usedN nds : Int) + (D : Int) by omega]
      exact this
    · exact hb2.chg m4 (fun e => hgg.1 e.symm)
    · rcases ho1 with h2 | h2
      · exact .inl (hown b (by rw [← h2]; exact hb))
      · right
        rw [h2] at hb
        cases hb
        exact Nat.le_refl _
  obtain ⟨A, c, hdv, hc, hcm⟩ := hN.data.form
  rw [hdv] at c3 hall
  obtain ⟨U, hU⟩ : ∃ U, usedN nds = U := ⟨_, rfl⟩
  obtain ⟨L, hL⟩ : ∃ L, x.data.length = L := ⟨_, rfl⟩
  rw [hU] at f3 hr hlim hall
  rw [hL] at c3 hm hr hc hD hall
  generalize { x with data := putB x.data a (tl s) } = y at hall ⊢
  generalize (mem k).blk = kb at hl c0 c3 hlt hall
  have e1 : ¬ (a : Int) < 0 := by omega
  have e2 : ¬ (4096 : Int) - (a : Int) < (s.size : Int) := by omega
  have e3 : s.toList.isEmpty = false := by rw [tl_emp]; exact decide_eq_false (by omega)
  have e0 : (a : Int) + (s.size : Int) - (L : Int) = (D : Int) := by omega
  have e4 : (0 : Int) < (D : Int) := by omega
  have e5 : ¬ (room : Int) - (U : Int) < (D : Int) := by omega
  have e6 : IntKind.i64.wrap ((room : Int) - (U : Int)) = (room : Int) - (U : Int) := by rw [IntKind.wrap_i64]; omega
  replace hall := Lib.hid hall
  clear h hN hx hk hU hL hdv hF hi hz0 hz1 hz2 htl hD
  go_enter Tryz.func267, Tryz.ntmps267
  go_wp2_with fail
  refine hl.mono ?_
  rintro e w' ⟨rfl, hw⟩
  obtain rfl := hw.symm
  clear hl hw
  go_upto_region 12 with fail
  go_quiet (fail)
  go_upto_region 14 with fail
  obtain ⟨v1, w1, w4, hrun, ⟨g, off, c', rfl, hc', hcm', hcopy⟩, d3, z3, k3, y3, hne, i5, i6, hdone⟩ := hall.out (w.drewN nq) ⟨nq, rfl⟩
  have hca : a < c' := by omega
  have i1 : (a : Int) ≤ ((a + s.size : Nat) : Int) := by omega
  have i2 : ((a + s.size : Nat) : Int) ≤ (c' : Int) := by omega
  have i3 : (0 : Int) ≤ (a : Int) := by omega
  have i4 : ¬ c' = a := by omega
  unfold maxLen at hcm'
  have hdone := Lib.hid hdone
  clear hall
  rw [Nat.add_sub_cancel_left] at hcopy
  replace hrun := Lib.hid hrun
  go_wp2_with (at_builtin; refine wpList_append_of rfl _ _ 153 3 rfl _ _ _ w1 rfl rfl hrun.out ?_)
  go_wp2
  go_ret
  exact ⟨rfl, hdone.out⟩
end
end Go.Proofs.YtglcfbefpnphaaaGreatDoor
