/-
  A part. Conditions: each theorem's own.
-/
import Derived.StillTailTactics
import Derived.Lib.AtoiErrMem
import Derived.Test.YtfofpphnglhopaaGreatDoorZb6
import Derived.Test.YtfofpphnglhopaaGreatDoorZb13
set_option maxHeartbeats 8000000
set_option maxRecDepth 100000
namespace Go.Proofs.YtfofpphnglhopaaGreatDoor
open Go Go.RowKit Go.ChangeMaps
section
variable {B pb lb most nest : Nat} {F : Nat → Prop} {w : World} {c : Sy} {s : St} {ps : List Pt} {ns : List (Nat × Pt)} {mk : List Nat}
structure PrS (w : World) (B : Nat) (F : Nat → Prop) (c : Sy) (pb lb : Nat) (s : St) (ps : List Pt) : Prop where
  sys : Sys w F c s
  prc : Blk w pb (procC c.fb c.tb lb ps) 126
  npb : ¬ F pb
  len : ps.length = 18
  nl : ∀ g, F g → ¬ LogB w g
  hF : ∀ g, F g → B ≤ g
  hpb : B ≤ pb
  hB : B ≤ w.heap.size
theorem PrR.less (h : PrR w B F c pb lb most nest s ps ns mk) : PrS w B F c pb lb s ps := ⟨h.sys, h.prc, h.npb, h.len, h.nl, h.hF, h.hpb, h.hB⟩
theorem PrS.set1 {i : Nat} {u : Value} {ps' : List Pt} (h : PrS w B F c pb lb s ps) (hC : (procC c.fb c.tb lb ps).set i u = procC c.fb c.tb lb ps') (hlen : ps'.length = 18) : PrS (w.setCell ⟨pb, i, none⟩ u) B F c pb lb s ps' := by
  have hp : PCh B F F pb w (w.setCell ⟨pb, i, none⟩ u) := PCh.set B F w h.hpb i u
  have hkeep : ∀ b, b ≠ pb → (w.setCell ⟨pb, i, none⟩ u).heap[b]? = w.heap[b]? := fun b hb => heap_setCell_other w _ b u hb
  have hne : ∀ g, F g → g ≠ pb := fun g hg e => h.npb (e ▸ hg)
  exact ⟨h.sys.keep hp.size fun g hg => hkeep g (hne g hg), by rw [← hC]; exact h.prc.set i u, h.npb, hlen, fun g hg => by rw [logB_congr (hkeep g (hne g hg))]; exact h.nl g hg, h.hF, h.hpb, Nat.le_trans h.hB hp.size⟩
theorem back_fd {i : Nat} {p q : Pt} {bx bw bf : Nat} (h : PrS w B F c pb lb s ps) (hi : i < 16) (hp : ps[i]? = some p) (hx : Kq w F pb bx [partP pb i] 128) (hw : Kq w F pb bw (partC q) 123) (hf : Kq w F pb bf [freeV pb i] 129) (R : World → Prop)
    (hfree : ∀ w1, PrS w1 B F c pb lb s (ps.set i q) → PCh B F F pb w w1 → KeepL w w1 → Calls Tryz.prog 84 #[ptrV pb, .int .i64 p.v] w1 fun e w' => e = .returned (.tuple #[]) ∧ R w') :
    Calls Tryz.prog 130 #[ptrV bx, ptrV bw, ptrV bf] w fun e w' => e = .returned (.tuple #[]) ∧ R w' := by
  rw [show freeV pb i = .func (.func 84) #[.pointer (some ⟨pb, 0, none⟩)] #[] by unfold freeV; rw [if_pos hi]; rfl] at hf
  replace hi := Lib.hid hi
  obtain ⟨pv, pn⟩ := p
  obtain ⟨qv, qn⟩ := q
  have hcv := h.prc.cell (procC_v (fb := c.fb) (tb := c.tb) (lb := lb) hp)
  have hcn := h.prc.cell (procC_n (fb := c.fb) (tb := c.tb) (lb := lb) hp)
  have fv := h.prc.frozen (3 + i * 2)
  have fn := h.prc.frozen (3 + i * 2 + 1)
  have hpl := h.prc.lt
  have x0 : w.cell? ⟨bx, 0, none⟩ = some (.pointer (some ⟨pb, 3 + i * 2, none⟩)) := hx.1.cell (i := 0) rfl
  have w0 : w.cell? ⟨bw, 0, none⟩ = some (.int .i64 qv) := hw.1.cell (i := 0) rfl
  have w1 : w.cell? ⟨bw, 1, none⟩ = some (.int .i64 (qn : Int)) := hw.1.cell (i := 1) rfl
  have f0 := hf.1.cell (i := 0) rfl
  have hxl := hx.1.lt
  have hwl := hw.1.lt
  have hfl := hf.1.lt
  have hfp := hf.2.2.1
  have h1 := h.set1 (procC_setv hp qv) (by rw [List.length_set]; exact h.len)
  have h2 := h1.set1 (procC_setn hp qv qn) (by rw [List.length_set]; exact h.len)
  have k2 := (PCh.set B F w h.hpb (3 + i * 2) (.int .i64 qv)).trans (PCh.set B F _ h.hpb (3 + i * 2 + 1) (.int .i64 (qn : Int)))
  have kl : KeepL w ((w.setCell ⟨pb, 3 + i * 2, none⟩ (.int .i64 qv)).setCell ⟨pb, 3 + i * 2 + 1, none⟩ (.int .i64 (qn : Int))) := ⟨k2.size, fun b cur t f hb ht => by
    have hne : b ≠ pb := fun e => by subst e; exact h.prc.noLog nl_proc ⟨cur, t, f, hb, ht⟩
    exact (heap_setCell_other _ _ b _ hne).trans (heap_setCell_other _ _ b _ hne)⟩
  have hcall := hfree _ h2 k2 kl
  have f1 : ((w.setCell ⟨pb, 3 + i * 2, none⟩ (.int .i64 qv)).setCell ⟨pb, 3 + i * 2 + 1, none⟩ (.int .i64 (qn : Int))).cell? ⟨bf, 0, none⟩ = some (.func (.func 84) #[.pointer (some ⟨pb, 0, none⟩)] #[]) :=
    ((World.cell?_of_block (a := ⟨bf, 0, none⟩) ((heap_setCell_other _ _ bf _ hfp).trans (heap_setCell_other _ _ bf _ hfp)))).trans f0
  have fl1 : bf < ((w.setCell ⟨pb, 3 + i * 2, none⟩ (.int .i64 qv)).setCell ⟨pb, 3 + i * 2 + 1, none⟩ (.int .i64 (qn : Int))).heap.size := by simpa [World.setCell] using hfl
  unfold ptrV at hcall ⊢
  simp only at hcv hcn hcall
  replace hcall := Lib.hid hcall
  clear h h1 h2 k2 kl hx hw hf hfree hp
  go_enter Tryz.func130, Tryz.ntmps130
  go_upto_region 2 with fail
  generalize ((w.setCell ⟨pb, 3 + i * 2, none⟩ (.int .i64 qv)).setCell ⟨pb, 3 + i * 2 + 1, none⟩ (.int .i64 (qn : Int))) = w4 at hcall f1 fl1 ⊢
  clear hcv hcn fv fn hpl x0 w0 w1 f0 hxl hwl hfl
  go_wp2_with fail
  refine hcall.out.mono ?_
  rintro e w' ⟨rfl, hR⟩
  replace hR := Lib.hid hR
  clear hcall f1
  go_wp2
  go_end0
  exact ⟨rfl, hR.out⟩
theorem back_dir {i : Nat} {p q : Pt} {bx bw bf : Nat} (h : PrS w B F c pb lb s ps) (hi : i = 16) (hp : ps[i]? = some p) (hx : Kq w F pb bx [partP pb i] 128) (hw : Kq w F pb bw (partC q) 123) (hf : Kq w F pb bf [freeV pb i] 129) (R : World → Prop)
    (hfree : ∀ w1, PrS w1 B F c pb lb s (ps.set i q) → PCh B F F pb w w1 → KeepL w w1 → Calls Tryz.prog 121 #[ptrV pb, .int .i64 p.v] w1 fun e w' => e = .returned (.tuple #[]) ∧ R w') :
    Calls Tryz.prog 130 #[ptrV bx, ptrV bw, ptrV bf] w fun e w' => e = .returned (.tuple #[]) ∧ R w' := by
  rw [show freeV pb i = .func (.func 121) #[.pointer (some ⟨pb, 0, none⟩)] #[] by unfold freeV; rw [if_neg (by omega), if_pos hi]; rfl] at hf
  replace hi := Lib.hid hi
  obtain ⟨pv, pn⟩ := p
  obtain ⟨qv, qn⟩ := q
  have hcv := h.prc.cell (procC_v (fb := c.fb) (tb := c.tb) (lb := lb) hp)
  have hcn := h.prc.cell (procC_n (fb := c.fb) (tb := c.tb) (lb := lb) hp)
  have fv := h.prc.frozen (3 + i * 2)
  have fn := h.prc.frozen (3 + i * 2 + 1)
  have hpl := h.prc.lt
  have x0 : w.cell? ⟨bx, 0, none⟩ = some (.pointer (some ⟨pb, 3 + i * 2, none⟩)) := hx.1.cell (i := 0) rfl
  have w0 : w.cell? ⟨bw, 0, none⟩ = some (.int .i64 qv) := hw.1.cell (i := 0) rfl
  have w1 : w.cell? ⟨bw, 1, none⟩ = some (.int .i64 (qn : Int)) := hw.1.cell (i := 1) rfl
  have f0 := hf.1.cell (i := 0) rfl
  have hxl := hx.1.lt
  have hwl := hw.1.lt
  have hfl := hf.1.lt
  have hfp := hf.2.2.1
  have h1 := h.set1 (procC_setv hp qv) (by rw [List.length_set]; exact h.len)
  have h2 := h1.set1 (procC_setn hp qv qn) (by rw [List.length_set]; exact h.len)
  have k2 := (PCh.set B F w h.hpb (3 + i * 2) (.int .i64 qv)).trans (PCh.set B F _ h.hpb (3 + i * 2 + 1) (.int .i64 (qn : Int)))
  have kl : KeepL w ((w.setCell ⟨pb, 3 + i * 2, none⟩ (.int .i64 qv)).setCell ⟨pb, 3 + i * 2 + 1, none⟩ (.int .i64 (qn : Int))) := ⟨k2.size, fun b cur t f hb ht => by
    have hne : b ≠ pb := fun e => by subst e; exact h.prc.noLog nl_proc ⟨cur, t, f, hb, ht⟩
    exact (heap_setCell_other _ _ b _ hne).trans (heap_setCell_other _ _ b _ hne)⟩
  have hcall := hfree _ h2 k2 kl
  have f1 : ((w.setCell ⟨pb, 3 + i * 2, none⟩ (.int .i64 qv)).setCell ⟨pb, 3 + i * 2 + 1, none⟩ (.int .i64 (qn : Int))).cell? ⟨bf, 0, none⟩ = some (.func (.func 121) #[.pointer (some ⟨pb, 0, none⟩)] #[]) :=
    ((World.cell?_of_block (a := ⟨bf, 0, none⟩) ((heap_setCell_other _ _ bf _ hfp).trans (heap_setCell_other _ _ bf _ hfp)))).trans f0
  have fl1 : bf < ((w.setCell ⟨pb, 3 + i * 2, none⟩ (.int .i64 qv)).setCell ⟨pb, 3 + i * 2 + 1, none⟩ (.int .i64 (qn : Int))).heap.size := by simpa [World.setCell] using hfl
  unfold ptrV at hcall ⊢
  simp only at hcv hcn hcall
  replace hcall := Lib.hid hcall
  clear h h1 h2 k2 kl hx hw hf hfree hp
  go_enter Tryz.func130, Tryz.ntmps130
  go_upto_region 2 with fail
  generalize ((w.setCell ⟨pb, 3 + i * 2, none⟩ (.int .i64 qv)).setCell ⟨pb, 3 + i * 2 + 1, none⟩ (.int .i64 (qn : Int))) = w4 at hcall f1 fl1 ⊢
  clear hcv hcn fv fn hpl x0 w0 w1 f0 hxl hwl hfl
  go_wp2_with fail
  refine hcall.out.mono ?_
  rintro e w' ⟨rfl, hR⟩
  replace hR := Lib.hid hR
  clear hcall f1
  go_wp2
  go_end0
  exact ⟨rfl, hR.out⟩
theorem back_mask {i : Nat} {p q : Pt} {bx bw bf : Nat} (h : PrS w B F c pb lb s ps) (hi : i = 17) (hp : ps[i]? = some p) (hx : Kq w F pb bx [partP pb i] 128) (hw : Kq w F pb bw (partC q) 123) (hf : Kq w F pb bf [freeV pb i] 129) (R : World → Prop)
    (hfree : ∀ w1, PrS w1 B F c pb lb s (ps.set i q) → PCh B F F pb w w1 → KeepL w w1 → Calls Tryz.prog 122 #[.int .i64 p.v] w1 fun e w' => e = .returned (.tuple #[]) ∧ R w') :
    Calls Tryz.prog 130 #[ptrV bx, ptrV bw, ptrV bf] w fun e w' => e = .returned (.tuple #[]) ∧ R w' := by
  rw [show freeV pb i = .func (.func 122) #[] #[] by unfold freeV; rw [if_neg (by omega), if_neg (by omega)]] at hf
  replace hi := Lib.hid hi
  obtain ⟨pv, pn⟩ := p
  obtain ⟨qv, qn⟩ := q
  have hcv := h.prc.cell (procC_v (fb := c.fb) (tb := c.tb) (lb := lb) hp)
  have hcn := h.prc.cell (procC_n (fb := c.fb) (tb := c.tb) (lb := lb) hp)
  have fv := h.prc.frozen (3 + i * 2)
  have fn := h.prc.frozen (3 + i * 2 + 1)
  have hpl := h.prc.lt
  have x0 : w.cell? ⟨bx, 0, none⟩ = some (.pointer (some ⟨pb, 3 + i * 2, none⟩)) := hx.1.cell (i := 0) rfl
  have w0 : w.cell? ⟨bw, 0, none⟩ = some (.int .i64 qv) := hw.1.cell (i := 0) rfl
  have w1 : w.cell? ⟨bw, 1, none⟩ = some (.int .i64 (qn : Int)) := hw.1.cell (i := 1) rfl
  have f0 := hf.1.cell (i := 0) rfl
  have hxl := hx.1.lt
  have hwl := hw.1.lt
  have hfl := hf.1.lt
  have hfp := hf.2.2.1
  have h1 := h.set1 (procC_setv hp qv) (by rw [List.length_set]; exact h.len)
  have h2 := h1.set1 (procC_setn hp qv qn) (by rw [List.length_set]; exact h.len)
  have k2 := (PCh.set B F w h.hpb (3 + i * 2) (.int .i64 qv)).trans (PCh.set B F _ h.hpb (3 + i * 2 + 1) (.int .i64 (qn : Int)))
  have kl : KeepL w ((w.setCell ⟨pb, 3 + i * 2, none⟩ (.int .i64 qv)).setCell ⟨pb, 3 + i * 2 + 1, none⟩ (.int .i64 (qn : Int))) := ⟨k2.size, fun b cur t f hb ht => by
    have hne : b ≠ pb := fun e => by subst e; exact h.prc.noLog nl_proc ⟨cur, t, f, hb, ht⟩
    exact (heap_setCell_other _ _ b _ hne).trans (heap_setCell_other _ _ b _ hne)⟩
  have hcall := hfree _ h2 k2 kl
  have f1 : ((w.setCell ⟨pb, 3 + i * 2, none⟩ (.int .i64 qv)).setCell ⟨pb, 3 + i * 2 + 1, none⟩ (.int .i64 (qn : Int))).cell? ⟨bf, 0, none⟩ = some (.func (.func 122) #[] #[]) :=
    ((World.cell?_of_block (a := ⟨bf, 0, none⟩) ((heap_setCell_other _ _ bf _ hfp).trans (heap_setCell_other _ _ bf _ hfp)))).trans f0
  have fl1 : bf < ((w.setCell ⟨pb, 3 + i * 2, none⟩ (.int .i64 qv)).setCell ⟨pb, 3 + i * 2 + 1, none⟩ (.int .i64 (qn : Int))).heap.size := by simpa [World.setCell] using hfl
  unfold ptrV at hcall ⊢
  simp only at hcv hcn hcall
  replace hcall := Lib.hid hcall
  clear h h1 h2 k2 kl hx hw hf hfree hp
  go_enter Tryz.func130, Tryz.ntmps130
  go_upto_region 2 with fail
  generalize ((w.setCell ⟨pb, 3 + i * 2, none⟩ (.int .i64 qv)).setCell ⟨pb, 3 + i * 2 + 1, none⟩ (.int .i64 (qn : Int))) = w4 at hcall f1 fl1 ⊢
  clear hcv hcn fv fn hpl x0 w0 w1 f0 hxl hwl hfl
  go_wp2_with fail
  refine hcall.out.mono ?_
  rintro e w' ⟨rfl, hR⟩
  replace hR := Lib.hid hR
  clear hcall f1
  go_wp2
  go_end0
  exact ⟨rfl, hR.out⟩
end
section
variable {w : World} {lab : Nat → TL} {F : Nat → Prop} {fb most room mb : Nat} {nds : Nds} {mem : Int → NM}
theorem free_one (h : TreeR w lab fb most room nds mb mem) {x : Pn} {l : List (ByteArray × Nat)} (hx : look nds 1 = some x) (hp : x.par = 1) (hn : x.nms = some l) (c : UInt8) (h0 : c ≠ 0) (h46 : c ≠ 46) (hl : look l (nm1 c) = none) (kd : Int) :
    Calls Tryz.prog 96 #[.pointer (some ⟨fb, 0, none⟩), .agg #[.int .i64 1, .string (nm1 c), .bool false], .int .i64 kd] w fun e w' => e = .returned (.int .i64 0) ∧ w.grownBy w' none := by
  have hfi := fun (W : World) (hW : w.grownBy W none) => find_none (h.grown hW) hx hn c h0 hl
  have hlk := fun (W : World) (hW : w.grownBy W none) => (h.grown hW).find_some hx
  have hid := fun (W : World) => isDir_one 1 c h46 W
  have f0 := h.fs.cell (i := 0) rfl
  have hfl := h.fs.lt
  have c5 := (h.nd 1 x hx).blk.cell (show (bodyC x (mem 1))[5]? = some _ from rfl)
  have hlt := (h.nd 1 x hx).blk.lt
  rw [hp] at c5
  generalize (mem 1).blk = kb at hfi hlk c5 hlt
  generalize nm1 c = nm at hfi hid ⊢
  have g1 : w.grownBy (w.alloc (.cells #[.int .i64 1, .string nm, .bool false] 178)) none := World.grownBy_alloc w _ _
  have b1 : Blk (w.alloc (.cells #[.int .i64 1, .string nm, .bool false] 178)) w.heap.size [.int .i64 1, .string nm, .bool false] 178 := Blk.new w _ _
  have k1 : ∀ g, g < w.heap.size → (w.alloc (.cells #[.int .i64 1, .string nm, .bool false] 178)).heap[g]? = w.heap[g]? := fun g hg => Below.heap_alloc w _ g hg
  replace f0 := (World.cell?_of_block (a := ⟨fb, 0, none⟩) (k1 fb hfl)).trans f0
  replace c5 := (World.cell?_of_block (a := ⟨kb, 5, none⟩) (k1 kb hlt)).trans c5
  have hlk1 := fun n => hlk ((w.alloc (.cells #[.int .i64 1, .string nm, .bool false] 178)).drewN n) (grownBy_drewN g1 n)
  replace hfi := Lib.hid hfi
  replace hid := Lib.hid hid
  clear h hx hp hn hl k1 hlk
  go_enter Tryz.func96, Tryz.ntmps96
  go_upto_region 1 with fail
  obtain ⟨z, hz⟩ : ∃ z, w.heap.size = z := ⟨_, rfl⟩
  generalize (w.alloc (.cells #[.int .i64 1, .string nm, .bool false] 178)) = w1 at b1 g1 f0 c5 hlk1 ⊢
  simp only [hz] at b1 hfl hlt ⊢
  have z0 := b1.cell (i := 0) rfl
  have z1 := b1.cell (i := 1) rfl
  have z2 := b1.cell (i := 2) rfl
  have hzl := b1.lt
  replace hz := Lib.hid hz
  replace b1 := Lib.hid b1
  go_quiet (fail)
  have d5 : (w1.drewN nq).cell? ⟨kb, 5, none⟩ = _ := c5
  have y0 : (w1.drewN nq).cell? ⟨z, 0, none⟩ = _ := z0
  have y1 : (w1.drewN nq).cell? ⟨z, 1, none⟩ = _ := z1
  have y2 : (w1.drewN nq).cell? ⟨z, 2, none⟩ = _ := z2
  have g2 := grownBy_drewN g1 nq
  have hl2 : kb < (w1.drewN nq).heap.size := Nat.lt_of_lt_of_le hlt (by rw [← hz.out]; exact g2.size)
  have hz2 : z < (w1.drewN nq).heap.size := hzl
  generalize w1.drewN nq = w2 at d5 y0 y1 y2 g2 hl2 hz2 ⊢
  have hid2 := hid.out w2
  clear c5 z0 z1 z2 g1 hlk1 f0 hid b1 hzl
  replace g2 := Lib.hid g2
  go_wp2_with fail
  refine hid2.mono ?_
  rintro e w3 ⟨rfl, g3⟩
  have g4 := grownBy_tr g2.out g3
  have hfi3 := hfi.out w3 g4
  have y1' : w3.cell? ⟨z, 1, none⟩ = _ := (World.cell?_of_block (a := ⟨z, 1, none⟩) (g3.block z hz2 (by simp))).trans y1
  have y2' : w3.cell? ⟨z, 2, none⟩ = _ := (World.cell?_of_block (a := ⟨z, 2, none⟩) (g3.block z hz2 (by simp))).trans y2
  have hz3 : z < w3.heap.size := Nat.lt_of_lt_of_le hz2 g3.size
  clear hid2 d5 y0 y1 y2 hfi g2 g3 hl2 hz2
  replace g4 := Lib.hid g4
  go_wp2_with fail
  refine hfi3.mono ?_
  rintro e w' ⟨rfl, hw⟩
  obtain rfl := hw.symm
  clear hfi3 hw
  go_wp2
  go_ret
  exact ⟨rfl, g4.out⟩
theorem TreeR.stay {S S' : Nat → Prop} {w' : World} {k : Int} {x y : Pn} (h : TreeR w lab fb most room nds mb mem) (hx : look nds k = some x) (c : Chg S S' w w') (hS : ∀ g, g < w.heap.size → S g → OfN k (lab g))
    (hd : y.data.length = x.data.length) (hnd : NodeAt w' lab k y (mem k)) : TreeR w' lab fb most room (upd nds k y) mb mem := by
  have hsame : ∀ g, g < w.heap.size → ¬ OfN k (lab g) → w'.heap[g]? = w.heap[g]? := fun g hg h2 => c.block g hg fun hs => h2 (hS g hg hs)
  have hu : usedN (upd nds k y) = usedN nds := by
    have := total_upd (f := fun x : Pn => x.data.length) h.apart hx y
    unfold usedN
    omega
  refine ⟨by rw [hu]; exact (hsame fb h.fs.lt (by rw [h.lfs]; exact id)).trans h.fs, h.lfs, ?_, h.lmap, fun j z hz => ?_, fun g hg => h.new g (Nat.le_trans c.size hg), by rw [hu]; exact h.lim⟩
  · unfold entN
    rw [keys_upd (fun j => Value.pointer (some ⟨(mem j).blk, 0, none⟩))]
    exact h.map.keep (hsame mb h.map.lt (by rw [h.lmap]; exact id))
  · rw [look_upd] at hz
    by_cases hj : j = k
    · rw [if_pos hj, hx] at hz
      cases hz
      subst hj
      exact hnd
    · rw [if_neg hj] at hz
      refine (h.nd j z hz).keep fun g hg ho => ⟨hsame g hg (fun e => hj ?_), rfl⟩
      cases hlg : lab g with
      | body i => rw [hlg] at ho e; exact ho.symm.trans e
      | data i => rw [hlg] at ho e; exact ho.symm.trans e
      | names i => rw [hlg] at ho e; exact ho.symm.trans e
      | free => rw [hlg] at ho; exact ho.elim
      | fs => rw [hlg] at ho; exact ho.elim
      | nmap => rw [hlg] at ho; exact ho.elim
theorem TreeR.stay1 (h : TreeR w lab fb most room nds mb mem) {k : Int} {x y : Pn} (hx : look nds k = some x) (i : Nat) (v : Value) (hc : bodyC y (mem k) = (bodyC x (mem k)).set i v) (hd : y.data = x.data) (hn : y.nms = x.nms) :
    TreeR (w.setCell ⟨(mem k).blk, i, none⟩ v) lab fb most room (upd nds k y) mb mem := by
  have hN := h.nd k x hx
  have ne : ∀ {g l}, lab g = l → l ≠ .body k → g ≠ (mem k).blk := fun {g l} hg hl e => by
    rw [e, hN.lb] at hg
    exact hl hg.symm
  have hk : ∀ g l, lab g = l → l ≠ .body k → (w.setCell ⟨(mem k).blk, i, none⟩ v).heap[g]? = w.heap[g]? := fun g l hg hl => heap_setCell_other w _ g v (ne hg hl)
  refine h.stay (S := fun g => g = (mem k).blk) hx (Chg.set (F := fun g => g = (mem k).blk) rfl i v) (fun g _ hg => by rw [hg, hN.lb]; exact rfl) (by rw [hd]) ?_
  exact {
    blk := by rw [hc]; exact hN.blk.set i v
    lb := hN.lb
    data := by rw [hd]; exact hN.data.keep fun g hg => hk g _ (hN.dl g hg) nofun
    dl := hN.dl
    few := by rw [hd]; exact hN.few
    nil := by rw [hn]; exact hN.nil
    nms := fun l hl => by
      rw [hn] at hl
      obtain ⟨nb, h1, h2, h3⟩ := hN.nms l hl
      exact ⟨nb, h1, h2, h3.keep (hk nb _ h2 nofun)⟩ }
theorem TreeR.push (h : TreeR w lab fb most room nds mb mem) {k : Int} {x : Pn} {l : List (ByteArray × Nat)} (hx : look nds k = some x) (hl : x.nms = some l) {nb : Nat} (hnb : (mem k).nv = .map (some nb)) (ob : Obj) (e : ByteArray × Nat)
    (hk : KMap (setBlock w nb ob) nb .string encS ((l ++ [e]).map fun p => (p.1, Value.int .i64 (p.2 : Int)))) : TreeR (setBlock w nb ob) lab fb most room (upd nds k { x with nms := some (l ++ [e]) }) mb mem := by
  have hN := h.nd k x hx
  obtain ⟨nb', h1, h2, h3⟩ := hN.nms l hl
  obtain rfl : nb' = nb := by rw [h1] at hnb; cases hnb; rfl
  have ne : ∀ {g l}, lab g = l → l ≠ .names k → g ≠ nb' := fun {g l} hg hl e => by
    rw [e, h2] at hg
    exact hl hg.symm
  refine h.stay (S := fun g => g = nb') hx (Chg.setB (F := fun g => g = nb') rfl ob) (fun g _ hg => by rw [hg, h2]; exact rfl) rfl ?_
  exact {
    blk := (setB_other (ne hN.lb nofun) ob).trans hN.blk
    lb := hN.lb
    data := hN.data.keep fun g hg => setB_other (ne (hN.dl g hg) nofun) ob
    dl := hN.dl
    few := hN.few
    nil := nofun
    nms := fun l' hl' => by
      cases hl'
      exact ⟨nb', h1, h2, hk⟩ }
theorem enter_one (h : TreeR w lab fb most room nds mb mem) (hF : ∀ g, F g ↔ lab g ≠ .free) {x y : Pn} {l : List (ByteArray × Nat)} {m : Nat} (hx : look nds 1 = some x) (hn : x.nms = some l) (nm : ByteArray) (hl : look l nm = none) (hm : (m : Int) ≠ 1) (hy : look nds (m : Int) = some y) (hyn : y.named ≤ 1000000) :
    Calls Tryz.prog 98 #[.pointer (some ⟨fb, 0, none⟩), .agg #[.int .i64 1, .string nm, .bool false], .int .i64 (m : Int)] w fun e w' => e = .returned (.tuple #[]) ∧
      TreeR w' lab fb most room (upd (upd nds 1 { x with nms := some (l ++ [(nm, m)]) }) (m : Int) (if y.kind = 1 then { y with named := y.named + 1, par := 1, name := nm } else { y with named := y.named + 1 })) mb mem ∧ Chg F F w w' := by
  have g1 : w.grownBy (w.alloc (.cells #[.int .i64 1, .string nm, .bool false] 178)) none := World.grownBy_alloc w _ _
  have b1 : Blk (w.alloc (.cells #[.int .i64 1, .string nm, .bool false] 178)) w.heap.size [.int .i64 1, .string nm, .bool false] 178 := Blk.new w _ _
  have hall := fun n => h.grown (grownBy_drewN g1 n)
  have hlt := h.fs.lt
  have hkl := (h.nd 1 x hx).blk.lt
  have hfr : lab w.heap.size = .free := h.new _ (Nat.le_refl _)
  go_enter Tryz.func98, Tryz.ntmps98
  go_upto_region 1 with fail
  have c1 : Chg F F w (w.alloc (.cells #[.int .i64 1, .string nm, .bool false] 178)) := Chg.alloc_other F w _
  obtain ⟨z, hz⟩ : ∃ z, w.heap.size = z := ⟨_, rfl⟩
  generalize (w.alloc (.cells #[.int .i64 1, .string nm, .bool false] 178)) = w1 at b1 g1 hall c1 ⊢
  simp only [hz] at b1 hfr ⊢
  have h1 : TreeR w1 lab fb most room nds mb mem := hall 0
  have hN := h1.nd 1 x hx
  obtain ⟨nb, hnb, hnl, hkm⟩ := hN.nms l hn
  have z0 := b1.cell (i := 0) rfl
  have z1 := b1.cell (i := 1) rfl
  have f0 := h1.fs.cell (i := 0) rfl
  have hf1 : (Instr.lookup 174 (.map (some mb)) (.int .i64 1) false).run Tryz.prog w1.drew = .ok (.pointer (some ⟨(mem 1).blk, 0, none⟩)) w1.drew := (hall 1).find_some hx
  have c4 := hN.blk.cell (show (bodyC x (mem 1))[4]? = some _ from rfl)
  rw [hnb] at c4
  have hzl := b1.lt
  have hfl1 := h1.fs.lt
  have hbl1 := hN.blk.lt
  generalize hkb : (mem 1).blk = kb at hf1 c4 hbl1
  replace hkb := Lib.hid hkb
  replace h := Lib.hid h
  replace h1 := Lib.hid h1
  replace hN := Lib.hid hN
  replace hz := Lib.hid hz
  replace b1 := Lib.hid b1
  go_still_tail 13, (by kernel_rfl)
  change wpList _ _ _ _ _ w1.drew
  have h2 : TreeR w1.drew lab fb most room nds mb mem := hall 1
  have g2 : w.grownBy w1.drew none := grownBy_drewN g1 1
  have hkm2 : KMap w1.drew nb .string encS _ := hkm
  have c2 : Chg F F w w1.drew := c1.trans (Chg.drewN F w1 1)
  have b2 : Blk w1.drew z _ _ := b1.out
  generalize w1.drew = w2 at h2 g2 hkm2 c2 b2 ⊢
  have hle : look (l.map fun p => (p.1, Value.int .i64 (p.2 : Int))) nm = none := by rw [look_map (fun n : Nat => Value.int .i64 (n : Int)), hl]; rfl
  clear hf1 c4 f0 z0 z1 c1 h1 hN b1 g1 hall hkm
  replace h2 := Lib.hid h2
  replace c2 := Lib.hid c2
  replace g2 := Lib.hid g2
  replace b2 := Lib.hid b2
  go_wp2_with (at_mapUpdate; refine wpList_put_k rfl _ _ _ 154 rfl 9 3 keyS Tryz.underlying154 Tryz.underlying9 rfl hkm2 nm rfl hle (.int .i64 (m : Int)) rfl ?_; intro ob hkm3; refine Hid.out ?_)
  refine Lib.hid ?_
  have h3 := h2.out.push hx hn hnb ob (nm, m) (by rw [List.map_append]; exact hkm3)
  have c3 : Chg F F w (setBlock w2 nb ob) := c2.out.trans (Chg.setB ((hF nb).2 (by rw [hnl]; exact nofun)) ob)
  have b3 : Blk (setBlock w2 nb ob) z _ _ := b2.out.setB (fun e => by rw [e, hnl] at hfr; cases hfr) ob
  have hy3 : look (upd nds 1 { x with nms := some (l ++ [(nm, m)]) }) (m : Int) = some y := by rw [look_upd, if_neg hm]; exact hy
  generalize setBlock w2 nb ob = w3 at h3 c3 b3 ⊢
  have hN3 := h3.nd _ y hy3
  have z0 := b3.cell (i := 0) rfl
  have z1 := b3.cell (i := 1) rfl
  have f0 := h3.fs.cell (i := 0) rfl
  have hf3 := h3.find_some hy3
  have c0 := hN3.blk.cell (show (bodyC y (mem m))[0]? = some _ from rfl)
  have c1 := hN3.blk.cell (show (bodyC y (mem m))[1]? = some _ from rfl)
  have fr1 := hN3.blk.frozen 1
  have hml := hN3.blk.lt
  have hfl3 := h3.fs.lt
  have hmz : z ≠ (mem m).blk := fun e => by rw [e, hN3.lb] at hfr; cases hfr
  have h4 := h3.stay1 hy3 1 (.int .i64 ((y.named + 1 : Nat) : Int)) (y := { y with named := y.named + 1 }) rfl rfl rfl
  have c4 : Chg F F w (w3.setCell ⟨(mem m).blk, 1, none⟩ (.int .i64 ((y.named + 1 : Nat) : Int))) := c3.trans (Chg.set ((hF _).2 (by rw [hN3.lb]; exact nofun)) 1 _)
  have b4 := b3.other (a := ⟨(mem m).blk, 1, none⟩) hmz (.int .i64 ((y.named + 1 : Nat) : Int))
  have e1 : ((y.named + 1 : Nat) : Int) = (y.named : Int) + 1 := by omega
  rw [e1] at h4 c4 b4
  clear h h2 c2 g2 b2 hkm2 hkm3 hkb hbl1 hfl1 hzl hkl hlt c3 b3 h3 hN3 hle
  by_cases hk : y.kind = 1
  · rw [hk] at c0
    have hy4 := look_upd_same hy3 { y with named := y.named + 1 }
    have hN4 := h4.nd _ _ hy4
    have d0 := hN4.blk.cell (i := 0) rfl
    have d5 := hN4.blk.cell (i := 5) rfl
    have d6 := hN4.blk.cell (i := 6) rfl
    have r5 := hN4.blk.frozen 5
    have r6 := hN4.blk.frozen 6
    have hl4 := hN4.blk.lt
    have y0 := b4.cell (i := 0) rfl
    have y1 := b4.cell (i := 1) rfl
    rw [show ({ y with named := y.named + 1 } : Pn).kind = 1 from hk] at d0
    replace h4 := Lib.hid h4
    replace c4 := Lib.hid c4
    have hml2 : Hid (lab (mem m).blk = .body m) := Lib.hid hN4.lb
    clear hN4 b4 z0 z1
    go_upto_region 5 with fail
    generalize w3.setCell ⟨(mem m).blk, 1, none⟩ (.int .i64 ((y.named : Int) + 1)) = w4 at h4 c4 d0 d5 d6 r5 r6 hl4 y0 y1 ⊢
    generalize hkb : (mem m).blk = kb at d0 d5 d6 r5 r6 hl4 hmz ⊢
    replace hkb := Lib.hid hkb
    clear hf3 c0 c1 fr1 hml f0 hfl3
    go_wp2_with fail
    go_region
    have h5 := h4.out.stay1 hy4 5 (.int .i64 1) (y := { y with named := y.named + 1, par := 1 }) rfl rfl rfl
    have h6 := h5.stay1 (look_upd_same hy4 _) 6 (.string nm) (y := { y with named := y.named + 1, par := 1, name := nm }) rfl rfl rfl
    rw [upd_upd, upd_upd, hkb.out] at h6
    have c6 : Chg F F w (((w4.setCell ⟨kb, 5, none⟩ (.int .i64 1)).setCell ⟨kb, 6, none⟩ (.string nm)).drewN 1) := ((c4.out.trans (Chg.set ((hF _).2 (by rw [← hkb.out, hml2.out]; exact nofun)) 5 _)).trans (Chg.set ((hF _).2 (by rw [← hkb.out, hml2.out]; exact nofun)) 6 _)).trans (Chg.drewN F _ 1)
    have h7 := h6.grown (grownBy_drewN (grownBy_re _) 1)
    replace h7 := Lib.hid h7
    replace c6 := Lib.hid c6
    go_wp2
    go_end0
    exact ⟨rfl, by have h8 := h7.out; rw [hk] at h8; exact h8, c6.out⟩
  · have e2 : ((y.kind : Int) == 1) = false := by simp; omega
    generalize (mem m).blk = kb at hf3 c0 c1 fr1 hml h4 c4 b4 hmz
    replace h4 := Lib.hid h4
    replace c4 := Lib.hid c4
    clear b4
    go_wp2
    go_end0
    exact ⟨rfl, h4.out, c4.out⟩
end
def mapBlk : Value → Option Nat | .map r => r | _ => none
theorem conv_bytes (s : ByteArray) (hs : s.size ≤ 1000000) (W : World) : ∃ dv W', (convert 9 153 (.string s)).run Tryz.prog W = .ok dv W' ∧ RowM W' 5 dv s.size (bc (tl s)) ∧ W.grownBy W' none ∧ dv.ownBlock = some W.heap.size ∧ W'.heap.size = W.heap.size + 1 := by
  refine ⟨_, _, Lib.run_convert_string_bytes W 9 153 5 s Tryz.underlying9 Tryz.underlying153 Tryz.underlying5, ?_, ?_, rfl, Lib.bytesWorld_size _ _ _⟩
  · have hge := grownCap_ge W s.size 0 5
    have hcm := grownCap_le_maxLen W s.size 0 5 (by unfold maxLen; omega)
    have e1 : Lib.bytesCells W 5 s = (bc (tl s) ++ List.replicate (grownCap W s.size 0 5 - s.size) (Value.int .u8 0)).toArray := by
      apply Array.ext'
      unfold Lib.bytesCells bc tl
      simp
    have hl : (bc (tl s)).length = s.size := by rw [bc_len, tl_len]
    refine .inr ⟨W.heap.size, 0, _, bc (tl s) ++ List.replicate (grownCap W s.size 0 5 - s.size) (Value.int .u8 0), rfl, ⟨((Lib.bytesCells W 5 s).size, (Lib.bytesCells W 5 s).size + 1), ?_, ?_⟩, hge, hcm, ?_, ?_⟩
    · right
      rw [e1]
      simp
    · rw [← e1]
      exact Lib.bytesWorld_at_new W 5 s
    · rw [List.length_append, hl, List.length_replicate]; omega
    · rw [List.drop_zero]
      exact List.take_left' hl
  · have hb := Lib.bytesWorld_below W 5 s
    exact ⟨hb.os, hb.tape, hb.output, hb.size, fun b hlt _ => hb.block b hlt⟩
section
variable {w : World} {lab : Nat → TL} {F : Nat → Prop} {fb most room mb : Nat} {nds : Nds} {mem : Int → NM}
theorem TreeR.add {w' : World} {m : Int} {y : Pn} {M : NM} (h : TreeR w lab fb most room nds mb mem) (hF : ∀ g, F g ↔ lab g ≠ .free) (hm : look nds m = none) (c : Chg (fun g => g = fb ∨ g = mb) (fun g => g = fb ∨ g = mb) w w')
    (hfs : Blk w' fb [.map (some mb), .int .i64 (most : Int), .int .i64 (room : Int), .int .i64 ((usedN nds + y.data.length : Nat) : Int)] 176)
    (hmap : KMap w' mb (.int .i64) encI (entN mem nds ++ [(m, Value.pointer (some ⟨M.blk, 0, none⟩))]))
    (hb : Blk w' M.blk (bodyC y M) 156) (hbn : w.heap.size ≤ M.blk) (hd : RowM w' 5 M.dv y.data.length (bc y.data)) (hdn : ∀ g, M.dv.ownBlock = some g → w.heap.size ≤ g ∧ g ≠ M.blk) (h4 : y.data.length ≤ 4096)
    (hn0 : y.nms = none → M.nv = .map none) (hn1 : ∀ l, y.nms = some l → ∃ nb, M.nv = .map (some nb) ∧ w.heap.size ≤ nb ∧ nb ≠ M.blk ∧ M.dv.ownBlock ≠ some nb ∧ KMap w' nb .string encS (l.map fun p => (p.1, Value.int .i64 (p.2 : Int)))) (hu : usedN nds + y.data.length ≤ room) :
    ∃ lab' mem', TreeR w' lab' fb most room (nds ++ [(m, y)]) mb mem' ∧ Chg F (fun g => lab' g ≠ .free) w w' := by
  have hs := c.size
  have hsame : ∀ g, g < w.heap.size → lab g ≠ .fs → lab g ≠ .nmap → w'.heap[g]? = w.heap[g]? := fun g hg h1 h2 => c.block g hg fun hs => hs.elim (fun e => h1 (by rw [e]; exact h.lfs)) (fun e => h2 (by rw [e]; exact h.lmap))
  have hfree : ∀ g, ¬ F g → lab g = .free := fun g hg => Classical.byContradiction fun h => hg ((hF g).2 h)
  obtain ⟨lab', hlab⟩ : ∃ lab' : Nat → TL, lab' = fun g => if g < w.heap.size then lab g else if g = M.blk then .body m else if M.dv.ownBlock = some g then .data m else if mapBlk M.nv = some g then .names m else .free := ⟨_, rfl⟩
  have hold : ∀ g, g < w.heap.size → lab' g = lab g := fun g hg => by rw [hlab]; exact if_pos hg
  have hut : usedN (nds ++ [(m, y)]) = usedN nds + y.data.length := by
    unfold usedN
    rw [total_app]
    simp [total]
  have hne : ∀ p ∈ nds, p.1 ≠ m := look_none.1 hm
  refine ⟨lab', fun j => if j = m then M else mem j, ⟨by rw [hut]; exact hfs, (hold fb h.fs.lt).trans h.lfs, ?_, (hold mb h.map.lt).trans h.lmap, fun k x hx => ?_, fun g hg => ?_, ⟨h.lim.1, h.lim.2.1, by rw [hut]; exact hu⟩⟩,
    ⟨c.os, c.tape, c.output, c.size, fun g hg hn => hsame g hg (by rw [hfree g hn]; exact nofun) (by rw [hfree g hn]; exact nofun), fun g hg hn => by rw [hold g hg, hfree g hn]; exact fun h => h rfl⟩⟩
  · have e : entN (fun j => if j = m then M else mem j) (nds ++ [(m, y)]) = entN mem nds ++ [(m, Value.pointer (some ⟨M.blk, 0, none⟩))] := by
      unfold entN
      rw [List.map_append]
      congr 1
      · refine List.map_congr_left fun p hp => ?_
        show (p.1, Value.pointer (some ⟨(if p.1 = m then M else mem p.1).blk, 0, none⟩)) = _
        rw [if_neg (hne p hp)]
      · simp
    rw [e]
    exact hmap
  · rw [look_app] at hx
    by_cases hk : k = m
    · subst hk
      rw [hm] at hx
      simp [look] at hx
      subst hx
      simp only [if_true]
      exact {
        blk := hb
        lb := by rw [hlab]; show (if M.blk < w.heap.size then _ else _) = _; rw [if_neg (by omega), if_pos rfl]
        data := hd
        dl := fun g hg => by
          have := hdn g hg
          rw [hlab]; show (if g < w.heap.size then _ else _) = _
          rw [if_neg (by omega), if_neg this.2, if_pos hg]
        few := h4
        nil := hn0
        nms := fun l hl => by
          obtain ⟨nb, h1, h2, h3, h5, h6⟩ := hn1 l hl
          refine ⟨nb, h1, ?_, h6⟩
          rw [hlab]; show (if nb < w.heap.size then _ else _) = _
          rw [if_neg (by omega), if_neg h3, if_neg h5, if_pos (by rw [h1]; rfl)] }
    · have hx' : look nds k = some x := by
        cases hl : look nds k with
        | some z => rw [hl] at hx; exact hx
        | none => rw [hl] at hx; simp [look, Ne.symm hk] at hx
      rw [if_neg hk]
      refine (h.nd k x hx').keep fun g hg ho => ⟨hsame g hg (fun e => by rw [e] at ho; exact ho) (fun e => by rw [e] at ho; exact ho), hold g hg⟩
  · rw [hlab]
    show (if g < w.heap.size then _ else _) = _
    rw [if_neg (by omega), if_neg (fun e => by have := hb.lt; omega), if_neg (fun e => by have := hd.lt e; omega), if_neg (fun e => ?_)]
    cases hl : y.nms with
    | none => rw [hn0 hl] at e; cases e
    | some l =>
      obtain ⟨nb, h1, _, _, _, h6⟩ := hn1 l hl
      rw [h1] at e
      cases e
      have := h6.lt
      omega
end
def root0 : Pn := ⟨1, 0, 0, 1, [], some [], ⟨#[]⟩⟩
theorem nodes_New (w : World) (most room : Nat) (h1 : 1 ≤ most) (h2 : most ≤ 1024) (h3 : room ≤ 1048576) :
    Calls Tryz.prog 41 #[.int .i64 (most : Int), .int .i64 (room : Int)] w fun e w' => ∃ fb, e = .returned (.tuple #[.pointer (some ⟨fb, 0, none⟩), .int .i64 0]) ∧ (∃ F', TreeF w' F' fb most room [(1, root0)] ∧ Chg (fun _ => False) F' w w') := by
  have i1 : ¬ (most : Int) < 1 := by omega
  have i2 : ¬ (1024 : Int) < (most : Int) := by omega
  have i3 : ¬ (room : Int) < 0 := by omega
  have i4 : ¬ (1048576 : Int) < (room : Int) := by omega
  have hmm := @run_makeMap Tryz.prog
  go_enter Tryz.func41, Tryz.ntmps41
  go_upto_region 4 with fail
  have b1 : KMap (w.alloc (.map #[] 0)) w.heap.size .string encS ([] : List (ByteArray × Value)) := KMap.new w _ _
  have n1 : (w.alloc (.map #[] 0)).heap.size = w.heap.size + 1 := by simp
  have k1 : ∀ g, g < w.heap.size → (w.alloc (.map #[] 0)).heap[g]? = w.heap[g]? := fun g hg => Below.heap_alloc w _ g hg
  have o1 : (w.alloc (.map #[] 0)).os = w.os ∧ (w.alloc (.map #[] 0)).tape = w.tape ∧ (w.alloc (.map #[] 0)).output = w.output := ⟨rfl, rfl, rfl⟩
  generalize w.alloc (.map #[] 0) = w1 at b1 n1 k1 o1 ⊢
  obtain ⟨z, hz⟩ : ∃ z, w.heap.size = z := ⟨_, rfl⟩
  simp only [hz] at b1 n1 k1 ⊢
  have b2 : Blk (w1.alloc (.cells #[.int .i64 1, .int .i64 0, .int .i64 0, .slice none 0 0, .map (some z), .int .i64 1, .string ⟨#[]⟩] 156)) w1.heap.size (bodyC root0 ⟨z + 1, .slice none 0 0, .map (some z)⟩) 156 := Blk.new w1 _ _
  rw [n1] at b2
  have k2 : ∀ g, g < z + 1 → (w1.alloc (.cells #[.int .i64 1, .int .i64 0, .int .i64 0, .slice none 0 0, .map (some z), .int .i64 1, .string ⟨#[]⟩] 156)).heap[g]? = w1.heap[g]? := fun g hg => Below.heap_alloc w1 _ g (by omega)
  have o2 : (w1.alloc (.cells #[.int .i64 1, .int .i64 0, .int .i64 0, .slice none 0 0, .map (some z), .int .i64 1, .string ⟨#[]⟩] 156)).os = w.os ∧ (w1.alloc (.cells #[.int .i64 1, .int .i64 0, .int .i64 0, .slice none 0 0, .map (some z), .int .i64 1, .string ⟨#[]⟩] 156)).tape = w.tape ∧ (w1.alloc (.cells #[.int .i64 1, .int .i64 0, .int .i64 0, .slice none 0 0, .map (some z), .int .i64 1, .string ⟨#[]⟩] 156)).output = w.output := o1
  have n2 : (w1.alloc (.cells #[.int .i64 1, .int .i64 0, .int .i64 0, .slice none 0 0, .map (some z), .int .i64 1, .string ⟨#[]⟩] 156)).heap.size = z + 2 := by simp [n1]
  generalize w1.alloc (.cells #[.int .i64 1, .int .i64 0, .int .i64 0, .slice none 0 0, .map (some z), .int .i64 1, .string ⟨#[]⟩] 156) = w2 at b2 k2 n2 o2 ⊢
  have b1' : KMap w2 z .string encS ([] : List (ByteArray × Value)) := b1.keep (k2 z (by omega))
  have m3 : KMap (w2.alloc (.map #[] 0)) w2.heap.size (.int .i64) encI ([] : List (Int × Value)) := KMap.new w2 _ _
  rw [n2] at m3
  obtain ⟨ob, hrun, m4⟩ := m3.push keyI Tryz.underlying174 Tryz.underlying3 (k := 1) rfl (.pointer (some ⟨z + 1, 0, none⟩))
  replace hrun : (Instr.mapUpdate 174 (.map (some (z + 2))) (.int .i64 1) (.pointer (some ⟨z + 1, 0, none⟩))).run Tryz.prog (w2.alloc (.map #[] 0)) = .ok () (setBlock (w2.alloc (.map #[] 0)) (z + 2) ob) := hrun
  have n4 : (setBlock (w2.alloc (.map #[] 0)) (z + 2) ob).heap.size = z + 3 := by simp [setBlock, n2]
  have k4 : ∀ g, g < z + 2 → (setBlock (w2.alloc (.map #[] 0)) (z + 2) ob).heap[g]? = w2.heap[g]? := fun g hg => (setB_other (by omega) ob).trans (Below.heap_alloc w2 _ g (by omega))
  have o4 : (setBlock (w2.alloc (.map #[] 0)) (z + 2) ob).os = w.os ∧ (setBlock (w2.alloc (.map #[] 0)) (z + 2) ob).tape = w.tape ∧ (setBlock (w2.alloc (.map #[] 0)) (z + 2) ob).output = w.output := o2
  replace o4 := Lib.hid o4
  replace hz := Lib.hid hz
  replace b1' := Lib.hid b1'
  replace b2 := Lib.hid b2
  replace m4 := Lib.hid m4
  clear m3 b1 o1 o2 n1
  replace k1 := Lib.hid k1
  replace k2 := Lib.hid k2
  replace k4 := Lib.hid k4
  go_wp2
  have b5 : Blk ((setBlock (w2.alloc (.map #[] 0)) (z + 2) ob).alloc (.cells #[.map (some (z + 2)), .int .i64 (most : Int), .int .i64 (room : Int), .int .i64 0] 176)) (z + 3) [.map (some (z + 2)), .int .i64 (most : Int), .int .i64 (room : Int), .int .i64 0] 176 := by
    have := Blk.new (setBlock (w2.alloc (.map #[] 0)) (z + 2) ob) [.map (some (z + 2)), .int .i64 (most : Int), .int .i64 (room : Int), .int .i64 0] 176
    rwa [n4] at this
  have k5 : ∀ g, g < z + 3 → ((setBlock (w2.alloc (.map #[] 0)) (z + 2) ob).alloc (.cells #[.map (some (z + 2)), .int .i64 (most : Int), .int .i64 (room : Int), .int .i64 0] 176)).heap[g]? = (setBlock (w2.alloc (.map #[] 0)) (z + 2) ob).heap[g]? := fun g hg => Below.heap_alloc _ _ g (by omega)
  have n5 : ((setBlock (w2.alloc (.map #[] 0)) (z + 2) ob).alloc (.cells #[.map (some (z + 2)), .int .i64 (most : Int), .int .i64 (room : Int), .int .i64 0] 176)).heap.size = z + 4 := by simp [n4]
  have o5 : ((setBlock (w2.alloc (.map #[] 0)) (z + 2) ob).alloc (.cells #[.map (some (z + 2)), .int .i64 (most : Int), .int .i64 (room : Int), .int .i64 0] 176)).os = w.os ∧ ((setBlock (w2.alloc (.map #[] 0)) (z + 2) ob).alloc (.cells #[.map (some (z + 2)), .int .i64 (most : Int), .int .i64 (room : Int), .int .i64 0] 176)).tape = w.tape ∧ ((setBlock (w2.alloc (.map #[] 0)) (z + 2) ob).alloc (.cells #[.map (some (z + 2)), .int .i64 (most : Int), .int .i64 (room : Int), .int .i64 0] 176)).output = w.output := o4.out
  generalize (setBlock (w2.alloc (.map #[] 0)) (z + 2) ob).alloc (.cells #[.map (some (z + 2)), .int .i64 (most : Int), .int .i64 (room : Int), .int .i64 0] 176) = w5 at b5 k5 n5 o5 ⊢
  go_ret2
  refine ⟨z + 3, rfl, ?_⟩
  have ka : ∀ g, g < z + 2 → w5.heap[g]? = w2.heap[g]? := fun g hg => (k5 g (by omega)).trans (k4.out g hg)
  obtain ⟨lab, hlab⟩ : ∃ lab : Nat → TL, lab = fun g => if g = z then .names 1 else if g = z + 1 then .body 1 else if g = z + 2 then .nmap else if g = z + 3 then .fs else .free := ⟨_, rfl⟩
  have l0 : lab z = .names 1 := by rw [hlab]; exact if_pos rfl
  have l1 : lab (z + 1) = .body 1 := by rw [hlab]; simp
  have l2 : lab (z + 2) = .nmap := by rw [hlab]; simp
  have l3 : lab (z + 3) = .fs := by rw [hlab]; simp
  have l4 : ∀ g, g < z ∨ z + 4 ≤ g → lab g = .free := fun g hg => by
    rw [hlab]
    show (if g = z then _ else _) = _
    rw [if_neg (by omega), if_neg (by omega), if_neg (by omega), if_neg (by omega)]
  refine ⟨fun g => lab g ≠ .free, ⟨lab, z + 2, fun _ => ⟨z + 1, .slice none 0 0, .map (some z)⟩, ⟨b5, l3, m4.out.keep (k5 (z + 2) (by omega)), l2, fun k x hx => ?_, fun g hg => l4 g (by omega), h2, h3, Nat.zero_le _⟩, fun g => Iff.rfl⟩,
    ⟨o5.1, o5.2.1, o5.2.2, by rw [n5, hz.out]; omega, fun g hg _ => (ka g (by have := hz.out; omega)).trans ((k2.out g (by have := hz.out; omega)).trans (k1.out g (by have := hz.out; omega))), fun g hg _ hn => hn (l4 g (by have := hz.out; omega))⟩⟩
  simp only [look] at hx
  split at hx
  · rename_i hk
    cases hx
    subst hk
    exact {
      blk := (ka (z + 1) (by omega)).trans b2.out
      lb := l1
      data := .inl ⟨rfl, rfl, rfl⟩
      dl := fun g hg => by cases hg
      few := Nat.zero_le _
      nil := nofun
      nms := fun l hl => by
        cases hl
        exact ⟨z, rfl, l0, b1'.out.keep (ka z (by omega))⟩ }
  · cases hx
def made (nds : Nds) (x : Pn) (l : List (ByteArray × Nat)) (nm : ByteArray) (m kd : Nat) (d : List UInt8) : Nds :=
  upd (upd (nds ++ [((m : Int), ⟨kd, 0, 0, 0, d, if kd = 1 then some [] else none, ⟨#[]⟩⟩)]) 1 { x with nms := some (l ++ [(nm, m)]) }) (m : Int)
    (if kd = 1 then ⟨1, 1, 0, 1, d, some [], nm⟩ else ⟨kd, 1, 0, 0, d, none, ⟨#[]⟩⟩)
section
variable {w : World} {F : Nat → Prop} {fb most room : Nat} {nds : Nds}
theorem make_leaf (h : TreeF w F fb most room nds) {x : Pn} {l : List (ByteArray × Nat)} (hx : look nds 1 = some x) (hxk : x.kind = 1) (hxp : x.par = 1) (hxn : x.nms = some l) (c : UInt8) (h0 : c ≠ 0) (h46 : c ≠ 46) (h47 : c ≠ 47) (hl : look l (nm1 c) = none)
    (m : Nat) (h1m : 2 ≤ m) (hmm : m ≤ 1000000) (hm : look nds (m : Int) = none) (hall : ∀ j : Nat, 1 ≤ j → j < m → ∃ x, look nds (j : Int) = some x) (hmany : nds.length < most) (kd : Nat) (hkd : kd = 2 ∨ kd = 3) (s : ByteArray) (hs : s.size ≤ 4096) (hroom : usedN nds + s.size ≤ room) :
    Calls Tryz.prog 43 #[.pointer (some ⟨fb, 0, none⟩), .int .i64 1, .string (nm1 c), .int .i64 (kd : Int), .string s] w fun e w' => e = .returned (.tuple #[.int .i64 (m : Int), .int .i64 0]) ∧ ∃ F', TreeF w' F' fb most room (made nds x l (nm1 c) m kd (tl s)) ∧ Chg F F' w w' := by
  obtain ⟨lab, mb, mem, h, hF⟩ := h
  have hpl := place_one h hx hxk c h47
  have hfr := fun (W : World) (hW : w.grownBy W none) => free_one (h.grown hW) hx hxp hxn c h0 h46 hl (kd : Int)
  have hle := fun (W : World) (hW : w.grownBy W none) => least_any (h.grown hW) m (by omega) hmm hm hall
  have hgr := fun (W : World) (hW : w.grownBy W none) => h.grown hW
  have hcv := conv_bytes s (by omega)
  have hm1 : (m : Int) ≠ 1 := by omega
  have hn1 : look (nds ++ [((m : Int), (⟨kd, 0, 0, 0, (tl s), none, ⟨#[]⟩⟩ : Pn))]) 1 = some x := by rw [look_app, hx]; rfl
  have hnm : look (nds ++ [((m : Int), (⟨kd, 0, 0, 0, (tl s), none, ⟨#[]⟩⟩ : Pn))]) (m : Int) = some ⟨kd, 0, 0, 0, (tl s), none, ⟨#[]⟩⟩ := by rw [look_app, hm]; simp [look]
  have hlim := h.lim
  have hfl := h.fs.lt
  have hml := h.map.lt
  have hlen : nds.length ≤ most := by omega
  have k1 : ¬ (kd : Int) < 1 := by omega
  have k2 : ¬ (3 : Int) < (kd : Int) := by omega
  have k3 : ((kd : Int) == 1) = false := by simp; omega
  have k4 : ¬ (4096 : Int) < (s.size : Int) := by omega
  obtain ⟨nm, hnmE⟩ : ∃ nm, nm1 c = nm := ⟨_, rfl⟩
  rw [hnmE] at hpl hfr hl ⊢
  obtain ⟨res, hres⟩ : ∃ res, made nds x l nm m kd (tl s) = res := ⟨_, rfl⟩
  rw [hres]
  replace hres := Lib.hid hres
  replace hfr := Lib.hid hfr
  replace hle := Lib.hid hle
  replace hgr := Lib.hid hgr
  replace hcv := Lib.hid hcv
  replace h := Lib.hid h
  clear hx hxk hxp hall hnmE
  go_enter Tryz.func43, Tryz.ntmps43
  go_wp2_with fail
  refine hpl.mono ?_
  rintro e w1 ⟨rfl, g1⟩
  clear hpl
  go_upto_region 9 with fail
  have b2 : Blk (w1.alloc (.cells #[.int .i64 1, .string nm, .bool false] 178)) w1.heap.size [.int .i64 1, .string nm, .bool false] 178 := Blk.new w1 _ _
  have g2 : w.grownBy (w1.alloc (.cells #[.int .i64 1, .string nm, .bool false] 178)) none := grownBy_tr g1 (World.grownBy_alloc w1 _ _)
  generalize (w1.alloc (.cells #[.int .i64 1, .string nm, .bool false] 178)) = w2 at b2 g2 ⊢
  have hzw := g1.size
  generalize w1.heap.size = z at b2 hzw ⊢
  have hfr2 := hfr.out w2 g2
  have z0 := b2.cell (i := 0) rfl
  have z1 := b2.cell (i := 1) rfl
  have z2 := b2.cell (i := 2) rfl
  have hz2 := b2.lt
  clear g1 hfr
  go_wp2_with fail
  refine hfr2.mono ?_
  rintro e w3 ⟨rfl, g3⟩
  have b3 : Blk w3 z _ _ := (g3.block z hz2 (by simp)).trans b2
  have g3' := grownBy_tr g2 g3
  clear hfr2 z0 z1 z2 hz2 b2 g2 g3
  have h3 := hgr.out w3 g3'
  have hct := fun n => (hgr.out (w3.drewN n) (grownBy_drewN g3' n)).map.count Tryz.underlying174 3
  rw [show (entN mem nds).length = nds.length from List.length_map _] at hct
  have f0 := h3.fs.cell (i := 0) rfl
  have f1 := h3.fs.cell (i := 1) rfl
  have f2 := h3.fs.cell (i := 2) rfl
  have f3 := h3.fs.cell (i := 3) rfl
  have hfl3 := h3.fs.lt
  obtain ⟨U, hU⟩ : ∃ U, usedN nds = U := ⟨_, rfl⟩
  obtain ⟨NL, hNL⟩ : ∃ NL, nds.length = NL := ⟨_, rfl⟩
  rw [hU] at f3 hlim hroom
  rw [hNL] at hct hmany hlen
  replace hU := Lib.hid hU
  replace hNL := Lib.hid hNL
  have i1 : ¬ (most : Int) ≤ (NL : Int) := by omega
  have i2 : ¬ (room : Int) - (U : Int) < (s.size : Int) := by omega
  have i3 : IntKind.i64.wrap ((room : Int) - (U : Int)) = (room : Int) - (U : Int) := by rw [IntKind.wrap_i64]; omega
  replace b3 := Lib.hid b3
  replace g3' := Lib.hid g3'
  clear h3
  go_upto_region 12 with fail
  go_quiet (fail)
  have g4 : w.grownBy (w3.drewN nq) none := grownBy_drewN g3'.out nq
  have b4 : Blk (w3.drewN nq) z _ _ := b3.out
  generalize w3.drewN nq = w4 at g4 b4 ⊢
  have hle4 := hle.out w4 g4
  clear f0 f1 f2 f3 hct b3 g3' hle i1 i2 i3 hfl3
  go_wp2_with fail
  refine hle4.mono ?_
  rintro e w' ⟨rfl, hw⟩
  obtain rfl := hw.symm
  clear hle4 hw
  obtain ⟨dv, w5, hc5, hrow5, g5, hown5, hs5⟩ := hcv.out w4
  obtain ⟨A, cp, rfl, hcp, hcpm⟩ := hrow5.form
  replace hs5 := Lib.hid hs5
  clear hcv
  go_upto_region 16 with fail
  have b6 : Blk (w5.alloc (.cells #[.int .i64 (kd : Int), .int .i64 0, .int .i64 0, .slice A (s.size) cp, .map none, .int .i64 0, .string ⟨#[]⟩] 156)) w5.heap.size (bodyC ⟨kd, 0, 0, 0, (tl s), none, ⟨#[]⟩⟩ ⟨w5.heap.size, .slice A (s.size) cp, .map none⟩) 156 := Blk.new w5 _ _
  have g6 : w4.grownBy (w5.alloc (.cells #[.int .i64 (kd : Int), .int .i64 0, .int .i64 0, .slice A (s.size) cp, .map none, .int .i64 0, .string ⟨#[]⟩] 156)) none := grownBy_tr g5 (World.grownBy_alloc w5 _ _)
  have r6 : RowM (w5.alloc (.cells #[.int .i64 (kd : Int), .int .i64 0, .int .i64 0, .slice A (s.size) cp, .map none, .int .i64 0, .string ⟨#[]⟩] 156)) 5 (.slice A (s.size) cp) (s.size) (bc (tl s)) := hrow5.keep fun g hg => Below.heap_alloc w5 _ g (hrow5.lt hg)
  have n6 : (w5.alloc (.cells #[.int .i64 (kd : Int), .int .i64 0, .int .i64 0, .slice A (s.size) cp, .map none, .int .i64 0, .string ⟨#[]⟩] 156)).heap.size = w5.heap.size + 1 := by simp
  generalize (w5.alloc (.cells #[.int .i64 (kd : Int), .int .i64 0, .int .i64 0, .slice A (s.size) cp, .map none, .int .i64 0, .string ⟨#[]⟩] 156)) = w6 at b6 g6 r6 n6 ⊢
  generalize hnb : w5.heap.size = nb at b6 n6 ⊢
  clear hc5 hrow5 g5
  have h4 := hgr.out w4 g4
  have h6 := h4.grown g6
  have hkm := h6.map
  have hne : fb ≠ mb := fun e => by have := h4.lfs; rw [e, h4.lmap] at this; cases this
  have f0 := h6.fs.cell (i := 0) rfl
  have f3 := h6.fs.cell (i := 3) rfl
  rw [hU.out] at f3
  have ff3 := h6.fs.frozen 3
  have hfl6 := h6.fs.lt
  have hlke : look (entN mem nds) (m : Int) = none := by rw [entN_look, hm]; rfl
  replace h4 := Lib.hid h4
  replace h6 := Lib.hid h6
  go_upto_region 18 with fail
  go_wp2_with (at_mapUpdate; go_loud (refine wpList_put_k rfl _ _ _ 174 rfl 3 150 keyI Tryz.underlying174 Tryz.underlying3 rfl hkm (m : Int) rfl hlke (.pointer (some ⟨nb, 0, none⟩)) rfl ?_); intro ob hkm7; refine Hid.out ?_)
  refine Lib.hid ?_
  have c8 : Chg (fun g => g = fb ∨ g = mb) (fun g => g = fb ∨ g = mb) w4 ((setBlock w6 mb ob).setCell ⟨fb, 3, none⟩ (.int .i64 ((U : Int) + (s.size : Int)))) := ((Chg.of_grown g6 _).trans (Chg.setB (.inr rfl) ob)).trans (Chg.set (.inl rfl) 3 _)
  have hf7 : Blk (setBlock w6 mb ob) fb _ _ := h6.out.fs.setB hne ob
  have hf8 := hf7.set 3 (.int .i64 ((U : Int) + (s.size : Int)))
  have hz6 : z ≠ fb ∧ z ≠ mb := ⟨by omega, by omega⟩
  have b6z : Blk w6 z _ _ := (g6.block z b4.lt (by simp)).trans b4
  have b8 := (b6z.setB hz6.2 ob).other (a := ⟨fb, 3, none⟩) hz6.1 (.int .i64 ((U : Int) + (s.size : Int)))
  have e8 : ∀ g, w4.heap.size ≤ g → g ≠ fb ∧ g ≠ mb := fun g hg => ⟨fun e => by have := h4.out.fs.lt; omega, fun e => by have := h4.out.map.lt; omega⟩
  have hnb4 : w4.heap.size ≤ nb := by have := hs5.out; omega
  have k8 : ∀ g, w4.heap.size ≤ g → ((setBlock w6 mb ob).setCell ⟨fb, 3, none⟩ (.int .i64 ((U : Int) + (s.size : Int)))).heap[g]? = w6.heap[g]? := fun g hg => (heap_setCell_other _ _ g _ (e8 g hg).1).trans (setB_other (e8 g hg).2 ob)
  have hm7 : KMap ((setBlock w6 mb ob).setCell ⟨fb, 3, none⟩ (.int .i64 ((U : Int) + (s.size : Int)))) mb (.int .i64) encI _ := hkm7.keep (heap_setCell_other _ _ mb _ (fun e => hne e.symm))
  have hb8 : Blk ((setBlock w6 mb ob).setCell ⟨fb, 3, none⟩ (.int .i64 ((U : Int) + (s.size : Int)))) nb _ _ := (k8 nb hnb4).trans b6
  have hg8 : ∀ g, (Value.slice A (s.size) cp).ownBlock = some g → w4.heap.size ≤ g ∧ g ≠ nb := fun g hg => by
    rw [hown5] at hg
    cases hg
    exact ⟨Nat.le_refl _, by have := hs5.out; omega⟩
  have hr8 := r6.keep (w' := (setBlock w6 mb ob).setCell ⟨fb, 3, none⟩ (.int .i64 ((U : Int) + (s.size : Int)))) fun g hg => k8 g (hg8 g hg).1
  have htl : (tl s).length = s.size := tl_len s
  obtain ⟨lab', mem', h9, c9⟩ := h4.out.add (y := ⟨kd, 0, 0, 0, (tl s), none, ⟨#[]⟩⟩) (M := ⟨nb, .slice A (s.size) cp, .map none⟩) hF hm c8
    (by rw [show ((usedN nds + ((tl s)).length : Nat) : Int) = ((U : Int) + (s.size : Int)) by rw [htl, hU.out]; omega]; exact hf8) hm7 hb8 hnb4 (by rw [htl]; exact hr8) hg8 (by rw [htl]; exact hs) (fun _ => rfl) nofun (by rw [htl, hU.out]; exact hroom)
  have c10 := (Chg.of_grown g4 F).trans c9
  have hen := enter_one (F := fun g => lab' g ≠ .free) h9 (fun _ => Iff.rfl) hn1 hxn nm hl hm1 hnm (Nat.zero_le _)
  have y0 := b8.cell (i := 0) rfl
  have y1 := b8.cell (i := 1) rfl
  have y2 := b8.cell (i := 2) rfl
  have hzl := b8.lt
  have q1 : U + s.size ≤ 1048576 := by have := hlim.2.1; omega
  have x3 : (setBlock w6 mb ob).cell? ⟨fb, 3, none⟩ = some (.int .i64 (U : Int)) := by
    have := hf7.cell (i := 3) rfl
    rwa [hU.out] at this
  have xf := hf7.frozen 3
  have xl := hf7.lt
  clear hf7 b6z b8 e8 k8 hm7 hb8 hg8 hr8 htl b4 b6 r6 hkm hkm7 c8 hf8 g4 g6 hlke hz6
  replace c10 := Lib.hid c10
  clear h9 c9
  go_upto_region 20 with fail
  generalize (setBlock w6 mb ob).setCell ⟨fb, 3, none⟩ (.int .i64 ((U : Int) + (s.size : Int))) = w8 at hen c10 y0 y1 y2 hzl ⊢
  clear x3 xf xl f0 f3 ff3 hfl6
  go_wp2_with fail
  refine hen.mono ?_
  rintro e w9 ⟨rfl, hT, c11⟩
  have c12 := c10.out.trans c11
  replace hT := Lib.hid hT
  replace c12 := Lib.hid c12
  clear hen c11 c10 y0 y1 y2 hzl
  go_wp2
  go_ret2
  refine ⟨rfl, _, ⟨lab', mb, mem', ?_, fun _ => Iff.rfl⟩, c12.out⟩
  rw [← hres.out]
  have hT := hT.out
  unfold made
  rw [if_neg (by omega), if_neg (by omega)]
  rw [if_neg (by omega)] at hT
  exact hT
theorem make_dir (h : TreeF w F fb most room nds) {x : Pn} {l : List (ByteArray × Nat)} (hx : look nds 1 = some x) (hxk : x.kind = 1) (hxp : x.par = 1) (hxn : x.nms = some l) (c : UInt8) (h0 : c ≠ 0) (h46 : c ≠ 46) (h47 : c ≠ 47) (hl : look l (nm1 c) = none)
    (m : Nat) (h1m : 2 ≤ m) (hmm : m ≤ 1000000) (hm : look nds (m : Int) = none) (hall : ∀ j : Nat, 1 ≤ j → j < m → ∃ x, look nds (j : Int) = some x) (hmany : nds.length < most) :
    Calls Tryz.prog 43 #[.pointer (some ⟨fb, 0, none⟩), .int .i64 1, .string (nm1 c), .int .i64 (1 : Int), .string ⟨#[]⟩] w fun e w' => e = .returned (.tuple #[.int .i64 (m : Int), .int .i64 0]) ∧ ∃ F', TreeF w' F' fb most room (made nds x l (nm1 c) m 1 []) ∧ Chg F F' w w' := by
  obtain ⟨lab, mb, mem, h, hF⟩ := h
  have hpl := place_one h hx hxk c h47
  have hfr := fun (W : World) (hW : w.grownBy W none) => free_one (h.grown hW) hx hxp hxn c h0 h46 hl (1 : Int)
  have hle := fun (W : World) (hW : w.grownBy W none) => least_any (h.grown hW) m (by omega) hmm hm hall
  have hgr := fun (W : World) (hW : w.grownBy W none) => h.grown hW
  have hcv : ∀ W : World, ∃ dv W', (convert 9 153 (.string ⟨#[]⟩)).run Tryz.prog W = .ok dv W' ∧ RowM W' 5 dv 0 (bc (tl (⟨#[]⟩ : ByteArray))) ∧ W.grownBy W' none ∧ dv.ownBlock = some W.heap.size ∧ W'.heap.size = W.heap.size + 1 := conv_bytes ⟨#[]⟩ (by decide)
  have hm1 : (m : Int) ≠ 1 := by omega
  have hn1 : look (nds ++ [((m : Int), (⟨1, 0, 0, 0, ([] : List UInt8), some [], ⟨#[]⟩⟩ : Pn))]) 1 = some x := by rw [look_app, hx]; rfl
  have hnm : look (nds ++ [((m : Int), (⟨1, 0, 0, 0, ([] : List UInt8), some [], ⟨#[]⟩⟩ : Pn))]) (m : Int) = some ⟨1, 0, 0, 0, ([] : List UInt8), some [], ⟨#[]⟩⟩ := by rw [look_app, hm]; simp [look]
  have hlim := h.lim
  have hfl := h.fs.lt
  have hml := h.map.lt
  have hlen : nds.length ≤ most := by omega
  have k5 : (⟨#[]⟩ : ByteArray).toList.isEmpty = true := by decide +kernel
  obtain ⟨nm, hnmE⟩ : ∃ nm, nm1 c = nm := ⟨_, rfl⟩
  rw [hnmE] at hpl hfr hl ⊢
  obtain ⟨res, hres⟩ : ∃ res, made nds x l nm m 1 ([] : List UInt8) = res := ⟨_, rfl⟩
  rw [hres]
  replace hres := Lib.hid hres
  replace hfr := Lib.hid hfr
  replace hle := Lib.hid hle
  replace hgr := Lib.hid hgr
  replace hcv := Lib.hid hcv
  replace h := Lib.hid h
  clear hx hxk hxp hall hnmE
  go_enter Tryz.func43, Tryz.ntmps43
  go_wp2_with fail
  refine hpl.mono ?_
  rintro e w1 ⟨rfl, g1⟩
  clear hpl
  go_upto_region 9 with fail
  have b2 : Blk (w1.alloc (.cells #[.int .i64 1, .string nm, .bool false] 178)) w1.heap.size [.int .i64 1, .string nm, .bool false] 178 := Blk.new w1 _ _
  have g2 : w.grownBy (w1.alloc (.cells #[.int .i64 1, .string nm, .bool false] 178)) none := grownBy_tr g1 (World.grownBy_alloc w1 _ _)
  generalize (w1.alloc (.cells #[.int .i64 1, .string nm, .bool false] 178)) = w2 at b2 g2 ⊢
  have hzw := g1.size
  generalize w1.heap.size = z at b2 hzw ⊢
  have hfr2 := hfr.out w2 g2
  have z0 := b2.cell (i := 0) rfl
  have z1 := b2.cell (i := 1) rfl
  have z2 := b2.cell (i := 2) rfl
  have hz2 := b2.lt
  clear g1 hfr
  go_wp2_with fail
  refine hfr2.mono ?_
  rintro e w3 ⟨rfl, g3⟩
  have b3 : Blk w3 z _ _ := (g3.block z hz2 (by simp)).trans b2
  have g3' := grownBy_tr g2 g3
  clear hfr2 z0 z1 z2 hz2 b2 g2 g3
  have h3 := hgr.out w3 g3'
  have hct := fun n => (hgr.out (w3.drewN n) (grownBy_drewN g3' n)).map.count Tryz.underlying174 3
  rw [show (entN mem nds).length = nds.length from List.length_map _] at hct
  have f0 := h3.fs.cell (i := 0) rfl
  have f1 := h3.fs.cell (i := 1) rfl
  have f2 := h3.fs.cell (i := 2) rfl
  have f3 := h3.fs.cell (i := 3) rfl
  have hfl3 := h3.fs.lt
  obtain ⟨U, hU⟩ : ∃ U, usedN nds = U := ⟨_, rfl⟩
  obtain ⟨NL, hNL⟩ : ∃ NL, nds.length = NL := ⟨_, rfl⟩
  rw [hU] at f3 hlim 
  rw [hNL] at hct hmany hlen
  replace hU := Lib.hid hU
  replace hNL := Lib.hid hNL
  have i1 : ¬ (most : Int) ≤ (NL : Int) := by omega
  have i2 : ¬ (room : Int) - (U : Int) < (0 : Int) := by omega
  have i3 : IntKind.i64.wrap ((room : Int) - (U : Int)) = (room : Int) - (U : Int) := by rw [IntKind.wrap_i64]; omega
  replace b3 := Lib.hid b3
  replace g3' := Lib.hid g3'
  clear h3
  go_upto_region 12 with fail
  go_quiet (fail)
  have g4 : w.grownBy (w3.drewN nq) none := grownBy_drewN g3'.out nq
  have b4 : Blk (w3.drewN nq) z _ _ := b3.out
  generalize w3.drewN nq = w4 at g4 b4 ⊢
  have hle4 := hle.out w4 g4
  clear f0 f1 f2 f3 hct b3 g3' hle i1 i2 i3 hfl3
  go_wp2_with fail
  refine hle4.mono ?_
  rintro e w' ⟨rfl, hw⟩
  obtain rfl := hw.symm
  clear hle4 hw
  obtain ⟨dv, w5, hc5, hrow5, g5, hown5, hs5⟩ := hcv.out w4
  obtain ⟨A, cp, rfl, hcp, hcpm⟩ := hrow5.form
  replace hs5 := Lib.hid hs5
  clear hcv
  go_upto_region 16 with fail
  have b6 : Blk (w5.alloc (.cells #[.int .i64 (1 : Int), .int .i64 0, .int .i64 0, .slice A (0) cp, .map none, .int .i64 0, .string ⟨#[]⟩] 156)) w5.heap.size (bodyC ⟨1, 0, 0, 0, ([] : List UInt8), none, ⟨#[]⟩⟩ ⟨w5.heap.size, .slice A (0) cp, .map none⟩) 156 := Blk.new w5 _ _
  have g6 : w4.grownBy (w5.alloc (.cells #[.int .i64 (1 : Int), .int .i64 0, .int .i64 0, .slice A (0) cp, .map none, .int .i64 0, .string ⟨#[]⟩] 156)) none := grownBy_tr g5 (World.grownBy_alloc w5 _ _)
  have r6 : RowM (w5.alloc (.cells #[.int .i64 (1 : Int), .int .i64 0, .int .i64 0, .slice A (0) cp, .map none, .int .i64 0, .string ⟨#[]⟩] 156)) 5 (.slice A (0) cp) (0) (bc (tl (⟨#[]⟩ : ByteArray))) := hrow5.keep fun g hg => Below.heap_alloc w5 _ g (hrow5.lt hg)
  have n6 : (w5.alloc (.cells #[.int .i64 (1 : Int), .int .i64 0, .int .i64 0, .slice A (0) cp, .map none, .int .i64 0, .string ⟨#[]⟩] 156)).heap.size = w5.heap.size + 1 := by simp
  generalize (w5.alloc (.cells #[.int .i64 (1 : Int), .int .i64 0, .int .i64 0, .slice A (0) cp, .map none, .int .i64 0, .string ⟨#[]⟩] 156)) = w6 at b6 g6 r6 n6 ⊢
  generalize hnb : w5.heap.size = nb at b6 n6 ⊢
  clear hc5 hrow5 g5
  have hmm := @run_makeMap Tryz.prog
  have a6 : Blk (w6.alloc (.map #[] 0)) nb _ _ := b6.alloc _
  have y4 := a6.cell (i := 4) rfl
  have yf := a6.frozen 4
  have yl := a6.lt
  have km7 : KMap (w6.alloc (.map #[] 0)) w6.heap.size .string encS ([] : List (ByteArray × Value)) := KMap.new w6 _ _
  rw [n6] at km7
  replace b6 := Lib.hid b6
  replace r6 := Lib.hid r6
  replace km7 := Lib.hid km7
  replace a6 := Lib.hid a6
  replace n6 := Lib.hid n6
  go_upto_region 18 with fail
  have b7 := a6.out.set 4 (.map (some w6.heap.size))
  rw [show (bodyC ⟨1, 0, 0, 0, ([] : List UInt8), none, ⟨#[]⟩⟩ ⟨nb, .slice A 0 cp, .map none⟩).set 4 (.map (some w6.heap.size)) = bodyC ⟨1, 0, 0, 0, ([] : List UInt8), some [], ⟨#[]⟩⟩ ⟨nb, .slice A 0 cp, .map (some w6.heap.size)⟩ from rfl] at b7
  have g7 : w4.grownBy ((w6.alloc (.map #[] 0)).setCell ⟨nb, 4, none⟩ (.map (some w6.heap.size))) none := grown_setNew (grownBy_tr g6 (World.grownBy_alloc w6 _ _)) (by have := hs5.out; omega) 4 _
  have r7 : RowM ((w6.alloc (.map #[] 0)).setCell ⟨nb, 4, none⟩ (.map (some w6.heap.size))) 5 (.slice A 0 cp) 0 (bc (tl (⟨#[]⟩ : ByteArray))) := r6.out.keep fun g hg => (heap_setCell_other _ _ g _ (fun e => by
    rw [hown5] at hg
    cases hg
    have := hs5.out
    have e : w4.heap.size = nb := e
    omega)).trans (Below.heap_alloc w6 _ g (r6.out.lt hg))
  have km8 : KMap ((w6.alloc (.map #[] 0)).setCell ⟨nb, 4, none⟩ (.map (some w6.heap.size))) (nb + 1) .string encS ([] : List (ByteArray × Value)) := km7.out.keep (heap_setCell_other _ _ _ _ (fun e => by have e : nb + 1 = nb := e; omega))
  clear y4 yf yl
  generalize (w6.alloc (.map #[] 0)).setCell ⟨nb, 4, none⟩ (.map (some w6.heap.size)) = w7 at b7 g7 r7 km8 ⊢
  rw [n6.out] at b7
  clear b6 r6 a6 km7 hmm n6 g6
  have b6 := b7
  have g6 := g7
  have r6 := r7
  clear b7 g7 r7
  have h4 := hgr.out w4 g4
  have h6 := h4.grown g6
  have hkm := h6.map
  have hne : fb ≠ mb := fun e => by have := h4.lfs; rw [e, h4.lmap] at this; cases this
  have f0 := h6.fs.cell (i := 0) rfl
  have f3 := h6.fs.cell (i := 3) rfl
  rw [hU.out] at f3
  have ff3 := h6.fs.frozen 3
  have hfl6 := h6.fs.lt
  have hlke : look (entN mem nds) (m : Int) = none := by rw [entN_look, hm]; rfl
  replace h4 := Lib.hid h4
  replace h6 := Lib.hid h6
  go_wp2_with (at_mapUpdate; go_loud (refine wpList_put_k rfl _ _ _ 174 rfl 3 150 keyI Tryz.underlying174 Tryz.underlying3 rfl hkm (m : Int) rfl hlke (.pointer (some ⟨nb, 0, none⟩)) rfl ?_); intro ob hkm7; refine Hid.out ?_)
  refine Lib.hid ?_
  have c8 : Chg (fun g => g = fb ∨ g = mb) (fun g => g = fb ∨ g = mb) w4 ((setBlock w7 mb ob).setCell ⟨fb, 3, none⟩ (.int .i64 (U : Int))) := ((Chg.of_grown g6 _).trans (Chg.setB (.inr rfl) ob)).trans (Chg.set (.inl rfl) 3 _)
  have hf7 : Blk (setBlock w7 mb ob) fb _ _ := h6.out.fs.setB hne ob
  have hf8 := hf7.set 3 (.int .i64 (U : Int))
  have hz6 : z ≠ fb ∧ z ≠ mb := ⟨by omega, by omega⟩
  have b6z : Blk w7 z _ _ := (g6.block z b4.lt (by simp)).trans b4
  have b8 := (b6z.setB hz6.2 ob).other (a := ⟨fb, 3, none⟩) hz6.1 (.int .i64 (U : Int))
  have e8 : ∀ g, w4.heap.size ≤ g → g ≠ fb ∧ g ≠ mb := fun g hg => ⟨fun e => by have := h4.out.fs.lt; omega, fun e => by have := h4.out.map.lt; omega⟩
  have hnb4 : w4.heap.size ≤ nb := by have := hs5.out; omega
  have k8 : ∀ g, w4.heap.size ≤ g → ((setBlock w7 mb ob).setCell ⟨fb, 3, none⟩ (.int .i64 (U : Int))).heap[g]? = w7.heap[g]? := fun g hg => (heap_setCell_other _ _ g _ (e8 g hg).1).trans (setB_other (e8 g hg).2 ob)
  have hm7 : KMap ((setBlock w7 mb ob).setCell ⟨fb, 3, none⟩ (.int .i64 (U : Int))) mb (.int .i64) encI _ := hkm7.keep (heap_setCell_other _ _ mb _ (fun e => hne e.symm))
  have hb8 : Blk ((setBlock w7 mb ob).setCell ⟨fb, 3, none⟩ (.int .i64 (U : Int))) nb _ _ := (k8 nb hnb4).trans b6
  have hg8 : ∀ g, (Value.slice A (0) cp).ownBlock = some g → w4.heap.size ≤ g ∧ g ≠ nb := fun g hg => by
    rw [hown5] at hg
    cases hg
    exact ⟨Nat.le_refl _, by have := hs5.out; omega⟩
  have hr8 := r6.keep (w' := (setBlock w7 mb ob).setCell ⟨fb, 3, none⟩ (.int .i64 (U : Int))) fun g hg => k8 g (hg8 g hg).1
  have km9 := km8.keep (w' := (setBlock w7 mb ob).setCell ⟨fb, 3, none⟩ (.int .i64 (U : Int))) (k8 (nb + 1) (by omega))
  obtain ⟨lab', mem', h9, c9⟩ := h4.out.add (y := ⟨1, 0, 0, 0, ([] : List UInt8), some [], ⟨#[]⟩⟩) (M := ⟨nb, .slice A (0) cp, .map (some (nb + 1))⟩) hF hm c8
    (by rw [show ((usedN nds + (([] : List UInt8)).length : Nat) : Int) = (U : Int) by rw [hU.out]; rfl]; exact hf8) hm7 hb8 hnb4 (by exact hr8) hg8 (by exact Nat.zero_le _) (nofun) (fun l hl => by cases hl; exact ⟨nb + 1, rfl, by omega, by show nb + 1 ≠ nb; omega, fun e => by (have := (hg8 _ e).1; rw [hown5] at e; have e2 := Option.some.inj e; have := hs5.out; omega), km9⟩) (by rw [hU.out]; exact hlim.2.2)
  have c10 := (Chg.of_grown g4 F).trans c9
  have hen := enter_one (F := fun g => lab' g ≠ .free) h9 (fun _ => Iff.rfl) hn1 hxn nm hl hm1 hnm (Nat.zero_le _)
  have y0 := b8.cell (i := 0) rfl
  have y1 := b8.cell (i := 1) rfl
  have y2 := b8.cell (i := 2) rfl
  have hzl := b8.lt
  have q1 : U + 0 ≤ 1048576 := by have := hlim.2.1; omega
  have x3 : (setBlock w7 mb ob).cell? ⟨fb, 3, none⟩ = some (.int .i64 (U : Int)) := by
    have := hf7.cell (i := 3) rfl
    rwa [hU.out] at this
  have xf := hf7.frozen 3
  have xl := hf7.lt
  clear hf7 b6z b8 e8 k8 hm7 hb8 hg8 hr8 b4 b6 r6 hkm hkm7 c8 hf8 g4 g6 hlke hz6
  replace c10 := Lib.hid c10
  clear h9 c9
  go_upto_region 20 with fail
  generalize (setBlock w7 mb ob).setCell ⟨fb, 3, none⟩ (.int .i64 (U : Int)) = w8 at hen c10 y0 y1 y2 hzl ⊢
  clear x3 xf xl f0 f3 ff3 hfl6
  go_wp2_with fail
  refine hen.mono ?_
  rintro e w9 ⟨rfl, hT, c11⟩
  have c12 := c10.out.trans c11
  replace hT := Lib.hid hT
  replace c12 := Lib.hid c12
  clear hen c11 c10 y0 y1 y2 hzl
  go_wp2
  go_ret2
  refine ⟨rfl, _, ⟨lab', mb, mem', ?_, fun _ => Iff.rfl⟩, c12.out⟩
  rw [← hres.out]
  have hT := hT.out
  unfold made
  rw [if_pos rfl, if_pos rfl]
  rw [if_pos trivial] at hT
  exact hT
end
end Go.Proofs.YtfofpphnglhopaaGreatDoor
namespace Go.Proofs.YtfofpphnglhopaaGreatDoor
open Go Go.RowKit
def cutA (p : List UInt8) : List UInt8 := (Lib.trimLeftB p 47).takeWhile (· != 47)
def cutB (p : List UInt8) : List UInt8 := (Lib.trimLeftB p 47).dropWhile (· != 47)
def findP (l : List (ByteArray × Nat)) (part : List UInt8) : Int × Int :=
  if 32 < part.length ∨ (0 : UInt8) ∈ part then (0, 16) else match look l ⟨part.toArray⟩ with | none => (0, 10) | some n => ((n : Int), 0)
def beginP (a : Int) (p : List UInt8) : Int × Int := if p = [] then (0, 10) else if 256 < p.length then (0, 21) else if p.head? = some 47 then (1, 0) else (a, 0)
def nmsOf (x : Pn) : List (ByteArray × Nat) := x.nms.getD []
def walkP (nds : Nds) (fo : Bool) : Nat → Int → List UInt8 → Nat → Int × Int
  | 0, a, _, _ => (a, 0)
  | f + 1, a, rest, links =>
    if rest = [] then (a, 0) else
    match look nds a with
    | none => (0, 99)
    | some x =>
      if x.kind ≠ 1 then (0, 12)
      else if cutA rest = [] then (a, 0)
      else if cutA rest = [46] then walkP nds fo f a (cutB rest) links
      else if cutA rest = [46, 46] then (if x.par = 0 then (0, 10) else walkP nds fo f (x.par : Int) (cutB rest) links)
      else if (findP (nmsOf x) (cutA rest)).2 ≠ 0 then (0, (findP (nmsOf x) (cutA rest)).2)
      else
        match look nds (findP (nmsOf x) (cutA rest)).1 with
        | none => (0, 99)
        | some y =>
          if y.kind ≠ 3 ∨ (cutB rest = [] ∧ fo = false) then walkP nds fo f (findP (nmsOf x) (cutA rest)).1 (cutB rest) links
          else if links = 8 then (0, 17)
          else if (beginP a y.data).2 ≠ 0 then (0, (beginP a y.data).2)
          else walkP nds fo f (beginP a y.data).1 (y.data ++ cutB rest) (links + 1)
def wM (rest : List UInt8) (links : Nat) : Nat := (8 - links) * 257 + rest.length
def startP (nds : Nds) (a : Int) (p : List UInt8) : Int × Int := match look nds a with | none => (0, 1) | some x => if x.kind ≠ 1 then (0, 1) else beginP a p
def WalkQ (nds : Nds) (a : Int) (p : List UInt8) (fo : Bool) : Int × Int :=
  if (startP nds a p).2 ≠ 0 then (0, (startP nds a p).2) else walkP nds fo (wM p 0 + 1) (startP nds a p).1 p 0
def endP (p : List UInt8) : Nat := (Lib.trimRightB p 47).length
def firstP (p : List UInt8) : Nat := (Lib.lastIndexByte ⟨(p.take (endP p)).toArray⟩ 47 + 1).toNat
def nameP (p : List UInt8) : List UInt8 := (p.take (endP p)).drop (firstP p)
def slashP (p : List UInt8) : Bool := decide (endP p < p.length)
def placeP (nds : Nds) (a : Int) (p : List UInt8) : Int × Int :=
  if (startP nds a p).2 ≠ 0 then (0, (startP nds a p).2) else walkP nds true (wM (p.take (firstP p)) 0 + 1) (startP nds a p).1 (p.take (firstP p)) 0
def cntE (k : Int) (x : Pn) : Nat := ((nmsOf x).filter fun e => decide ((e.2 : Int) = k)).length
structure TOk (nds : Nds) : Prop where
  root : ∃ x, look nds 1 = some x ∧ x.kind = 1 ∧ x.par = 1
  kind : ∀ k x, look nds k = some x → x.kind = 1 ∨ x.kind = 2 ∨ x.kind = 3
  dir : ∀ k x, look nds k = some x → x.kind = 1 → ∃ l, x.nms = some l
  leaf : ∀ k x, look nds k = some x → x.kind ≠ 1 → x.nms = none
  ent : ∀ k x, look nds k = some x → ∀ e ∈ nmsOf x, (e.2 : Int) ≠ 1 ∧ ∃ y, look nds (e.2 : Int) = some y
  par : ∀ k x, look nds k = some x → x.kind = 1 → x.par ≠ 0 → ∃ p, look nds (x.par : Int) = some p ∧ p.kind = 1 ∧ (k ≠ 1 → ∃ j : Nat, (j : Int) = k ∧ (x.name, j) ∈ nmsOf p)
  dead : ∀ k x, look nds k = some x → x.kind = 1 → k ≠ 1 → x.par = 0 → nmsOf x = []
  cnt : ∀ k x, look nds k = some x → k ≠ 1 → x.named = total (cntE k) nds
  gone : ∀ k x, look nds k = some x → x.kind = 1 → k ≠ 1 → x.named = 0 → x.par = 0
def walkE (e : Int) : Prop := e = 0 ∨ e = 10 ∨ e = 12 ∨ e = 16 ∨ e = 17 ∨ e = 21
theorem findP_e (l : List (ByteArray × Nat)) (p : List UInt8) : ((findP l p).2 = 0 ∧ ∃ n : Nat, (findP l p).1 = n ∧ (⟨p.toArray⟩, n) ∈ l) ∨ ((findP l p).1 = 0 ∧ ((findP l p).2 = 10 ∨ (findP l p).2 = 16)) := by
  unfold findP
  split
  · exact .inr ⟨rfl, .inr rfl⟩
  · split
    · exact .inr ⟨rfl, .inl rfl⟩
    · rename_i h; exact .inl ⟨rfl, _, rfl, look_mem h⟩
theorem beginP_e (a : Int) (p : List UInt8) : ((beginP a p).2 = 0 ∧ ((beginP a p).1 = 1 ∨ (beginP a p).1 = a) ∧ p.length ≤ 256) ∨ ((beginP a p).1 = 0 ∧ ((beginP a p).2 = 10 ∨ (beginP a p).2 = 21)) := by
  unfold beginP
  split
  · exact .inr ⟨rfl, .inl rfl⟩
  · split
    · exact .inr ⟨rfl, .inr rfl⟩
    · split
      · exact .inl ⟨rfl, .inl rfl, by omega⟩
      · exact .inl ⟨rfl, .inr rfl, by omega⟩
theorem dropWhile_len (q : UInt8 → Bool) (p : List UInt8) : (p.dropWhile q).length ≤ p.length := by
  induction p with
  | nil => exact Nat.le_refl _
  | cons a l ih => rw [List.dropWhile_cons]; split <;> simp only [List.length_cons] <;> omega
theorem cutB_lt {p : List UInt8} (hp : p ≠ []) : (cutB p).length < p.length := by
  unfold cutB Lib.trimLeftB
  cases p with
  | nil => exact absurd rfl hp
  | cons a l =>
    rw [List.dropWhile_cons]
    split
    · have h1 := dropWhile_len (fun x => x == 47) l
      have h2 := dropWhile_len (fun x => x != 47) (l.dropWhile fun x => x == 47)
      simp only [List.length_cons]; omega
    · rename_i h
      rw [List.dropWhile_cons, if_pos (by simpa using h)]
      have := dropWhile_len (fun x => x != 47) l
      simp only [List.length_cons]; omega
theorem wM_step {rest rest' : List UInt8} (h : rest'.length < rest.length) (links : Nat) : wM rest' links < wM rest links := by unfold wM; omega
theorem wM_link {rest rest' t : List UInt8} (h : rest'.length < rest.length) (ht : t.length ≤ 256) {links : Nat} (hl : links < 8) : wM (t ++ rest') (links + 1) < wM rest links := by
  unfold wM
  rw [List.length_append]
  omega
theorem TOk.dirAt {nds : Nds} (T : TOk nds) {k : Int} {x : Pn} (hx : look nds k = some x) (hk : x.kind = 1) : x.nms = some (nmsOf x) := by
  obtain ⟨l, hl⟩ := T.dir k x hx hk
  unfold nmsOf
  rw [hl]; rfl
theorem walkP_ok {nds : Nds} (T : TOk nds) (fo : Bool) (f : Nat) : ∀ (a : Int) (rest : List UInt8) (links : Nat), (∃ x, look nds a = some x) → links ≤ 8 → wM rest links < f →
    ((walkP nds fo f a rest links).2 = 0 → ∃ y, look nds (walkP nds fo f a rest links).1 = some y) ∧ walkE (walkP nds fo f a rest links).2 ∧ ((walkP nds fo f a rest links).2 ≠ 0 → (walkP nds fo f a rest links).1 = 0) := by
  induction f with
  | zero => exact fun a rest links _ _ h => absurd h (Nat.not_lt_zero _)
  | succ f ih =>
    rintro a rest links ⟨x, hx⟩ hl hf
    unfold walkP
    by_cases h0 : rest = []
    · rw [if_pos h0]; exact ⟨fun _ => ⟨x, hx⟩, .inl rfl, fun h => absurd rfl h⟩
    rw [if_neg h0, hx]
    simp only []
    have hcl := cutB_lt h0
    have hst : wM (cutB rest) links < f := by have := wM_step hcl links; omega
    by_cases h1 : x.kind ≠ 1
    · rw [if_pos h1]; exact ⟨fun h => (by cases h), .inr (.inr (.inl rfl)), fun _ => rfl⟩
    rw [if_neg h1]
    by_cases h2 : cutA rest = []
    · rw [if_pos h2]; exact ⟨fun _ => ⟨x, hx⟩, .inl rfl, fun h => absurd rfl h⟩
    rw [if_neg h2]
    by_cases h3 : cutA rest = [46]
    · rw [if_pos h3]; exact ih a (cutB rest) links ⟨x, hx⟩ hl hst
    rw [if_neg h3]
    by_cases h4 : cutA rest = [46, 46]
    · rw [if_pos h4]
      by_cases h5 : x.par = 0
      · rw [if_pos h5]; exact ⟨fun h => (by cases h), .inr (.inl rfl), fun _ => rfl⟩
      · rw [if_neg h5]
        obtain ⟨p, hp, _⟩ := T.par a x hx (by omega) h5
        exact ih _ (cutB rest) links ⟨p, hp⟩ hl hst
    rw [if_neg h4]
    rcases findP_e (nmsOf x) (cutA rest) with ⟨e1, n, e2, e3⟩ | ⟨e1, e2⟩
    · rw [if_neg (by rw [e1]; simp)]
      obtain ⟨_, y, hy⟩ := T.ent a x hx _ e3
      rw [e2]
      simp only at hy
      rw [hy]
      simp only []
      by_cases h6 : y.kind ≠ 3 ∨ (cutB rest = [] ∧ fo = false)
      · rw [if_pos h6]; exact ih _ (cutB rest) links ⟨y, hy⟩ hl hst
      · rw [if_neg h6]
        by_cases h7 : links = 8
        · rw [if_pos h7]; exact ⟨fun h => (by cases h), .inr (.inr (.inr (.inr (.inl rfl)))), fun _ => rfl⟩
        · rw [if_neg h7]
          rcases beginP_e a y.data with ⟨b1, b2, b3⟩ | ⟨b1, b2⟩
          · rw [if_neg (by rw [b1]; simp)]
            refine ih _ _ _ ?_ (by omega) (by have := wM_link (t := y.data) hcl b3 (links := links) (by omega); omega)
            obtain ⟨r, hr, _⟩ := T.root
            rcases b2 with b2 | b2 <;> rw [b2]
            · exact ⟨r, hr⟩
            · exact ⟨x, hx⟩
          · rw [if_pos (by rcases b2 with b2 | b2 <;> rw [b2] <;> decide)]
            refine ⟨fun h => ?_, ?_, fun _ => rfl⟩
            · rcases b2 with b2 | b2 <;> rw [b2] at h <;> cases h
            · rcases b2 with b2 | b2 <;> simp [walkE, b2]
    · rw [if_pos (by rcases e2 with e2 | e2 <;> rw [e2] <;> decide)]
      refine ⟨fun h => ?_, ?_, fun _ => rfl⟩
      · rcases e2 with e2 | e2 <;> rw [e2] at h <;> cases h
      · rcases e2 with e2 | e2 <;> simp [walkE, e2]
def endsS (p : List UInt8) : Prop := p.getLast? = some 47
theorem dropWhile_ends {q : UInt8 → Bool} (hq : q 47 = false) {p : List UInt8} (h : endsS p) : endsS (p.dropWhile q) := by
  unfold endsS at h ⊢
  induction p with
  | nil => cases h
  | cons a l ih =>
    rw [List.dropWhile_cons]
    split
    · rename_i ha
      cases l with
      | nil =>
        simp at h
        rw [h, hq] at ha
        cases ha
      | cons b l => exact ih (by simpa [List.getLast?_cons_cons] using h)
    · exact h
theorem trim_ends {p : List UInt8} (h : endsS p) : Lib.trimLeftB p 47 = [] ∨ endsS (Lib.trimLeftB p 47) := by
  unfold Lib.trimLeftB
  induction p with
  | nil => exact .inl rfl
  | cons a l ih =>
    rw [List.dropWhile_cons]
    split
    · cases l with
      | nil => exact .inl rfl
      | cons b l => exact ih (by unfold endsS at h ⊢; simpa [List.getLast?_cons_cons] using h)
    · exact .inr h
theorem cutB_ends {p : List UInt8} (h : endsS p) (ha : cutA p ≠ []) : endsS (cutB p) := by
  rcases trim_ends h with h | h
  · exact absurd (by unfold cutA; rw [h]; rfl) ha
  · exact dropWhile_ends (by decide) h
theorem endsS_ne {p : List UInt8} (h : endsS p) : p ≠ [] := fun e => by rw [e] at h; cases h
theorem endsS_app {t p : List UInt8} (h : endsS p) : endsS (t ++ p) := by
  unfold endsS at h ⊢
  rw [List.getLast?_append, h]; rfl
theorem walkP_dir {nds : Nds} (T : TOk nds) (f : Nat) : ∀ (a : Int) (rest : List UInt8) (links : Nat) (x : Pn), look nds a = some x → (rest = [] ∧ x.kind = 1 ∨ endsS rest) → links ≤ 8 → wM rest links < f →
    (walkP nds true f a rest links).2 = 0 → ∃ y, look nds (walkP nds true f a rest links).1 = some y ∧ y.kind = 1 := by
  induction f with
  | zero => exact fun a rest links _ _ _ _ h => absurd h (Nat.not_lt_zero _)
  | succ f ih =>
    intro a rest links x hx hd hl hf
    unfold walkP
    by_cases h0 : rest = []
    · rw [if_pos h0]
      intro _
      exact ⟨x, hx, hd.elim (·.2) fun h => absurd h0 (endsS_ne h)⟩
    replace hd := hd.resolve_left fun h => h0 h.1
    rw [if_neg h0, hx]
    simp only []
    have hcl := cutB_lt h0
    have hst : wM (cutB rest) links < f := by have := wM_step hcl links; omega
    by_cases h1 : x.kind ≠ 1
    · rw [if_pos h1]; intro h; cases h
    rw [if_neg h1]
    by_cases h2 : cutA rest = []
    · rw [if_pos h2]; exact fun _ => ⟨x, hx, by omega⟩
    rw [if_neg h2]
    have hde := cutB_ends hd h2
    by_cases h3 : cutA rest = [46]
    · rw [if_pos h3]; exact ih a (cutB rest) links x hx (.inr hde) hl hst
    rw [if_neg h3]
    by_cases h4 : cutA rest = [46, 46]
    · rw [if_pos h4]
      by_cases h5 : x.par = 0
      · rw [if_pos h5]; intro h; cases h
      · rw [if_neg h5]
        obtain ⟨p, hp, _⟩ := T.par a x hx (by omega) h5
        exact ih _ (cutB rest) links p hp (.inr hde) hl hst
    rw [if_neg h4]
    rcases findP_e (nmsOf x) (cutA rest) with ⟨e1, n, e2, e3⟩ | ⟨e1, e2⟩
    · rw [if_neg (by rw [e1]; simp)]
      obtain ⟨_, y, hy⟩ := T.ent a x hx _ e3
      rw [e2]
      simp only at hy
      rw [hy]
      simp only []
      by_cases h6 : y.kind ≠ 3 ∨ (cutB rest = [] ∧ true = false)
      · rw [if_pos h6]; exact ih _ (cutB rest) links y hy (.inr hde) hl hst
      · rw [if_neg h6]
        by_cases h7 : links = 8
        · rw [if_pos h7]; intro h; cases h
        · rw [if_neg h7]
          rcases beginP_e a y.data with ⟨b1, b2, b3⟩ | ⟨b1, b2⟩
          · rw [if_neg (by rw [b1]; simp)]
            obtain ⟨r, hr, _⟩ := T.root
            have hm : wM (y.data ++ cutB rest) (links + 1) < f := by have := wM_link (t := y.data) hcl b3 (links := links) (by omega); omega
            rcases b2 with b2 | b2 <;> rw [b2]
            · exact ih _ _ _ r hr (.inr (endsS_app hde)) (by omega) hm
            · exact ih _ _ _ x hx (.inr (endsS_app hde)) (by omega) hm
          · rw [if_pos (by rcases b2 with b2 | b2 <;> rw [b2] <;> decide)]
            intro h
            rcases b2 with b2 | b2 <;> rw [b2] at h <;> cases h
    · rw [if_pos (by rcases e2 with e2 | e2 <;> rw [e2] <;> decide)]
      intro h
      rcases e2 with e2 | e2 <;> rw [e2] at h <;> cases h
end Go.Proofs.YtfofpphnglhopaaGreatDoor
