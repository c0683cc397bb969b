/-
  Make of a path of one byte from the root on, walked: a file or a link, and a directory. Conditions: the byte is no / and no point, and not 0; there is room; the number is the least that no node has.
-/
import Derived.Test.YtffipbmonfodbaaGreatDoorNdMake
namespace Go.Proofs.YtffipbmonfodbaaGreatDoor
open Go Go.RowKit Go.ChangeMaps

/-- The tree with a node more, of number m, that the root names. -/
def made (nds : Nds) (x : Pn) (l : List (ByteArray × Nat)) (nm : ByteArray) (m kd : Nat) (d : List UInt8) : Nds :=
  upd (upd (nds ++ [((m : Int), ⟨kd, 0, 0, 0, d, if kd = 1 then some [] else none, ⟨#[]⟩⟩)]) 1 { x with nms := some (l ++ [(nm, m)]) }) (m : Int)
    (if kd = 1 then ⟨1, 1, 0, 1, d, some [], nm⟩ else ⟨kd, 1, 0, 0, d, none, ⟨#[]⟩⟩)

section
variable {w : World} {F : Nat → Prop} {fb most room : Nat} {nds : Nds}

set_option maxHeartbeats 4000000 in
set_option maxRecDepth 100000 in
theorem make_leaf (h : TreeF w F fb most room nds) {x : Pn} {l : List (ByteArray × Nat)} (hx : look nds 1 = some x) (hxk : x.kind = 1) (hxp : x.par = 1) (hxn : x.nms = some l) (c : UInt8) (h0 : c ≠ 0) (h46 : c ≠ 46) (h47 : c ≠ 47) (hl : look l (nm1 c) = none)
    (m : Nat) (h1m : 2 ≤ m) (hmm : m ≤ 1000000) (hm : look nds (m : Int) = none) (hall : ∀ j : Nat, 1 ≤ j → j < m → ∃ x, look nds (j : Int) = some x) (hmany : nds.length < most) (kd : Nat) (hkd : kd = 2 ∨ kd = 3) (s : ByteArray) (hs : s.size ≤ 4096) (hroom : usedN nds + s.size ≤ room) :
    Calls Tryz.prog 22 #[.pointer (some ⟨fb, 0, none⟩), .int .i64 1, .string (nm1 c), .int .i64 (kd : Int), .string s] w fun e w' => e = .returned (.tuple #[.int .i64 (m : Int), .int .i64 0]) ∧ ∃ F', TreeF w' F' fb most room (made nds x l (nm1 c) m kd (tl s)) ∧ Chg F F' w w' := by
  obtain ⟨lab, mb, mem, h, hF⟩ := h
  have hpl := place_one h hx hxk c h47
  have hfr := fun (W : World) (hW : w.grownBy W none) => free_one (h.grown hW) hx hxp hxn c h0 h46 hl (kd : Int)
  have hle := fun (W : World) (hW : w.grownBy W none) => least_any (h.grown hW) m (by omega) hmm hm hall
  have hgr := fun (W : World) (hW : w.grownBy W none) => h.grown hW
  have hcv := conv_bytes s (by omega)
  have hm1 : (m : Int) ≠ 1 := by omega
  have hn1 : look (nds ++ [((m : Int), (⟨kd, 0, 0, 0, (tl s), none, ⟨#[]⟩⟩ : Pn))]) 1 = some x := by rw [look_app, hx]; rfl
  have hnm : look (nds ++ [((m : Int), (⟨kd, 0, 0, 0, (tl s), none, ⟨#[]⟩⟩ : Pn))]) (m : Int) = some ⟨kd, 0, 0, 0, (tl s), none, ⟨#[]⟩⟩ := by rw [look_app, hm]; simp [look]
  have hlim := h.lim
  have hfl := h.fs.lt
  have hml := h.map.lt
  have hlen : nds.length ≤ most := by omega
  have k1 : ¬ (kd : Int) < 1 := by omega
  have k2 : ¬ (3 : Int) < (kd : Int) := by omega
  have k3 : ((kd : Int) == 1) = false := by simp; omega
  have k4 : ¬ (4096 : Int) < (s.size : Int) := by omega
  obtain ⟨nm, hnmE⟩ : ∃ nm, nm1 c = nm := ⟨_, rfl⟩
  rw [hnmE] at hpl hfr hl ⊢
  obtain ⟨res, hres⟩ : ∃ res, made nds x l nm m kd (tl s) = res := ⟨_, rfl⟩
  rw [hres]
  replace hres := Lib.hid hres
  replace hfr := Lib.hid hfr
  replace hle := Lib.hid hle
  replace hgr := Lib.hid hgr
  replace hcv := Lib.hid hcv
  replace h := Lib.hid h
  clear hx hxk hxp hall hnmE
  go_enter Tryz.func22, Tryz.ntmps22
  go_wp2_with fail
  refine hpl.mono ?_
  rintro e w1 ⟨rfl, g1⟩
  clear hpl
  go_upto_region 9 with fail
  have b2 : Blk (w1.alloc (.cells #[.int .i64 1, .string nm, .bool false] 119)) w1.heap.size [.int .i64 1, .string nm, .bool false] 119 := Blk.new w1 _ _
  have g2 : w.grownBy (w1.alloc (.cells #[.int .i64 1, .string nm, .bool false] 119)) none := grownBy_tr g1 (World.grownBy_alloc w1 _ _)
  generalize (w1.alloc (.cells #[.int .i64 1, .string nm, .bool false] 119)) = w2 at b2 g2 ⊢
  have hzw := g1.size
  generalize w1.heap.size = z at b2 hzw ⊢
  have hfr2 := hfr.out w2 g2
  have z0 := b2.cell (i := 0) rfl
  have z1 := b2.cell (i := 1) rfl
  have z2 := b2.cell (i := 2) rfl
  have hz2 := b2.lt
  clear g1 hfr
  go_wp2_with fail
  refine hfr2.mono ?_
  rintro e w3 ⟨rfl, g3⟩
  have b3 : Blk w3 z _ _ := (g3.block z hz2 (by simp)).trans b2
  have g3' := grownBy_tr g2 g3
  clear hfr2 z0 z1 z2 hz2 b2 g2 g3
  have h3 := hgr.out w3 g3'
  have hct := fun n => (hgr.out (w3.drewN n) (grownBy_drewN g3' n)).map.count Tryz.underlying72 3
  rw [show (entN mem nds).length = nds.length from List.length_map _] at hct
  have f0 := h3.fs.cell (i := 0) rfl
  have f1 := h3.fs.cell (i := 1) rfl
  have f2 := h3.fs.cell (i := 2) rfl
  have f3 := h3.fs.cell (i := 3) rfl
  have hfl3 := h3.fs.lt
  obtain ⟨U, hU⟩ : ∃ U, usedN nds = U := ⟨_, rfl⟩
  obtain ⟨NL, hNL⟩ : ∃ NL, nds.length = NL := ⟨_, rfl⟩
  rw [hU] at f3 hlim hroom
  rw [hNL] at hct hmany hlen
  replace hU := Lib.hid hU
  replace hNL := Lib.hid hNL
  have i1 : ¬ (most : Int) ≤ (NL : Int) := by omega
  have i2 : ¬ (room : Int) - (U : Int) < (s.size : Int) := by omega
  have i3 : IntKind.i64.wrap ((room : Int) - (U : Int)) = (room : Int) - (U : Int) := by rw [IntKind.wrap_i64]; omega
  replace b3 := Lib.hid b3
  replace g3' := Lib.hid g3'
  clear h3
  go_upto_region 12 with fail
  go_quiet (fail)
  have g4 : w.grownBy (w3.drewN nq) none := grownBy_drewN g3'.out nq
  have b4 : Blk (w3.drewN nq) z _ _ := b3.out
  generalize w3.drewN nq = w4 at g4 b4 ⊢
  have hle4 := hle.out w4 g4
  clear f0 f1 f2 f3 hct b3 g3' hle i1 i2 i3 hfl3
  go_wp2_with fail
  refine hle4.mono ?_
  rintro e w' ⟨rfl, hw⟩
  obtain rfl := hw.symm
  clear hle4 hw
  obtain ⟨dv, w5, hc5, hrow5, g5, hown5, hs5⟩ := hcv.out w4
  obtain ⟨A, cp, rfl, hcp, hcpm⟩ := hrow5.form
  replace hs5 := Lib.hid hs5
  clear hcv
  go_upto_region 16 with fail
  have b6 : Blk (w5.alloc (.cells #[.int .i64 (kd : Int), .int .i64 0, .int .i64 0, .slice A (s.size) cp, .map none, .int .i64 0, .string ⟨#[]⟩] 71)) w5.heap.size (bodyC ⟨kd, 0, 0, 0, (tl s), none, ⟨#[]⟩⟩ ⟨w5.heap.size, .slice A (s.size) cp, .map none⟩) 71 := Blk.new w5 _ _
  have g6 : w4.grownBy (w5.alloc (.cells #[.int .i64 (kd : Int), .int .i64 0, .int .i64 0, .slice A (s.size) cp, .map none, .int .i64 0, .string ⟨#[]⟩] 71)) none := grownBy_tr g5 (World.grownBy_alloc w5 _ _)
  have r6 : RowM (w5.alloc (.cells #[.int .i64 (kd : Int), .int .i64 0, .int .i64 0, .slice A (s.size) cp, .map none, .int .i64 0, .string ⟨#[]⟩] 71)) 5 (.slice A (s.size) cp) (s.size) (bc (tl s)) := hrow5.keep fun g hg => Below.heap_alloc w5 _ g (hrow5.lt hg)
  have n6 : (w5.alloc (.cells #[.int .i64 (kd : Int), .int .i64 0, .int .i64 0, .slice A (s.size) cp, .map none, .int .i64 0, .string ⟨#[]⟩] 71)).heap.size = w5.heap.size + 1 := by simp
  generalize (w5.alloc (.cells #[.int .i64 (kd : Int), .int .i64 0, .int .i64 0, .slice A (s.size) cp, .map none, .int .i64 0, .string ⟨#[]⟩] 71)) = w6 at b6 g6 r6 n6 ⊢
  generalize hnb : w5.heap.size = nb at b6 n6 ⊢
  clear hc5 hrow5 g5
  have h4 := hgr.out w4 g4
  have h6 := h4.grown g6
  have hkm := h6.map
  have hne : fb ≠ mb := fun e => by have := h4.lfs; rw [e, h4.lmap] at this; cases this
  have f0 := h6.fs.cell (i := 0) rfl
  have f3 := h6.fs.cell (i := 3) rfl
  rw [hU.out] at f3
  have ff3 := h6.fs.frozen 3
  have hfl6 := h6.fs.lt
  have hlke : look (entN mem nds) (m : Int) = none := by rw [entN_look, hm]; rfl
  replace h4 := Lib.hid h4
  replace h6 := Lib.hid h6
  go_upto_region 18 with fail
  go_wp2_with (at_mapUpdate; go_loud (refine wpList_put_k rfl _ _ _ 72 rfl 3 65 keyI Tryz.underlying72 Tryz.underlying3 rfl hkm (m : Int) rfl hlke (.pointer (some ⟨nb, 0, none⟩)) rfl ?_); intro ob hkm7; refine Hid.out ?_)
  refine Lib.hid ?_
  have c8 : Chg (fun g => g = fb ∨ g = mb) (fun g => g = fb ∨ g = mb) w4 ((setBlock w6 mb ob).setCell ⟨fb, 3, none⟩ (.int .i64 ((U : Int) + (s.size : Int)))) := ((Chg.of_grown g6 _).trans (Chg.setB (.inr rfl) ob)).trans (Chg.set (.inl rfl) 3 _)
  have hf7 : Blk (setBlock w6 mb ob) fb _ _ := h6.out.fs.setB hne ob
  have hf8 := hf7.set 3 (.int .i64 ((U : Int) + (s.size : Int)))
  have hz6 : z ≠ fb ∧ z ≠ mb := ⟨by omega, by omega⟩
  have b6z : Blk w6 z _ _ := (g6.block z b4.lt (by simp)).trans b4
  have b8 := (b6z.setB hz6.2 ob).other (a := ⟨fb, 3, none⟩) hz6.1 (.int .i64 ((U : Int) + (s.size : Int)))
  have e8 : ∀ g, w4.heap.size ≤ g → g ≠ fb ∧ g ≠ mb := fun g hg => ⟨fun e => by have := h4.out.fs.lt; omega, fun e => by have := h4.out.map.lt; omega⟩
  have hnb4 : w4.heap.size ≤ nb := by have := hs5.out; omega
  have k8 : ∀ g, w4.heap.size ≤ g → ((setBlock w6 mb ob).setCell ⟨fb, 3, none⟩ (.int .i64 ((U : Int) + (s.size : Int)))).heap[g]? = w6.heap[g]? := fun g hg => (heap_setCell_other _ _ g _ (e8 g hg).1).trans (setB_other (e8 g hg).2 ob)
  have hm7 : KMap ((setBlock w6 mb ob).setCell ⟨fb, 3, none⟩ (.int .i64 ((U : Int) + (s.size : Int)))) mb (.int .i64) encI _ := hkm7.keep (heap_setCell_other _ _ mb _ (fun e => hne e.symm))
  have hb8 : Blk ((setBlock w6 mb ob).setCell ⟨fb, 3, none⟩ (.int .i64 ((U : Int) + (s.size : Int)))) nb _ _ := (k8 nb hnb4).trans b6
  have hg8 : ∀ g, (Value.slice A (s.size) cp).ownBlock = some g → w4.heap.size ≤ g ∧ g ≠ nb := fun g hg => by
    rw [hown5] at hg
    cases hg
    exact ⟨Nat.le_refl _, by have := hs5.out; omega⟩
  have hr8 := r6.keep (w' := (setBlock w6 mb ob).setCell ⟨fb, 3, none⟩ (.int .i64 ((U : Int) + (s.size : Int)))) fun g hg => k8 g (hg8 g hg).1
  have htl : (tl s).length = s.size := tl_len s
  obtain ⟨lab', mem', h9, c9⟩ := h4.out.add (y := ⟨kd, 0, 0, 0, (tl s), none, ⟨#[]⟩⟩) (M := ⟨nb, .slice A (s.size) cp, .map none⟩) hF hm c8
    (by rw [show ((usedN nds + ((tl s)).length : Nat) : Int) = ((U : Int) + (s.size : Int)) by rw [htl, hU.out]; omega]; exact hf8) hm7 hb8 hnb4 (by rw [htl]; exact hr8) hg8 (by rw [htl]; exact hs) (fun _ => rfl) nofun (by rw [htl, hU.out]; exact hroom)
  have c10 := (Chg.of_grown g4 F).trans c9
  have hen := enter_one (F := fun g => lab' g ≠ .free) h9 (fun _ => Iff.rfl) hn1 hxn nm hl hm1 hnm (Nat.zero_le _)
  have y0 := b8.cell (i := 0) rfl
  have y1 := b8.cell (i := 1) rfl
  have y2 := b8.cell (i := 2) rfl
  have hzl := b8.lt
  have q1 : U + s.size ≤ 1048576 := by have := hlim.2.1; omega
  have x3 : (setBlock w6 mb ob).cell? ⟨fb, 3, none⟩ = some (.int .i64 (U : Int)) := by
    have := hf7.cell (i := 3) rfl
    rwa [hU.out] at this
  have xf := hf7.frozen 3
  have xl := hf7.lt
  clear hf7 b6z b8 e8 k8 hm7 hb8 hg8 hr8 htl b4 b6 r6 hkm hkm7 c8 hf8 g4 g6 hlke hz6
  replace c10 := Lib.hid c10
  clear h9 c9
  go_upto_region 20 with fail
  generalize (setBlock w6 mb ob).setCell ⟨fb, 3, none⟩ (.int .i64 ((U : Int) + (s.size : Int))) = w8 at hen c10 y0 y1 y2 hzl ⊢
  clear x3 xf xl f0 f3 ff3 hfl6
  go_wp2_with fail
  refine hen.mono ?_
  rintro e w9 ⟨rfl, hT, c11⟩
  have c12 := c10.out.trans c11
  replace hT := Lib.hid hT
  replace c12 := Lib.hid c12
  clear hen c11 c10 y0 y1 y2 hzl
  go_wp2
  go_ret2
  refine ⟨rfl, _, ⟨lab', mb, mem', ?_, fun _ => Iff.rfl⟩, c12.out⟩
  rw [← hres.out]
  have hT := hT.out
  unfold made
  rw [if_neg (by omega), if_neg (by omega)]
  rw [if_neg (by omega)] at hT
  exact hT

set_option maxHeartbeats 4000000 in
set_option maxRecDepth 100000 in
theorem make_dir (h : TreeF w F fb most room nds) {x : Pn} {l : List (ByteArray × Nat)} (hx : look nds 1 = some x) (hxk : x.kind = 1) (hxp : x.par = 1) (hxn : x.nms = some l) (c : UInt8) (h0 : c ≠ 0) (h46 : c ≠ 46) (h47 : c ≠ 47) (hl : look l (nm1 c) = none)
    (m : Nat) (h1m : 2 ≤ m) (hmm : m ≤ 1000000) (hm : look nds (m : Int) = none) (hall : ∀ j : Nat, 1 ≤ j → j < m → ∃ x, look nds (j : Int) = some x) (hmany : nds.length < most) :
    Calls Tryz.prog 22 #[.pointer (some ⟨fb, 0, none⟩), .int .i64 1, .string (nm1 c), .int .i64 (1 : Int), .string ⟨#[]⟩] w fun e w' => e = .returned (.tuple #[.int .i64 (m : Int), .int .i64 0]) ∧ ∃ F', TreeF w' F' fb most room (made nds x l (nm1 c) m 1 []) ∧ Chg F F' w w' := by
  obtain ⟨lab, mb, mem, h, hF⟩ := h
  have hpl := place_one h hx hxk c h47
  have hfr := fun (W : World) (hW : w.grownBy W none) => free_one (h.grown hW) hx hxp hxn c h0 h46 hl (1 : Int)
  have hle := fun (W : World) (hW : w.grownBy W none) => least_any (h.grown hW) m (by omega) hmm hm hall
  have hgr := fun (W : World) (hW : w.grownBy W none) => h.grown hW
  have hcv : ∀ W : World, ∃ dv W', (convert 9 68 (.string ⟨#[]⟩)).run Tryz.prog W = .ok dv W' ∧ RowM W' 5 dv 0 (bc (tl (⟨#[]⟩ : ByteArray))) ∧ W.grownBy W' none ∧ dv.ownBlock = some W.heap.size ∧ W'.heap.size = W.heap.size + 1 := conv_bytes ⟨#[]⟩ (by decide)
  have hm1 : (m : Int) ≠ 1 := by omega
  have hn1 : look (nds ++ [((m : Int), (⟨1, 0, 0, 0, ([] : List UInt8), some [], ⟨#[]⟩⟩ : Pn))]) 1 = some x := by rw [look_app, hx]; rfl
  have hnm : look (nds ++ [((m : Int), (⟨1, 0, 0, 0, ([] : List UInt8), some [], ⟨#[]⟩⟩ : Pn))]) (m : Int) = some ⟨1, 0, 0, 0, ([] : List UInt8), some [], ⟨#[]⟩⟩ := by rw [look_app, hm]; simp [look]
  have hlim := h.lim
  have hfl := h.fs.lt
  have hml := h.map.lt
  have hlen : nds.length ≤ most := by omega
  have k5 : (⟨#[]⟩ : ByteArray).toList.isEmpty = true := by decide +kernel
  obtain ⟨nm, hnmE⟩ : ∃ nm, nm1 c = nm := ⟨_, rfl⟩
  rw [hnmE] at hpl hfr hl ⊢
  obtain ⟨res, hres⟩ : ∃ res, made nds x l nm m 1 ([] : List UInt8) = res := ⟨_, rfl⟩
  rw [hres]
  replace hres := Lib.hid hres
  replace hfr := Lib.hid hfr
  replace hle := Lib.hid hle
  replace hgr := Lib.hid hgr
  replace hcv := Lib.hid hcv
  replace h := Lib.hid h
  clear hx hxk hxp hall hnmE
  go_enter Tryz.func22, Tryz.ntmps22
  go_wp2_with fail
  refine hpl.mono ?_
  rintro e w1 ⟨rfl, g1⟩
  clear hpl
  go_upto_region 9 with fail
  have b2 : Blk (w1.alloc (.cells #[.int .i64 1, .string nm, .bool false] 119)) w1.heap.size [.int .i64 1, .string nm, .bool false] 119 := Blk.new w1 _ _
  have g2 : w.grownBy (w1.alloc (.cells #[.int .i64 1, .string nm, .bool false] 119)) none := grownBy_tr g1 (World.grownBy_alloc w1 _ _)
  generalize (w1.alloc (.cells #[.int .i64 1, .string nm, .bool false] 119)) = w2 at b2 g2 ⊢
  have hzw := g1.size
  generalize w1.heap.size = z at b2 hzw ⊢
  have hfr2 := hfr.out w2 g2
  have z0 := b2.cell (i := 0) rfl
  have z1 := b2.cell (i := 1) rfl
  have z2 := b2.cell (i := 2) rfl
  have hz2 := b2.lt
  clear g1 hfr
  go_wp2_with fail
  refine hfr2.mono ?_
  rintro e w3 ⟨rfl, g3⟩
  have b3 : Blk w3 z _ _ := (g3.block z hz2 (by simp)).trans b2
  have g3' := grownBy_tr g2 g3
  clear hfr2 z0 z1 z2 hz2 b2 g2 g3
  have h3 := hgr.out w3 g3'
  have hct := fun n => (hgr.out (w3.drewN n) (grownBy_drewN g3' n)).map.count Tryz.underlying72 3
  rw [show (entN mem nds).length = nds.length from List.length_map _] at hct
  have f0 := h3.fs.cell (i := 0) rfl
  have f1 := h3.fs.cell (i := 1) rfl
  have f2 := h3.fs.cell (i := 2) rfl
  have f3 := h3.fs.cell (i := 3) rfl
  have hfl3 := h3.fs.lt
  obtain ⟨U, hU⟩ : ∃ U, usedN nds = U := ⟨_, rfl⟩
  obtain ⟨NL, hNL⟩ : ∃ NL, nds.length = NL := ⟨_, rfl⟩
  rw [hU] at f3 hlim 
  rw [hNL] at hct hmany hlen
  replace hU := Lib.hid hU
  replace hNL := Lib.hid hNL
  have i1 : ¬ (most : Int) ≤ (NL : Int) := by omega
  have i2 : ¬ (room : Int) - (U : Int) < (0 : Int) := by omega
  have i3 : IntKind.i64.wrap ((room : Int) - (U : Int)) = (room : Int) - (U : Int) := by rw [IntKind.wrap_i64]; omega
  replace b3 := Lib.hid b3
  replace g3' := Lib.hid g3'
  clear h3
  go_upto_region 12 with fail
  go_quiet (fail)
  have g4 : w.grownBy (w3.drewN nq) none := grownBy_drewN g3'.out nq
  have b4 : Blk (w3.drewN nq) z _ _ := b3.out
  generalize w3.drewN nq = w4 at g4 b4 ⊢
  have hle4 := hle.out w4 g4
  clear f0 f1 f2 f3 hct b3 g3' hle i1 i2 i3 hfl3
  go_wp2_with fail
  refine hle4.mono ?_
  rintro e w' ⟨rfl, hw⟩
  obtain rfl := hw.symm
  clear hle4 hw
  obtain ⟨dv, w5, hc5, hrow5, g5, hown5, hs5⟩ := hcv.out w4
  obtain ⟨A, cp, rfl, hcp, hcpm⟩ := hrow5.form
  replace hs5 := Lib.hid hs5
  clear hcv
  go_upto_region 16 with fail
  have b6 : Blk (w5.alloc (.cells #[.int .i64 (1 : Int), .int .i64 0, .int .i64 0, .slice A (0) cp, .map none, .int .i64 0, .string ⟨#[]⟩] 71)) w5.heap.size (bodyC ⟨1, 0, 0, 0, ([] : List UInt8), none, ⟨#[]⟩⟩ ⟨w5.heap.size, .slice A (0) cp, .map none⟩) 71 := Blk.new w5 _ _
  have g6 : w4.grownBy (w5.alloc (.cells #[.int .i64 (1 : Int), .int .i64 0, .int .i64 0, .slice A (0) cp, .map none, .int .i64 0, .string ⟨#[]⟩] 71)) none := grownBy_tr g5 (World.grownBy_alloc w5 _ _)
  have r6 : RowM (w5.alloc (.cells #[.int .i64 (1 : Int), .int .i64 0, .int .i64 0, .slice A (0) cp, .map none, .int .i64 0, .string ⟨#[]⟩] 71)) 5 (.slice A (0) cp) (0) (bc (tl (⟨#[]⟩ : ByteArray))) := hrow5.keep fun g hg => Below.heap_alloc w5 _ g (hrow5.lt hg)
  have n6 : (w5.alloc (.cells #[.int .i64 (1 : Int), .int .i64 0, .int .i64 0, .slice A (0) cp, .map none, .int .i64 0, .string ⟨#[]⟩] 71)).heap.size = w5.heap.size + 1 := by simp
  generalize (w5.alloc (.cells #[.int .i64 (1 : Int), .int .i64 0, .int .i64 0, .slice A (0) cp, .map none, .int .i64 0, .string ⟨#[]⟩] 71)) = w6 at b6 g6 r6 n6 ⊢
  generalize hnb : w5.heap.size = nb at b6 n6 ⊢
  clear hc5 hrow5 g5
  have hmm := @run_makeMap Tryz.prog
  have a6 : Blk (w6.alloc (.map #[] 0)) nb _ _ := b6.alloc _
  have y4 := a6.cell (i := 4) rfl
  have yf := a6.frozen 4
  have yl := a6.lt
  have km7 : KMap (w6.alloc (.map #[] 0)) w6.heap.size .string encS ([] : List (ByteArray × Value)) := KMap.new w6 _ _
  rw [n6] at km7
  replace b6 := Lib.hid b6
  replace r6 := Lib.hid r6
  replace km7 := Lib.hid km7
  replace a6 := Lib.hid a6
  replace n6 := Lib.hid n6
  go_upto_region 18 with fail
  have b7 := a6.out.set 4 (.map (some w6.heap.size))
  rw [show (bodyC ⟨1, 0, 0, 0, ([] : List UInt8), none, ⟨#[]⟩⟩ ⟨nb, .slice A 0 cp, .map none⟩).set 4 (.map (some w6.heap.size)) = bodyC ⟨1, 0, 0, 0, ([] : List UInt8), some [], ⟨#[]⟩⟩ ⟨nb, .slice A 0 cp, .map (some w6.heap.size)⟩ from rfl] at b7
  have g7 : w4.grownBy ((w6.alloc (.map #[] 0)).setCell ⟨nb, 4, none⟩ (.map (some w6.heap.size))) none := grown_setNew (grownBy_tr g6 (World.grownBy_alloc w6 _ _)) (by have := hs5.out; omega) 4 _
  have r7 : RowM ((w6.alloc (.map #[] 0)).setCell ⟨nb, 4, none⟩ (.map (some w6.heap.size))) 5 (.slice A 0 cp) 0 (bc (tl (⟨#[]⟩ : ByteArray))) := r6.out.keep fun g hg => (heap_setCell_other _ _ g _ (fun e => by
    rw [hown5] at hg
    cases hg
    have := hs5.out
    have e : w4.heap.size = nb := e
    omega)).trans (Below.heap_alloc w6 _ g (r6.out.lt hg))
  have km8 : KMap ((w6.alloc (.map #[] 0)).setCell ⟨nb, 4, none⟩ (.map (some w6.heap.size))) (nb + 1) .string encS ([] : List (ByteArray × Value)) := km7.out.keep (heap_setCell_other _ _ _ _ (fun e => by have e : nb + 1 = nb := e; omega))
  clear y4 yf yl
  generalize (w6.alloc (.map #[] 0)).setCell ⟨nb, 4, none⟩ (.map (some w6.heap.size)) = w7 at b7 g7 r7 km8 ⊢
  rw [n6.out] at b7
  clear b6 r6 a6 km7 hmm n6 g6
  have b6 := b7
  have g6 := g7
  have r6 := r7
  clear b7 g7 r7
  have h4 := hgr.out w4 g4
  have h6 := h4.grown g6
  have hkm := h6.map
  have hne : fb ≠ mb := fun e => by have := h4.lfs; rw [e, h4.lmap] at this; cases this
  have f0 := h6.fs.cell (i := 0) rfl
  have f3 := h6.fs.cell (i := 3) rfl
  rw [hU.out] at f3
  have ff3 := h6.fs.frozen 3
  have hfl6 := h6.fs.lt
  have hlke : look (entN mem nds) (m : Int) = none := by rw [entN_look, hm]; rfl
  replace h4 := Lib.hid h4
  replace h6 := Lib.hid h6
  go_wp2_with (at_mapUpdate; go_loud (refine wpList_put_k rfl _ _ _ 72 rfl 3 65 keyI Tryz.underlying72 Tryz.underlying3 rfl hkm (m : Int) rfl hlke (.pointer (some ⟨nb, 0, none⟩)) rfl ?_); intro ob hkm7; refine Hid.out ?_)
  refine Lib.hid ?_
  have c8 : Chg (fun g => g = fb ∨ g = mb) (fun g => g = fb ∨ g = mb) w4 ((setBlock w7 mb ob).setCell ⟨fb, 3, none⟩ (.int .i64 (U : Int))) := ((Chg.of_grown g6 _).trans (Chg.setB (.inr rfl) ob)).trans (Chg.set (.inl rfl) 3 _)
  have hf7 : Blk (setBlock w7 mb ob) fb _ _ := h6.out.fs.setB hne ob
  have hf8 := hf7.set 3 (.int .i64 (U : Int))
  have hz6 : z ≠ fb ∧ z ≠ mb := ⟨by omega, by omega⟩
  have b6z : Blk w7 z _ _ := (g6.block z b4.lt (by simp)).trans b4
  have b8 := (b6z.setB hz6.2 ob).other (a := ⟨fb, 3, none⟩) hz6.1 (.int .i64 (U : Int))
  have e8 : ∀ g, w4.heap.size ≤ g → g ≠ fb ∧ g ≠ mb := fun g hg => ⟨fun e => by have := h4.out.fs.lt; omega, fun e => by have := h4.out.map.lt; omega⟩
  have hnb4 : w4.heap.size ≤ nb := by have := hs5.out; omega
  have k8 : ∀ g, w4.heap.size ≤ g → ((setBlock w7 mb ob).setCell ⟨fb, 3, none⟩ (.int .i64 (U : Int))).heap[g]? = w7.heap[g]? := fun g hg => (heap_setCell_other _ _ g _ (e8 g hg).1).trans (setB_other (e8 g hg).2 ob)
  have hm7 : KMap ((setBlock w7 mb ob).setCell ⟨fb, 3, none⟩ (.int .i64 (U : Int))) mb (.int .i64) encI _ := hkm7.keep (heap_setCell_other _ _ mb _ (fun e => hne e.symm))
  have hb8 : Blk ((setBlock w7 mb ob).setCell ⟨fb, 3, none⟩ (.int .i64 (U : Int))) nb _ _ := (k8 nb hnb4).trans b6
  have hg8 : ∀ g, (Value.slice A (0) cp).ownBlock = some g → w4.heap.size ≤ g ∧ g ≠ nb := fun g hg => by
    rw [hown5] at hg
    cases hg
    exact ⟨Nat.le_refl _, by have := hs5.out; omega⟩
  have hr8 := r6.keep (w' := (setBlock w7 mb ob).setCell ⟨fb, 3, none⟩ (.int .i64 (U : Int))) fun g hg => k8 g (hg8 g hg).1
  have km9 := km8.keep (w' := (setBlock w7 mb ob).setCell ⟨fb, 3, none⟩ (.int .i64 (U : Int))) (k8 (nb + 1) (by omega))
  obtain ⟨lab', mem', h9, c9⟩ := h4.out.add (y := ⟨1, 0, 0, 0, ([] : List UInt8), some [], ⟨#[]⟩⟩) (M := ⟨nb, .slice A (0) cp, .map (some (nb + 1))⟩) hF hm c8
    (by rw [show ((usedN nds + (([] : List UInt8)).length : Nat) : Int) = (U : Int) by rw [hU.out]; rfl]; exact hf8) hm7 hb8 hnb4 (by exact hr8) hg8 (by exact Nat.zero_le _) (nofun) (fun l hl => by cases hl; exact ⟨nb + 1, rfl, by omega, by show nb + 1 ≠ nb; omega, fun e => by (have := (hg8 _ e).1; rw [hown5] at e; have e2 := Option.some.inj e; have := hs5.out; omega), km9⟩) (by rw [hU.out]; exact hlim.2.2)
  have c10 := (Chg.of_grown g4 F).trans c9
  have hen := enter_one (F := fun g => lab' g ≠ .free) h9 (fun _ => Iff.rfl) hn1 hxn nm hl hm1 hnm (Nat.zero_le _)
  have y0 := b8.cell (i := 0) rfl
  have y1 := b8.cell (i := 1) rfl
  have y2 := b8.cell (i := 2) rfl
  have hzl := b8.lt
  have q1 : U + 0 ≤ 1048576 := by have := hlim.2.1; omega
  have x3 : (setBlock w7 mb ob).cell? ⟨fb, 3, none⟩ = some (.int .i64 (U : Int)) := by
    have := hf7.cell (i := 3) rfl
    rwa [hU.out] at this
  have xf := hf7.frozen 3
  have xl := hf7.lt
  clear hf7 b6z b8 e8 k8 hm7 hb8 hg8 hr8 b4 b6 r6 hkm hkm7 c8 hf8 g4 g6 hlke hz6
  replace c10 := Lib.hid c10
  clear h9 c9
  go_upto_region 20 with fail
  generalize (setBlock w7 mb ob).setCell ⟨fb, 3, none⟩ (.int .i64 (U : Int)) = w8 at hen c10 y0 y1 y2 hzl ⊢
  clear x3 xf xl f0 f3 ff3 hfl6
  go_wp2_with fail
  refine hen.mono ?_
  rintro e w9 ⟨rfl, hT, c11⟩
  have c12 := c10.out.trans c11
  replace hT := Lib.hid hT
  replace c12 := Lib.hid c12
  clear hen c11 c10 y0 y1 y2 hzl
  go_wp2
  go_ret2
  refine ⟨rfl, _, ⟨lab', mb, mem', ?_, fun _ => Iff.rfl⟩, c12.out⟩
  rw [← hres.out]
  have hT := hT.out
  unfold made
  rw [if_pos rfl, if_pos rfl]
  rw [if_pos trivial] at hT
  exact hT
end
end Go.Proofs.YtffipbmonfodbaaGreatDoor
