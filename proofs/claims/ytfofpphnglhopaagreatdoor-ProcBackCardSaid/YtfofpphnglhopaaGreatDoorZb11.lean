/-
  A part. Conditions: each theorem's own.
-/
import Derived.Deep.RegionHeld3
import Derived.Deep.Cut
import Derived.Deep.DeepCutAuto
import Derived.Test.YtfofpphnglhopaaGreatDoorZb6
set_option maxHeartbeats 8000000
set_option maxRecDepth 100000
namespace Go.Proofs.YtfofpphnglhopaaGreatDoor
open Go Go.RowKit Go.ChangeMaps
def putW (d : List UInt8) (a : Nat) (s : List UInt8) : List UInt8 := if s.length = 0 then d else putB d a s
theorem upd_same {nds : Nds} (hd : nds.Pairwise (fun p q => p.1 ≠ q.1)) {k : Int} {x : Pn} (h : look nds k = some x) : upd nds k x = nds := by
  unfold upd
  refine (List.map_congr_left fun p hp => ?_).trans (List.map_id _)
  by_cases e : p.1 = k
  · rw [if_pos e]
    have := look_of_mem hd (show (p.1, p.2) ∈ nds from hp)
    rw [e, h] at this
    cases this
    rw [← e]
    rfl
  · rw [if_neg e]
    rfl
section
variable {w : World} {F : Nat → Prop} {fb most room : Nat} {nds : Nds} {ob a : Nat} {n : Int} {r : Bool}
theorem node_write (h : TreeF w F fb most room nds) {k : Int} {x : Pn} (hx : look nds k = some x) (hk : x.kind = 2) (a : Nat) (s : ByteArray) (ha : a + s.size ≤ 4096) (hr : s.size = 0 ∨ usedN nds + (a + s.size - x.data.length) ≤ room) :
    Calls Tryz.prog 267 #[.pointer (some ⟨fb, 0, none⟩), .int .i64 k, .int .i64 (a : Int), .string s] w fun e w' => e = .returned (.int .i64 0) ∧ ∃ F', TreeF w' F' fb most room (upd nds k { x with data := putW x.data a (tl s) }) ∧ Chg F F' w w' := by
  unfold putW
  by_cases hs : s.size = 0
  · rw [if_pos (by rw [tl_len]; exact hs)]
    obtain ⟨lab, mb, mem, hR, hF⟩ := h
    rw [show upd nds k { x with data := x.data } = nds from upd_same hR.apart hx]
    refine (write_empty hR hx hk a s (by omega) hs).mono ?_
    rintro e w' ⟨he, rfl⟩
    exact ⟨he, F, ⟨lab, mb, mem, hR, hF⟩, Chg.refl _ _⟩
  · rw [if_neg (by rw [tl_len]; exact hs)]
    by_cases hm : a + s.size ≤ x.data.length
    · exact write_fit h hx hk a s (by omega) hm
    · exact write_more h hx hk a s (by omega) ha (by omega) (hr.resolve_left hs)
theorem file_write (hb : Blk w ob (fileC fb n a r true false) 162) (h : TreeF w F fb most room nds) (hob : ¬ F ob) {x : Pn} (hx : look nds n = some x) (hk : x.kind = 2) (s : ByteArray) (ha : a + s.size ≤ 4096) (hr : s.size = 0 ∨ usedN nds + (a + s.size - x.data.length) ≤ room) :
    Calls Tryz.prog 266 #[ptrV ob, .string s] w fun e w' => e = .returned (.int .i64 0) ∧ ∃ X F', TreeF X F' fb most room (upd nds n { x with data := putW x.data a (tl s) }) ∧ Chg F F' w X ∧ Chg (fun g => g = ob) (fun g => g = ob) X w' ∧ Blk w' ob (fileC fb n (a + s.size) r true false) 162 := by
  have hw := fun j => node_write (h.keep (w' := w.drewN j) (Nat.le_refl _) fun _ _ => rfl) hx hk a s ha hr
  have c0 := hb.cell (i := 0) rfl
  have c1 := hb.cell (i := 1) rfl
  have c2 := hb.cell (i := 2) rfl
  have c4 := hb.cell (i := 4) rfl
  have c5 := hb.cell (i := 5) rfl
  have hlt := hb.lt
  have i2 : IntKind.i64.wrap ((a : Int) + (s.size : Int)) = (a : Int) + (s.size : Int) := by rw [IntKind.wrap_i64]; omega
  generalize { x with data := putW x.data a (tl s) } = y at hw ⊢
  unfold ptrV at c0 ⊢
  replace hw := Lib.hid hw
  replace hb := Lib.hid hb
  clear h hx hk hr
  go_enter Tryz.func266, Tryz.ntmps266
  go_upto_region 8 with fail
  go_still_tail 13, (by kernel_rfl)
  change wpList _ _ _ _ _ (w.drewN 1)
  go_wp2_with fail
  refine (hw.out 1).mono ?_
  rintro e w2 ⟨rfl, F', hT, hC⟩
  have hC' : Chg F F' w w2 := (Chg.drewN F w 1).trans hC
  have hb2 : Blk w2 ob _ _ := hb.out.chg hC' hob
  have c2 := hb2.cell (i := 2) rfl
  have f2 := hb2.frozen 2
  have hlt2 := hb2.lt
  replace hT := Lib.hid hT
  replace hC' := Lib.hid hC'
  replace hb2 := Lib.hid hb2
  clear hw hC c0 c1 c4 c5 hb
  go_wp2
  go_ret
  refine ⟨rfl, w2, F', hT.out, hC'.out, Chg.set (F := fun g => g = ob) rfl 2 _, ?_⟩
  have := hb2.out.set 2 (.int .i64 ((a : Int) + (s.size : Int)))
  have e1 : ((a + s.size : Nat) : Int) = (a : Int) + (s.size : Int) := by omega
  unfold fileC
  rw [e1]
  exact this
theorem file_more (hb : Blk w ob (fileC fb n a r true true) 162) (h : TreeF w F fb most room nds) (hob : ¬ F ob) {x : Pn} (hx : look nds n = some x) (hk : x.kind = 2) (hnl : nmsLen x = 0) (s : ByteArray) (ha : x.data.length + s.size ≤ 4096) (hr : usedN nds + s.size ≤ room) :
    Calls Tryz.prog 266 #[ptrV ob, .string s] w fun e w' => e = .returned (.int .i64 0) ∧ ∃ X F', TreeF X F' fb most room (upd nds n { x with data := putW x.data x.data.length (tl s) }) ∧ Chg F F' w X ∧ Chg (fun g => g = ob) (fun g => g = ob) X w' ∧ Blk w' ob (fileC fb n (x.data.length + s.size) r true true) 162 := by
  have c0 := hb.cell (i := 0) rfl
  have c1 := hb.cell (i := 1) rfl
  have c2 := hb.cell (i := 2) rfl
  have c4 := hb.cell (i := 4) rfl
  have c5 := hb.cell (i := 5) rfl
  have hlt := hb.lt
  have hst := fun W (hW : w.grownBy W none) => (show Calls Tryz.prog 27 #[.pointer (some ⟨fb, 0, none⟩), .int .i64 n] W fun e w' => e = .returned (.tuple #[infoOf x, .int .i64 0]) ∧ W.grownBy w' none by
    obtain ⟨lab, mb, mem, hR, hF⟩ := h
    exact stat_some (hR.grown hW) hx (by omega))
  unfold infoOf at hst
  rw [hk, hnl] at hst
  unfold ptrV at c0 ⊢
  have gW : w.grownBy ((w.alloc (.cells #[.int .i64 0, .int .i64 0, .int .i64 0, .int .i64 0] 68)).drew) none := grownBy_drewN (World.grownBy_alloc w _ _) 1
  have bz : Blk ((w.alloc (.cells #[.int .i64 0, .int .i64 0, .int .i64 0, .int .i64 0] 68)).drew) w.heap.size [.int .i64 0, .int .i64 0, .int .i64 0, .int .i64 0] 68 := Blk.new w _ _
  have hst1 := hst _ gW
  have g0 : w.grownBy w.drew none := grownBy_drewN (grownBy_re w) 1
  have hst0 := hst _ g0
  clear hst
  generalize hLd : x.data.length = Ld at *
  obtain ⟨nm, hnm⟩ : ∃ m, x.named = m := ⟨_, rfl⟩
  obtain ⟨hh, hhh⟩ : ∃ m, x.holds = m := ⟨_, rfl⟩
  rw [hnm, hhh] at hst0 hst1
  clear hnm hhh
  have hob1 : ob ≠ w.heap.size := by omega
  have hob2 : w.heap.size ≠ ob := by omega
  replace hst1 := Lib.hid hst1
  replace hst0 := Lib.hid hst0
  replace bz := Lib.hid bz
  replace gW := Lib.hid gW
  replace g0 := Lib.hid g0
  go_enter Tryz.func266, Tryz.ntmps266
  go_upto_region 4 with fail
  go_cut [5, 6] from 19 to 31 (fun t5 t6 wx => ∃ zi : Nat, t5 = .pointer (some ⟨zi, 0, none⟩) ∧ t6 = .int .i64 0 ∧ w.heap.size ≤ zi ∧ w.grownBy wx none ∧ Blk wx zi [.int .i64 2, .int .i64 (Ld : Int), .int .i64 (nm : Int), .int .i64 (hh : Int)] 68)
  case first =>
    go_region_held3 (fun w' => w'.cell? ⟨ob, 0, none⟩ = some (.pointer (some ⟨fb, 0, none⟩)) ∧ w'.cell? ⟨ob, 1, none⟩ = some (.int .i64 n))
      (first | go_keep | exact hkk)
      (first
        | (go_at_call 27; refine hst1.out.mono ?_; rintro e w5 ⟨rfl, gB⟩; have gC := grownBy_tr gW.out gB; have b5 : Blk w5 w.heap.size _ _ := (gB.block _ bz.out.lt (by simp)).trans bz.out; have y0 := b5.cell (i := 0) rfl; have y1 := b5.cell (i := 1) rfl; have y2 := b5.cell (i := 2) rfl; have y3 := b5.cell (i := 3) rfl; have g0 := b5.frozen 0; have g1 := b5.frozen 1; have g2 := b5.frozen 2; have g3 := b5.frozen 3; have hkk : w5.cell? ⟨ob, 0, none⟩ = some (.pointer (some ⟨fb, 0, none⟩)) ∧ w5.cell? ⟨ob, 1, none⟩ = some (.int .i64 n) := ⟨(World.cell?_of_block (a := ⟨ob, 0, none⟩) (gC.block ob hlt (by simp))).trans c0, (World.cell?_of_block (a := ⟨ob, 1, none⟩) (gC.block ob hlt (by simp))).trans c1⟩)
        | (go_at_call 27; refine hst0.out.mono ?_; rintro e w5 ⟨rfl, gB⟩; have gC := grownBy_tr g0.out gB; have hkk : w5.cell? ⟨ob, 0, none⟩ = some (.pointer (some ⟨fb, 0, none⟩)) ∧ w5.cell? ⟨ob, 1, none⟩ = some (.int .i64 n) := ⟨(World.cell?_of_block (a := ⟨ob, 0, none⟩) (gC.block ob hlt (by simp))).trans c0, (World.cell?_of_block (a := ⟨ob, 1, none⟩) (gC.block ob hlt (by simp))).trans c1⟩))
    all_goals (go_wp2_with fail)
    all_goals go_meet
    · exact ⟨w5.heap.size, rfl, rfl, gC.size, grownBy_tr gC (World.grownBy_alloc w5 _ _), Blk.new w5 _ _⟩
    · exact ⟨w.heap.size, rfl, rfl, Nat.le_refl _, grown_setNew (grown_setNew (grown_setNew (grown_setNew gC (Nat.le_refl _) 0 _) (Nat.le_refl _) 1 _) (Nat.le_refl _) 2 _) (Nat.le_refl _) 3 _, (((b5.set 0 _).set 1 _).set 2 _).set 3 _⟩
  case rest =>
    obtain ⟨zi, rfl, rfl, hzi, gX, bX⟩ := hcut
    have hbX : Blk wc ob (fileC fb n a r true true) 162 := (gX.block ob hlt (by simp)).trans hb
    have y1 := bX.cell (i := 1) rfl
    have yl := bX.lt
    have d2 := hbX.cell (i := 2) rfl
    have q2 := hbX.frozen 2
    have dl := hbX.lt
    clear hst1 hst0 bz gW g0 c0 c1 c2 c4 c5
    go_upto_region 8 with fail
    have hb6 : Blk (wc.setCell ⟨ob, 2, none⟩ (.int .i64 (Ld : Int))) ob (fileC fb n Ld r true true) 162 := hbX.set 2 _
    have hT6 : TreeF (wc.setCell ⟨ob, 2, none⟩ (.int .i64 (Ld : Int))) F fb most room nds := (h.keep gX.size fun g hg => gX.block g (h.lt hg) (by simp)).keep (by simp [World.setCell]) fun g hg => heap_setCell_other wc _ g _ fun e => hob (by rw [← show g = ob from e]; exact hg)
    have cX : Chg (fun g => g = ob) (fun g => g = ob) w (wc.setCell ⟨ob, 2, none⟩ (.int .i64 (Ld : Int))) := (Chg.of_grown gX _).trans (Chg.set (F := fun g => g = ob) rfl 2 _)
    generalize wc.setCell ⟨ob, 2, none⟩ (.int .i64 (Ld : Int)) = w6 at hb6 hT6 cX ⊢
    have hw := node_write (hT6.keep (w' := w6.drewN 1) (Nat.le_refl _) fun _ _ => rfl) hx hk Ld s (by omega) (.inr (by rw [hLd]; omega))
    generalize hy' : ({ x with data := putW x.data Ld (tl s) } : Pn) = y' at hw ⊢
    have e0 := hb6.cell (i := 0) rfl
    have e1 := hb6.cell (i := 1) rfl
    have e2 := hb6.cell (i := 2) rfl
    have el := hb6.lt
    unfold ptrV at e0
    have i2 : IntKind.i64.wrap ((Ld : Int) + (s.size : Int)) = (Ld : Int) + (s.size : Int) := by rw [IntKind.wrap_i64]; omega
    replace hw := Lib.hid hw
    replace hb6 := Lib.hid hb6
    replace cX := Lib.hid cX
    clear hbX y1 yl d2 q2 dl bX gX hT6
    go_still_tail 13, (by kernel_rfl)
    change wpList _ _ _ _ _ (w6.drewN 1)
    go_wp2_with fail
    refine hw.out.mono ?_
    rintro e w2 ⟨rfl, F', hT, hC⟩
    have hC' : Chg F F' w6 w2 := (Chg.drewN F w6 1).trans hC
    have hb2 : Blk w2 ob (fileC fb n Ld r true true) _ := hb6.out.chg hC' hob
    have d2 := hb2.cell (i := 2) rfl
    have q2 := hb2.frozen 2
    have dl := hb2.lt
    replace hT := Lib.hid hT
    replace hC' := Lib.hid hC'
    replace hb2 := Lib.hid hb2
    clear hw hC e0 e1 e2
    go_wp2
    go_ret
    have hobF' : ¬ F' ob := hC'.out.foot ob (Nat.lt_of_lt_of_le hlt cX.out.size) hob
    have hbX2 : Blk (w2.setCell ⟨ob, 2, none⟩ (.int .i64 (a : Int))) ob (fileC fb n a r true true) 162 := hb2.out.set 2 _
    have hT7 : TreeF (w2.setCell ⟨ob, 2, none⟩ (.int .i64 (a : Int))) F' fb most room (upd nds n y') := hT.out.keep (by simp [World.setCell]) fun g hg => heap_setCell_other w2 ⟨ob, 2, none⟩ g _ fun e => hobF' (by rw [← show g = ob from e]; exact hg)
    refine ⟨rfl, w2.setCell ⟨ob, 2, none⟩ (.int .i64 (a : Int)), F', by first | exact hT7 | (subst hy'; exact hT7), ⟨hC'.out.os.trans cX.out.os, hC'.out.tape.trans cX.out.tape, hC'.out.output.trans cX.out.output, ?_, fun g hg hn => ?_, fun g hg hn => hC'.out.foot g (Nat.lt_of_lt_of_le hg cX.out.size) hn⟩, ⟨rfl, rfl, rfl, by simp [World.setCell], fun g hg hn => ?_, fun _ _ h => h⟩, ?_⟩
    · exact Nat.le_trans cX.out.size (Nat.le_trans hC'.out.size (by simp [World.setCell]))
    · by_cases e : g = ob
      · rw [e]
        exact hbX2.trans hb.symm
      · exact (heap_setCell_other w2 _ g _ e).trans ((hC'.out.block g (Nat.lt_of_lt_of_le hg cX.out.size) hn).trans (cX.out.block g hg e))
    · exact (heap_setCell_other w2 _ g _ hn).trans (heap_setCell_other w2 _ g _ hn).symm
    · have := hb2.out.set 2 (.int .i64 ((Ld : Int) + (s.size : Int)))
      have e1 : ((Ld + s.size : Nat) : Int) = (Ld : Int) + (s.size : Int) := by omega
      unfold fileC
      rw [e1]
      exact this
end
section
variable {w : World} {F : Nat → Prop} {c : Sy} {s : St} {k : Int} {x : Hd}
theorem sys_write_file (h : Sys w F c s) (hx : look s.hs k = some x) {n : Int} {a : Nat} {r : Bool} (hk : x.kd = .file n a r true false) {y : Pn} (hy : look s.nds n = some y) (hyk : y.kind = 2) (data : ByteArray) (ha : a + data.size ≤ 4096) (hroom : data.size = 0 ∨ usedN s.nds + (a + data.size - y.data.length) ≤ c.room) :
    Calls Tryz.prog 39 #[ptrV c.tb, .int .i64 k, .string data] w fun e w' => e = .returned (.int .i64 0) ∧ ∃ F', Sys w' F' c { s with nds := upd s.nds n { y with data := putW y.data a (tl data) }, hs := upd s.hs k { x with kd := .file n (a + data.size) r true false } } ∧ Chg F F' w w' := by
  obtain ⟨Ft, Fp, Fh, h, hF⟩ := h
  obtain ⟨lab, mb, mem, v, ht, hFh⟩ := h.tab
  have hf := tfind_some ht hx
  have hd := ht.hd k x hx
  have c0 := hd.blk.cell (i := 0) rfl
  rw [show doesV s.pp x.kd (mem k).ob = .iface 158 (ptrV (mem k).ob) by rw [hk]; rfl] at c0
  have hlt := hd.blk.lt
  have ho := hd.ob
  rw [hk] at ho
  have hobF : Fh (mem k).ob := (hFh _).2 (by rw [ho.2]; exact nofun)
  have hobn : ¬ Ft (mem k).ob := fun hf => h.th _ hf hobF
  have hr := file_write ho.1 h.tree hobn hy hyk data ha hroom
  have hfin : ∀ w' X F', TreeF X F' c.fb c.most c.room (upd s.nds n { y with data := putW y.data a (tl data) }) → Chg Ft F' w X → Chg (fun g => g = (mem k).ob) (fun g => g = (mem k).ob) X w' → Blk w' (mem k).ob (fileC c.fb n (a + data.size) r true false) 162 →
      ∃ F'', Sys w' F'' c { s with nds := upd s.nds n { y with data := putW y.data a (tl data) }, hs := upd s.hs k { x with kd := .file n (a + data.size) r true false } } ∧ Chg F F'' w w' := fun w' X F' hT hC hC2 hb2 => by
    obtain ⟨h2, c2⟩ := h.treeStep hT hC
    have ht2 := ht.keep (w' := X) hC.size fun g hg => hC.block g (h.tab.lt ((hFh g).2 hg)) fun hf => h.th g hf ((hFh g).2 hg)
    obtain ⟨Fh', h3, h4⟩ := ht2.does hFh hx (.file n (a + data.size) r true false) (by rw [hk]; rfl) ho.2 hC2 ⟨hb2, ho.2⟩
    obtain ⟨h5, c5⟩ := h2.tabStep0 h3 h4
    exact Sys.of hF h5 (c2.trans c5)
  generalize { x with kd := Kd.file n (a + data.size) r true false } = x' at hfin ⊢
  generalize { y with data := putW y.data a (tl data) } = y' at hr hfin ⊢
  generalize (mem k).blk = kb at hf c0 hlt
  unfold ptrV at hf c0 hr ⊢
  replace hfin := Lib.hid hfin
  replace hr := Lib.hid hr
  clear h hd ht hF hFh hx ho hobF hobn hk
  go_enter Tryz.func39, Tryz.ntmps39
  go_wp2_with fail
  refine hf.mono ?_
  rintro e w' ⟨rfl, hw⟩
  obtain rfl := hw.symm
  clear hf hw
  go_wp2_with fail
  refine hr.out.mono ?_
  rintro e w2 ⟨rfl, X, F', hT, hC, hC2, hb2⟩
  have hres := hfin.out w2 X F' hT hC hC2 hb2
  replace hres := Lib.hid hres
  clear hfin hr hT hC hC2 hb2
  go_wp2
  go_ret
  exact ⟨rfl, hres.out⟩
theorem sys_write_more (h : Sys w F c s) (hx : look s.hs k = some x) {n : Int} {a : Nat} {r : Bool} (hk : x.kd = .file n a r true true) {y : Pn} (hy : look s.nds n = some y) (hyk : y.kind = 2) (hnl : nmsLen y = 0) (data : ByteArray) (ha : y.data.length + data.size ≤ 4096) (hroom : usedN s.nds + data.size ≤ c.room) :
    Calls Tryz.prog 39 #[ptrV c.tb, .int .i64 k, .string data] w fun e w' => e = .returned (.int .i64 0) ∧ ∃ F', Sys w' F' c { s with nds := upd s.nds n { y with data := putW y.data y.data.length (tl data) }, hs := upd s.hs k { x with kd := .file n (y.data.length + data.size) r true true } } ∧ Chg F F' w w' := by
  obtain ⟨Ft, Fp, Fh, h, hF⟩ := h
  obtain ⟨lab, mb, mem, v, ht, hFh⟩ := h.tab
  have hf := tfind_some ht hx
  have hd := ht.hd k x hx
  have c0 := hd.blk.cell (i := 0) rfl
  rw [show doesV s.pp x.kd (mem k).ob = .iface 158 (ptrV (mem k).ob) by rw [hk]; rfl] at c0
  have hlt := hd.blk.lt
  have ho := hd.ob
  rw [hk] at ho
  have hobF : Fh (mem k).ob := (hFh _).2 (by rw [ho.2]; exact nofun)
  have hobn : ¬ Ft (mem k).ob := fun hf => h.th _ hf hobF
  have hr := file_more ho.1 h.tree hobn hy hyk hnl data ha hroom
  have hfin : ∀ w' X F', TreeF X F' c.fb c.most c.room (upd s.nds n { y with data := putW y.data y.data.length (tl data) }) → Chg Ft F' w X → Chg (fun g => g = (mem k).ob) (fun g => g = (mem k).ob) X w' → Blk w' (mem k).ob (fileC c.fb n (y.data.length + data.size) r true true) 162 →
      ∃ F'', Sys w' F'' c { s with nds := upd s.nds n { y with data := putW y.data y.data.length (tl data) }, hs := upd s.hs k { x with kd := .file n (y.data.length + data.size) r true true } } ∧ Chg F F'' w w' := fun w' X F' hT hC hC2 hb2 => by
    obtain ⟨h2, c2⟩ := h.treeStep hT hC
    have ht2 := ht.keep (w' := X) hC.size fun g hg => hC.block g (h.tab.lt ((hFh g).2 hg)) fun hf => h.th g hf ((hFh g).2 hg)
    obtain ⟨Fh', h3, h4⟩ := ht2.does hFh hx (.file n (y.data.length + data.size) r true true) (by rw [hk]; rfl) ho.2 hC2 ⟨hb2, ho.2⟩
    obtain ⟨h5, c5⟩ := h2.tabStep0 h3 h4
    exact Sys.of hF h5 (c2.trans c5)
  generalize { x with kd := Kd.file n (y.data.length + data.size) r true true } = x' at hfin ⊢
  generalize { y with data := putW y.data y.data.length (tl data) } = y' at hr hfin ⊢
  generalize (mem k).blk = kb at hf c0 hlt
  unfold ptrV at hf c0 hr ⊢
  replace hfin := Lib.hid hfin
  replace hr := Lib.hid hr
  clear h hd ht hF hFh hx ho hobF hobn hk
  go_enter Tryz.func39, Tryz.ntmps39
  go_wp2_with fail
  refine hf.mono ?_
  rintro e w' ⟨rfl, hw⟩
  obtain rfl := hw.symm
  clear hf hw
  go_wp2_with fail
  refine hr.out.mono ?_
  rintro e w2 ⟨rfl, X, F', hT, hC, hC2, hb2⟩
  have hres := hfin.out w2 X F' hT hC hC2 hb2
  replace hres := Lib.hid hres
  clear hfin hr hT hC hC2 hb2
  go_wp2
  go_ret
  exact ⟨rfl, hres.out⟩
end
def Refuses (F : Nat → Prop) (fb most room : Nat) (nds : Nds) (n : Int) (a : Nat) (s : ByteArray) (er : Int) : Prop := ∀ W, TreeF W F fb most room nds → Calls Tryz.prog 267 #[.pointer (some ⟨fb, 0, none⟩), .int .i64 n, .int .i64 (a : Int), .string s] W fun e w' => e = .returned (.int .i64 er) ∧ ∃ m, w' = W.drewN m
theorem refuses_big {F : Nat → Prop} {fb most room : Nat} {nds : Nds} {n : Int} {x : Pn} (hx : look nds n = some x) (hk : x.kind = 2) (a : Nat) (s : ByteArray) (ha : a ≤ 1000000000) (hs : s.size ≤ 1000000000) (hb : 4096 < a + s.size) : Refuses F fb most room nds n a s 21 := fun W hW => by
  obtain ⟨lab, mb, mem, hR, hF⟩ := hW
  refine (write_big hR hx hk a s ha hs hb).mono ?_
  rintro e w' ⟨h1, h2⟩
  exact ⟨h1, 0, h2⟩
theorem refuses_room {F : Nat → Prop} {fb most room : Nat} {nds : Nds} {n : Int} {x : Pn} (hx : look nds n = some x) (hk : x.kind = 2) (a : Nat) (s : ByteArray) (ha : a + s.size ≤ 4096) (hs : 0 < s.size) (hm : x.data.length < a + s.size) (hr : room < usedN nds + (a + s.size - x.data.length)) : Refuses F fb most room nds n a s 15 := fun W hW => by
  obtain ⟨lab, mb, mem, hR, hF⟩ := hW
  refine (write_room hR hx hk a s ha hs hm hr).mono ?_
  rintro e w' ⟨h1, h2⟩
  exact ⟨h1, h2⟩
section
variable {w : World} {F : Nat → Prop} {fb most room : Nat} {nds : Nds} {ob a : Nat} {n : Int} {r : Bool}
theorem file_write_err (hb : Blk w ob (fileC fb n a r true false) 162) (h : TreeF w F fb most room nds) (hob : ¬ F ob) (s : ByteArray) {er : Int} (hw0 : Refuses F fb most room nds n a s er) (her : er ≠ 0) :
    Calls Tryz.prog 266 #[ptrV ob, .string s] w fun e w' => e = .returned (.int .i64 er) ∧ ∃ m, w' = w.drewN m := by
  have hw := fun j => hw0 (w.drewN j) (h.keep (w' := w.drewN j) (Nat.le_refl _) fun _ _ => rfl)
  have c0 := hb.cell (i := 0) rfl
  have c1 := hb.cell (i := 1) rfl
  have c2 := hb.cell (i := 2) rfl
  have c4 := hb.cell (i := 4) rfl
  have c5 := hb.cell (i := 5) rfl
  have hlt := hb.lt
  have i2 : (er == 0) = false := by simpa using her
  unfold ptrV at c0 ⊢
  replace hw := Lib.hid hw
  replace hb := Lib.hid hb
  clear h hw0 her
  go_enter Tryz.func266, Tryz.ntmps266
  go_upto_region 8 with fail
  go_still_tail 13, (by kernel_rfl)
  change wpList _ _ _ _ _ (w.drewN 1)
  go_wp2_with fail
  refine (hw.out 1).mono ?_
  rintro e w2 ⟨rfl, m, rfl⟩
  clear hw c0 c1 c2 c4 c5
  go_wp2
  go_ret
  exact ⟨rfl, 1 + m, rfl⟩
theorem file_more_err (hb : Blk w ob (fileC fb n a r true true) 162) (h : TreeF w F fb most room nds) (hob : ¬ F ob) {x : Pn} (hx : look nds n = some x) (hk : x.kind = 2) (hnl : nmsLen x = 0) (hnk : x.data.length ≤ 4096) (s : ByteArray) {er : Int} (hw0 : Refuses F fb most room nds n x.data.length s er) (her : er ≠ 0) :
    Calls Tryz.prog 266 #[ptrV ob, .string s] w fun e w' => e = .returned (.int .i64 er) ∧ Chg (fun g => g = ob) (fun g => g = ob) w w' ∧ Blk w' ob (fileC fb n x.data.length r true true) 162 := by
  have c0 := hb.cell (i := 0) rfl
  have c1 := hb.cell (i := 1) rfl
  have c2 := hb.cell (i := 2) rfl
  have c4 := hb.cell (i := 4) rfl
  have c5 := hb.cell (i := 5) rfl
  have hlt := hb.lt
  have hst := fun W (hW : w.grownBy W none) => (show Calls Tryz.prog 27 #[.pointer (some ⟨fb, 0, none⟩), .int .i64 n] W fun e w' => e = .returned (.tuple #[infoOf x, .int .i64 0]) ∧ W.grownBy w' none by
    obtain ⟨lab, mb, mem, hR, hF⟩ := h
    exact stat_some (hR.grown hW) hx (by omega))
  unfold infoOf at hst
  rw [hk, hnl] at hst
  unfold ptrV at c0 ⊢
  have gW : w.grownBy ((w.alloc (.cells #[.int .i64 0, .int .i64 0, .int .i64 0, .int .i64 0] 68)).drew) none := grownBy_drewN (World.grownBy_alloc w _ _) 1
  have bz : Blk ((w.alloc (.cells #[.int .i64 0, .int .i64 0, .int .i64 0, .int .i64 0] 68)).drew) w.heap.size [.int .i64 0, .int .i64 0, .int .i64 0, .int .i64 0] 68 := Blk.new w _ _
  have hst1 := hst _ gW
  have g0 : w.grownBy w.drew none := grownBy_drewN (grownBy_re w) 1
  have hst0 := hst _ g0
  clear hst
  generalize hLd : x.data.length = Ld at *
  obtain ⟨nm, hnm⟩ : ∃ m, x.named = m := ⟨_, rfl⟩
  obtain ⟨hh, hhh⟩ : ∃ m, x.holds = m := ⟨_, rfl⟩
  rw [hnm, hhh] at hst0 hst1
  clear hnm hhh
  have hob1 : ob ≠ w.heap.size := by omega
  have hob2 : w.heap.size ≠ ob := by omega
  replace hst1 := Lib.hid hst1
  replace hst0 := Lib.hid hst0
  replace bz := Lib.hid bz
  replace gW := Lib.hid gW
  replace g0 := Lib.hid g0
  go_enter Tryz.func266, Tryz.ntmps266
  go_upto_region 4 with fail
  go_cut [5, 6] from 19 to 31 (fun t5 t6 wx => ∃ zi : Nat, t5 = .pointer (some ⟨zi, 0, none⟩) ∧ t6 = .int .i64 0 ∧ w.heap.size ≤ zi ∧ w.grownBy wx none ∧ Blk wx zi [.int .i64 2, .int .i64 (Ld : Int), .int .i64 (nm : Int), .int .i64 (hh : Int)] 68)
  case first =>
    go_region_held3 (fun w' => w'.cell? ⟨ob, 0, none⟩ = some (.pointer (some ⟨fb, 0, none⟩)) ∧ w'.cell? ⟨ob, 1, none⟩ = some (.int .i64 n))
      (first | go_keep | exact hkk)
      (first
        | (go_at_call 27; refine hst1.out.mono ?_; rintro e w5 ⟨rfl, gB⟩; have gC := grownBy_tr gW.out gB; have b5 : Blk w5 w.heap.size _ _ := (gB.block _ bz.out.lt (by simp)).trans bz.out; have y0 := b5.cell (i := 0) rfl; have y1 := b5.cell (i := 1) rfl; have y2 := b5.cell (i := 2) rfl; have y3 := b5.cell (i := 3) rfl; have g0 := b5.frozen 0; have g1 := b5.frozen 1; have g2 := b5.frozen 2; have g3 := b5.frozen 3; have hkk : w5.cell? ⟨ob, 0, none⟩ = some (.pointer (some ⟨fb, 0, none⟩)) ∧ w5.cell? ⟨ob, 1, none⟩ = some (.int .i64 n) := ⟨(World.cell?_of_block (a := ⟨ob, 0, none⟩) (gC.block ob hlt (by simp))).trans c0, (World.cell?_of_block (a := ⟨ob, 1, none⟩) (gC.block ob hlt (by simp))).trans c1⟩)
        | (go_at_call 27; refine hst0.out.mono ?_; rintro e w5 ⟨rfl, gB⟩; have gC := grownBy_tr g0.out gB; have hkk : w5.cell? ⟨ob, 0, none⟩ = some (.pointer (some ⟨fb, 0, none⟩)) ∧ w5.cell? ⟨ob, 1, none⟩ = some (.int .i64 n) := ⟨(World.cell?_of_block (a := ⟨ob, 0, none⟩) (gC.block ob hlt (by simp))).trans c0, (World.cell?_of_block (a := ⟨ob, 1, none⟩) (gC.block ob hlt (by simp))).trans c1⟩))
    all_goals (go_wp2_with fail)
    all_goals go_meet
    · exact ⟨w5.heap.size, rfl, rfl, gC.size, grownBy_tr gC (World.grownBy_alloc w5 _ _), Blk.new w5 _ _⟩
    · exact ⟨w.heap.size, rfl, rfl, Nat.le_refl _, grown_setNew (grown_setNew (grown_setNew (grown_setNew gC (Nat.le_refl _) 0 _) (Nat.le_refl _) 1 _) (Nat.le_refl _) 2 _) (Nat.le_refl _) 3 _, (((b5.set 0 _).set 1 _).set 2 _).set 3 _⟩
  case rest =>
    obtain ⟨zi, rfl, rfl, hzi, gX, bX⟩ := hcut
    have hbX : Blk wc ob (fileC fb n a r true true) 162 := (gX.block ob hlt (by simp)).trans hb
    have y1 := bX.cell (i := 1) rfl
    have yl := bX.lt
    have d2 := hbX.cell (i := 2) rfl
    have q2 := hbX.frozen 2
    have dl := hbX.lt
    clear hst1 hst0 bz gW g0 c0 c1 c2 c4 c5
    go_upto_region 8 with fail
    have hb6 : Blk (wc.setCell ⟨ob, 2, none⟩ (.int .i64 (Ld : Int))) ob (fileC fb n Ld r true true) 162 := hbX.set 2 _
    have hT6 : TreeF (wc.setCell ⟨ob, 2, none⟩ (.int .i64 (Ld : Int))) F fb most room nds := (h.keep gX.size fun g hg => gX.block g (h.lt hg) (by simp)).keep (by simp [World.setCell]) fun g hg => heap_setCell_other wc _ g _ fun e => hob (by rw [← show g = ob from e]; exact hg)
    have cX : Chg (fun g => g = ob) (fun g => g = ob) w (wc.setCell ⟨ob, 2, none⟩ (.int .i64 (Ld : Int))) := (Chg.of_grown gX _).trans (Chg.set (F := fun g => g = ob) rfl 2 _)
    generalize wc.setCell ⟨ob, 2, none⟩ (.int .i64 (Ld : Int)) = w6 at hb6 hT6 cX ⊢
    have hw := hw0 (w6.drewN 1) (hT6.keep (w' := w6.drewN 1) (Nat.le_refl _) fun _ _ => rfl)
    have e0 := hb6.cell (i := 0) rfl
    have e1 := hb6.cell (i := 1) rfl
    have e2 := hb6.cell (i := 2) rfl
    have el := hb6.lt
    unfold ptrV at e0
    have i2 : (er == 0) = false := by simpa using her
    replace hw := Lib.hid hw
    replace hb6 := Lib.hid hb6
    replace cX := Lib.hid cX
    clear hbX y1 yl d2 q2 dl bX gX hT6
    go_still_tail 13, (by kernel_rfl)
    change wpList _ _ _ _ _ (w6.drewN 1)
    go_wp2_with fail
    refine hw.out.mono ?_
    rintro e w2 ⟨rfl, m, rfl⟩
    clear hw e0 e1 e2
    go_wp2
    go_ret
    exact ⟨rfl, cX.out.trans (Chg.drewN _ w6 (1 + m)), hb6.out⟩
end
section
variable {w : World} {F : Nat → Prop} {c : Sy} {s : St} {k : Int} {x : Hd}
theorem sys_write_file_err (h : Sys w F c s) (hx : look s.hs k = some x) {n : Int} {a : Nat} {r : Bool} (hk : x.kd = .file n a r true false) (data : ByteArray) {er : Int} (hw0 : ∀ Ft, Refuses Ft c.fb c.most c.room s.nds n a data er) (her : er ≠ 0) :
    Calls Tryz.prog 39 #[ptrV c.tb, .int .i64 k, .string data] w fun e w' => e = .returned (.int .i64 er) ∧ ∃ F', Sys w' F' c s ∧ Chg F F' w w' := by
  have hsys := h
  obtain ⟨Ft, Fp, Fh, h, hF⟩ := h
  obtain ⟨lab, mb, mem, v, ht, hFh⟩ := h.tab
  have hf := tfind_some ht hx
  have hd := ht.hd k x hx
  have c0 := hd.blk.cell (i := 0) rfl
  rw [show doesV s.pp x.kd (mem k).ob = .iface 158 (ptrV (mem k).ob) by rw [hk]; rfl] at c0
  have hlt := hd.blk.lt
  have ho := hd.ob
  rw [hk] at ho
  have hobF : ¬ Ft (mem k).ob := fun hf => h.th _ hf ((hFh _).2 (by rw [ho.2]; exact nofun))
  have hr := file_write_err ho.1 h.tree hobF data (hw0 Ft) her
  have hres : ∀ w', (∃ m, w' = w.drewN m) → ∃ F', Sys w' F' c s ∧ Chg F F' w w' := fun w' hw' => by
    obtain ⟨m, rfl⟩ := hw'
    exact ⟨F, hsys.keep (Nat.le_refl _) fun _ _ => rfl, Chg.drewN F w m⟩
  generalize (mem k).blk = kb at hf c0 hlt
  unfold ptrV at hf c0 hr ⊢
  replace hres := Lib.hid hres
  replace hr := Lib.hid hr
  clear h hd ht hF hFh hx ho hk hsys
  go_enter Tryz.func39, Tryz.ntmps39
  go_wp2_with fail
  refine hf.mono ?_
  rintro e w' ⟨rfl, hw⟩
  obtain rfl := hw.symm
  clear hf hw
  go_wp2_with fail
  refine hr.out.mono ?_
  rintro e w2 ⟨rfl, hr2⟩
  obtain ⟨F', hq1, hq2⟩ := hres.out w2 hr2
  replace hq1 := Lib.hid hq1
  replace hq2 := Lib.hid hq2
  clear hres hr hr2
  go_wp2
  go_ret
  exact ⟨rfl, F', hq1.out, hq2.out⟩
theorem sys_write_more_err (h : Sys w F c s) (hx : look s.hs k = some x) {n : Int} {a : Nat} {r : Bool} (hk : x.kd = .file n a r true true) {y : Pn} (hy : look s.nds n = some y) (hyk : y.kind = 2) (hnl : nmsLen y = 0) (hnk : y.data.length ≤ 4096) (data : ByteArray) {er : Int} (hw0 : ∀ Ft, Refuses Ft c.fb c.most c.room s.nds n y.data.length data er) (her : er ≠ 0) :
    Calls Tryz.prog 39 #[ptrV c.tb, .int .i64 k, .string data] w fun e w' => e = .returned (.int .i64 er) ∧ ∃ F', Sys w' F' c { s with hs := upd s.hs k { x with kd := .file n y.data.length r true true } } ∧ Chg F F' w w' := by
  have hsys := h
  obtain ⟨Ft, Fp, Fh, h, hF⟩ := h
  obtain ⟨lab, mb, mem, v, ht, hFh⟩ := h.tab
  have hf := tfind_some ht hx
  have hd := ht.hd k x hx
  have c0 := hd.blk.cell (i := 0) rfl
  rw [show doesV s.pp x.kd (mem k).ob = .iface 158 (ptrV (mem k).ob) by rw [hk]; rfl] at c0
  have hlt := hd.blk.lt
  have ho := hd.ob
  rw [hk] at ho
  have hobF : ¬ Ft (mem k).ob := fun hf => h.th _ hf ((hFh _).2 (by rw [ho.2]; exact nofun))
  have hr := file_more_err ho.1 h.tree hobF hy hyk hnl hnk data (hw0 Ft) her
  have hres : ∀ w', (Chg (fun g => g = (mem k).ob) (fun g => g = (mem k).ob) w w' ∧ Blk w' (mem k).ob (fileC c.fb n y.data.length r true true) 162) → ∃ F', Sys w' F' c { s with hs := upd s.hs k { x with kd := .file n y.data.length r true true } } ∧ Chg F F' w w' := fun w' hw' => by
    obtain ⟨Fh', h1, h2⟩ := ht.does hFh hx (.file n y.data.length r true true) (by rw [hk]; rfl) ho.2 hw'.1 ⟨hw'.2, ho.2⟩
    obtain ⟨h3, h4⟩ := h.tabStep0 h1 h2
    exact Sys.of hF h3 h4
  generalize ({ s with hs := upd s.hs k { x with kd := .file n y.data.length r true true } } : St) = s' at hres ⊢
  clear hy hyk hnl hnk hw0
  generalize (mem k).blk = kb at hf c0 hlt
  unfold ptrV at hf c0 hr ⊢
  replace hres := Lib.hid hres
  replace hr := Lib.hid hr
  clear h hd ht hF hFh hx ho hk hsys
  go_enter Tryz.func39, Tryz.ntmps39
  go_wp2_with fail
  refine hf.mono ?_
  rintro e w' ⟨rfl, hw⟩
  obtain rfl := hw.symm
  clear hf hw
  go_wp2_with fail
  refine hr.out.mono ?_
  rintro e w2 ⟨rfl, hr2⟩
  obtain ⟨F', hq1, hq2⟩ := hres.out w2 hr2
  replace hq1 := Lib.hid hq1
  replace hq2 := Lib.hid hq2
  clear hres hr hr2
  go_wp2
  go_ret
  exact ⟨rfl, F', hq1.out, hq2.out⟩
end
end Go.Proofs.YtfofpphnglhopaaGreatDoor
