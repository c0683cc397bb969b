/-
  The last ref of a handle is gone: of a node (which goes too, if nothing else keeps it), a text, a sink. Conditions: at most a million holds.
-/
import Derived.Test.YtbjakhiflgjflaaGreatDoorHnRef
import Derived.Test.YtbjakhiflgjflaaGreatDoorNdDrop
import Derived.Test.YtbjakhiflgjflaaGreatDoorHnErr
import Derived.Test.YtbjakhiflgjflaaGreatDoorHnTake
namespace Go.Proofs.YtbjakhiflgjflaaGreatDoor
open Go Go.RowKit Go.ChangeMaps

section
variable {w : World} {F : Nat → Prop} {fb most room : Nat} {nds : Nds} {ob a : Nat} {n : Int} {r wr m : Bool}
set_option maxRecDepth 100000 in
theorem file_endG (hb : Blk w ob (fileC fb n a r wr m) 165) (h : TreeF w F fb most room nds) {x : Pn} (hx : look nds n = some x) (hh : 0 < x.holds) (hm : x.holds ≤ 1000000) :
    Calls Tryz.prog 263 #[ptrV ob] w fun e w' => e = .returned (.tuple #[]) ∧ ∃ F', TreeF w' F' fb most room (droppedN nds n x) ∧ Chg F F' w w' := by
  have hd := fun k => drop_any (h.keep (w' := w.drewN k) (Nat.le_refl _) fun _ _ => rfl) hx hh hm
  have c0 := hb.cell (i := 0) rfl
  have c1 := hb.cell (i := 1) rfl
  have hlt := hb.lt
  unfold ptrV at c0 ⊢
  replace hd := Lib.hid hd
  clear h hx hh hm hb
  go_enter Tryz.func263, Tryz.ntmps263
  go_still_tail 8, (by kernel_rfl)
  change wpList _ _ _ _ _ (w.drewN 1)
  go_wp2_with fail
  refine (hd.out 1).mono ?_
  rintro e w' ⟨rfl, F', hT, hC⟩
  have hC' : Chg F F' w w' := (Chg.drewN F w 1).trans hC
  replace hT := Lib.hid hT
  replace hC' := Lib.hid hC'
  clear hd hC c0 c1
  go_wp2
  go_end0
  exact ⟨rfl, F', hT.out, hC'.out⟩
end
section
variable {w : World} {F : Nat → Prop} {c : Sy} {s : St} {k : Int} {x : Hd}
set_option maxHeartbeats 2000000 in
set_option maxRecDepth 100000 in
theorem sys_last_fileG (h : Sys w F c s) (hx : look s.hs k = some x) (hr : x.refs = 1) {n : Int} {a : Nat} {r wr m : Bool} (hk : x.kd = .file n a r wr m) {y : Pn} (hy : look s.nds n = some y) (hh : 0 < y.holds) (hm2 : y.holds ≤ 1000000) :
    Calls Tryz.prog 20 #[ptrV c.tb, .int .i64 k] w fun e w' => e = .returned (.int .i64 0) ∧ ∃ F' top' xs', top' ≤ s.top ∧ Sys w' F' c { s with nds := droppedN s.nds n y, hs := dropH s.hs k, top := top', xs := xs' } ∧ Chg F F' w w' := by
  obtain ⟨Ft, Fp, Fh, h, hF⟩ := h
  obtain ⟨lab, mb, mem, v, ht, hFh⟩ := h.tab
  have hf := tfind_some ht hx
  have hd := ht.hd k x hx
  have c1 := hd.blk.cell (i := 1) rfl
  rw [hr] at c1
  have f1 := hd.blk.frozen 1
  have hlt := hd.blk.lt
  have hlk := hd.lb
  have ho := hd.ob
  rw [hk] at ho
  have hdv : doesV s.pp x.kd (mem k).ob = .iface 161 (ptrV (mem k).ob) := by rw [hk]; rfl
  have hdb := hd.blk.set 1 (.int .i64 0)
  rw [hdv] at hdb
  have t2 := ht.num.at_.blk.cell (i := 2) rfl
  have tl := ht.num.at_.blk.lt
  have htk : c.tb ≠ (mem k).blk := fun e => by rw [← e, ht.ltb] at hlk; cases hlk
  have hmk : mb ≠ (mem k).blk := fun e => by rw [← e, ht.lmap] at hlk; cases hlk
  have hmt : mb ≠ c.tb := fun e => by have := ht.lmap; rw [e, ht.ltb] at this; cases this
  have hvk : ∀ g, v.ownBlock = some g → g ≠ (mem k).blk ∧ g ≠ mb := fun g hg => ⟨fun e => (by have := ht.lbk g hg; rw [e, hlk] at this; cases this), fun e => (by have := ht.lbk g hg; rw [e, ht.lmap] at this; cases this)⟩
  have hkm1 : KMap (w.setCell ⟨(mem k).blk, 1, none⟩ (.int .i64 0)) mb (.int .i64) encI (entH mem s.hs) := ht.map.keep (heap_setCell_other w _ mb _ hmk)
  have hn1 : NumR (w.setCell ⟨(mem k).blk, 1, none⟩ (.int .i64 0)) c.tb (ptrV c.fb) (ptrV c.plb) (.map (some mb)) (ids s.hs) s.top v s.xs := ht.num.keep (heap_setCell_other w _ c.tb _ htk) fun g hg => heap_setCell_other w _ g _ (hvk g hg).1
  have cc1 : Chg (fun g => g = (mem k).blk ∨ g = mb ∨ g = c.tb ∨ v.ownBlock = some g) (fun g => g = (mem k).blk ∨ g = mb ∨ g = c.tb ∨ v.ownBlock = some g) w (w.setCell ⟨(mem k).blk, 1, none⟩ (.int .i64 0)) := Chg.set (.inl rfl) 1 _
  have hnd := ht.nodup
  have hid : k ∈ ids s.hs := List.mem_map.2 ⟨(k, x), look_mem hx, rfl⟩
  have hlv := fun w3 top' v' ys => ht.leave (S := fun g => g = (mem k).blk ∨ g = mb ∨ g = c.tb ∨ v.ownBlock = some g) (S' := fun g => g = (mem k).blk ∨ g = mb ∨ g = c.tb ∨ v.ownBlock = some g ∨ v'.ownBlock = some g) (w2 := w3) (k := k) (top' := top') (v' := v') (ys := ys) hFh
  have hlab : ∀ g, g < w.heap.size → (g = (mem k).blk ∨ g = mb ∨ g = c.tb ∨ v.ownBlock = some g) → lab g = .tab ∨ lab g = .tmap ∨ lab g = .back ∨ OfH k (lab g) := fun g _ hg => by
    rcases hg with hg | hg | hg | hg
    · exact .inr (.inr (.inr (by rw [hg, hlk]; exact rfl)))
    · exact .inr (.inl (by rw [hg]; exact ht.lmap))
    · exact .inl (by rw [hg]; exact ht.ltb)
    · exact .inr (.inr (.inl (ht.lbk g hg)))
  have hbk := ht.lbk
  have hltb := ht.ltb
  have hlmb := ht.lmap
  replace ho : Blk w (mem k).ob (fileC c.fb n a r wr m) 165 ∧ lab (mem k).ob = .obj k := ho
  have hob : lab (mem k).ob = .obj k := ho.2
  have hob1 : (mem k).ob ≠ (mem k).blk ∧ (mem k).ob ≠ mb ∧ (mem k).ob ≠ c.tb ∧ v.ownBlock ≠ some (mem k).ob := ⟨fun e => (by rw [e, hlk] at hob; cases hob), fun e => (by rw [e, hlmb] at hob; cases hob), fun e => (by rw [e, hltb] at hob; cases hob), fun e => (by rw [hbk _ e] at hob; cases hob)⟩
  generalize (mem k).ob = ob at *
  generalize (mem k).blk = kb at *
  unfold ptrV at hf
  unfold ptrV
  replace hlv := Lib.hid hlv
  replace hlab := Lib.hid hlab
  replace hn1 := Lib.hid hn1
  replace cc1 := Lib.hid cc1
  replace hvk := Lib.hid hvk
  replace hdb := Lib.hid hdb
  replace ho := Lib.hid ho
  replace hbk := Lib.hid hbk
  clear ht hd hdv
  go_enter Tryz.func20, Tryz.ntmps20
  go_wp2_with fail
  refine hf.mono ?_
  rintro e w' ⟨rfl, hw⟩
  obtain rfl := hw.symm
  clear hf hw
  go_wp2_with (at_delete; go_loud (refine wpList_del_k rfl _ _ 115 3 rfl 116 keyI Tryz.underlying115 Tryz.underlying3 rfl hkm1 k rfl ?_); intro ob2 hkm2; refine Hid.out ?_)
  refine Lib.hid ?_
  have hsz1 : (w.setCell ⟨kb, 1, none⟩ (.int .i64 0)).heap.size = w.heap.size := by simp [World.setCell]
  have hn2 : NumR (setBlock (w.setCell ⟨kb, 1, none⟩ (.int .i64 0)) mb ob2) c.tb _ _ _ _ _ _ _ := hn1.out.keep (setB_other (Ne.symm hmt) ob2) fun g hg => setB_other (hvk.out g hg).2 ob2
  have cc2 := cc1.out.trans (Chg.setB (.inr (.inl rfl)) ob2)
  have hdb2 : Blk (setBlock (w.setCell ⟨kb, 1, none⟩ (.int .i64 0)) mb ob2) kb _ _ := hdb.out.setB (fun e => hmk e.symm) ob2
  have hsz2 : (setBlock (w.setCell ⟨kb, 1, none⟩ (.int .i64 0)) mb ob2).heap.size = w.heap.size := by simp [setBlock, World.setCell]
  generalize setBlock (w.setCell ⟨kb, 1, none⟩ (.int .i64 0)) mb ob2 = w2 at hn2 cc2 hdb2 hkm2 hsz2 ⊢
  have hle := nums_leaveT hn2 hnd hid
  replace hn2 := Lib.hid hn2
  replace cc2 := Lib.hid cc2
  replace hdb2 := Lib.hid hdb2
  replace hkm2 := Lib.hid hkm2
  clear hkm1 hn1 cc1 hdb t2 c1 f1
  have htl2 : c.tb < w2.heap.size := by omega
  go_wp2_with fail
  refine hle.mono ?_
  rintro e w3 ⟨rfl, top', v', ys, htp, hn3, cc3, how⟩
  replace htp := Lib.hid htp
  have cc4 : Chg (fun g => g = kb ∨ g = mb ∨ g = c.tb ∨ v.ownBlock = some g) (fun g => g = kb ∨ g = mb ∨ g = c.tb ∨ v.ownBlock = some g ∨ v'.ownBlock = some g) w w3 := cc2.out.trans (cc3.mono (fun b hb => hb.elim (fun hb => .inr (.inr (.inl hb))) fun hb => .inr (.inr (.inr hb))) fun b _ hb => by
    rcases hb with hb | hb | hb | hb | hb
    · exact .inr (.inl hb)
    · exact .inr (.inr (.inl hb))
    · exact .inl (.inl hb)
    · exact .inl (.inr (.inl hb))
    · exact .inl (.inr (.inr hb)))
  have hkm3 := hkm2.out.keep (cc3.block mb hkm2.out.lt fun hb => hb.elim hmt fun hb => (hvk.out mb hb).2 rfl)
  have hdb3 : Blk w3 kb _ _ := hdb2.out.chg cc3 fun hb => hb.elim (fun e => htk e.symm) fun hb => (hvk.out kb hb).1 rfl
  obtain ⟨Fh3, hT3, hC3⟩ := hlv.out w3 top' v' ys cc4 hlab.out hn3 (fun g hg => by
    rcases how with e | e | ⟨g', e, hge⟩
    · rw [e] at hg; cases hg
    · exact .inl (hbk.out g (by rw [← e]; exact hg))
    · rw [e] at hg
      cases hg
      exact .inr ⟨by omega, hn3.at_.row.lt e⟩) hkm3
  obtain ⟨h3, hc3⟩ := h.tabStep0 hT3 hC3
  have d0 := hdb3.cell (i := 0) rfl
  have dl := hdb3.lt
  have hob3 : Blk w3 ob (fileC c.fb n a r wr m) _ := ho.out.1.chg cc4 fun hb => by
    rcases hb with hb | hb | hb | hb
    · exact hob1.1 hb
    · exact hob1.2.1 hb
    · exact hob1.2.2.1 hb
    · exact hob1.2.2.2 hb
  have hend := file_endG hob3 h3.tree hy hh hm2
  have hfin := fun w4 Ft' (hT4 : TreeF w4 Ft' c.fb c.most c.room (droppedN s.nds n y)) (hC4 : Chg Ft Ft' w3 w4) => Sys.of hF (h3.treeStep hT4 hC4).1 (hc3.trans (h3.treeStep hT4 hC4).2)
  unfold ptrV at d0 hend
  replace hend := Lib.hid hend
  replace hfin := Lib.hid hfin
  clear hle hn3 cc3 cc4 hkm3 hdb3 hT3 hC3 h3 hc3 hn2 cc2 hdb2 hkm2
  go_wp2_with fail
  refine hend.out.mono ?_
  rintro e w4 ⟨rfl, Ft', hT4, hC4⟩
  obtain ⟨F', hR1, hR2⟩ := hfin.out w4 Ft' hT4 hC4
  replace hR1 := Lib.hid hR1
  replace hR2 := Lib.hid hR2
  clear hend hfin hT4 hC4
  go_wp2
  go_ret
  exact ⟨rfl, F', top', ys, htp.out, hR1.out, hR2.out⟩
set_option maxHeartbeats 2000000 in
set_option maxRecDepth 100000 in
theorem sys_last_text (h : Sys w F c s) (hx : look s.hs k = some x) (hr : x.refs = 1) {T : List UInt8} {a : Nat} (hk : x.kd = .text T a) :
    Calls Tryz.prog 20 #[ptrV c.tb, .int .i64 k] w fun e w' => e = .returned (.int .i64 0) ∧ ∃ F' top' xs', top' ≤ s.top ∧ Sys w' F' c { s with hs := dropH s.hs k, top := top', xs := xs' } ∧ Chg F F' w w' := by
  obtain ⟨Ft, Fp, Fh, h, hF⟩ := h
  obtain ⟨lab, mb, mem, v, ht, hFh⟩ := h.tab
  have hf := tfind_some ht hx
  have hd := ht.hd k x hx
  have c1 := hd.blk.cell (i := 1) rfl
  rw [hr] at c1
  have f1 := hd.blk.frozen 1
  have hlt := hd.blk.lt
  have hlk := hd.lb
  have ho := hd.ob
  rw [hk] at ho
  have hdv : doesV s.pp x.kd (mem k).ob = .iface 195 (ptrV (mem k).ob) := by rw [hk]; rfl
  have hdb := hd.blk.set 1 (.int .i64 0)
  rw [hdv] at hdb
  have t2 := ht.num.at_.blk.cell (i := 2) rfl
  have tl := ht.num.at_.blk.lt
  have htk : c.tb ≠ (mem k).blk := fun e => by rw [← e, ht.ltb] at hlk; cases hlk
  have hmk : mb ≠ (mem k).blk := fun e => by rw [← e, ht.lmap] at hlk; cases hlk
  have hmt : mb ≠ c.tb := fun e => by have := ht.lmap; rw [e, ht.ltb] at this; cases this
  have hvk : ∀ g, v.ownBlock = some g → g ≠ (mem k).blk ∧ g ≠ mb := fun g hg => ⟨fun e => (by have := ht.lbk g hg; rw [e, hlk] at this; cases this), fun e => (by have := ht.lbk g hg; rw [e, ht.lmap] at this; cases this)⟩
  have hkm1 : KMap (w.setCell ⟨(mem k).blk, 1, none⟩ (.int .i64 0)) mb (.int .i64) encI (entH mem s.hs) := ht.map.keep (heap_setCell_other w _ mb _ hmk)
  have hn1 : NumR (w.setCell ⟨(mem k).blk, 1, none⟩ (.int .i64 0)) c.tb (ptrV c.fb) (ptrV c.plb) (.map (some mb)) (ids s.hs) s.top v s.xs := ht.num.keep (heap_setCell_other w _ c.tb _ htk) fun g hg => heap_setCell_other w _ g _ (hvk g hg).1
  have cc1 : Chg (fun g => g = (mem k).blk ∨ g = mb ∨ g = c.tb ∨ v.ownBlock = some g) (fun g => g = (mem k).blk ∨ g = mb ∨ g = c.tb ∨ v.ownBlock = some g) w (w.setCell ⟨(mem k).blk, 1, none⟩ (.int .i64 0)) := Chg.set (.inl rfl) 1 _
  have hnd := ht.nodup
  have hid : k ∈ ids s.hs := List.mem_map.2 ⟨(k, x), look_mem hx, rfl⟩
  have hlv := fun w3 top' v' ys => ht.leave (S := fun g => g = (mem k).blk ∨ g = mb ∨ g = c.tb ∨ v.ownBlock = some g) (S' := fun g => g = (mem k).blk ∨ g = mb ∨ g = c.tb ∨ v.ownBlock = some g ∨ v'.ownBlock = some g) (w2 := w3) (k := k) (top' := top') (v' := v') (ys := ys) hFh
  have hlab : ∀ g, g < w.heap.size → (g = (mem k).blk ∨ g = mb ∨ g = c.tb ∨ v.ownBlock = some g) → lab g = .tab ∨ lab g = .tmap ∨ lab g = .back ∨ OfH k (lab g) := fun g _ hg => by
    rcases hg with hg | hg | hg | hg
    · exact .inr (.inr (.inr (by rw [hg, hlk]; exact rfl)))
    · exact .inr (.inl (by rw [hg]; exact ht.lmap))
    · exact .inl (by rw [hg]; exact ht.ltb)
    · exact .inr (.inr (.inl (ht.lbk g hg)))
  have hbk := ht.lbk
  have hltb := ht.ltb
  have hlmb := ht.lmap
  have hob : lab (mem k).ob = .obj k := ho.2.1
  have hob1 : (mem k).ob ≠ (mem k).blk ∧ (mem k).ob ≠ mb ∧ (mem k).ob ≠ c.tb ∧ v.ownBlock ≠ some (mem k).ob := ⟨fun e => (by rw [e, hlk] at hob; cases hob), fun e => (by rw [e, hlmb] at hob; cases hob), fun e => (by rw [e, hltb] at hob; cases hob), fun e => (by rw [hbk _ e] at hob; cases hob)⟩
  replace ho := ho.1
  generalize (mem k).ob = ob at *
  generalize (mem k).blk = kb at *
  unfold ptrV at hf
  unfold ptrV
  replace hlv := Lib.hid hlv
  replace hlab := Lib.hid hlab
  replace hn1 := Lib.hid hn1
  replace cc1 := Lib.hid cc1
  replace hvk := Lib.hid hvk
  replace hdb := Lib.hid hdb
  replace ho := Lib.hid ho
  replace hbk := Lib.hid hbk
  clear ht hd hdv
  go_enter Tryz.func20, Tryz.ntmps20
  go_wp2_with fail
  refine hf.mono ?_
  rintro e w' ⟨rfl, hw⟩
  obtain rfl := hw.symm
  clear hf hw
  go_wp2_with (at_delete; go_loud (refine wpList_del_k rfl _ _ 115 3 rfl 116 keyI Tryz.underlying115 Tryz.underlying3 rfl hkm1 k rfl ?_); intro ob2 hkm2; refine Hid.out ?_)
  refine Lib.hid ?_
  have hsz1 : (w.setCell ⟨kb, 1, none⟩ (.int .i64 0)).heap.size = w.heap.size := by simp [World.setCell]
  have hn2 : NumR (setBlock (w.setCell ⟨kb, 1, none⟩ (.int .i64 0)) mb ob2) c.tb _ _ _ _ _ _ _ := hn1.out.keep (setB_other (Ne.symm hmt) ob2) fun g hg => setB_other (hvk.out g hg).2 ob2
  have cc2 := cc1.out.trans (Chg.setB (.inr (.inl rfl)) ob2)
  have hdb2 : Blk (setBlock (w.setCell ⟨kb, 1, none⟩ (.int .i64 0)) mb ob2) kb _ _ := hdb.out.setB (fun e => hmk e.symm) ob2
  have hsz2 : (setBlock (w.setCell ⟨kb, 1, none⟩ (.int .i64 0)) mb ob2).heap.size = w.heap.size := by simp [setBlock, World.setCell]
  generalize setBlock (w.setCell ⟨kb, 1, none⟩ (.int .i64 0)) mb ob2 = w2 at hn2 cc2 hdb2 hkm2 hsz2 ⊢
  have hle := nums_leaveT hn2 hnd hid
  replace hn2 := Lib.hid hn2
  replace cc2 := Lib.hid cc2
  replace hdb2 := Lib.hid hdb2
  replace hkm2 := Lib.hid hkm2
  clear hkm1 hn1 cc1 hdb t2 c1 f1
  have htl2 : c.tb < w2.heap.size := by omega
  go_wp2_with fail
  refine hle.mono ?_
  rintro e w3 ⟨rfl, top', v', ys, htp, hn3, cc3, how⟩
  replace htp := Lib.hid htp
  have cc4 : Chg (fun g => g = kb ∨ g = mb ∨ g = c.tb ∨ v.ownBlock = some g) (fun g => g = kb ∨ g = mb ∨ g = c.tb ∨ v.ownBlock = some g ∨ v'.ownBlock = some g) w w3 := cc2.out.trans (cc3.mono (fun b hb => hb.elim (fun hb => .inr (.inr (.inl hb))) fun hb => .inr (.inr (.inr hb))) fun b _ hb => by
    rcases hb with hb | hb | hb | hb | hb
    · exact .inr (.inl hb)
    · exact .inr (.inr (.inl hb))
    · exact .inl (.inl hb)
    · exact .inl (.inr (.inl hb))
    · exact .inl (.inr (.inr hb)))
  have hkm3 := hkm2.out.keep (cc3.block mb hkm2.out.lt fun hb => hb.elim hmt fun hb => (hvk.out mb hb).2 rfl)
  have hdb3 : Blk w3 kb _ _ := hdb2.out.chg cc3 fun hb => hb.elim (fun e => htk e.symm) fun hb => (hvk.out kb hb).1 rfl
  obtain ⟨Fh3, hT3, hC3⟩ := hlv.out w3 top' v' ys cc4 hlab.out hn3 (fun g hg => by
    rcases how with e | e | ⟨g', e, hge⟩
    · rw [e] at hg; cases hg
    · exact .inl (hbk.out g (by rw [← e]; exact hg))
    · rw [e] at hg
      cases hg
      exact .inr ⟨by omega, hn3.at_.row.lt e⟩) hkm3
  obtain ⟨h3, hc3⟩ := h.tabStep0 hT3 hC3
  have d0 := hdb3.cell (i := 0) rfl
  have dl := hdb3.lt
  have hob3 := ho.out.chg cc4 fun hb => by
    rcases hb with hb | hb | hb | hb
    · exact hob1.1 hb
    · exact hob1.2.1 hb
    · exact hob1.2.2.1 hb
    · exact hob1.2.2.2 hb
  have hol := hob3.lt
  have hm := m_text_end hob3
  have hfin := Sys.of hF h3 hc3
  unfold ptrV at d0
  replace hfin := Lib.hid hfin
  clear hle hn3 cc3 cc4 hkm3 hdb3 hT3 hC3 h3 hc3 hn2 cc2 hdb2 hkm2 hob3
  go_wp2
  go_ret
  obtain ⟨F', hR1, hR2⟩ := hfin.out
  exact ⟨rfl, F', top', ys, htp.out, hR1.grown (World.grownBy_alloc w3 _ _), hR2.trans (Chg.alloc_other F' w3 _)⟩
set_option maxHeartbeats 2000000 in
set_option maxRecDepth 100000 in
theorem sys_last_sink (h : Sys w F c s) (hx : look s.hs k = some x) (hr : x.refs = 1) {l : List UInt8} {m : Nat} (hk : x.kd = .sink l m) :
    Calls Tryz.prog 20 #[ptrV c.tb, .int .i64 k] w fun e w' => e = .returned (.int .i64 0) ∧ ∃ F' top' xs', top' ≤ s.top ∧ Sys w' F' c { s with hs := dropH s.hs k, top := top', xs := xs' } ∧ Chg F F' w w' := by
  obtain ⟨Ft, Fp, Fh, h, hF⟩ := h
  obtain ⟨lab, mb, mem, v, ht, hFh⟩ := h.tab
  have hf := tfind_some ht hx
  have hd := ht.hd k x hx
  have c1 := hd.blk.cell (i := 1) rfl
  rw [hr] at c1
  have f1 := hd.blk.frozen 1
  have hlt := hd.blk.lt
  have hlk := hd.lb
  have ho := hd.ob
  rw [hk] at ho
  have hdv : doesV s.pp x.kd (mem k).ob = .iface 198 (ptrV (mem k).ob) := by rw [hk]; rfl
  have hdb := hd.blk.set 1 (.int .i64 0)
  rw [hdv] at hdb
  have t2 := ht.num.at_.blk.cell (i := 2) rfl
  have tl := ht.num.at_.blk.lt
  have htk : c.tb ≠ (mem k).blk := fun e => by rw [← e, ht.ltb] at hlk; cases hlk
  have hmk : mb ≠ (mem k).blk := fun e => by rw [← e, ht.lmap] at hlk; cases hlk
  have hmt : mb ≠ c.tb := fun e => by have := ht.lmap; rw [e, ht.ltb] at this; cases this
  have hvk : ∀ g, v.ownBlock = some g → g ≠ (mem k).blk ∧ g ≠ mb := fun g hg => ⟨fun e => (by have := ht.lbk g hg; rw [e, hlk] at this; cases this), fun e => (by have := ht.lbk g hg; rw [e, ht.lmap] at this; cases this)⟩
  have hkm1 : KMap (w.setCell ⟨(mem k).blk, 1, none⟩ (.int .i64 0)) mb (.int .i64) encI (entH mem s.hs) := ht.map.keep (heap_setCell_other w _ mb _ hmk)
  have hn1 : NumR (w.setCell ⟨(mem k).blk, 1, none⟩ (.int .i64 0)) c.tb (ptrV c.fb) (ptrV c.plb) (.map (some mb)) (ids s.hs) s.top v s.xs := ht.num.keep (heap_setCell_other w _ c.tb _ htk) fun g hg => heap_setCell_other w _ g _ (hvk g hg).1
  have cc1 : Chg (fun g => g = (mem k).blk ∨ g = mb ∨ g = c.tb ∨ v.ownBlock = some g) (fun g => g = (mem k).blk ∨ g = mb ∨ g = c.tb ∨ v.ownBlock = some g) w (w.setCell ⟨(mem k).blk, 1, none⟩ (.int .i64 0)) := Chg.set (.inl rfl) 1 _
  have hnd := ht.nodup
  have hid : k ∈ ids s.hs := List.mem_map.2 ⟨(k, x), look_mem hx, rfl⟩
  have hlv := fun w3 top' v' ys => ht.leave (S := fun g => g = (mem k).blk ∨ g = mb ∨ g = c.tb ∨ v.ownBlock = some g) (S' := fun g => g = (mem k).blk ∨ g = mb ∨ g = c.tb ∨ v.ownBlock = some g ∨ v'.ownBlock = some g) (w2 := w3) (k := k) (top' := top') (v' := v') (ys := ys) hFh
  have hlab : ∀ g, g < w.heap.size → (g = (mem k).blk ∨ g = mb ∨ g = c.tb ∨ v.ownBlock = some g) → lab g = .tab ∨ lab g = .tmap ∨ lab g = .back ∨ OfH k (lab g) := fun g _ hg => by
    rcases hg with hg | hg | hg | hg
    · exact .inr (.inr (.inr (by rw [hg, hlk]; exact rfl)))
    · exact .inr (.inl (by rw [hg]; exact ht.lmap))
    · exact .inl (by rw [hg]; exact ht.ltb)
    · exact .inr (.inr (.inl (ht.lbk g hg)))
  have hbk := ht.lbk
  have hltb := ht.ltb
  have hlmb := ht.lmap
  have hob : lab (mem k).ob = .obj k := ho.2.1
  have hob1 : (mem k).ob ≠ (mem k).blk ∧ (mem k).ob ≠ mb ∧ (mem k).ob ≠ c.tb ∧ v.ownBlock ≠ some (mem k).ob := ⟨fun e => (by rw [e, hlk] at hob; cases hob), fun e => (by rw [e, hlmb] at hob; cases hob), fun e => (by rw [e, hltb] at hob; cases hob), fun e => (by rw [hbk _ e] at hob; cases hob)⟩
  replace ho := ho.1
  generalize (mem k).cv = cv at *
  generalize (mem k).ob = ob at *
  generalize (mem k).blk = kb at *
  unfold ptrV at hf
  unfold ptrV
  replace hlv := Lib.hid hlv
  replace hlab := Lib.hid hlab
  replace hn1 := Lib.hid hn1
  replace cc1 := Lib.hid cc1
  replace hvk := Lib.hid hvk
  replace hdb := Lib.hid hdb
  replace ho := Lib.hid ho
  replace hbk := Lib.hid hbk
  clear ht hd hdv
  go_enter Tryz.func20, Tryz.ntmps20
  go_wp2_with fail
  refine hf.mono ?_
  rintro e w' ⟨rfl, hw⟩
  obtain rfl := hw.symm
  clear hf hw
  go_wp2_with (at_delete; go_loud (refine wpList_del_k rfl _ _ 115 3 rfl 116 keyI Tryz.underlying115 Tryz.underlying3 rfl hkm1 k rfl ?_); intro ob2 hkm2; refine Hid.out ?_)
  refine Lib.hid ?_
  have hsz1 : (w.setCell ⟨kb, 1, none⟩ (.int .i64 0)).heap.size = w.heap.size := by simp [World.setCell]
  have hn2 : NumR (setBlock (w.setCell ⟨kb, 1, none⟩ (.int .i64 0)) mb ob2) c.tb _ _ _ _ _ _ _ := hn1.out.keep (setB_other (Ne.symm hmt) ob2) fun g hg => setB_other (hvk.out g hg).2 ob2
  have cc2 := cc1.out.trans (Chg.setB (.inr (.inl rfl)) ob2)
  have hdb2 : Blk (setBlock (w.setCell ⟨kb, 1, none⟩ (.int .i64 0)) mb ob2) kb _ _ := hdb.out.setB (fun e => hmk e.symm) ob2
  have hsz2 : (setBlock (w.setCell ⟨kb, 1, none⟩ (.int .i64 0)) mb ob2).heap.size = w.heap.size := by simp [setBlock, World.setCell]
  generalize setBlock (w.setCell ⟨kb, 1, none⟩ (.int .i64 0)) mb ob2 = w2 at hn2 cc2 hdb2 hkm2 hsz2 ⊢
  have hle := nums_leaveT hn2 hnd hid
  replace hn2 := Lib.hid hn2
  replace cc2 := Lib.hid cc2
  replace hdb2 := Lib.hid hdb2
  replace hkm2 := Lib.hid hkm2
  clear hkm1 hn1 cc1 hdb t2 c1 f1
  have htl2 : c.tb < w2.heap.size := by omega
  go_wp2_with fail
  refine hle.mono ?_
  rintro e w3 ⟨rfl, top', v', ys, htp, hn3, cc3, how⟩
  replace htp := Lib.hid htp
  have cc4 : Chg (fun g => g = kb ∨ g = mb ∨ g = c.tb ∨ v.ownBlock = some g) (fun g => g = kb ∨ g = mb ∨ g = c.tb ∨ v.ownBlock = some g ∨ v'.ownBlock = some g) w w3 := cc2.out.trans (cc3.mono (fun b hb => hb.elim (fun hb => .inr (.inr (.inl hb))) fun hb => .inr (.inr (.inr hb))) fun b _ hb => by
    rcases hb with hb | hb | hb | hb | hb
    · exact .inr (.inl hb)
    · exact .inr (.inr (.inl hb))
    · exact .inl (.inl hb)
    · exact .inl (.inr (.inl hb))
    · exact .inl (.inr (.inr hb)))
  have hkm3 := hkm2.out.keep (cc3.block mb hkm2.out.lt fun hb => hb.elim hmt fun hb => (hvk.out mb hb).2 rfl)
  have hdb3 : Blk w3 kb _ _ := hdb2.out.chg cc3 fun hb => hb.elim (fun e => htk e.symm) fun hb => (hvk.out kb hb).1 rfl
  obtain ⟨Fh3, hT3, hC3⟩ := hlv.out w3 top' v' ys cc4 hlab.out hn3 (fun g hg => by
    rcases how with e | e | ⟨g', e, hge⟩
    · rw [e] at hg; cases hg
    · exact .inl (hbk.out g (by rw [← e]; exact hg))
    · rw [e] at hg
      cases hg
      exact .inr ⟨by omega, hn3.at_.row.lt e⟩) hkm3
  obtain ⟨h3, hc3⟩ := h.tabStep0 hT3 hC3
  have d0 := hdb3.cell (i := 0) rfl
  have dl := hdb3.lt
  have hob3 := ho.out.chg cc4 fun hb => by
    rcases hb with hb | hb | hb | hb
    · exact hob1.1 hb
    · exact hob1.2.1 hb
    · exact hob1.2.2.1 hb
    · exact hob1.2.2.2 hb
  have hol := hob3.lt
  have hm := m_sink_end hob3
  have hfin := Sys.of hF h3 hc3
  unfold ptrV at d0
  replace hfin := Lib.hid hfin
  clear hle hn3 cc3 cc4 hkm3 hdb3 hT3 hC3 h3 hc3 hn2 cc2 hdb2 hkm2 hob3
  go_wp2
  go_ret
  obtain ⟨F', hR1, hR2⟩ := hfin.out
  exact ⟨rfl, F', top', ys, htp.out, hR1.grown (World.grownBy_alloc w3 _ _), hR2.trans (Chg.alloc_other F' w3 _)⟩
set_option maxHeartbeats 2000000 in
set_option maxRecDepth 100000 in
theorem sys_last_rd1T (h : Sys w F c s) (hx : look s.hs k = some x) (hr : x.refs = 1) {p pb bb : Nat} (hk : x.kd = .rd p) (hp : s.pp[p]? = some (pb, bb, 2)) :
    Calls Tryz.prog 20 #[ptrV c.tb, .int .i64 k] w fun e w' => e = .returned (.int .i64 0) ∧ ∃ F' top' xs', top' ≤ s.top ∧ Sys w' F' c { s with pp := s.pp.set p (pb, bb, 1), hs := dropH s.hs k, top := top', xs := xs' } ∧ Chg F F' w w' := by
  obtain ⟨Ft, Fp, Fh, h, hF⟩ := h
  obtain ⟨lab, mb, mem, v, ht, hFh⟩ := h.tab
  have hf := tfind_some ht hx
  have hd := ht.hd k x hx
  have c1 := hd.blk.cell (i := 1) rfl
  rw [hr] at c1
  have f1 := hd.blk.frozen 1
  have hlt := hd.blk.lt
  have hlk := hd.lb
  have ho := hd.ob
  rw [hk] at ho
  have hdv : doesV s.pp x.kd (mem k).ob = .iface 172 (.agg #[ptrV pb]) := by show doesV s.pp x.kd (mem k).ob = .iface _ (.agg #[ptrV pb]); rw [hk]; show Value.iface _ (.agg #[ptrV (pipeB s.pp p)]) = _; unfold pipeB; rw [List.getD_eq_getElem?_getD, hp]; rfl
  have hdb := hd.blk.set 1 (.int .i64 0)
  rw [hdv] at hdb
  have t2 := ht.num.at_.blk.cell (i := 2) rfl
  have tl := ht.num.at_.blk.lt
  have htk : c.tb ≠ (mem k).blk := fun e => by rw [← e, ht.ltb] at hlk; cases hlk
  have hmk : mb ≠ (mem k).blk := fun e => by rw [← e, ht.lmap] at hlk; cases hlk
  have hmt : mb ≠ c.tb := fun e => by have := ht.lmap; rw [e, ht.ltb] at this; cases this
  have hvk : ∀ g, v.ownBlock = some g → g ≠ (mem k).blk ∧ g ≠ mb := fun g hg => ⟨fun e => (by have := ht.lbk g hg; rw [e, hlk] at this; cases this), fun e => (by have := ht.lbk g hg; rw [e, ht.lmap] at this; cases this)⟩
  have hkm1 : KMap (w.setCell ⟨(mem k).blk, 1, none⟩ (.int .i64 0)) mb (.int .i64) encI (entH mem s.hs) := ht.map.keep (heap_setCell_other w _ mb _ hmk)
  have hn1 : NumR (w.setCell ⟨(mem k).blk, 1, none⟩ (.int .i64 0)) c.tb (ptrV c.fb) (ptrV c.plb) (.map (some mb)) (ids s.hs) s.top v s.xs := ht.num.keep (heap_setCell_other w _ c.tb _ htk) fun g hg => heap_setCell_other w _ g _ (hvk g hg).1
  have cc1 : Chg (fun g => g = (mem k).blk ∨ g = mb ∨ g = c.tb ∨ v.ownBlock = some g) (fun g => g = (mem k).blk ∨ g = mb ∨ g = c.tb ∨ v.ownBlock = some g) w (w.setCell ⟨(mem k).blk, 1, none⟩ (.int .i64 0)) := Chg.set (.inl rfl) 1 _
  have hnd := ht.nodup
  have hid : k ∈ ids s.hs := List.mem_map.2 ⟨(k, x), look_mem hx, rfl⟩
  have hlv := fun w3 top' v' ys => ht.leave (S := fun g => g = (mem k).blk ∨ g = mb ∨ g = c.tb ∨ v.ownBlock = some g) (S' := fun g => g = (mem k).blk ∨ g = mb ∨ g = c.tb ∨ v.ownBlock = some g ∨ v'.ownBlock = some g) (w2 := w3) (k := k) (top' := top') (v' := v') (ys := ys) hFh
  have hlab : ∀ g, g < w.heap.size → (g = (mem k).blk ∨ g = mb ∨ g = c.tb ∨ v.ownBlock = some g) → lab g = .tab ∨ lab g = .tmap ∨ lab g = .back ∨ OfH k (lab g) := fun g _ hg => by
    rcases hg with hg | hg | hg | hg
    · exact .inr (.inr (.inr (by rw [hg, hlk]; exact rfl)))
    · exact .inr (.inl (by rw [hg]; exact ht.lmap))
    · exact .inl (by rw [hg]; exact ht.ltb)
    · exact .inr (.inr (.inl (ht.lbk g hg)))
  have hbk := ht.lbk
  have hltb := ht.ltb
  have hlmb := ht.lmap

  generalize (mem k).blk = kb at *
  unfold ptrV at hf
  unfold ptrV
  replace hlv := Lib.hid hlv
  replace hlab := Lib.hid hlab
  replace hn1 := Lib.hid hn1
  replace cc1 := Lib.hid cc1
  replace hvk := Lib.hid hvk
  replace hdb := Lib.hid hdb
  replace ho := Lib.hid ho
  replace hbk := Lib.hid hbk
  clear ht hd hdv
  go_enter Tryz.func20, Tryz.ntmps20
  go_wp2_with fail
  refine hf.mono ?_
  rintro e w' ⟨rfl, hw⟩
  obtain rfl := hw.symm
  clear hf hw
  go_wp2_with (at_delete; go_loud (refine wpList_del_k rfl _ _ 115 3 rfl 116 keyI Tryz.underlying115 Tryz.underlying3 rfl hkm1 k rfl ?_); intro ob2 hkm2; refine Hid.out ?_)
  refine Lib.hid ?_
  have hsz1 : (w.setCell ⟨kb, 1, none⟩ (.int .i64 0)).heap.size = w.heap.size := by simp [World.setCell]
  have hn2 : NumR (setBlock (w.setCell ⟨kb, 1, none⟩ (.int .i64 0)) mb ob2) c.tb _ _ _ _ _ _ _ := hn1.out.keep (setB_other (Ne.symm hmt) ob2) fun g hg => setB_other (hvk.out g hg).2 ob2
  have cc2 := cc1.out.trans (Chg.setB (.inr (.inl rfl)) ob2)
  have hdb2 : Blk (setBlock (w.setCell ⟨kb, 1, none⟩ (.int .i64 0)) mb ob2) kb _ _ := hdb.out.setB (fun e => hmk e.symm) ob2
  have hsz2 : (setBlock (w.setCell ⟨kb, 1, none⟩ (.int .i64 0)) mb ob2).heap.size = w.heap.size := by simp [setBlock, World.setCell]
  generalize setBlock (w.setCell ⟨kb, 1, none⟩ (.int .i64 0)) mb ob2 = w2 at hn2 cc2 hdb2 hkm2 hsz2 ⊢
  have hle := nums_leaveT hn2 hnd hid
  replace hn2 := Lib.hid hn2
  replace cc2 := Lib.hid cc2
  replace hdb2 := Lib.hid hdb2
  replace hkm2 := Lib.hid hkm2
  clear hkm1 hn1 cc1 hdb t2 c1 f1
  have htl2 : c.tb < w2.heap.size := by omega
  go_wp2_with fail
  refine hle.mono ?_
  rintro e w3 ⟨rfl, top', v', ys, htp, hn3, cc3, how⟩
  replace htp := Lib.hid htp
  have cc4 : Chg (fun g => g = kb ∨ g = mb ∨ g = c.tb ∨ v.ownBlock = some g) (fun g => g = kb ∨ g = mb ∨ g = c.tb ∨ v.ownBlock = some g ∨ v'.ownBlock = some g) w w3 := cc2.out.trans (cc3.mono (fun b hb => hb.elim (fun hb => .inr (.inr (.inl hb))) fun hb => .inr (.inr (.inr hb))) fun b _ hb => by
    rcases hb with hb | hb | hb | hb | hb
    · exact .inr (.inl hb)
    · exact .inr (.inr (.inl hb))
    · exact .inl (.inl hb)
    · exact .inl (.inr (.inl hb))
    · exact .inl (.inr (.inr hb)))
  have hkm3 := hkm2.out.keep (cc3.block mb hkm2.out.lt fun hb => hb.elim hmt fun hb => (hvk.out mb hb).2 rfl)
  have hdb3 : Blk w3 kb _ _ := hdb2.out.chg cc3 fun hb => hb.elim (fun e => htk e.symm) fun hb => (hvk.out kb hb).1 rfl
  obtain ⟨Fh3, hT3, hC3⟩ := hlv.out w3 top' v' ys cc4 hlab.out hn3 (fun g hg => by
    rcases how with e | e | ⟨g', e, hge⟩
    · rw [e] at hg; cases hg
    · exact .inl (hbk.out g (by rw [← e]; exact hg))
    · rw [e] at hg
      cases hg
      exact .inr ⟨by omega, hn3.at_.row.lt e⟩) hkm3
  obtain ⟨h3, hc3⟩ := h.tabStep0 hT3 hC3
  have d0 := hdb3.cell (i := 0) rfl
  have dl := hdb3.lt
  obtain ⟨lab3, mb3, mem3, v3, ht3, hFh3⟩ := hT3
  have hpi3 := (ht3.pi p pb bb _ hp).1
  obtain ⟨Fh4, hT4, hC4⟩ := ht3.ends hFh3 hp 1
  obtain ⟨h4, hc4⟩ := h3.tabStep0 hT4 hC4
  have hend := pipe_end1 hpi3
  have hfin := Sys.of hF h4 (hc3.trans hc4)
  unfold ptrV at d0 hend
  replace hend := Lib.hid hend
  replace hfin := Lib.hid hfin
  clear hpi3 ht3 hT4 hC4 h4 hc4
  clear hle hn3 cc3 cc4 hkm3 hdb3 hC3 h3 hc3 hn2 cc2 hdb2 hkm2
  go_wp2_with fail
  refine hend.out.mono ?_
  rintro e w4 ⟨rfl, rfl⟩
  obtain ⟨F', hR1, hR2⟩ := hfin.out
  replace hR1 := Lib.hid hR1
  replace hR2 := Lib.hid hR2
  clear hend hfin
  go_wp2
  go_ret
  exact ⟨rfl, F', top', ys, htp.out, hR1.out, hR2.out⟩
set_option maxHeartbeats 2000000 in
set_option maxRecDepth 100000 in
theorem sys_last_rd0T (h : Sys w F c s) (hx : look s.hs k = some x) (hr : x.refs = 1) {p pb bb : Nat} (hk : x.kd = .rd p) (hp : s.pp[p]? = some (pb, bb, 1)) {q : Nat} {b : Bs} (he : s.es[q]? = some (bb, some b)) (htot : s.tot ≤ 500000) (hn : s.es.length ≤ 1000000) :
    Calls Tryz.prog 20 #[ptrV c.tb, .int .i64 k] w fun e w' => e = .returned (.int .i64 0) ∧ ∃ F' top' xs', top' ≤ s.top ∧ Sys w' F' c { s with es := s.es.set q (bb, none), pp := s.pp.set p (pb, bb, 0), hs := dropH s.hs k, top := top', xs := xs' } ∧ Chg F F' w w' := by
  obtain ⟨Ft, Fp, Fh, h, hF⟩ := h
  obtain ⟨lab, mb, mem, v, ht, hFh⟩ := h.tab
  have hf := tfind_some ht hx
  have hd := ht.hd k x hx
  have c1 := hd.blk.cell (i := 1) rfl
  rw [hr] at c1
  have f1 := hd.blk.frozen 1
  have hlt := hd.blk.lt
  have hlk := hd.lb
  have ho := hd.ob
  rw [hk] at ho
  have hdv : doesV s.pp x.kd (mem k).ob = .iface 172 (.agg #[ptrV pb]) := by show doesV s.pp x.kd (mem k).ob = .iface _ (.agg #[ptrV pb]); rw [hk]; show Value.iface _ (.agg #[ptrV (pipeB s.pp p)]) = _; unfold pipeB; rw [List.getD_eq_getElem?_getD, hp]; rfl
  have hdb := hd.blk.set 1 (.int .i64 0)
  rw [hdv] at hdb
  have t2 := ht.num.at_.blk.cell (i := 2) rfl
  have tl := ht.num.at_.blk.lt
  have htk : c.tb ≠ (mem k).blk := fun e => by rw [← e, ht.ltb] at hlk; cases hlk
  have hmk : mb ≠ (mem k).blk := fun e => by rw [← e, ht.lmap] at hlk; cases hlk
  have hmt : mb ≠ c.tb := fun e => by have := ht.lmap; rw [e, ht.ltb] at this; cases this
  have hvk : ∀ g, v.ownBlock = some g → g ≠ (mem k).blk ∧ g ≠ mb := fun g hg => ⟨fun e => (by have := ht.lbk g hg; rw [e, hlk] at this; cases this), fun e => (by have := ht.lbk g hg; rw [e, ht.lmap] at this; cases this)⟩
  have hkm1 : KMap (w.setCell ⟨(mem k).blk, 1, none⟩ (.int .i64 0)) mb (.int .i64) encI (entH mem s.hs) := ht.map.keep (heap_setCell_other w _ mb _ hmk)
  have hn1 : NumR (w.setCell ⟨(mem k).blk, 1, none⟩ (.int .i64 0)) c.tb (ptrV c.fb) (ptrV c.plb) (.map (some mb)) (ids s.hs) s.top v s.xs := ht.num.keep (heap_setCell_other w _ c.tb _ htk) fun g hg => heap_setCell_other w _ g _ (hvk g hg).1
  have cc1 : Chg (fun g => g = (mem k).blk ∨ g = mb ∨ g = c.tb ∨ v.ownBlock = some g) (fun g => g = (mem k).blk ∨ g = mb ∨ g = c.tb ∨ v.ownBlock = some g) w (w.setCell ⟨(mem k).blk, 1, none⟩ (.int .i64 0)) := Chg.set (.inl rfl) 1 _
  have hnd := ht.nodup
  have hid : k ∈ ids s.hs := List.mem_map.2 ⟨(k, x), look_mem hx, rfl⟩
  have hlv := fun w3 top' v' ys => ht.leave (S := fun g => g = (mem k).blk ∨ g = mb ∨ g = c.tb ∨ v.ownBlock = some g) (S' := fun g => g = (mem k).blk ∨ g = mb ∨ g = c.tb ∨ v.ownBlock = some g ∨ v'.ownBlock = some g) (w2 := w3) (k := k) (top' := top') (v' := v') (ys := ys) hFh
  have hlab : ∀ g, g < w.heap.size → (g = (mem k).blk ∨ g = mb ∨ g = c.tb ∨ v.ownBlock = some g) → lab g = .tab ∨ lab g = .tmap ∨ lab g = .back ∨ OfH k (lab g) := fun g _ hg => by
    rcases hg with hg | hg | hg | hg
    · exact .inr (.inr (.inr (by rw [hg, hlk]; exact rfl)))
    · exact .inr (.inl (by rw [hg]; exact ht.lmap))
    · exact .inl (by rw [hg]; exact ht.ltb)
    · exact .inr (.inr (.inl (ht.lbk g hg)))
  have hbk := ht.lbk
  have hltb := ht.ltb
  have hlmb := ht.lmap

  generalize (mem k).blk = kb at *
  unfold ptrV at hf
  unfold ptrV
  replace hlv := Lib.hid hlv
  replace hlab := Lib.hid hlab
  replace hn1 := Lib.hid hn1
  replace cc1 := Lib.hid cc1
  replace hvk := Lib.hid hvk
  replace hdb := Lib.hid hdb
  replace ho := Lib.hid ho
  replace hbk := Lib.hid hbk
  clear ht hd hdv
  go_enter Tryz.func20, Tryz.ntmps20
  go_wp2_with fail
  refine hf.mono ?_
  rintro e w' ⟨rfl, hw⟩
  obtain rfl := hw.symm
  clear hf hw
  go_wp2_with (at_delete; go_loud (refine wpList_del_k rfl _ _ 115 3 rfl 116 keyI Tryz.underlying115 Tryz.underlying3 rfl hkm1 k rfl ?_); intro ob2 hkm2; refine Hid.out ?_)
  refine Lib.hid ?_
  have hsz1 : (w.setCell ⟨kb, 1, none⟩ (.int .i64 0)).heap.size = w.heap.size := by simp [World.setCell]
  have hn2 : NumR (setBlock (w.setCell ⟨kb, 1, none⟩ (.int .i64 0)) mb ob2) c.tb _ _ _ _ _ _ _ := hn1.out.keep (setB_other (Ne.symm hmt) ob2) fun g hg => setB_other (hvk.out g hg).2 ob2
  have cc2 := cc1.out.trans (Chg.setB (.inr (.inl rfl)) ob2)
  have hdb2 : Blk (setBlock (w.setCell ⟨kb, 1, none⟩ (.int .i64 0)) mb ob2) kb _ _ := hdb.out.setB (fun e => hmk e.symm) ob2
  have hsz2 : (setBlock (w.setCell ⟨kb, 1, none⟩ (.int .i64 0)) mb ob2).heap.size = w.heap.size := by simp [setBlock, World.setCell]
  generalize setBlock (w.setCell ⟨kb, 1, none⟩ (.int .i64 0)) mb ob2 = w2 at hn2 cc2 hdb2 hkm2 hsz2 ⊢
  have hle := nums_leaveT hn2 hnd hid
  replace hn2 := Lib.hid hn2
  replace cc2 := Lib.hid cc2
  replace hdb2 := Lib.hid hdb2
  replace hkm2 := Lib.hid hkm2
  clear hkm1 hn1 cc1 hdb t2 c1 f1
  have htl2 : c.tb < w2.heap.size := by omega
  go_wp2_with fail
  refine hle.mono ?_
  rintro e w3 ⟨rfl, top', v', ys, htp, hn3, cc3, how⟩
  replace htp := Lib.hid htp
  have cc4 : Chg (fun g => g = kb ∨ g = mb ∨ g = c.tb ∨ v.ownBlock = some g) (fun g => g = kb ∨ g = mb ∨ g = c.tb ∨ v.ownBlock = some g ∨ v'.ownBlock = some g) w w3 := cc2.out.trans (cc3.mono (fun b hb => hb.elim (fun hb => .inr (.inr (.inl hb))) fun hb => .inr (.inr (.inr hb))) fun b _ hb => by
    rcases hb with hb | hb | hb | hb | hb
    · exact .inr (.inl hb)
    · exact .inr (.inr (.inl hb))
    · exact .inl (.inl hb)
    · exact .inl (.inr (.inl hb))
    · exact .inl (.inr (.inr hb)))
  have hkm3 := hkm2.out.keep (cc3.block mb hkm2.out.lt fun hb => hb.elim hmt fun hb => (hvk.out mb hb).2 rfl)
  have hdb3 : Blk w3 kb _ _ := hdb2.out.chg cc3 fun hb => hb.elim (fun e => htk e.symm) fun hb => (hvk.out kb hb).1 rfl
  obtain ⟨Fh3, hT3, hC3⟩ := hlv.out w3 top' v' ys cc4 hlab.out hn3 (fun g hg => by
    rcases how with e | e | ⟨g', e, hge⟩
    · rw [e] at hg; cases hg
    · exact .inl (hbk.out g (by rw [← e]; exact hg))
    · rw [e] at hg
      cases hg
      exact .inr ⟨by omega, hn3.at_.row.lt e⟩) hkm3
  obtain ⟨h3, hc3⟩ := h.tabStep0 hT3 hC3
  have d0 := hdb3.cell (i := 0) rfl
  have dl := hdb3.lt
  obtain ⟨lab3, mb3, mem3, v3, ht3, hFh3⟩ := hT3
  have hpi3 := (ht3.pi p pb bb _ hp).1
  obtain ⟨Fh4, hT4, hC4⟩ := ht3.ends hFh3 hp 0
  obtain ⟨h4, hc4⟩ := h3.tabStep0 hT4 hC4
  have hpf : ¬ Fp pb := fun hf => h3.ph pb hf ((hFh3 pb).2 (by rw [(ht3.pi p pb bb _ hp).2]; exact nofun))
  have hend := pipe_end0 hpi3 h3.pool hpf he htot hn
  have hfin := fun w5 Fp' (hA : AllF w5 Fp' c.plb c.q c.M c.C (s.es.set q (bb, none)) s.tot) (hC : Chg Fp Fp' _ w5) => Sys.of hF (h4.poolStep hA hC).1 ((hc3.trans hc4).trans (h4.poolStep hA hC).2)
  unfold ptrV at d0 hend
  replace hend := Lib.hid hend
  replace hfin := Lib.hid hfin
  clear hpi3 ht3 hT4 hC4 h4 hc4
  clear hle hn3 cc3 cc4 hkm3 hdb3 hC3 h3 hc3 hn2 cc2 hdb2 hkm2
  go_wp2_with fail
  refine hend.out.mono ?_
  rintro e w4 ⟨rfl, w5, Fp', rfl, hA, hC⟩
  obtain ⟨F', hR1, hR2⟩ := hfin.out w4 Fp' hA hC
  replace hR1 := Lib.hid hR1
  replace hR2 := Lib.hid hR2
  clear hend hfin
  go_wp2
  go_ret
  exact ⟨rfl, F', top', ys, htp.out, hR1.out, hR2.out⟩
set_option maxHeartbeats 2000000 in
set_option maxRecDepth 100000 in
theorem sys_last_wr1T (h : Sys w F c s) (hx : look s.hs k = some x) (hr : x.refs = 1) {p pb bb : Nat} (hk : x.kd = .wr p) (hp : s.pp[p]? = some (pb, bb, 2)) :
    Calls Tryz.prog 20 #[ptrV c.tb, .int .i64 k] w fun e w' => e = .returned (.int .i64 0) ∧ ∃ F' top' xs', top' ≤ s.top ∧ Sys w' F' c { s with pp := s.pp.set p (pb, bb, 1), hs := dropH s.hs k, top := top', xs := xs' } ∧ Chg F F' w w' := by
  obtain ⟨Ft, Fp, Fh, h, hF⟩ := h
  obtain ⟨lab, mb, mem, v, ht, hFh⟩ := h.tab
  have hf := tfind_some ht hx
  have hd := ht.hd k x hx
  have c1 := hd.blk.cell (i := 1) rfl
  rw [hr] at c1
  have f1 := hd.blk.frozen 1
  have hlt := hd.blk.lt
  have hlk := hd.lb
  have ho := hd.ob
  rw [hk] at ho
  have hdv : doesV s.pp x.kd (mem k).ob = .iface 173 (.agg #[ptrV pb]) := by show doesV s.pp x.kd (mem k).ob = .iface _ (.agg #[ptrV pb]); rw [hk]; show Value.iface _ (.agg #[ptrV (pipeB s.pp p)]) = _; unfold pipeB; rw [List.getD_eq_getElem?_getD, hp]; rfl
  have hdb := hd.blk.set 1 (.int .i64 0)
  rw [hdv] at hdb
  have t2 := ht.num.at_.blk.cell (i := 2) rfl
  have tl := ht.num.at_.blk.lt
  have htk : c.tb ≠ (mem k).blk := fun e => by rw [← e, ht.ltb] at hlk; cases hlk
  have hmk : mb ≠ (mem k).blk := fun e => by rw [← e, ht.lmap] at hlk; cases hlk
  have hmt : mb ≠ c.tb := fun e => by have := ht.lmap; rw [e, ht.ltb] at this; cases this
  have hvk : ∀ g, v.ownBlock = some g → g ≠ (mem k).blk ∧ g ≠ mb := fun g hg => ⟨fun e => (by have := ht.lbk g hg; rw [e, hlk] at this; cases this), fun e => (by have := ht.lbk g hg; rw [e, ht.lmap] at this; cases this)⟩
  have hkm1 : KMap (w.setCell ⟨(mem k).blk, 1, none⟩ (.int .i64 0)) mb (.int .i64) encI (entH mem s.hs) := ht.map.keep (heap_setCell_other w _ mb _ hmk)
  have hn1 : NumR (w.setCell ⟨(mem k).blk, 1, none⟩ (.int .i64 0)) c.tb (ptrV c.fb) (ptrV c.plb) (.map (some mb)) (ids s.hs) s.top v s.xs := ht.num.keep (heap_setCell_other w _ c.tb _ htk) fun g hg => heap_setCell_other w _ g _ (hvk g hg).1
  have cc1 : Chg (fun g => g = (mem k).blk ∨ g = mb ∨ g = c.tb ∨ v.ownBlock = some g) (fun g => g = (mem k).blk ∨ g = mb ∨ g = c.tb ∨ v.ownBlock = some g) w (w.setCell ⟨(mem k).blk, 1, none⟩ (.int .i64 0)) := Chg.set (.inl rfl) 1 _
  have hnd := ht.nodup
  have hid : k ∈ ids s.hs := List.mem_map.2 ⟨(k, x), look_mem hx, rfl⟩
  have hlv := fun w3 top' v' ys => ht.leave (S := fun g => g = (mem k).blk ∨ g = mb ∨ g = c.tb ∨ v.ownBlock = some g) (S' := fun g => g = (mem k).blk ∨ g = mb ∨ g = c.tb ∨ v.ownBlock = some g ∨ v'.ownBlock = some g) (w2 := w3) (k := k) (top' := top') (v' := v') (ys := ys) hFh
  have hlab : ∀ g, g < w.heap.size → (g = (mem k).blk ∨ g = mb ∨ g = c.tb ∨ v.ownBlock = some g) → lab g = .tab ∨ lab g = .tmap ∨ lab g = .back ∨ OfH k (lab g) := fun g _ hg => by
    rcases hg with hg | hg | hg | hg
    · exact .inr (.inr (.inr (by rw [hg, hlk]; exact rfl)))
    · exact .inr (.inl (by rw [hg]; exact ht.lmap))
    · exact .inl (by rw [hg]; exact ht.ltb)
    · exact .inr (.inr (.inl (ht.lbk g hg)))
  have hbk := ht.lbk
  have hltb := ht.ltb
  have hlmb := ht.lmap

  generalize (mem k).blk = kb at *
  unfold ptrV at hf
  unfold ptrV
  replace hlv := Lib.hid hlv
  replace hlab := Lib.hid hlab
  replace hn1 := Lib.hid hn1
  replace cc1 := Lib.hid cc1
  replace hvk := Lib.hid hvk
  replace hdb := Lib.hid hdb
  replace ho := Lib.hid ho
  replace hbk := Lib.hid hbk
  clear ht hd hdv
  go_enter Tryz.func20, Tryz.ntmps20
  go_wp2_with fail
  refine hf.mono ?_
  rintro e w' ⟨rfl, hw⟩
  obtain rfl := hw.symm
  clear hf hw
  go_wp2_with (at_delete; go_loud (refine wpList_del_k rfl _ _ 115 3 rfl 116 keyI Tryz.underlying115 Tryz.underlying3 rfl hkm1 k rfl ?_); intro ob2 hkm2; refine Hid.out ?_)
  refine Lib.hid ?_
  have hsz1 : (w.setCell ⟨kb, 1, none⟩ (.int .i64 0)).heap.size = w.heap.size := by simp [World.setCell]
  have hn2 : NumR (setBlock (w.setCell ⟨kb, 1, none⟩ (.int .i64 0)) mb ob2) c.tb _ _ _ _ _ _ _ := hn1.out.keep (setB_other (Ne.symm hmt) ob2) fun g hg => setB_other (hvk.out g hg).2 ob2
  have cc2 := cc1.out.trans (Chg.setB (.inr (.inl rfl)) ob2)
  have hdb2 : Blk (setBlock (w.setCell ⟨kb, 1, none⟩ (.int .i64 0)) mb ob2) kb _ _ := hdb.out.setB (fun e => hmk e.symm) ob2
  have hsz2 : (setBlock (w.setCell ⟨kb, 1, none⟩ (.int .i64 0)) mb ob2).heap.size = w.heap.size := by simp [setBlock, World.setCell]
  generalize setBlock (w.setCell ⟨kb, 1, none⟩ (.int .i64 0)) mb ob2 = w2 at hn2 cc2 hdb2 hkm2 hsz2 ⊢
  have hle := nums_leaveT hn2 hnd hid
  replace hn2 := Lib.hid hn2
  replace cc2 := Lib.hid cc2
  replace hdb2 := Lib.hid hdb2
  replace hkm2 := Lib.hid hkm2
  clear hkm1 hn1 cc1 hdb t2 c1 f1
  have htl2 : c.tb < w2.heap.size := by omega
  go_wp2_with fail
  refine hle.mono ?_
  rintro e w3 ⟨rfl, top', v', ys, htp, hn3, cc3, how⟩
  replace htp := Lib.hid htp
  have cc4 : Chg (fun g => g = kb ∨ g = mb ∨ g = c.tb ∨ v.ownBlock = some g) (fun g => g = kb ∨ g = mb ∨ g = c.tb ∨ v.ownBlock = some g ∨ v'.ownBlock = some g) w w3 := cc2.out.trans (cc3.mono (fun b hb => hb.elim (fun hb => .inr (.inr (.inl hb))) fun hb => .inr (.inr (.inr hb))) fun b _ hb => by
    rcases hb with hb | hb | hb | hb | hb
    · exact .inr (.inl hb)
    · exact .inr (.inr (.inl hb))
    · exact .inl (.inl hb)
    · exact .inl (.inr (.inl hb))
    · exact .inl (.inr (.inr hb)))
  have hkm3 := hkm2.out.keep (cc3.block mb hkm2.out.lt fun hb => hb.elim hmt fun hb => (hvk.out mb hb).2 rfl)
  have hdb3 : Blk w3 kb _ _ := hdb2.out.chg cc3 fun hb => hb.elim (fun e => htk e.symm) fun hb => (hvk.out kb hb).1 rfl
  obtain ⟨Fh3, hT3, hC3⟩ := hlv.out w3 top' v' ys cc4 hlab.out hn3 (fun g hg => by
    rcases how with e | e | ⟨g', e, hge⟩
    · rw [e] at hg; cases hg
    · exact .inl (hbk.out g (by rw [← e]; exact hg))
    · rw [e] at hg
      cases hg
      exact .inr ⟨by omega, hn3.at_.row.lt e⟩) hkm3
  obtain ⟨h3, hc3⟩ := h.tabStep0 hT3 hC3
  have d0 := hdb3.cell (i := 0) rfl
  have dl := hdb3.lt
  obtain ⟨lab3, mb3, mem3, v3, ht3, hFh3⟩ := hT3
  have hpi3 := (ht3.pi p pb bb _ hp).1
  obtain ⟨Fh4, hT4, hC4⟩ := ht3.ends hFh3 hp 1
  obtain ⟨h4, hc4⟩ := h3.tabStep0 hT4 hC4
  have hend := pipe_end1 hpi3
  have hfin := Sys.of hF h4 (hc3.trans hc4)
  unfold ptrV at d0 hend
  replace hend := Lib.hid hend
  replace hfin := Lib.hid hfin
  clear hpi3 ht3 hT4 hC4 h4 hc4
  clear hle hn3 cc3 cc4 hkm3 hdb3 hC3 h3 hc3 hn2 cc2 hdb2 hkm2
  go_wp2_with fail
  refine hend.out.mono ?_
  rintro e w4 ⟨rfl, rfl⟩
  obtain ⟨F', hR1, hR2⟩ := hfin.out
  replace hR1 := Lib.hid hR1
  replace hR2 := Lib.hid hR2
  clear hend hfin
  go_wp2
  go_ret
  exact ⟨rfl, F', top', ys, htp.out, hR1.out, hR2.out⟩
set_option maxHeartbeats 2000000 in
set_option maxRecDepth 100000 in
theorem sys_last_wr0T (h : Sys w F c s) (hx : look s.hs k = some x) (hr : x.refs = 1) {p pb bb : Nat} (hk : x.kd = .wr p) (hp : s.pp[p]? = some (pb, bb, 1)) {q : Nat} {b : Bs} (he : s.es[q]? = some (bb, some b)) (htot : s.tot ≤ 500000) (hn : s.es.length ≤ 1000000) :
    Calls Tryz.prog 20 #[ptrV c.tb, .int .i64 k] w fun e w' => e = .returned (.int .i64 0) ∧ ∃ F' top' xs', top' ≤ s.top ∧ Sys w' F' c { s with es := s.es.set q (bb, none), pp := s.pp.set p (pb, bb, 0), hs := dropH s.hs k, top := top', xs := xs' } ∧ Chg F F' w w' := by
  obtain ⟨Ft, Fp, Fh, h, hF⟩ := h
  obtain ⟨lab, mb, mem, v, ht, hFh⟩ := h.tab
  have hf := tfind_some ht hx
  have hd := ht.hd k x hx
  have c1 := hd.blk.cell (i := 1) rfl
  rw [hr] at c1
  have f1 := hd.blk.frozen 1
  have hlt := hd.blk.lt
  have hlk := hd.lb
  have ho := hd.ob
  rw [hk] at ho
  have hdv : doesV s.pp x.kd (mem k).ob = .iface 173 (.agg #[ptrV pb]) := by show doesV s.pp x.kd (mem k).ob = .iface _ (.agg #[ptrV pb]); rw [hk]; show Value.iface _ (.agg #[ptrV (pipeB s.pp p)]) = _; unfold pipeB; rw [List.getD_eq_getElem?_getD, hp]; rfl
  have hdb := hd.blk.set 1 (.int .i64 0)
  rw [hdv] at hdb
  have t2 := ht.num.at_.blk.cell (i := 2) rfl
  have tl := ht.num.at_.blk.lt
  have htk : c.tb ≠ (mem k).blk := fun e => by rw [← e, ht.ltb] at hlk; cases hlk
  have hmk : mb ≠ (mem k).blk := fun e => by rw [← e, ht.lmap] at hlk; cases hlk
  have hmt : mb ≠ c.tb := fun e => by have := ht.lmap; rw [e, ht.ltb] at this; cases this
  have hvk : ∀ g, v.ownBlock = some g → g ≠ (mem k).blk ∧ g ≠ mb := fun g hg => ⟨fun e => (by have := ht.lbk g hg; rw [e, hlk] at this; cases this), fun e => (by have := ht.lbk g hg; rw [e, ht.lmap] at this; cases this)⟩
  have hkm1 : KMap (w.setCell ⟨(mem k).blk, 1, none⟩ (.int .i64 0)) mb (.int .i64) encI (entH mem s.hs) := ht.map.keep (heap_setCell_other w _ mb _ hmk)
  have hn1 : NumR (w.setCell ⟨(mem k).blk, 1, none⟩ (.int .i64 0)) c.tb (ptrV c.fb) (ptrV c.plb) (.map (some mb)) (ids s.hs) s.top v s.xs := ht.num.keep (heap_setCell_other w _ c.tb _ htk) fun g hg => heap_setCell_other w _ g _ (hvk g hg).1
  have cc1 : Chg (fun g => g = (mem k).blk ∨ g = mb ∨ g = c.tb ∨ v.ownBlock = some g) (fun g => g = (mem k).blk ∨ g = mb ∨ g = c.tb ∨ v.ownBlock = some g) w (w.setCell ⟨(mem k).blk, 1, none⟩ (.int .i64 0)) := Chg.set (.inl rfl) 1 _
  have hnd := ht.nodup
  have hid : k ∈ ids s.hs := List.mem_map.2 ⟨(k, x), look_mem hx, rfl⟩
  have hlv := fun w3 top' v' ys => ht.leave (S := fun g => g = (mem k).blk ∨ g = mb ∨ g = c.tb ∨ v.ownBlock = some g) (S' := fun g => g = (mem k).blk ∨ g = mb ∨ g = c.tb ∨ v.ownBlock = some g ∨ v'.ownBlock = some g) (w2 := w3) (k := k) (top' := top') (v' := v') (ys := ys) hFh
  have hlab : ∀ g, g < w.heap.size → (g = (mem k).blk ∨ g = mb ∨ g = c.tb ∨ v.ownBlock = some g) → lab g = .tab ∨ lab g = .tmap ∨ lab g = .back ∨ OfH k (lab g) := fun g _ hg => by
    rcases hg with hg | hg | hg | hg
    · exact .inr (.inr (.inr (by rw [hg, hlk]; exact rfl)))
    · exact .inr (.inl (by rw [hg]; exact ht.lmap))
    · exact .inl (by rw [hg]; exact ht.ltb)
    · exact .inr (.inr (.inl (ht.lbk g hg)))
  have hbk := ht.lbk
  have hltb := ht.ltb
  have hlmb := ht.lmap

  generalize (mem k).blk = kb at *
  unfold ptrV at hf
  unfold ptrV
  replace hlv := Lib.hid hlv
  replace hlab := Lib.hid hlab
  replace hn1 := Lib.hid hn1
  replace cc1 := Lib.hid cc1
  replace hvk := Lib.hid hvk
  replace hdb := Lib.hid hdb
  replace ho := Lib.hid ho
  replace hbk := Lib.hid hbk
  clear ht hd hdv
  go_enter Tryz.func20, Tryz.ntmps20
  go_wp2_with fail
  refine hf.mono ?_
  rintro e w' ⟨rfl, hw⟩
  obtain rfl := hw.symm
  clear hf hw
  go_wp2_with (at_delete; go_loud (refine wpList_del_k rfl _ _ 115 3 rfl 116 keyI Tryz.underlying115 Tryz.underlying3 rfl hkm1 k rfl ?_); intro ob2 hkm2; refine Hid.out ?_)
  refine Lib.hid ?_
  have hsz1 : (w.setCell ⟨kb, 1, none⟩ (.int .i64 0)).heap.size = w.heap.size := by simp [World.setCell]
  have hn2 : NumR (setBlock (w.setCell ⟨kb, 1, none⟩ (.int .i64 0)) mb ob2) c.tb _ _ _ _ _ _ _ := hn1.out.keep (setB_other (Ne.symm hmt) ob2) fun g hg => setB_other (hvk.out g hg).2 ob2
  have cc2 := cc1.out.trans (Chg.setB (.inr (.inl rfl)) ob2)
  have hdb2 : Blk (setBlock (w.setCell ⟨kb, 1, none⟩ (.int .i64 0)) mb ob2) kb _ _ := hdb.out.setB (fun e => hmk e.symm) ob2
  have hsz2 : (setBlock (w.setCell ⟨kb, 1, none⟩ (.int .i64 0)) mb ob2).heap.size = w.heap.size := by simp [setBlock, World.setCell]
  generalize setBlock (w.setCell ⟨kb, 1, none⟩ (.int .i64 0)) mb ob2 = w2 at hn2 cc2 hdb2 hkm2 hsz2 ⊢
  have hle := nums_leaveT hn2 hnd hid
  replace hn2 := Lib.hid hn2
  replace cc2 := Lib.hid cc2
  replace hdb2 := Lib.hid hdb2
  replace hkm2 := Lib.hid hkm2
  clear hkm1 hn1 cc1 hdb t2 c1 f1
  have htl2 : c.tb < w2.heap.size := by omega
  go_wp2_with fail
  refine hle.mono ?_
  rintro e w3 ⟨rfl, top', v', ys, htp, hn3, cc3, how⟩
  replace htp := Lib.hid htp
  have cc4 : Chg (fun g => g = kb ∨ g = mb ∨ g = c.tb ∨ v.ownBlock = some g) (fun g => g = kb ∨ g = mb ∨ g = c.tb ∨ v.ownBlock = some g ∨ v'.ownBlock = some g) w w3 := cc2.out.trans (cc3.mono (fun b hb => hb.elim (fun hb => .inr (.inr (.inl hb))) fun hb => .inr (.inr (.inr hb))) fun b _ hb => by
    rcases hb with hb | hb | hb | hb | hb
    · exact .inr (.inl hb)
    · exact .inr (.inr (.inl hb))
    · exact .inl (.inl hb)
    · exact .inl (.inr (.inl hb))
    · exact .inl (.inr (.inr hb)))
  have hkm3 := hkm2.out.keep (cc3.block mb hkm2.out.lt fun hb => hb.elim hmt fun hb => (hvk.out mb hb).2 rfl)
  have hdb3 : Blk w3 kb _ _ := hdb2.out.chg cc3 fun hb => hb.elim (fun e => htk e.symm) fun hb => (hvk.out kb hb).1 rfl
  obtain ⟨Fh3, hT3, hC3⟩ := hlv.out w3 top' v' ys cc4 hlab.out hn3 (fun g hg => by
    rcases how with e | e | ⟨g', e, hge⟩
    · rw [e] at hg; cases hg
    · exact .inl (hbk.out g (by rw [← e]; exact hg))
    · rw [e] at hg
      cases hg
      exact .inr ⟨by omega, hn3.at_.row.lt e⟩) hkm3
  obtain ⟨h3, hc3⟩ := h.tabStep0 hT3 hC3
  have d0 := hdb3.cell (i := 0) rfl
  have dl := hdb3.lt
  obtain ⟨lab3, mb3, mem3, v3, ht3, hFh3⟩ := hT3
  have hpi3 := (ht3.pi p pb bb _ hp).1
  obtain ⟨Fh4, hT4, hC4⟩ := ht3.ends hFh3 hp 0
  obtain ⟨h4, hc4⟩ := h3.tabStep0 hT4 hC4
  have hpf : ¬ Fp pb := fun hf => h3.ph pb hf ((hFh3 pb).2 (by rw [(ht3.pi p pb bb _ hp).2]; exact nofun))
  have hend := pipe_end0 hpi3 h3.pool hpf he htot hn
  have hfin := fun w5 Fp' (hA : AllF w5 Fp' c.plb c.q c.M c.C (s.es.set q (bb, none)) s.tot) (hC : Chg Fp Fp' _ w5) => Sys.of hF (h4.poolStep hA hC).1 ((hc3.trans hc4).trans (h4.poolStep hA hC).2)
  unfold ptrV at d0 hend
  replace hend := Lib.hid hend
  replace hfin := Lib.hid hfin
  clear hpi3 ht3 hT4 hC4 h4 hc4
  clear hle hn3 cc3 cc4 hkm3 hdb3 hC3 h3 hc3 hn2 cc2 hdb2 hkm2
  go_wp2_with fail
  refine hend.out.mono ?_
  rintro e w4 ⟨rfl, w5, Fp', rfl, hA, hC⟩
  obtain ⟨F', hR1, hR2⟩ := hfin.out w4 Fp' hA hC
  replace hR1 := Lib.hid hR1
  replace hR2 := Lib.hid hR2
  clear hend hfin
  go_wp2
  go_ret
  exact ⟨rfl, F', top', ys, htp.out, hR1.out, hR2.out⟩
end
end Go.Proofs.YtbjakhiflgjflaaGreatDoor
