/-
  The last ref of a handle is gone: of a node (which goes too, if nothing else keeps it), a text, a sink. Conditions: at most a million holds.
-/
import Derived.Test.YtglcfbefpnphaaaGreatDoorZn14
import Derived.Test.YtglcfbefpnphaaaGreatDoorZn15
import Derived.Test.YtglcfbefpnphaaaGreatDoorZn16
import Derived.Test.YtglcfbefpnphaaaGreatDoorZn17
namespace Go.Proofs.YtglcfbefpnphaaaGreatDoor
open Go Go.RowKit Go.ChangeMaps

section
variable {w : World} {F : Nat → Prop} {fb most room : Nat} {nds : Nds} {ob a : Nat} {n : Int} {r wr m : Bool}
set_option maxRecDepth 100000 in
theorem file_endG (hb : Blk w ob (fileC fb n a r wr m) 162) (h : TreeF w F fb most room nds) {x : Pn} (hx : look nds n = some x) (hh : 0 < x.holds) (hm : x.holds ≤ 1000000) :
    Calls Tryz.prog 262 #[ptrV ob] w fun e w' => e = .returned (.tuple #[]) ∧ ∃ F', TreeF w' F' fb most room (droppedN nds n x) ∧ Chg F F' w w' := by
  have hd := fun k => drop_any (h.keep (w' := w.drewN k) (Nat.le_refl _) fun _ _ => rfl) hx hh hm
  have c0 := hb.cell (i := 0) rfl
  have c1 := hb.cell (i := 1) rfl
  have hlt := hb.lt
  unfold ptrV at c0 ⊢
  replace hd := Lib.hid hd
  clear h hx hh hm hb
  go_enter Tryz.func262, Tryz.ntmps262
  go_still_tail 8, (by kernel_rfl)
  change wpList _ _ _ _ _ (w.drewN 1)
  go_wp2_with fail
  refine (hd.out 1).mono ?_
  rintro e w' ⟨rfl, F', hT, hC⟩
  have hC' : Chg F F' w w' := (Chg.drewN F w 1).trans hC
  replace hT := Lib.hid hT
  replace hC' := Lib.hid hC'
  clear hd hC c0 c1
  go_wp2
  go_end0
  exact ⟨rfl, F', hT.out, hC'.out⟩
end
section
variable {w : World} {F : Nat → Prop} {c : Sy} {s : St} {k : Int} {x : Hd}
set_option maxHeartbeats 2000000 in
set_option maxRecDepth 100000 in
theorem sys_last_fileG (h : Sys w F c s) (hx : look s.hs k = some x) (hr : x.refs = 1) {n : Int} {a : Nat} {r wr m : Bool} (hk : x.kd = .file n a r wr m) {y : Pn} (hy : look s.nds n = some y) (hh : 0 < y.holds) (hm2 : y.holds ≤ 1000000) :
    Calls Tryz.prog 37 #[ptrV c.tb, .int .i64 k] w fun e w' => e = .returned (.int .i64 0) ∧ ∃ F' top' xs', top' ≤ s.top ∧ Sys w' F' c { s with nds := droppedN s.nds n y, hs := dropH s.hs k, top := top', xs := xs' } ∧ Chg F F' w w' := by
  obtain ⟨Ft, Fp, Fh, h, hF⟩ := h
  obtain ⟨lab, mb, mem, v, ht, hFh⟩ := h.tab
  have hf := tfind_some ht hx
  have hd := ht.hd k x hx
  have c1 := hd.blk.cell (i := 1) rfl
  rw [hr] at c1
  have f1 := hd.blk.frozen 1
  have hlt := hd.blk.lt
  have hlk := hd.lb
  have ho := hd.ob
  rw [hk] at ho
  have hdv : doesV s.pp x.kd (mem k).ob = .iface 158 (ptrV (mem k).ob) := by rw [hk]; rfl
  have hdb := hd.blk.set 1 (.int .i64 0)
  rw [hdv] at hdb
  have t2 := ht.num.at_.blk.cell (i := 2) rfl
  have tl := ht.num.at_.blk.lt
  have htk : c.tb ≠ (mem k).blk := fun e => by rw [← e, ht.ltb] at hlk; cases hlk
  have hmk : mb ≠ (mem k).blk := fun e => by rw [← e, ht.lmap] at hlk; cases hlk
  have hmt : mb ≠ c.tb := fun e => by have := ht.lmap; rw [e, ht.ltb] at this; cases this
  have hvk : ∀ g, v.ownBlock = some g → g ≠ (mem k).blk ∧ g ≠ mb := fun g hg => ⟨fun e => (by have := ht.lbk g hg; rw [e, hlk] at this; cases this), fun e => (by have := ht.lbk g hg; rw [e, ht.lmap] at this; cases this)⟩
  have hkm1 : KMap (w.setCell ⟨(mem k).blk, 1, none⟩ (.int .i64 0)) mb (.int .i64) encI (entH mem s.hs) := ht.map.keep (heap_setCell_other w _ mb _ hmk)
  have hn1 : NumR (w.setCell ⟨(mem k).blk, 1, none⟩ (.int .i64 0)) c.tb (ptrV c.fb) (ptrV c.plb) (.map (some mb)) (ids s.hs) s.top v s.xs := ht.num.keep (heap_setCell_other w _ c.tb _ htk) fun g hg => heap_setCell_other w _ g _ (hvk g hg).1
  have cc1 : Chg (fun g => g = (mem k).blk ∨ g = mb ∨ g = c.tb ∨ v.ownBlock = some g) (fun g => g = (mem k).blk ∨ g = mb ∨ g = c.tb ∨ v.ownBlock = some g) w (w.setCell ⟨(mem k).blk, 1, none⟩ (.int .i64 0)) := Chg.set (.inl rfl) 1 _
  have hnd := ht.nodup
  have hid : k ∈ ids s.hs := List.mem_map.2 ⟨(k, x), look_mem hx, rfl⟩
  have hlv := fun w3 top' v' ys => ht.leave (S := fun g => g = (mem k).blk ∨ g = mb ∨ g = c.tb ∨ v.ownBlock = some g) (S' := fun g => g = (mem k).blk ∨ g = mb ∨ g = c.tb ∨ v.ownBlock = some g ∨ v'.ownBlock = some g) (w2 := w3) (k := k) (top' := top') (v' := v') (ys := ys) hFh
  have hlab : ∀ g, g < w.heap.size → (g = (mem k).blk ∨ g = mb ∨ g = c.tb ∨ v.ownBlock = some g) → lab g = .tab ∨ lab g = .tmap ∨ lab g = .back ∨ OfH k (lab g) := fun g _ hg => by
    rcases hg with hg | hg | hg | hg
    · exact .inr (.inr (.inr (by rw [hg, hlk]; exact rfl)))
    · exact .inr (.inl (by rw [hg]; exact ht.lmap))
    · exact .inl (by rw [hg]; exact ht.ltb)
    · exact .inr (.inr (.inl (ht.lbk g hg)))
  have hbk := ht.lbk
  have hltb := ht.ltb
  have hlmb := ht.lmap
  replace ho : Blk w (mem k).ob (fileC c.fb n a r wr m) 162 ∧ lab (mem k).ob = .obj k := ho
  have hob : lab (mem k).ob = .obj k := ho.2
  have hob1 : (mem k).ob ≠ (mem k).blk ∧ (mem k).ob ≠ mb ∧ (mem k).ob ≠ c.tb ∧ v.ownBlock ≠ some (mem k).ob := ⟨fun e => (by rw [e, hlk] at hob; cases hob), fun e => (by rw [e, hlmb] at hob; cases hob), fun e => (by rw [e, hltb] at hob; cases hob), fun e => (by rw [hbk _ e] at hob; cases hob)⟩
  generalize (mem k).ob = ob at *
  generalize (mem k).blk = kb at *
  unfold ptrV at hf
  unfold ptrV
  replace hlv := Lib.hid hlv
  replace hlab := Lib.hid hlab
  replace hn1 := Lib.hid hn1
  replace cc1 := Lib.hid cc1
  replace hvk := Lib.hid hvk
  replace hdb := Lib.hid hdb
  replace ho := Lib.hid ho
  replace hbk := Lib.hid hbk
  clear ht hd hdv
  go_enter Tryz.func37, Tryz.ntmps37
  go_wp2_with fail
  refine hf.mono ?_
  rintro e w' ⟨rfl, hw⟩
  obtain rfl := hw.symm
  clear hf hw
  go_wp2_with (at_delete; go_loud (refine wpList_del_k rfl _ _ 134 3 rfl 135 keyI Tryz.underlying134 Tryz.underlying3 rfl hkm1 k rfl ?_); intro ob2 hkm2; refine Hid.out ?_)
  refine Lib.hid ?_
  have hsz1 : (w.setCell ⟨kb, 1, none⟩ (.int .i64 0)).heap.size = w.heap.size := by simp [World.setCell]
  have hn2 : NumR (setBlock (w.setCell ⟨kb, 1, none⟩ (.int .i64 0)) mb ob2) c.tb _ _ _ _ _ _ _ := hn1.out.keep (setB_other (Ne.symm hmt) ob2) fun g hg => setB_other (hvk.out g hg).2 ob2
  have cc2 := cc1.out.trans (Chg.setB (.inr (.inl rfl)) ob2)
  have hdb2 : Blk (setBlock (w.setCell ⟨kb, 1, none⟩ (.int .i64 0)) mb ob2) kb _ _ := hdb.out.setB (fun e => hmk e.symm) ob2
  have hsz2 : (setBlock (w.setCell ⟨kb, 1, none⟩ (.int .i64 0)) mb ob2).heap.size = w.heap.size := by simp [setBlock, World.setCell]
  generalize setBlock (w.setCell ⟨kb, 1, none⟩ (.int .i64 0)) mb ob2 = w2 at hn2 cc2 hdb2 hkm2 hsz2 ⊢
  have hle := nums_leaveT hn2 hnd hid
  replace hn2 := Lib.hid hn2
  replace cc2 := Lib.hid cc2
  replace hdb2 := Lib.hid hdb2
  replace hkm2 := Lib.hid hkm2
  clear hkm1 hn1 cc1 hdb t2 c1 f1
  have htl2 : c.tb < w2.heap.size := by omega
  go_wp2_with fail
  refine hle.mono ?_
  rintro e w3 ⟨rfl, top', v', ys, htp, hn3, cc3, how⟩
  replace htp := Lib.hid htp
  have cc4 : Chg (fun g => g = kb ∨ g = mb ∨ g = c.tb ∨ v.ownBlock = some g) (fun g => g = kb ∨ g = mb ∨ g = c.tb ∨ v.ownBlock = some g ∨ v'.ownBlock = some g) w w3 := cc2.out.trans (cc3.mono (fun b hb => hb.elim (fun hb => .inr (.inr (.inl hb))) fun hb => .inr (.inr (.inr hb))) fun b _ hb => by
    rcases hb with hb | hb | hb | hb | hb
    · exact .inr (.inl hb)
    · exact .inr (.inr (.inl hb))
    · exact .inl (.inl hb)
    · exact .inl (.inr (.inl hb))
    · exact .inl (.inr (.inr hb)))
  have hkm3 := hkm2.out.keep (cc3.block mb hkm2.out.lt fun hb => hb.elim hmt fun hb => (hvk.out mb hb).2 rfl)
  have hdb3 : Blk w3 kb _ _ := hdb2.out.chg cc3 fun hb => hb.elim (fun e => htk e.symm) fun hb => (hvk.out kb hb).1 rfl
  obtain ⟨Fh3, hT3, hC3⟩ := hlv.out w3 top' v' ys cc4 hlab.out hn3 (fun g hg => by
    rcases how with e | e | ⟨g', e, hge⟩
    · rw [e] at hg; cases hg
    · exact .inl (hbk.out g (by rw [← e]; exact hg))
    · rw [e] at hg
      cases hg
      exact .inr ⟨by omega, hn3.at_.row.lt e⟩) hkm3
  obtain ⟨h3, hc3⟩ := h.tabStep0 hT3 hC3
  have d0 := hdb3.cell (i := 0) rfl
  have dl := hdb3.lt
  have hob3 : Blk w3 ob (fileC c.fb n a r wr m) _ := ho.out.1.chg cc4 fun hb => by
    rcases hb with hb | hb | hb | hb
    · exact hob1.1 hb
    · exact hob1.2.1 hb
    · exact hob1.2.2.1 hb
    · exact hob1.2.2.2 hb
  have hend := file_endG hob3 h3.tree hy hh hm2
  have hfin := fun w4 Ft' (hT4 : TreeF w4 Ft' c.fb c.most c.room (droppedN s.nds n y)) (hC4 : Chg Ft Ft' w3 w4) => Sys.of hF (h3.treeStep hT4 hC4).1 (hc3.trans (h3.treeStep hT4 hC4).2)
  unfold ptrV at d0 hend
  replace hend := Lib.hid hend
  replace hfin := Lib.hid hfin
  clear hle hn3 cc3 cc4 hkm3 hdb3 hT3 hC3 h3 hc3 hn2 cc2 hdb2 hkm2
  go_wp2_with fail
  refine hend.out.mono ?_
  rintro e w4 ⟨rfl, Ft', hT4, hC4⟩
  obtain ⟨F', hR1, hR2⟩ := hfin.out w4 Ft' hT4 hC4
  replace hR1 := Lib.hid hR1
  replace hR2 := Lib.hid hR2
  clear hend hfin hT4 hC4
  go_wp2
  go_ret
  exact ⟨rfl, F', top', ys, htp.out, hR1.out, hR2.out⟩
end
end Go.Proofs.YtglcfbefpnphaaaGreatDoor
/-
  The chapter's example comes out as it should: awake answers true. Conditions: none.
-/
namespace Go.Proofs.YtglcfbefpnphaaaGreatDoor
open Go Go.RowKit Go.ChangeMaps

def r9 (l : List (ByteArray × Nat)) : Pn := { rootN l with holds := 1 }
def fl9 (h : Nat) (d : List UInt8) : Pn := ⟨2, 1, h, 0, d, none, ⟨#[]⟩⟩
def nlD : List (ByteArray × Nat) := [(nm1 100, 2), (nm1 97, 3), (nm1 108, 4), (nm1 102, 5)]
def nlE : List (ByteArray × Nat) := [(nm1 100, 2), (nm1 97, 3), (nm1 108, 4), (nm1 102, 5), (nm1 103, 6)]
def ndF (h : Nat) (d : List UInt8) : Nds := [(1, r9 nlD), (2, dirD), (3, leafN 2 [120, 121, 122]), (4, leafN 3 [100, 47, 98]), (5, fl9 h d)]
def ndG (h : Nat) (d : List UInt8) (g : Nat) : Nds := [(1, r9 nlE), (2, dirD), (3, leafN 2 [120, 121, 122]), (4, leafN 3 [100, 47, 98]), (5, fl9 h d), (6, fl9 g [])]
abbrev hF9 (a : Nat) : Int × Hd := (5, ⟨1, .file 5 a false true false⟩)
abbrev hG9 : Int × Hd := (6, ⟨1, .file 6 0 false true false⟩)
def ps1 (v : Int) (n : Nat) : List Pt := ⟨0, 0⟩ :: ⟨v, n⟩ :: (List.replicate 14 ⟨0, 0⟩ ++ [⟨1, 0⟩, ⟨18, 0⟩])
def s9a (bb ppb : Nat) (nds : Nds) (hs : Hs) (top : Nat) (xs : List Int) : St := ⟨nds, [(bb, some ⟨[], 0, 3, .slice none 0 0, .slice none 0 0, []⟩)], 0, hs, [(ppb, bb, 2)], top, xs⟩
theorem look_of {α : Type} {l : List (Int × α)} {k : Int} {v : α} (h : look l k = some v) : (k, v) ∈ l := look_mem h
set_option maxRecDepth 100000 in
theorem tok9 : TOk nds9 where
  root := ⟨_, rfl, rfl, rfl⟩
  kind := fun k x h => by
    have := look_of h
    simp only [nds9, ndF, ndG, List.mem_cons, Prod.mk.injEq, List.not_mem_nil, or_false] at this
    rcases this with ⟨rfl, rfl⟩ | ⟨rfl, rfl⟩ | ⟨rfl, rfl⟩ | ⟨rfl, rfl⟩ <;> first | exact .inl rfl | exact .inr (.inl rfl) | exact .inr (.inr rfl)
  dir := fun k x h => by
    have := look_of h
    simp only [nds9, ndF, ndG, List.mem_cons, Prod.mk.injEq, List.not_mem_nil, or_false] at this
    rcases this with ⟨rfl, rfl⟩ | ⟨rfl, rfl⟩ | ⟨rfl, rfl⟩ | ⟨rfl, rfl⟩ <;> intro hk <;> first | exact ⟨_, rfl⟩ | (cases hk)
  leaf := fun k x h => by
    have := look_of h
    simp only [nds9, ndF, ndG, List.mem_cons, Prod.mk.injEq, List.not_mem_nil, or_false] at this
    rcases this with ⟨rfl, rfl⟩ | ⟨rfl, rfl⟩ | ⟨rfl, rfl⟩ | ⟨rfl, rfl⟩ <;> intro hk <;> first | rfl | (exact absurd rfl hk)
  ent := fun k x h e he => by
    have := look_of h
    simp only [nds9, ndF, ndG, List.mem_cons, Prod.mk.injEq, List.not_mem_nil, or_false] at this
    rcases this with ⟨rfl, rfl⟩ | ⟨rfl, rfl⟩ | ⟨rfl, rfl⟩ | ⟨rfl, rfl⟩
    · simp only [nmsOf, rootN, r9, nlC, nlD, nlE, Option.getD_some, List.mem_cons, List.not_mem_nil, or_false] at he
      rcases he with rfl | rfl | rfl <;> exact ⟨by decide, _, rfl⟩
    all_goals (exact absurd he (by simp [nmsOf, dirD, leafN, fl9]))
  par := fun k x h => by
    have := look_of h
    simp only [nds9, ndF, ndG, List.mem_cons, Prod.mk.injEq, List.not_mem_nil, or_false] at this
    rcases this with ⟨rfl, rfl⟩ | ⟨rfl, rfl⟩ | ⟨rfl, rfl⟩ | ⟨rfl, rfl⟩ <;> intro hk hp
    · exact ⟨_, rfl, rfl, fun h => absurd rfl h⟩
    · exact ⟨_, rfl, rfl, fun _ => ⟨2, rfl, by simp [nmsOf, rootN, r9, nlC, nlD, nlE, dirD]⟩⟩
    all_goals (cases hk)
  dead := fun k x h => by
    have := look_of h
    simp only [nds9, ndF, ndG, List.mem_cons, Prod.mk.injEq, List.not_mem_nil, or_false] at this
    rcases this with ⟨rfl, rfl⟩ | ⟨rfl, rfl⟩ | ⟨rfl, rfl⟩ | ⟨rfl, rfl⟩ <;> intro hk h1 hp <;> first | exact absurd rfl h1 | rfl | (cases hk)
  cnt := fun k x h => by
    have := look_of h
    simp only [nds9, ndF, ndG, List.mem_cons, Prod.mk.injEq, List.not_mem_nil, or_false] at this
    rcases this with ⟨rfl, rfl⟩ | ⟨rfl, rfl⟩ | ⟨rfl, rfl⟩ | ⟨rfl, rfl⟩ <;> intro h1 <;> first | exact absurd rfl h1 | rfl
  gone := fun k x h => by
    have := look_of h
    simp only [nds9, ndF, ndG, List.mem_cons, Prod.mk.injEq, List.not_mem_nil, or_false] at this
    rcases this with ⟨rfl, rfl⟩ | ⟨rfl, rfl⟩ | ⟨rfl, rfl⟩ | ⟨rfl, rfl⟩ <;> intro hk h1 h0 <;> first | exact absurd rfl h1 | (cases h0) | (cases hk)
set_option maxRecDepth 100000 in
theorem tokF (h : Nat) (d : List UInt8) : TOk (ndF h d) where
  root := ⟨_, rfl, rfl, rfl⟩
  kind := fun k x h => by
    have := look_of h
    simp only [nds9, ndF, ndG, List.mem_cons, Prod.mk.injEq, List.not_mem_nil, or_false] at this
    rcases this with ⟨rfl, rfl⟩ | ⟨rfl, rfl⟩ | ⟨rfl, rfl⟩ | ⟨rfl, rfl⟩ | ⟨rfl, rfl⟩ <;> first | exact .inl rfl | exact .inr (.inl rfl) | exact .inr (.inr rfl)
  dir := fun k x h => by
    have := look_of h
    simp only [nds9, ndF, ndG, List.mem_cons, Prod.mk.injEq, List.not_mem_nil, or_false] at this
    rcases this with ⟨rfl, rfl⟩ | ⟨rfl, rfl⟩ | ⟨rfl, rfl⟩ | ⟨rfl, rfl⟩ | ⟨rfl, rfl⟩ <;> intro hk <;> first | exact ⟨_, rfl⟩ | (cases hk)
  leaf := fun k x h => by
    have := look_of h
    simp only [nds9, ndF, ndG, List.mem_cons, Prod.mk.injEq, List.not_mem_nil, or_false] at this
    rcases this with ⟨rfl, rfl⟩ | ⟨rfl, rfl⟩ | ⟨rfl, rfl⟩ | ⟨rfl, rfl⟩ | ⟨rfl, rfl⟩ <;> intro hk <;> first | rfl | (exact absurd rfl hk)
  ent := fun k x h e he => by
    have := look_of h
    simp only [nds9, ndF, ndG, List.mem_cons, Prod.mk.injEq, List.not_mem_nil, or_false] at this
    rcases this with ⟨rfl, rfl⟩ | ⟨rfl, rfl⟩ | ⟨rfl, rfl⟩ | ⟨rfl, rfl⟩ | ⟨rfl, rfl⟩
    · simp only [nmsOf, rootN, r9, nlC, nlD, nlE, Option.getD_some, List.mem_cons, List.not_mem_nil, or_false] at he
      rcases he with rfl | rfl | rfl | rfl <;> exact ⟨by decide, _, rfl⟩
    all_goals (exact absurd he (by simp [nmsOf, dirD, leafN, fl9]))
  par := fun k x h => by
    have := look_of h
    simp only [nds9, ndF, ndG, List.mem_cons, Prod.mk.injEq, List.not_mem_nil, or_false] at this
    rcases this with ⟨rfl, rfl⟩ | ⟨rfl, rfl⟩ | ⟨rfl, rfl⟩ | ⟨rfl, rfl⟩ | ⟨rfl, rfl⟩ <;> intro hk hp
    · exact ⟨_, rfl, rfl, fun h => absurd rfl h⟩
    · exact ⟨_, rfl, rfl, fun _ => ⟨2, rfl, by simp [nmsOf, rootN, r9, nlC, nlD, nlE, dirD]⟩⟩
    all_goals (cases hk)
  dead := fun k x h => by
    have := look_of h
    simp only [nds9, ndF, ndG, List.mem_cons, Prod.mk.injEq, List.not_mem_nil, or_false] at this
    rcases this with ⟨rfl, rfl⟩ | ⟨rfl, rfl⟩ | ⟨rfl, rfl⟩ | ⟨rfl, rfl⟩ | ⟨rfl, rfl⟩ <;> intro hk h1 hp <;> first | exact absurd rfl h1 | rfl | (cases hk)
  cnt := fun k x h => by
    have := look_of h
    simp only [nds9, ndF, ndG, List.mem_cons, Prod.mk.injEq, List.not_mem_nil, or_false] at this
    rcases this with ⟨rfl, rfl⟩ | ⟨rfl, rfl⟩ | ⟨rfl, rfl⟩ | ⟨rfl, rfl⟩ | ⟨rfl, rfl⟩ <;> intro h1 <;> first | exact absurd rfl h1 | rfl
  gone := fun k x h => by
    have := look_of h
    simp only [nds9, ndF, ndG, List.mem_cons, Prod.mk.injEq, List.not_mem_nil, or_false] at this
    rcases this with ⟨rfl, rfl⟩ | ⟨rfl, rfl⟩ | ⟨rfl, rfl⟩ | ⟨rfl, rfl⟩ | ⟨rfl, rfl⟩ <;> intro hk h1 h0 <;> first | exact absurd rfl h1 | (cases h0) | (cases hk)
set_option maxRecDepth 100000 in
theorem tokG (h : Nat) (d : List UInt8) (g : Nat) : TOk (ndG h d g) where
  root := ⟨_, rfl, rfl, rfl⟩
  kind := fun k x h => by
    have := look_of h
    simp only [nds9, ndF, ndG, List.mem_cons, Prod.mk.injEq, List.not_mem_nil, or_false] at this
    rcases this with ⟨rfl, rfl⟩ | ⟨rfl, rfl⟩ | ⟨rfl, rfl⟩ | ⟨rfl, rfl⟩ | ⟨rfl, rfl⟩ | ⟨rfl, rfl⟩ <;> first | exact .inl rfl | exact .inr (.inl rfl) | exact .inr (.inr rfl)
  dir := fun k x h => by
    have := look_of h
    simp only [nds9, ndF, ndG, List.mem_cons, Prod.mk.injEq, List.not_mem_nil, or_false] at this
    rcases this with ⟨rfl, rfl⟩ | ⟨rfl, rfl⟩ | ⟨rfl, rfl⟩ | ⟨rfl, rfl⟩ | ⟨rfl, rfl⟩ | ⟨rfl, rfl⟩ <;> intro hk <;> first | exact ⟨_, rfl⟩ | (cases hk)
  leaf := fun k x h => by
    have := look_of h
    simp only [nds9, ndF, ndG, List.mem_cons, Prod.mk.injEq, List.not_mem_nil, or_false] at this
    rcases this with ⟨rfl, rfl⟩ | ⟨rfl, rfl⟩ | ⟨rfl, rfl⟩ | ⟨rfl, rfl⟩ | ⟨rfl, rfl⟩ | ⟨rfl, rfl⟩ <;> intro hk <;> first | rfl | (exact absurd rfl hk)
  ent := fun k x h e he => by
    have := look_of h
    simp only [nds9, ndF, ndG, List.mem_cons, Prod.mk.injEq, List.not_mem_nil, or_false] at this
    rcases this with ⟨rfl, rfl⟩ | ⟨rfl, rfl⟩ | ⟨rfl, rfl⟩ | ⟨rfl, rfl⟩ | ⟨rfl, rfl⟩ | ⟨rfl, rfl⟩
    · simp only [nmsOf, rootN, r9, nlC, nlD, nlE, Option.getD_some, List.mem_cons, List.not_mem_nil, or_false] at he
      rcases he with rfl | rfl | rfl | rfl | rfl <;> exact ⟨by decide, _, rfl⟩
    all_goals (exact absurd he (by simp [nmsOf, dirD, leafN, fl9]))
  par := fun k x h => by
    have := look_of h
    simp only [nds9, ndF, ndG, List.mem_cons, Prod.mk.injEq, List.not_mem_nil, or_false] at this
    rcases this with ⟨rfl, rfl⟩ | ⟨rfl, rfl⟩ | ⟨rfl, rfl⟩ | ⟨rfl, rfl⟩ | ⟨rfl, rfl⟩ | ⟨rfl, rfl⟩ <;> intro hk hp
    · exact ⟨_, rfl, rfl, fun h => absurd rfl h⟩
    · exact ⟨_, rfl, rfl, fun _ => ⟨2, rfl, by simp [nmsOf, rootN, r9, nlC, nlD, nlE, dirD]⟩⟩
    all_goals (cases hk)
  dead := fun k x h => by
    have := look_of h
    simp only [nds9, ndF, ndG, List.mem_cons, Prod.mk.injEq, List.not_mem_nil, or_false] at this
    rcases this with ⟨rfl, rfl⟩ | ⟨rfl, rfl⟩ | ⟨rfl, rfl⟩ | ⟨rfl, rfl⟩ | ⟨rfl, rfl⟩ | ⟨rfl, rfl⟩ <;> intro hk h1 hp <;> first | exact absurd rfl h1 | rfl | (cases hk)
  cnt := fun k x h => by
    have := look_of h
    simp only [nds9, ndF, ndG, List.mem_cons, Prod.mk.injEq, List.not_mem_nil, or_false] at this
    rcases this with ⟨rfl, rfl⟩ | ⟨rfl, rfl⟩ | ⟨rfl, rfl⟩ | ⟨rfl, rfl⟩ | ⟨rfl, rfl⟩ | ⟨rfl, rfl⟩ <;> intro h1 <;> first | exact absurd rfl h1 | rfl
  gone := fun k x h => by
    have := look_of h
    simp only [nds9, ndF, ndG, List.mem_cons, Prod.mk.injEq, List.not_mem_nil, or_false] at this
    rcases this with ⟨rfl, rfl⟩ | ⟨rfl, rfl⟩ | ⟨rfl, rfl⟩ | ⟨rfl, rfl⟩ | ⟨rfl, rfl⟩ | ⟨rfl, rfl⟩ <;> intro hk h1 h0 <;> first | exact absurd rfl h1 | (cases h0) | (cases hk)
theorem wk1 : WalkQ nds9 1 [102] true = (0, 10) := by decide +kernel
theorem wk2 (d : List UInt8) : WalkQ (ndF 1 d) 1 [103] true = (0, 10) := by rfl
theorem wk3 (d : List UInt8) : WalkQ (ndG 1 d 0) 1 [102] true = (5, 0) := by rfl
theorem wk4 (d : List UInt8) : WalkQ (ndG 1 d 0) 1 [103] true = (6, 0) := by rfl
theorem mdF : made nds9 (r9 nlC) nlC (nm1 102) 5 2 [] = ndF 0 [] := by rfl
theorem mdG (d : List UInt8) : made (ndF 1 d) (r9 nlD) nlD (nm1 103) 6 2 [] = ndG 1 d 0 := by rfl
section
variable {B pb lb most nest : Nat} {F : Nat → Prop} {w : World} {c : Sy} {s : St} {ps : List Pt} {ns : List (Nat × Pt)} {mk : List Nat}
theorem pr_mark (h : PrR w B F c pb lb most nest s ps ns mk) (hn : mk.length < nest) :
    Calls Tryz.prog 80 #[ptrV lb] w fun e w' => e = .returned (.tuple #[.int .i64 ((mk.length + 1 : Nat) : Int), .int .i64 0]) ∧ PrR w' B F c pb lb most nest s ps ns (mk ++ [ns.length]) ∧ PCh B F F pb w w' := by
  obtain ⟨ms, fs, h1, h2, h3, h4, h5⟩ := h.log
  have hl : ms.length = mk.length := by rw [← h3, List.length_map]
  refine (LogMark_add h1 (by omega) h.hB).mono ?_
  rintro e w' ⟨rfl, ⟨b, hb⟩, hF⟩
  have hpc := PCh.of_fr hF F h.hB pb
  rw [hl]
  refine ⟨rfl, h.logStep hF ⟨ms ++ [⟨b, fs.length, ns.length⟩], fs, hb, h2, by rw [List.map_append, h3]; simp [h2], fun m hm => ?_, fun j n hj => ?_⟩⟩
  · rcases List.mem_append.1 hm with hm | hm
    · exact h4 m hm
    · rw [List.mem_singleton.1 hm]; exact h2.symm
  · obtain ⟨fv, q1, q2⟩ := h5 j n hj
    exact ⟨fv, q1, q2.ch hpc⟩
end
set_option maxHeartbeats 8000000 in
set_option maxRecDepth 100000 in
theorem awake9_any (w : World) : Calls Tryz.prog 16 #[] w fun e w' => e = .returned (.bool true) ∧ w.grownBy w' none := by
  have hbg : Calls Tryz.prog 17 #[.int .i64 50] w _ := begun9_any 50 (by decide) w
  go_enter Tryz.func16, Tryz.ntmps16
  go_wp2_with fail
  refine hbg.mono ?_
  rintro e w0 ⟨fb, plb, tb, lb, pb, bb, ppb, rfl, F0, hP0, cc0⟩
  clear hbg
  unfold ptrV
  go_upto_region 2 with fail
  obtain ⟨z, hz⟩ : ∃ z, w0.heap.size = z := ⟨_, rfl⟩
  obtain ⟨B, hB⟩ : ∃ B, w.heap.size = B := ⟨_, rfl⟩
  have gA : w0.grownBy (w0.alloc (.cells #[.pointer (some ⟨fb, 0, none⟩), .pointer (some ⟨plb, 0, none⟩), .pointer (some ⟨tb, 0, none⟩), .pointer (some ⟨lb, 0, none⟩), .pointer (some ⟨pb, 0, none⟩)] 48)) none := World.grownBy_alloc w0 _ _
  have zb : Blk (w0.alloc (.cells #[.pointer (some ⟨fb, 0, none⟩), .pointer (some ⟨plb, 0, none⟩), .pointer (some ⟨tb, 0, none⟩), .pointer (some ⟨lb, 0, none⟩), .pointer (some ⟨pb, 0, none⟩)] 48)) w0.heap.size [ptrV fb, ptrV plb, ptrV tb, ptrV lb, ptrV pb] 48 := Blk.new w0 _ _
  have hzF : ¬ F0 z := fun h => absurd (hP0.sys.lt h) (by omega)
  have hzp : z ≠ pb := by have := hP0.prc.lt; omega
  generalize (w0.alloc (.cells #[.pointer (some ⟨fb, 0, none⟩), .pointer (some ⟨plb, 0, none⟩), .pointer (some ⟨tb, 0, none⟩), .pointer (some ⟨lb, 0, none⟩), .pointer (some ⟨pb, 0, none⟩)] 48)) = w1 at gA zb ⊢
  simp only [hz] at zb ⊢
  rw [hB] at hP0
  have kz : Kq w1 F0 pb z [ptrV fb, ptrV plb, ptrV tb, ptrV lb, ptrV pb] 48 := ⟨zb, hzF, hzp, by unfold LogT; decide⟩
  obtain ⟨hP1, cP1⟩ := hP0.grown gA
  have cc : Below B w w1 := Below.trans ⟨cc0.os, cc0.tape, cc0.output, cc0.size, fun b hb => cc0.block b (by omega) nofun⟩ cP1.below
  have hP : PrR w1 B F0 (c9 fb plb tb) pb lb 50 4 (s9a bb ppb nds9 hs9 4 []) ps0 [] [] := hP1
  clear hP0 cc0 gA zb hzF hz hzp hP1 cP1
  replace kz := Lib.hid kz
  replace cc := Lib.hid cc
  replace hP := Lib.hid hP
  replace hB := Lib.hid hB
  have hop : Calls Tryz.prog 67 #[.pointer (some ⟨pb, 0, none⟩), .int .i64 1, .string (nm1 102), .int .i64 2] w1 fun e w' => e = .returned (.int .i64 0) ∧ ∃ F', PrR w' B F' (c9 fb plb tb) pb lb 50 4 (s9a bb ppb (ndF 1 []) (hs9 ++ [hF9 0]) 5 []) (ps1 5 0) [] [] ∧ PCh B F0 F' pb w1 w' :=
    open_one hP.out tok9 (x := r9 nlC) (l := nlC) rfl rfl rfl rfl 102 (by decide) (by decide) (by decide) (by decide) wk1 5 (by decide) (by decide) rfl (fun j h1 h2 => by rcases (by omega : j = 1 ∨ j = 2 ∨ j = 3 ∨ j = 4) with rfl | rfl | rfl | rfl <;> exact ⟨_, rfl⟩) (show (4 : Nat) < 12 by decide) (show usedN nds9 ≤ 100 by decide) (dn := 0) rfl (p := ⟨0, 0⟩) rfl rfl rfl rfl (show (4 : Nat) < 100000 by decide) (nds1 := ndF 0 []) mdF rfl (by decide) rfl
  have z0 := kz.out.1.cell (i := 0) rfl
  have z2 := kz.out.1.cell (i := 2) rfl
  have z4 := kz.out.1.cell (i := 4) rfl
  have zl := kz.out.1.lt
  unfold ptrV at z0 z2 z4
  replace hop := Lib.hid hop
  go_wp2_with fail
  refine hop.out.mono ?_
  rintro e w2 ⟨rfl, F1, hP', cP⟩
  replace kz := Lib.hid (kz.out.ch cP)
  replace cc := Lib.hid (cc.out.trans cP.below)
  replace hP := Lib.hid hP'
  clear hop cP hP' z0 z2 z4 zl
  have hop : Calls Tryz.prog 21 #[.pointer (some ⟨pb, 0, none⟩)] w2 fun e w' => ∃ n er, e = .returned (.tuple #[.int .i64 n, .int .i64 er]) ∧ PrR w' B F1 (c9 fb plb tb) pb lb 50 4 (s9a bb ppb (ndF 1 []) (hs9 ++ [hF9 0]) 5 []) (ps1 5 0) [] [0] ∧ PCh B F1 F1 pb w2 w' :=
    PMark_any hP.out.prc (fun n er w' => PrR w' B F1 (c9 fb plb tb) pb lb 50 4 (s9a bb ppb (ndF 1 []) (hs9 ++ [hF9 0]) 5 []) (ps1 5 0) [] [0] ∧ PCh B F1 F1 pb w2 w') ((pr_mark hP.out (by decide)).mono fun e w' ⟨e1, e2⟩ => ⟨_, _, e1, e2⟩)
  have z0 := kz.out.1.cell (i := 0) rfl
  have z2 := kz.out.1.cell (i := 2) rfl
  have z4 := kz.out.1.cell (i := 4) rfl
  have zl := kz.out.1.lt
  unfold ptrV at z0 z2 z4
  replace hop := Lib.hid hop
  go_wp2_with fail
  refine hop.out.mono ?_
  rintro e w3 ⟨nM, eM, rfl, hP', cP⟩
  replace kz := Lib.hid (kz.out.ch cP)
  replace cc := Lib.hid (cc.out.trans cP.below)
  replace hP := Lib.hid hP'
  clear hop cP hP' z0 z2 z4 zl
  have hop : Calls Tryz.prog 68 #[.pointer (some ⟨pb, 0, none⟩), .int .i64 1, .string ⟨#[97, 98]⟩] w3 fun e w' => ∃ er, e = .returned (.int .i64 er) ∧ ∃ F', PrR w' B F' (c9 fb plb tb) pb lb 50 4 (s9a bb ppb (ndF 1 [97, 98]) (hs9 ++ [hF9 2]) 5 []) (ps1 5 0) [] [0] ∧ PCh B F1 F' pb w3 w' :=
    PWrite_any hP.out.prc 1 5 ⟨#[97, 98]⟩ (pfind_in hP.out.prc (i := 1) (by decide) (p := ⟨5, 0⟩) rfl) (fun er w' => ∃ F', PrR w' B F' (c9 fb plb tb) pb lb 50 4 (s9a bb ppb (ndF 1 [97, 98]) (hs9 ++ [hF9 2]) 5 []) (ps1 5 0) [] [0] ∧ PCh B F1 F' pb w3 w')
      ((pr_sys1 hP.out (sys_write_file hP.out.sys (k := 5) (x := ⟨1, .file 5 0 false true false⟩) rfl rfl (y := fl9 1 []) rfl rfl ⟨#[97, 98]⟩ (by decide) (.inr (show usedN (ndF 1 []) + 2 ≤ 100 by decide)))).mono fun e w' ⟨e1, e2⟩ => ⟨_, e1, e2⟩)
  have z0 := kz.out.1.cell (i := 0) rfl
  have z2 := kz.out.1.cell (i := 2) rfl
  have z4 := kz.out.1.cell (i := 4) rfl
  have zl := kz.out.1.lt
  unfold ptrV at z0 z2 z4
  replace hop := Lib.hid hop
  go_wp2_with fail
  refine hop.out.mono ?_
  rintro e w4 ⟨eW, rfl, F2, hP', cP⟩
  replace kz := Lib.hid (kz.out.ch cP)
  replace cc := Lib.hid (cc.out.trans cP.below)
  replace hP := Lib.hid hP'
  clear hop cP hP' z0 z2 z4 zl
  have hop : Calls Tryz.prog 24 #[.pointer (some ⟨pb, 0, none⟩), .int .i64 1] w4 fun e w' => ∃ er, e = .returned (.int .i64 er) ∧ PrR w' B F2 (c9 fb plb tb) pb lb 50 4 (s9a bb ppb (ndF 1 [97, 98]) (hs9 ++ [hF9 2]) 5 []) (ps1 0 1) [(1, ⟨5, 0⟩)] [0] ∧ PCh B F2 F2 pb w4 w' :=
    PClose_any hP.out.prc (i := 1) (by decide) (fun er w' => PrR w' B F2 (c9 fb plb tb) pb lb 50 4 (s9a bb ppb (ndF 1 [97, 98]) (hs9 ++ [hF9 2]) 5 []) (ps1 0 1) [(1, ⟨5, 0⟩)] [0] ∧ PCh B F2 F2 pb w4 w')
      ((change_note_fd hP.out (i := 1) (by decide) (p := ⟨5, 0⟩) rfl (by decide) (by simp) (by decide) 0).mono fun e w' ⟨e1, e2⟩ => ⟨_, e1, e2⟩)
  have z0 := kz.out.1.cell (i := 0) rfl
  have z2 := kz.out.1.cell (i := 2) rfl
  have z4 := kz.out.1.cell (i := 4) rfl
  have zl := kz.out.1.lt
  unfold ptrV at z0 z2 z4
  replace hop := Lib.hid hop
  go_wp2_with fail
  refine hop.out.mono ?_
  rintro e w5 ⟨eC, rfl, hP', cP⟩
  replace kz := Lib.hid (kz.out.ch cP)
  replace cc := Lib.hid (cc.out.trans cP.below)
  replace hP := Lib.hid hP'
  clear hop cP hP' z0 z2 z4 zl
  have hop : Calls Tryz.prog 67 #[.pointer (some ⟨pb, 0, none⟩), .int .i64 1, .string (nm1 103), .int .i64 2] w5 fun e w' => e = .returned (.int .i64 0) ∧ ∃ F', PrR w' B F' (c9 fb plb tb) pb lb 50 4 (s9a bb ppb (ndG 1 [97, 98] 1) (hs9 ++ [hF9 2] ++ [hG9]) 6 []) (ps1 6 1) [(1, ⟨5, 0⟩)] [0] ∧ PCh B F2 F' pb w5 w' :=
    open_one hP.out (tokF 1 [97, 98]) (x := r9 nlD) (l := nlD) rfl rfl rfl rfl 103 (by decide) (by decide) (by decide) (by decide) (wk2 _) 6 (by decide) (by decide) rfl (fun j h1 h2 => by rcases (by omega : j = 1 ∨ j = 2 ∨ j = 3 ∨ j = 4 ∨ j = 5) with rfl | rfl | rfl | rfl | rfl <;> exact ⟨_, rfl⟩) (show (5 : Nat) < 12 by decide) (show usedN (ndF 1 [97, 98]) ≤ 100 by decide) (dn := 0) rfl (p := ⟨0, 1⟩) rfl rfl rfl rfl (show (5 : Nat) < 100000 by decide) (nds1 := ndG 1 [97, 98] 0) (mdG _) rfl (by decide) rfl
  have z0 := kz.out.1.cell (i := 0) rfl
  have z2 := kz.out.1.cell (i := 2) rfl
  have z4 := kz.out.1.cell (i := 4) rfl
  have zl := kz.out.1.lt
  unfold ptrV at z0 z2 z4
  replace hop := Lib.hid hop
  go_wp2_with fail
  refine hop.out.mono ?_
  rintro e w6 ⟨rfl, F3, hP', cP⟩
  replace kz := Lib.hid (kz.out.ch cP)
  replace cc := Lib.hid (cc.out.trans cP.below)
  replace hP := Lib.hid hP'
  clear hop cP hP' z0 z2 z4 zl
  have hop : Calls Tryz.prog 23 #[.pointer (some ⟨pb, 0, none⟩)] w6 fun e w' => ∃ er, e = .returned (.int .i64 er) ∧ er = 0 ∧ ∃ F' top xs, PrR w' B F' (c9 fb plb tb) pb lb 50 4 (s9a bb ppb (ndG 1 [97, 98] 0) (hs9 ++ [hF9 2]) top xs) (ps1 5 0) [] [] ∧ PCh B F3 F' pb w6 w' := by
    refine PUndo_any hP.out.prc (fun er w' => er = 0 ∧ ∃ F' top xs, PrR w' B F' (c9 fb plb tb) pb lb 50 4 (s9a bb ppb (ndG 1 [97, 98] 0) (hs9 ++ [hF9 2]) top xs) (ps1 5 0) [] [] ∧ PCh B F3 F' pb w6 w') ?_
    refine (undo_gen (mk := []) (m := 0) hP.out (Nat.zero_le _) (fun j s ps => (j = 1 ∧ s = (s9a bb ppb (ndG 1 [97, 98] 1) (hs9 ++ [hF9 2] ++ [hG9]) 6 []) ∧ ps = ps1 6 1) ∨ (j = 0 ∧ ∃ top xs, s = (s9a bb ppb (ndG 1 [97, 98] 0) (hs9 ++ [hF9 2]) top xs) ∧ ps = ps1 5 0)) (.inl ⟨rfl, rfl, rfl⟩) ?_).mono ?_
    · intro j W F' s' ps' i q p hn hj hPS hQ hp
      have hj0 : j = 0 := by
        have := (List.getElem?_eq_some_iff.1 hn).1
        simp at this
        exact this
      subst hj0
      simp only [List.getElem?_cons_zero, Option.some.injEq, Prod.mk.injEq] at hn
      obtain ⟨rfl, rfl⟩ := hn
      rcases hQ with ⟨_, rfl, rfl⟩ | ⟨hx, _⟩
      · obtain rfl : (⟨6, 1⟩ : Pt) = p := Option.some.inj hp
        refine ⟨fun _ => ⟨fun h => absurd h (by decide), fun _ => ?_⟩, fun h => absurd h (by decide), fun h => absurd h (by decide)⟩
        refine (sys_last_fileG hPS.sys (k := 6) (x := ⟨1, .file 6 0 false true false⟩) rfl rfl rfl (y := fl9 1 []) rfl (by decide) (by decide)).mono ?_
        rintro e W' ⟨rfl, F2, top, xs, _, t1, t2⟩
        exact ⟨⟨_, rfl⟩, F2, _, t1, t2, .inr ⟨rfl, top, xs, rfl, rfl⟩⟩
      · exact absurd hx (by decide)
    · rintro e w' ⟨rfl, F', s', ps', q1, q2, q3⟩
      rcases q3 with ⟨hx, _⟩ | ⟨_, top, xs, rfl, rfl⟩
      · exact absurd hx (by decide)
      · exact ⟨_, rfl, rfl, F', top, xs, q1, q2⟩
  have z0 := kz.out.1.cell (i := 0) rfl
  have z2 := kz.out.1.cell (i := 2) rfl
  have z4 := kz.out.1.cell (i := 4) rfl
  have zl := kz.out.1.lt
  unfold ptrV at z0 z2 z4
  replace hop := Lib.hid hop
  go_wp2_with fail
  refine hop.out.mono ?_
  rintro e w7 ⟨eU, rfl, rfl, F4, top, xs, hP', cP⟩
  replace kz := Lib.hid (kz.out.ch cP)
  replace cc := Lib.hid (cc.out.trans cP.below)
  replace hP := Lib.hid hP'
  clear hop cP hP' z0 z2 z4 zl
  have hop : Calls Tryz.prog 68 #[.pointer (some ⟨pb, 0, none⟩), .int .i64 1, .string ⟨#[99]⟩] w7 fun e w' => ∃ er, e = .returned (.int .i64 er) ∧ ∃ F', PrR w' B F' (c9 fb plb tb) pb lb 50 4 (s9a bb ppb (ndG 1 [97, 98, 99] 0) (hs9 ++ [hF9 3]) top xs) (ps1 5 0) [] [] ∧ PCh B F4 F' pb w7 w' :=
    PWrite_any hP.out.prc 1 5 ⟨#[99]⟩ (pfind_in hP.out.prc (i := 1) (by decide) (p := ⟨5, 0⟩) rfl) (fun er w' => ∃ F', PrR w' B F' (c9 fb plb tb) pb lb 50 4 (s9a bb ppb (ndG 1 [97, 98, 99] 0) (hs9 ++ [hF9 3]) top xs) (ps1 5 0) [] [] ∧ PCh B F4 F' pb w7 w')
      ((pr_sys1 hP.out (sys_write_file hP.out.sys (k := 5) (x := ⟨1, .file 5 2 false true false⟩) rfl rfl (y := fl9 1 [97, 98]) rfl rfl ⟨#[99]⟩ (by decide) (.inr (show usedN (ndG 1 [97, 98] 0) + 1 ≤ 100 by decide)))).mono fun e w' ⟨e1, e2⟩ => ⟨_, e1, e2⟩)
  have z0 := kz.out.1.cell (i := 0) rfl
  have z2 := kz.out.1.cell (i := 2) rfl
  have z4 := kz.out.1.cell (i := 4) rfl
  have zl := kz.out.1.lt
  unfold ptrV at z0 z2 z4
  replace hop := Lib.hid hop
  go_wp2_with fail
  refine hop.out.mono ?_
  rintro e w8 ⟨eX, rfl, F5, hP', cP⟩
  replace kz := Lib.hid (kz.out.ch cP)
  replace cc := Lib.hid (cc.out.trans cP.below)
  replace hP := Lib.hid hP'
  clear hop cP hP' z0 z2 z4 zl
  have hop : Calls Tryz.prog 69 #[.pointer (some ⟨fb, 0, none⟩), .int .i64 1, .string (nm1 102), .bool true] w8 fun e w' => e = .returned (.tuple #[.int .i64 5, .int .i64 0]) ∧ w8.grownBy w' none := by
    have := pr_walk hP.out (tokG 1 [97, 98, 99] 0) 1 (nm1 102) (show (1 : Nat) ≤ 1000000 by decide) true
    rw [show tl (nm1 102) = [102] from rfl, show WalkQ (s9a bb ppb (ndG 1 [97, 98, 99] 0) (hs9 ++ [hF9 3]) top xs).nds 1 [102] true = (5, 0) from wk3 _] at this
    exact this
  have z0 := kz.out.1.cell (i := 0) rfl
  have z2 := kz.out.1.cell (i := 2) rfl
  have z4 := kz.out.1.cell (i := 4) rfl
  have zl := kz.out.1.lt
  unfold ptrV at z0 z2 z4
  replace hop := Lib.hid hop
  go_wp2_with fail
  refine hop.out.mono ?_
  rintro e w9 ⟨rfl, gP⟩
  obtain ⟨hP', cP⟩ := hP.out.grown gP
  replace kz := Lib.hid (kz.out.ch cP)
  replace cc := Lib.hid (cc.out.trans cP.below)
  replace hP := Lib.hid hP'
  clear hop cP hP' z0 z2 z4 zl gP
  have hop : Calls Tryz.prog 70 #[.pointer (some ⟨fb, 0, none⟩), .int .i64 5, .int .i64 0, .int .i64 9] w9 fun e w' => e = .returned (.tuple #[.string ⟨#[97, 98, 99]⟩, .int .i64 0]) ∧ w9.grownBy w' none := by
    obtain ⟨Ft, Fp, Fh, hR, _⟩ := hP.out.sys
    obtain ⟨lab, mb, mem, hT, _⟩ := hR.tree
    refine (read_some hT (k := 5) (x := fl9 1 [97, 98, 99]) rfl (by decide) 0 9 (by decide) (by decide)).mono ?_
    rintro e w' ⟨rfl, m, rfl⟩
    exact ⟨rfl, grownBy_drewN (grownBy_re _) m⟩
  have z0 := kz.out.1.cell (i := 0) rfl
  have z2 := kz.out.1.cell (i := 2) rfl
  have z4 := kz.out.1.cell (i := 4) rfl
  have zl := kz.out.1.lt
  unfold ptrV at z0 z2 z4
  replace hop := Lib.hid hop
  go_wp2_with fail
  refine hop.out.mono ?_
  rintro e w10 ⟨rfl, gP⟩
  obtain ⟨hP', cP⟩ := hP.out.grown gP
  replace kz := Lib.hid (kz.out.ch cP)
  replace cc := Lib.hid (cc.out.trans cP.below)
  replace hP := Lib.hid hP'
  clear hop cP hP' z0 z2 z4 zl gP
  have hop : Calls Tryz.prog 69 #[.pointer (some ⟨fb, 0, none⟩), .int .i64 1, .string (nm1 103), .bool true] w10 fun e w' => e = .returned (.tuple #[.int .i64 6, .int .i64 0]) ∧ w10.grownBy w' none := by
    have := pr_walk hP.out (tokG 1 [97, 98, 99] 0) 1 (nm1 103) (show (1 : Nat) ≤ 1000000 by decide) true
    rw [show tl (nm1 103) = [103] from rfl, show WalkQ (s9a bb ppb (ndG 1 [97, 98, 99] 0) (hs9 ++ [hF9 3]) top xs).nds 1 [103] true = (6, 0) from wk4 _] at this
    exact this
  have z0 := kz.out.1.cell (i := 0) rfl
  have z2 := kz.out.1.cell (i := 2) rfl
  have z4 := kz.out.1.cell (i := 4) rfl
  have zl := kz.out.1.lt
  unfold ptrV at z0 z2 z4
  replace hop := Lib.hid hop
  go_wp2_with fail
  refine hop.out.mono ?_
  rintro e w11 ⟨rfl, gP⟩
  obtain ⟨hP', cP⟩ := hP.out.grown gP
  replace kz := Lib.hid (kz.out.ch cP)
  replace cc := Lib.hid (cc.out.trans cP.below)
  replace hP := Lib.hid hP'
  clear hop cP hP' z0 z2 z4 zl gP
  have hop : Calls Tryz.prog 70 #[.pointer (some ⟨fb, 0, none⟩), .int .i64 6, .int .i64 0, .int .i64 9] w11 fun e w' => e = .returned (.tuple #[.string ⟨#[]⟩, .int .i64 0]) ∧ w11.grownBy w' none := by
    obtain ⟨Ft, Fp, Fh, hR, _⟩ := hP.out.sys
    obtain ⟨lab, mb, mem, hT, _⟩ := hR.tree
    refine (read_some hT (k := 6) (x := fl9 0 []) rfl (by decide) 0 9 (by decide) (by decide)).mono ?_
    rintro e w' ⟨rfl, m, rfl⟩
    exact ⟨rfl, grownBy_drewN (grownBy_re _) m⟩
  have z0 := kz.out.1.cell (i := 0) rfl
  have z2 := kz.out.1.cell (i := 2) rfl
  have z4 := kz.out.1.cell (i := 4) rfl
  have zl := kz.out.1.lt
  unfold ptrV at z0 z2 z4
  replace hop := Lib.hid hop
  go_wp2_with fail
  refine hop.out.mono ?_
  rintro e w12 ⟨rfl, gP⟩
  obtain ⟨hP', cP⟩ := hP.out.grown gP
  replace kz := Lib.hid (kz.out.ch cP)
  replace cc := Lib.hid (cc.out.trans cP.below)
  replace hP := Lib.hid hP'
  clear hop cP hP' z0 z2 z4 zl gP
  have hop : Calls Tryz.prog 31 #[.pointer (some ⟨pb, 0, none⟩), .int .i64 1] w12 fun e w' => e = .returned (.tuple #[.int .i64 5, .bool true]) ∧ w' = w12 := PHandle_any (ptrV pb) 1 5 0 (pfind_in hP.out.prc (i := 1) (by decide) (p := ⟨5, 0⟩) rfl)
  have hst : Calls Tryz.prog 26 #[.pointer (some ⟨tb, 0, none⟩), .int .i64 5] w12 fun e w' => e = .returned (.tuple #[info7 1 1 3 5 false true false, .int .i64 0]) ∧ w12.grownBy w' none := sys_stat_file hP.out.sys (k := 5) (x := ⟨1, .file 5 3 false true false⟩) rfl rfl
  have z0 := kz.out.1.cell (i := 0) rfl
  have z2 := kz.out.1.cell (i := 2) rfl
  have z4 := kz.out.1.cell (i := 4) rfl
  have zl := kz.out.1.lt
  unfold ptrV at z0 z2 z4
  unfold info7 at hst
  replace hop := Lib.hid hop
  replace hst := Lib.hid hst
  go_wp2_with fail
  refine hop.out.mono ?_
  rintro e w' ⟨rfl, hw⟩
  obtain rfl := hw.symm
  clear hop hw
  go_wp2_with fail
  refine hst.out.mono ?_
  rintro e wS ⟨rfl, gS⟩
  obtain ⟨hP', cP⟩ := hP.out.grown gS
  replace kz := Lib.hid (kz.out.ch cP)
  replace cc := Lib.hid (cc.out.trans cP.below)
  replace hP := Lib.hid hP'
  clear hst cP hP' z0 z2 z4 zl gS
  go_upto_region 17 with fail
  have gB : wS.grownBy (wS.alloc (.cells #[.int .i64 1, .int .i64 1, .int .i64 3, .int .i64 5, .bool false, .bool true, .bool false] 64)) none := World.grownBy_alloc wS _ _
  have xb : Blk (wS.alloc (.cells #[.int .i64 1, .int .i64 1, .int .i64 3, .int .i64 5, .bool false, .bool true, .bool false] 64)) wS.heap.size [.int .i64 1, .int .i64 1, .int .i64 3, .int .i64 5, .bool false, .bool true, .bool false] 64 := Blk.new wS _ _
  generalize (wS.alloc (.cells #[.int .i64 1, .int .i64 1, .int .i64 3, .int .i64 5, .bool false, .bool true, .bool false] 64)) = wT at gB xb ⊢
  generalize wS.heap.size = xz at xb ⊢
  have x1 := xb.cell (i := 1) rfl
  have xl := xb.lt
  obtain ⟨hP', cP⟩ := hP.out.grown gB
  replace kz := Lib.hid (kz.out.ch cP)
  replace cc := Lib.hid (cc.out.trans cP.below)
  have hfd := Fds_one hP'.prc
  clear cP gB xb
  have z0 := kz.out.1.cell (i := 0) rfl
  have z2 := kz.out.1.cell (i := 2) rfl
  have z4 := kz.out.1.cell (i := 4) rfl
  have zl := kz.out.1.lt
  unfold ptrV at z0 z2 z4
  unfold ptrV at hfd
  have hBB := hB.out
  have hcc := cc.out
  rw [← hBB] at hcc
  have hfin : w.grownBy wT none := ⟨hcc.os, hcc.tape, hcc.output, hcc.size, fun b hb _ => hcc.block b hb⟩
  replace hfin := Lib.hid hfin
  replace hfd := Lib.hid hfd
  clear hP hP' kz cc hcc hB hBB
  have t1 : (⟨#[]⟩ : ByteArray).toList.isEmpty = true := by decide +kernel
  have t2 : ((⟨#[97, 98, 99]⟩ : ByteArray).toList == [97, 98, 99]) = true := by decide +kernel
  go_wp2_with fail
  refine hfd.out.mono ?_
  rintro e wV ⟨⟨A, cV, rfl⟩, gV⟩
  replace gV := Lib.hid gV
  clear hfd z0 z2 z4 zl x1 xl
  go_wp2
  go_ret
  exact ⟨rfl, grownBy_tr hfin.out gV.out⟩
end Go.Proofs.YtglcfbefpnphaaaGreatDoor
