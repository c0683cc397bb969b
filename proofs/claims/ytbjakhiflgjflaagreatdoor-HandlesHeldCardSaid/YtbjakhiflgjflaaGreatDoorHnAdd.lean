/-
  A table's add, File and Pipe, whichever numbers are back. Conditions: fewer than a hundred thousand handles.
-/
import Derived.Test.YtbjakhiflgjflaaGreatDoorHnTake
import Derived.Test.YtbjakhiflgjflaaGreatDoorHnText
import Derived.Deep.RegionHeld3
namespace Go.Proofs.YtbjakhiflgjflaaGreatDoor
open Go Go.RowKit Go.ChangeMaps
section
variable {w : World} {lab : Nat → HL} {F : Nat → Prop} {fb plb tb mb top : Nat} {hs : Hs} {pp : Pps} {mem : Int → HM} {v : Value} {xs : List Int}
set_option maxHeartbeats 1000000 in
set_option maxRecDepth 100000 in
theorem tab_addG (h : TabF w F fb plb tb hs pp top xs) (G : Nat → Prop) [DecidablePred G] (hG : ∀ g, G g → g < w.heap.size ∧ ¬ F g) (ht : top < 100000) (kd : Kd) (ob : Nat)
    (hob : ∀ k w' lab', (∀ g, G g → w'.heap[g]? = w.heap[g]? ∧ lab' g = .obj k) → ∀ kb, ObjAt w' lab' fb pp.length k ⟨kb, ob, .slice none 0 0⟩ kd) :
    Calls Tryz.prog 94 #[ptrV tb, doesV pp kd ob] w fun e w' => ∃ k, e = .returned (.int .i64 k) ∧ Least (ids hs) k ∧ ∃ F' top' xs', top' ≤ top + 1 ∧ TabF w' F' fb plb tb (hs ++ [(k, ⟨1, kd⟩)]) pp top' xs' ∧ Chg (fun g => F g ∨ G g) F' w w' := by
  obtain ⟨lab, mb, mem, v, h, hF⟩ := h
  have htk := nums_take h.num ht
  have hlt := h.num.at_.blk.lt
  have hadd := fun w2 kb k top' v' xs' => h.add (S := fun g => (g = tb ∨ v.ownBlock = some g) ∨ g = mb) (S' := fun g => (g = tb ∨ v.ownBlock = some g) ∨ g = mb) (w2 := w2) (k := k) (kd := kd) (ob := ob) (kb := kb) (top' := top') (v' := v') (xs' := xs') hF G hG
  have hnoA : ∀ k, Least (ids hs) k → look hs k = none := fun k hk => look_none.2 fun p hp e => hk.2.1 (by rw [← e]; exact List.mem_map.2 ⟨p, hp, rfl⟩)
  have hlkA : ∀ k, look hs k = none → look (entH mem hs) k = none := fun k hk => by rw [entH_look, hk]; rfl
  have hmt : mb ≠ tb := fun e => by have := h.lmap; rw [e, h.ltb] at this; cases this
  have hmv : v.ownBlock ≠ some mb := fun e => by have := h.lbk mb e; rw [h.lmap] at this; cases this
  have hkm := h.map
  have hsp : ∀ g, g < w.heap.size → (fun g => (g = tb ∨ v.ownBlock = some g) ∨ g = mb) g → lab g = .tab ∨ lab g = .tmap ∨ lab g = .back := fun g _ hg => by
    rcases hg with (hg | hg) | hg
    · exact .inl (by rw [hg]; exact h.ltb)
    · exact .inr (.inr (h.lbk g hg))
    · exact .inr (.inl (by rw [hg]; exact h.lmap))
  have hbk := h.lbk
  have hlm := h.lmap
  obtain ⟨T, u, hdv⟩ := doesV_form pp kd ob
  unfold ptrV
  rw [hdv]
  replace hdv := Lib.hid hdv
  replace hadd := Lib.hid hadd
  replace hob := Lib.hid hob
  replace hsp := Lib.hid hsp
  replace hbk := Lib.hid hbk
  replace hnoA := Lib.hid hnoA
  replace hlkA := Lib.hid hlkA
  replace hmv := Lib.hid hmv
  clear h
  go_enter Tryz.func94, Tryz.ntmps94
  go_wp2_with fail
  refine htk.mono ?_
  rintro e w1 ⟨k, rfl, hle, top', v', xs', htp, hn, hC, hov⟩
  have hno := Lib.hid (hnoA.out k hle)
  have hlk := hlkA.out k hno.out
  replace hle := Lib.hid hle
  replace hov := Lib.hid hov
  replace htp := Lib.hid htp
  clear htk
  have hkm1 := hkm.keep (hC.block mb hkm.lt fun hb => hb.elim hmt hmv.out)
  have c2 := hn.at_.blk.cell (i := 2) rfl
  have hlt1 := hn.at_.blk.lt
  have hmb1 := hkm1.lt
  have hz1 := hC.size
  replace hn := Lib.hid hn
  replace hC := Lib.hid hC
  have hkm2 : KMap (w1.alloc (.cells #[.iface T u, .int .i64 1] 129)) mb (.int .i64) encI (entH mem hs) := hkm1.keep (Below.heap_alloc w1 _ mb hmb1)
  have hb2 : Blk (w1.alloc (.cells #[.iface T u, .int .i64 1] 129)) w1.heap.size [.iface T u, .int .i64 ((1 : Nat) : Int)] 129 := Blk.new w1 _ _
  have hc2 : Chg (fun g => (g = tb ∨ v.ownBlock = some g) ∨ g = mb) (fun g => (g = tb ∨ v.ownBlock = some g) ∨ g = mb) w1 (w1.alloc (.cells #[.iface T u, .int .i64 1] 129)) := Chg.alloc_other _ w1 _
  replace hb2 := Lib.hid hb2
  replace hc2 := Lib.hid hc2
  go_wp2_with (at_mapUpdate; go_loud (refine wpList_put_k rfl _ _ _ 115 rfl 3 116 keyI Tryz.underlying115 Tryz.underlying3 rfl hkm2 k rfl hlk (.pointer (some ⟨w1.heap.size, 0, none⟩)) rfl ?_); intro ob2 hkm3; refine Hid.out ?_)
  refine Lib.hid ?_
  have hc3 := (hC.out.mono (G := fun g => (g = tb ∨ v.ownBlock = some g) ∨ g = mb) (G' := fun g => (g = tb ∨ v.ownBlock = some g) ∨ g = mb) (fun b hb => .inl hb) (fun b _ hb => .inr hb)).trans (hc2.out.trans (Chg.setB (F := fun g => (g = tb ∨ v.ownBlock = some g) ∨ g = mb) (.inr rfl) ob2))
  have hb3 := hb2.out.setB (g := mb) (by omega) ob2
  have hn3 : NumR (setBlock (w1.alloc (.cells #[.iface T u, .int .i64 1] 129)) mb ob2) tb _ _ _ _ _ _ _ := hn.out.keep ((setB_other (Ne.symm hmt) ob2).trans (Below.heap_alloc w1 _ tb hlt1)) fun g hg => by
    have hgl := hn.out.at_.row.lt hg
    have hgm : g ≠ mb := fun e => by
      have := hbk.out g (by rw [← hov.out]; exact hg)
      rw [e, hlm] at this
      cases this
    exact (setB_other hgm ob2).trans (Below.heap_alloc w1 _ g hgl)
  have hres := hadd.out _ w1.heap.size k top' v' xs' hno.out hc3 hsp.out hn3 (fun g hg => hbk.out g (by rw [← hov.out]; exact hg)) hkm3 (by rw [hdv.out]; exact hb3) hz1 (hob.out k)
  generalize setBlock (w1.alloc (.cells #[.iface T u, .int .i64 1] 129)) mb ob2 = w3 at hres ⊢
  replace hres := Lib.hid hres
  clear hc3 hb3 hn3 hkm2 hb2 hc2 c2 hkm1 hkm3
  go_wp2
  go_ret
  obtain ⟨F', hr1, hr2⟩ := hres.out
  exact ⟨k, rfl, hle.out, F', top', xs', htp.out, hr1, hr2⟩
end
section
variable {w : World} {F Ft Fp Fh : Nat → Prop} {c : Sy} {s : St}
set_option maxHeartbeats 1000000 in
set_option maxRecDepth 100000 in
theorem sys_File_rG (h : Sys w F c s) (htop : s.top < 100000) {n : Int} {y : Pn} (hy : look s.nds n = some y) (hyk : y.kind = 2) (hyh : y.holds ≤ 1000000) (hyl : nmsLen y ≤ 1000000) (m : Bool) :
    Calls Tryz.prog 38 #[ptrV c.tb, .int .i64 n, .agg #[.bool true, .bool false, .bool m]] w fun e w' => ∃ kk, e = .returned (.tuple #[.int .i64 kk, .int .i64 0]) ∧ Least (ids s.hs) kk ∧ ∃ F' top' xs', top' ≤ s.top + 1 ∧ Sys w' F' c { s with nds := upd s.nds n { y with holds := y.holds + 1 }, hs := s.hs ++ [(kk, ⟨1, .file n 0 true false m⟩)], top := top', xs := xs' } ∧ Chg F F' w w' := by
  obtain ⟨Ft, Fp, Fh, h, hF⟩ := h
  have g1 : w.grownBy (w.alloc (.cells #[.bool true, .bool false, .bool m] 38)) none := World.grownBy_alloc w _ _
  have b1 : Blk (w.alloc (.cells #[.bool true, .bool false, .bool m] 38)) w.heap.size [.bool true, .bool false, .bool m] 38 := Blk.new w _ _
  have hzF : ¬ foot Ft Fp Fh w.heap.size := fun hf => absurd (h.lt hf) (Nat.lt_irrefl _)
  unfold ptrV
  go_enter Tryz.func38, Tryz.ntmps38
  go_upto_region 1 with fail
  obtain ⟨z, hz⟩ : ∃ z, w.heap.size = z := ⟨_, rfl⟩
  generalize w.alloc (.cells #[.bool true, .bool false, .bool m] 38) = w1 at g1 b1 ⊢
  simp only [hz] at b1 hzF ⊢
  replace hz := Lib.hid hz
  have h1 := h.grown g1
  have c1 := Chg.of_grown g1 (foot Ft Fp Fh)
  obtain ⟨lab, mb, mem, v, ht1, hFh1⟩ := h1.tab
  obtain ⟨labt, mbt, memt, hT1, hFt1⟩ := h1.tree
  have hi := isNil_no ht1
  have hst := stat_some hT1 hy hyl
  have t0 := ht1.num.at_.blk.cell (i := 0) rfl
  have tl1 := ht1.num.at_.blk.lt
  unfold ptrV at hi t0
  unfold infoOf at hst
  rw [hyk] at hst
  replace hst := Lib.hid hst
  replace h1 := Lib.hid h1
  replace c1 := Lib.hid c1
  clear h g1 hT1 hFt1
  go_wp2_with fail
  refine hi.mono ?_
  rintro e w' ⟨rfl, hw⟩
  obtain rfl := hw.symm
  clear hi hw
  go_wp2_with fail
  refine hst.out.mono ?_
  rintro e w2 ⟨rfl, g2⟩
  have h2 := h1.out.grown g2
  have c2 := c1.out.trans (Chg.of_grown g2 (foot Ft Fp Fh))
  have b2 : Blk w2 z [.bool true, .bool false, .bool m] 38 := (g2.block z b1.lt (by simp)).trans b1
  have tl2 := g2.size
  generalize (y.data.length + nmsLen y : Nat) = sz
  generalize y.named = nd
  replace h2 := Lib.hid h2
  replace c2 := Lib.hid c2
  replace b2 := Lib.hid b2
  clear hst h1 c1 g2 t0 b1
  go_upto_region 4 with fail
  have g3 : w2.grownBy (w2.alloc (.cells #[.int .i64 2, .int .i64 (sz : Int), .int .i64 (nd : Int), .int .i64 (y.holds : Int)] 50)) none := World.grownBy_alloc w2 _ _
  have i3 : Blk (w2.alloc (.cells #[.int .i64 2, .int .i64 (sz : Int), .int .i64 (nd : Int), .int .i64 (y.holds : Int)] 50)) w2.heap.size [.int .i64 2, .int .i64 (sz : Int), .int .i64 (nd : Int), .int .i64 (y.holds : Int)] 50 := Blk.new w2 _ _
  generalize w2.alloc (.cells #[.int .i64 2, .int .i64 (sz : Int), .int .i64 (nd : Int), .int .i64 (y.holds : Int)] 50) = w3 at g3 i3 ⊢
  generalize w2.heap.size = zi at i3 ⊢
  have h3 := h2.out.grown g3
  have c3 := c2.out.trans (Chg.of_grown g3 (foot Ft Fp Fh))
  have b3 : Blk w3 z [.bool true, .bool false, .bool m] 38 := (g3.block z b2.out.lt (by simp)).trans b2.out
  obtain ⟨lab3, mb3, mem3, v3, ht3, hFh3⟩ := h3.tab
  have t0 := ht3.num.at_.blk.cell (i := 0) rfl
  have tl3 := ht3.num.at_.blk.lt
  have i30 := i3.cell (i := 0) rfl
  have m0 := Blk.cell (w := w3) (b := z) (i := 0) b3 rfl
  have m1 := Blk.cell (w := w3) (b := z) (i := 1) b3 rfl
  have m2 := Blk.cell (w := w3) (b := z) (i := 2) b3 rfl
  have hho := hold_some h3.tree hy hyh
  unfold ptrV at t0
  replace h3 := Lib.hid h3
  replace c3 := Lib.hid c3
  replace b3 := Lib.hid b3
  replace hho := Lib.hid hho
  clear h2 c2 b2 g3 i3 ht3 ht1
  go_upto_region 10 with fail
  go_wp2_with fail
  refine hho.out.mono ?_
  rintro e w4 ⟨rfl, Ft4, hT4, hC4⟩
  obtain ⟨h4, c4⟩ := h3.out.treeStep hT4 hC4
  have b4 : Blk w4 z _ _ := b3.out.chg c4 hzF
  have m0 := b4.cell (i := 0) rfl
  have m1 := b4.cell (i := 1) rfl
  have m2 := b4.cell (i := 2) rfl
  have hz4 := b4.lt
  obtain ⟨lab4, mb4, mem4, v4, ht4, hFh4⟩ := h4.tab
  have t0 := ht4.num.at_.blk.cell (i := 0) rfl
  have tl4 := ht4.num.at_.blk.lt
  unfold ptrV at t0
  have g6 : w4.grownBy ((w4.alloc (.cells #[.pointer (some ⟨c.fb, 0, none⟩), .int .i64 n, .int .i64 0, .bool true, .bool false, .bool m] 165)).drew) none := grownBy_drewN (World.grownBy_alloc w4 _ _) 1
  have h6 := h4.grown g6
  have b6 : Blk ((w4.alloc (.cells #[.pointer (some ⟨c.fb, 0, none⟩), .int .i64 n, .int .i64 0, .bool true, .bool false, .bool m] 165)).drew) w4.heap.size (fileC c.fb n 0 true false m) 165 := Blk.new w4 _ _
  have c6 : Chg (foot Ft4 Fp Fh) (fun g => foot Ft4 Fp Fh g ∨ g = w4.heap.size) w4 ((w4.alloc (.cells #[.pointer (some ⟨c.fb, 0, none⟩), .int .i64 n, .int .i64 0, .bool true, .bool false, .bool m] 165)).drew) := (Chg.alloc _ w4 _).trans (Chg.drewN _ _ 1)
  have ht6 : TabF ((w4.alloc (.cells #[.pointer (some ⟨c.fb, 0, none⟩), .int .i64 n, .int .i64 0, .bool true, .bool false, .bool m] 165)).drew) Fh c.fb c.plb c.tb s.hs s.pp s.top s.xs := h6.tab
  have hG : ∀ g, g = w4.heap.size → g < ((w4.alloc (.cells #[.pointer (some ⟨c.fb, 0, none⟩), .int .i64 n, .int .i64 0, .bool true, .bool false, .bool m] 165)).drew).heap.size ∧ ¬ Fh g := fun g hg => ⟨by rw [hg]; exact b6.lt, fun hf => absurd (h4.tab.lt hf) (by omega)⟩
  have hG2 : ∀ g, g = w4.heap.size → ¬ Ft4 g ∧ ¬ Fp g := fun g hg => ⟨fun hf => absurd (h4.tree.lt hf) (by omega), fun hf => absurd (h4.pool.lt hf) (by omega)⟩
  have hadd := tab_addG ht6 (fun g => g = w4.heap.size) hG htop (.file n 0 true false m) w4.heap.size (fun kk w' lab' hg kb => ⟨(hg _ rfl).1.trans b6, (hg _ rfl).2⟩)
  have hend := fun kk top' xs' w7 F7 (hT7 : TabF w7 F7 c.fb c.plb c.tb (s.hs ++ [(kk, ⟨1, .file n 0 true false m⟩)]) s.pp top' xs') hC7 => Sys.of hF (h6.tabStep hG2 hT7 hC7).1 (((c3.out.trans c4).trans c6).trans (h6.tabStep hG2 hT7 hC7).2)
  have hkeep := fun kk top' xs' w7 F7 (hT7 : TabF w7 F7 c.fb c.plb c.tb (s.hs ++ [(kk, ⟨1, .file n 0 true false m⟩)]) s.pp top' xs') (hC7 : Chg (fun g => Fh g ∨ g = w4.heap.size) F7 ((w4.alloc (.cells #[.pointer (some ⟨c.fb, 0, none⟩), .int .i64 n, .int .i64 0, .bool true, .bool false, .bool m] 165)).drew) w7) => show w7.cell? ⟨c.tb, 0, none⟩ = some (.pointer (some ⟨c.fb, 0, none⟩)) ∧ w7.cell? ⟨z, 0, none⟩ = some (.bool true) ∧ w7.cell? ⟨z, 1, none⟩ = some (.bool false) ∧ w7.cell? ⟨z, 2, none⟩ = some (.bool m) by
    obtain ⟨_, _, _, _, htt, _⟩ := hT7
    have bz : Blk w7 z [.bool true, .bool false, .bool m] 38 := by
      refine (hC7.block z (Nat.lt_of_lt_of_le hz4 g6.size) fun hf => ?_).trans ((g6.block z hz4 (by simp)).trans b4)
      rcases hf with hf | hf
      · exact hzF (.inr (.inr hf))
      · omega
    exact ⟨htt.num.at_.blk.cell (i := 0) rfl, bz.cell (i := 0) rfl, bz.cell (i := 1) rfl, bz.cell (i := 2) rfl⟩
  replace hend := Lib.hid hend
  replace hkeep := Lib.hid hkeep
  replace hadd := Lib.hid hadd
  clear hho h3 c3 hT4 hC4 h4 c4 b3 b4 i30 tl2 tl1 tl3 h6 b6 c6 ht6 hG hG2 g6
  go_upto_region 11 with fail
  clear ht4
  go_region_held3 (fun w' => w'.cell? ⟨c.tb, 0, none⟩ = some (.pointer (some ⟨c.fb, 0, none⟩)) ∧ w'.cell? ⟨z, 0, none⟩ = some (.bool true) ∧ w'.cell? ⟨z, 1, none⟩ = some (.bool false) ∧ w'.cell? ⟨z, 2, none⟩ = some (.bool m))
    (first | go_keep | exact hk)
    ((go_at_call 94; refine hadd.out.mono ?_; rintro e w7 ⟨kk, rfl, hle, F7, top', xs', htp, hT7, hC7⟩; have hk := hkeep.out kk top' xs' w7 F7 hT7 hC7; replace hle := Lib.hid hle; replace htp := Lib.hid htp))
  have hres := hend.out kk top' xs' w7 F7 hT7 hC7
  replace hres := Lib.hid hres
  go_wp2
  go_ret2
  obtain ⟨F', hr1, hr2⟩ := hres.out
  exact ⟨kk, rfl, hle.out, F', top', xs', htp.out, hr1, hr2⟩
set_option maxHeartbeats 1000000 in
set_option maxRecDepth 100000 in
theorem sys_File_wG (h : Sys w F c s) (htop : s.top < 100000) {n : Int} {y : Pn} (hy : look s.nds n = some y) (hyk : y.kind = 2) (hyh : y.holds ≤ 1000000) (hyl : nmsLen y ≤ 1000000) (m : Bool) :
    Calls Tryz.prog 38 #[ptrV c.tb, .int .i64 n, .agg #[.bool false, .bool true, .bool m]] w fun e w' => ∃ kk, e = .returned (.tuple #[.int .i64 kk, .int .i64 0]) ∧ Least (ids s.hs) kk ∧ ∃ F' top' xs', top' ≤ s.top + 1 ∧ Sys w' F' c { s with nds := upd s.nds n { y with holds := y.holds + 1 }, hs := s.hs ++ [(kk, ⟨1, .file n 0 false true m⟩)], top := top', xs := xs' } ∧ Chg F F' w w' := by
  obtain ⟨Ft, Fp, Fh, h, hF⟩ := h
  have g1 : w.grownBy (w.alloc (.cells #[.bool false, .bool true, .bool m] 38)) none := World.grownBy_alloc w _ _
  have b1 : Blk (w.alloc (.cells #[.bool false, .bool true, .bool m] 38)) w.heap.size [.bool false, .bool true, .bool m] 38 := Blk.new w _ _
  have hzF : ¬ foot Ft Fp Fh w.heap.size := fun hf => absurd (h.lt hf) (Nat.lt_irrefl _)
  unfold ptrV
  go_enter Tryz.func38, Tryz.ntmps38
  go_upto_region 1 with fail
  obtain ⟨z, hz⟩ : ∃ z, w.heap.size = z := ⟨_, rfl⟩
  generalize w.alloc (.cells #[.bool false, .bool true, .bool m] 38) = w1 at g1 b1 ⊢
  simp only [hz] at b1 hzF ⊢
  replace hz := Lib.hid hz
  have h1 := h.grown g1
  have c1 := Chg.of_grown g1 (foot Ft Fp Fh)
  obtain ⟨lab, mb, mem, v, ht1, hFh1⟩ := h1.tab
  obtain ⟨labt, mbt, memt, hT1, hFt1⟩ := h1.tree
  have hi := isNil_no ht1
  have hst := stat_some hT1 hy hyl
  have t0 := ht1.num.at_.blk.cell (i := 0) rfl
  have tl1 := ht1.num.at_.blk.lt
  unfold ptrV at hi t0
  unfold infoOf at hst
  rw [hyk] at hst
  replace hst := Lib.hid hst
  replace h1 := Lib.hid h1
  replace c1 := Lib.hid c1
  clear h g1 hT1 hFt1
  go_wp2_with fail
  refine hi.mono ?_
  rintro e w' ⟨rfl, hw⟩
  obtain rfl := hw.symm
  clear hi hw
  go_wp2_with fail
  refine hst.out.mono ?_
  rintro e w2 ⟨rfl, g2⟩
  have h2 := h1.out.grown g2
  have c2 := c1.out.trans (Chg.of_grown g2 (foot Ft Fp Fh))
  have b2 : Blk w2 z [.bool false, .bool true, .bool m] 38 := (g2.block z b1.lt (by simp)).trans b1
  have tl2 := g2.size
  generalize (y.data.length + nmsLen y : Nat) = sz
  generalize y.named = nd
  replace h2 := Lib.hid h2
  replace c2 := Lib.hid c2
  replace b2 := Lib.hid b2
  clear hst h1 c1 g2 t0 b1
  go_upto_region 4 with fail
  have g3 : w2.grownBy (w2.alloc (.cells #[.int .i64 2, .int .i64 (sz : Int), .int .i64 (nd : Int), .int .i64 (y.holds : Int)] 50)) none := World.grownBy_alloc w2 _ _
  have i3 : Blk (w2.alloc (.cells #[.int .i64 2, .int .i64 (sz : Int), .int .i64 (nd : Int), .int .i64 (y.holds : Int)] 50)) w2.heap.size [.int .i64 2, .int .i64 (sz : Int), .int .i64 (nd : Int), .int .i64 (y.holds : Int)] 50 := Blk.new w2 _ _
  generalize w2.alloc (.cells #[.int .i64 2, .int .i64 (sz : Int), .int .i64 (nd : Int), .int .i64 (y.holds : Int)] 50) = w3 at g3 i3 ⊢
  generalize w2.heap.size = zi at i3 ⊢
  have h3 := h2.out.grown g3
  have c3 := c2.out.trans (Chg.of_grown g3 (foot Ft Fp Fh))
  have b3 : Blk w3 z [.bool false, .bool true, .bool m] 38 := (g3.block z b2.out.lt (by simp)).trans b2.out
  obtain ⟨lab3, mb3, mem3, v3, ht3, hFh3⟩ := h3.tab
  have t0 := ht3.num.at_.blk.cell (i := 0) rfl
  have tl3 := ht3.num.at_.blk.lt
  have i30 := i3.cell (i := 0) rfl
  have m0 := Blk.cell (w := w3) (b := z) (i := 0) b3 rfl
  have m1 := Blk.cell (w := w3) (b := z) (i := 1) b3 rfl
  have m2 := Blk.cell (w := w3) (b := z) (i := 2) b3 rfl
  have hho := hold_some h3.tree hy hyh
  unfold ptrV at t0
  replace h3 := Lib.hid h3
  replace c3 := Lib.hid c3
  replace b3 := Lib.hid b3
  replace hho := Lib.hid hho
  clear h2 c2 b2 g3 i3 ht3 ht1
  go_upto_region 10 with fail
  go_wp2_with fail
  refine hho.out.mono ?_
  rintro e w4 ⟨rfl, Ft4, hT4, hC4⟩
  obtain ⟨h4, c4⟩ := h3.out.treeStep hT4 hC4
  have b4 : Blk w4 z _ _ := b3.out.chg c4 hzF
  have m0 := b4.cell (i := 0) rfl
  have m1 := b4.cell (i := 1) rfl
  have m2 := b4.cell (i := 2) rfl
  have hz4 := b4.lt
  obtain ⟨lab4, mb4, mem4, v4, ht4, hFh4⟩ := h4.tab
  have t0 := ht4.num.at_.blk.cell (i := 0) rfl
  have tl4 := ht4.num.at_.blk.lt
  unfold ptrV at t0
  have g6 : w4.grownBy ((w4.alloc (.cells #[.pointer (some ⟨c.fb, 0, none⟩), .int .i64 n, .int .i64 0, .bool false, .bool true, .bool m] 165)).drew) none := grownBy_drewN (World.grownBy_alloc w4 _ _) 1
  have h6 := h4.grown g6
  have b6 : Blk ((w4.alloc (.cells #[.pointer (some ⟨c.fb, 0, none⟩), .int .i64 n, .int .i64 0, .bool false, .bool true, .bool m] 165)).drew) w4.heap.size (fileC c.fb n 0 false true m) 165 := Blk.new w4 _ _
  have c6 : Chg (foot Ft4 Fp Fh) (fun g => foot Ft4 Fp Fh g ∨ g = w4.heap.size) w4 ((w4.alloc (.cells #[.pointer (some ⟨c.fb, 0, none⟩), .int .i64 n, .int .i64 0, .bool false, .bool true, .bool m] 165)).drew) := (Chg.alloc _ w4 _).trans (Chg.drewN _ _ 1)
  have ht6 : TabF ((w4.alloc (.cells #[.pointer (some ⟨c.fb, 0, none⟩), .int .i64 n, .int .i64 0, .bool false, .bool true, .bool m] 165)).drew) Fh c.fb c.plb c.tb s.hs s.pp s.top s.xs := h6.tab
  have hG : ∀ g, g = w4.heap.size → g < ((w4.alloc (.cells #[.pointer (some ⟨c.fb, 0, none⟩), .int .i64 n, .int .i64 0, .bool false, .bool true, .bool m] 165)).drew).heap.size ∧ ¬ Fh g := fun g hg => ⟨by rw [hg]; exact b6.lt, fun hf => absurd (h4.tab.lt hf) (by omega)⟩
  have hG2 : ∀ g, g = w4.heap.size → ¬ Ft4 g ∧ ¬ Fp g := fun g hg => ⟨fun hf => absurd (h4.tree.lt hf) (by omega), fun hf => absurd (h4.pool.lt hf) (by omega)⟩
  have hadd := tab_addG ht6 (fun g => g = w4.heap.size) hG htop (.file n 0 false true m) w4.heap.size (fun kk w' lab' hg kb => ⟨(hg _ rfl).1.trans b6, (hg _ rfl).2⟩)
  have hend := fun kk top' xs' w7 F7 (hT7 : TabF w7 F7 c.fb c.plb c.tb (s.hs ++ [(kk, ⟨1, .file n 0 false true m⟩)]) s.pp top' xs') hC7 => Sys.of hF (h6.tabStep hG2 hT7 hC7).1 (((c3.out.trans c4).trans c6).trans (h6.tabStep hG2 hT7 hC7).2)
  have hkeep := fun kk top' xs' w7 F7 (hT7 : TabF w7 F7 c.fb c.plb c.tb (s.hs ++ [(kk, ⟨1, .file n 0 false true m⟩)]) s.pp top' xs') (hC7 : Chg (fun g => Fh g ∨ g = w4.heap.size) F7 ((w4.alloc (.cells #[.pointer (some ⟨c.fb, 0, none⟩), .int .i64 n, .int .i64 0, .bool false, .bool true, .bool m] 165)).drew) w7) => show w7.cell? ⟨c.tb, 0, none⟩ = some (.pointer (some ⟨c.fb, 0, none⟩)) ∧ w7.cell? ⟨z, 0, none⟩ = some (.bool false) ∧ w7.cell? ⟨z, 1, none⟩ = some (.bool true) ∧ w7.cell? ⟨z, 2, none⟩ = some (.bool m) by
    obtain ⟨_, _, _, _, htt, _⟩ := hT7
    have bz : Blk w7 z [.bool false, .bool true, .bool m] 38 := by
      refine (hC7.block z (Nat.lt_of_lt_of_le hz4 g6.size) fun hf => ?_).trans ((g6.block z hz4 (by simp)).trans b4)
      rcases hf with hf | hf
      · exact hzF (.inr (.inr hf))
      · omega
    exact ⟨htt.num.at_.blk.cell (i := 0) rfl, bz.cell (i := 0) rfl, bz.cell (i := 1) rfl, bz.cell (i := 2) rfl⟩
  replace hend := Lib.hid hend
  replace hkeep := Lib.hid hkeep
  replace hadd := Lib.hid hadd
  clear hho h3 c3 hT4 hC4 h4 c4 b3 b4 i30 tl2 tl1 tl3 h6 b6 c6 ht6 hG hG2 g6
  go_upto_region 11 with fail
  clear ht4
  go_region_held3 (fun w' => w'.cell? ⟨c.tb, 0, none⟩ = some (.pointer (some ⟨c.fb, 0, none⟩)) ∧ w'.cell? ⟨z, 0, none⟩ = some (.bool false) ∧ w'.cell? ⟨z, 1, none⟩ = some (.bool true) ∧ w'.cell? ⟨z, 2, none⟩ = some (.bool m))
    (first | go_keep | exact hk)
    ((go_at_call 94; refine hadd.out.mono ?_; rintro e w7 ⟨kk, rfl, hle, F7, top', xs', htp, hT7, hC7⟩; have hk := hkeep.out kk top' xs' w7 F7 hT7 hC7; replace hle := Lib.hid hle; replace htp := Lib.hid htp))
  have hres := hend.out kk top' xs' w7 F7 hT7 hC7
  replace hres := Lib.hid hres
  go_wp2
  go_ret2
  obtain ⟨F', hr1, hr2⟩ := hres.out
  exact ⟨kk, rfl, hle.out, F', top', xs', htp.out, hr1, hr2⟩
set_option maxHeartbeats 1000000 in
set_option maxRecDepth 100000 in
theorem sys_File_rwG (h : Sys w F c s) (htop : s.top < 100000) {n : Int} {y : Pn} (hy : look s.nds n = some y) (hyk : y.kind = 2) (hyh : y.holds ≤ 1000000) (hyl : nmsLen y ≤ 1000000) (m : Bool) :
    Calls Tryz.prog 38 #[ptrV c.tb, .int .i64 n, .agg #[.bool true, .bool true, .bool m]] w fun e w' => ∃ kk, e = .returned (.tuple #[.int .i64 kk, .int .i64 0]) ∧ Least (ids s.hs) kk ∧ ∃ F' top' xs', top' ≤ s.top + 1 ∧ Sys w' F' c { s with nds := upd s.nds n { y with holds := y.holds + 1 }, hs := s.hs ++ [(kk, ⟨1, .file n 0 true true m⟩)], top := top', xs := xs' } ∧ Chg F F' w w' := by
  obtain ⟨Ft, Fp, Fh, h, hF⟩ := h
  have g1 : w.grownBy (w.alloc (.cells #[.bool true, .bool true, .bool m] 38)) none := World.grownBy_alloc w _ _
  have b1 : Blk (w.alloc (.cells #[.bool true, .bool true, .bool m] 38)) w.heap.size [.bool true, .bool true, .bool m] 38 := Blk.new w _ _
  have hzF : ¬ foot Ft Fp Fh w.heap.size := fun hf => absurd (h.lt hf) (Nat.lt_irrefl _)
  unfold ptrV
  go_enter Tryz.func38, Tryz.ntmps38
  go_upto_region 1 with fail
  obtain ⟨z, hz⟩ : ∃ z, w.heap.size = z := ⟨_, rfl⟩
  generalize w.alloc (.cells #[.bool true, .bool true, .bool m] 38) = w1 at g1 b1 ⊢
  simp only [hz] at b1 hzF ⊢
  replace hz := Lib.hid hz
  have h1 := h.grown g1
  have c1 := Chg.of_grown g1 (foot Ft Fp Fh)
  obtain ⟨lab, mb, mem, v, ht1, hFh1⟩ := h1.tab
  obtain ⟨labt, mbt, memt, hT1, hFt1⟩ := h1.tree
  have hi := isNil_no ht1
  have hst := stat_some hT1 hy hyl
  have t0 := ht1.num.at_.blk.cell (i := 0) rfl
  have tl1 := ht1.num.at_.blk.lt
  unfold ptrV at hi t0
  unfold infoOf at hst
  rw [hyk] at hst
  replace hst := Lib.hid hst
  replace h1 := Lib.hid h1
  replace c1 := Lib.hid c1
  clear h g1 hT1 hFt1
  go_wp2_with fail
  refine hi.mono ?_
  rintro e w' ⟨rfl, hw⟩
  obtain rfl := hw.symm
  clear hi hw
  go_wp2_with fail
  refine hst.out.mono ?_
  rintro e w2 ⟨rfl, g2⟩
  have h2 := h1.out.grown g2
  have c2 := c1.out.trans (Chg.of_grown g2 (foot Ft Fp Fh))
  have b2 : Blk w2 z [.bool true, .bool true, .bool m] 38 := (g2.block z b1.lt (by simp)).trans b1
  have tl2 := g2.size
  generalize (y.data.length + nmsLen y : Nat) = sz
  generalize y.named = nd
  replace h2 := Lib.hid h2
  replace c2 := Lib.hid c2
  replace b2 := Lib.hid b2
  clear hst h1 c1 g2 t0 b1
  go_upto_region 4 with fail
  have g3 : w2.grownBy (w2.alloc (.cells #[.int .i64 2, .int .i64 (sz : Int), .int .i64 (nd : Int), .int .i64 (y.holds : Int)] 50)) none := World.grownBy_alloc w2 _ _
  have i3 : Blk (w2.alloc (.cells #[.int .i64 2, .int .i64 (sz : Int), .int .i64 (nd : Int), .int .i64 (y.holds : Int)] 50)) w2.heap.size [.int .i64 2, .int .i64 (sz : Int), .int .i64 (nd : Int), .int .i64 (y.holds : Int)] 50 := Blk.new w2 _ _
  generalize w2.alloc (.cells #[.int .i64 2, .int .i64 (sz : Int), .int .i64 (nd : Int), .int .i64 (y.holds : Int)] 50) = w3 at g3 i3 ⊢
  generalize w2.heap.size = zi at i3 ⊢
  have h3 := h2.out.grown g3
  have c3 := c2.out.trans (Chg.of_grown g3 (foot Ft Fp Fh))
  have b3 : Blk w3 z [.bool true, .bool true, .bool m] 38 := (g3.block z b2.out.lt (by simp)).trans b2.out
  obtain ⟨lab3, mb3, mem3, v3, ht3, hFh3⟩ := h3.tab
  have t0 := ht3.num.at_.blk.cell (i := 0) rfl
  have tl3 := ht3.num.at_.blk.lt
  have i30 := i3.cell (i := 0) rfl
  have m0 := Blk.cell (w := w3) (b := z) (i := 0) b3 rfl
  have m1 := Blk.cell (w := w3) (b := z) (i := 1) b3 rfl
  have m2 := Blk.cell (w := w3) (b := z) (i := 2) b3 rfl
  have hho := hold_some h3.tree hy hyh
  unfold ptrV at t0
  replace h3 := Lib.hid h3
  replace c3 := Lib.hid c3
  replace b3 := Lib.hid b3
  replace hho := Lib.hid hho
  clear h2 c2 b2 g3 i3 ht3 ht1
  go_upto_region 10 with fail
  go_wp2_with fail
  refine hho.out.mono ?_
  rintro e w4 ⟨rfl, Ft4, hT4, hC4⟩
  obtain ⟨h4, c4⟩ := h3.out.treeStep hT4 hC4
  have b4 : Blk w4 z _ _ := b3.out.chg c4 hzF
  have m0 := b4.cell (i := 0) rfl
  have m1 := b4.cell (i := 1) rfl
  have m2 := b4.cell (i := 2) rfl
  have hz4 := b4.lt
  obtain ⟨lab4, mb4, mem4, v4, ht4, hFh4⟩ := h4.tab
  have t0 := ht4.num.at_.blk.cell (i := 0) rfl
  have tl4 := ht4.num.at_.blk.lt
  unfold ptrV at t0
  have g6 : w4.grownBy ((w4.alloc (.cells #[.pointer (some ⟨c.fb, 0, none⟩), .int .i64 n, .int .i64 0, .bool true, .bool true, .bool m] 165)).drew) none := grownBy_drewN (World.grownBy_alloc w4 _ _) 1
  have h6 := h4.grown g6
  have b6 : Blk ((w4.alloc (.cells #[.pointer (some ⟨c.fb, 0, none⟩), .int .i64 n, .int .i64 0, .bool true, .bool true, .bool m] 165)).drew) w4.heap.size (fileC c.fb n 0 true true m) 165 := Blk.new w4 _ _
  have c6 : Chg (foot Ft4 Fp Fh) (fun g => foot Ft4 Fp Fh g ∨ g = w4.heap.size) w4 ((w4.alloc (.cells #[.pointer (some ⟨c.fb, 0, none⟩), .int .i64 n, .int .i64 0, .bool true, .bool true, .bool m] 165)).drew) := (Chg.alloc _ w4 _).trans (Chg.drewN _ _ 1)
  have ht6 : TabF ((w4.alloc (.cells #[.pointer (some ⟨c.fb, 0, none⟩), .int .i64 n, .int .i64 0, .bool true, .bool true, .bool m] 165)).drew) Fh c.fb c.plb c.tb s.hs s.pp s.top s.xs := h6.tab
  have hG : ∀ g, g = w4.heap.size → g < ((w4.alloc (.cells #[.pointer (some ⟨c.fb, 0, none⟩), .int .i64 n, .int .i64 0, .bool true, .bool true, .bool m] 165)).drew).heap.size ∧ ¬ Fh g := fun g hg => ⟨by rw [hg]; exact b6.lt, fun hf => absurd (h4.tab.lt hf) (by omega)⟩
  have hG2 : ∀ g, g = w4.heap.size → ¬ Ft4 g ∧ ¬ Fp g := fun g hg => ⟨fun hf => absurd (h4.tree.lt hf) (by omega), fun hf => absurd (h4.pool.lt hf) (by omega)⟩
  have hadd := tab_addG ht6 (fun g => g = w4.heap.size) hG htop (.file n 0 true true m) w4.heap.size (fun kk w' lab' hg kb => ⟨(hg _ rfl).1.trans b6, (hg _ rfl).2⟩)
  have hend := fun kk top' xs' w7 F7 (hT7 : TabF w7 F7 c.fb c.plb c.tb (s.hs ++ [(kk, ⟨1, .file n 0 true true m⟩)]) s.pp top' xs') hC7 => Sys.of hF (h6.tabStep hG2 hT7 hC7).1 (((c3.out.trans c4).trans c6).trans (h6.tabStep hG2 hT7 hC7).2)
  have hkeep := fun kk top' xs' w7 F7 (hT7 : TabF w7 F7 c.fb c.plb c.tb (s.hs ++ [(kk, ⟨1, .file n 0 true true m⟩)]) s.pp top' xs') (hC7 : Chg (fun g => Fh g ∨ g = w4.heap.size) F7 ((w4.alloc (.cells #[.pointer (some ⟨c.fb, 0, none⟩), .int .i64 n, .int .i64 0, .bool true, .bool true, .bool m] 165)).drew) w7) => show w7.cell? ⟨c.tb, 0, none⟩ = some (.pointer (some ⟨c.fb, 0, none⟩)) ∧ w7.cell? ⟨z, 0, none⟩ = some (.bool true) ∧ w7.cell? ⟨z, 1, none⟩ = some (.bool true) ∧ w7.cell? ⟨z, 2, none⟩ = some (.bool m) by
    obtain ⟨_, _, _, _, htt, _⟩ := hT7
    have bz : Blk w7 z [.bool true, .bool true, .bool m] 38 := by
      refine (hC7.block z (Nat.lt_of_lt_of_le hz4 g6.size) fun hf => ?_).trans ((g6.block z hz4 (by simp)).trans b4)
      rcases hf with hf | hf
      · exact hzF (.inr (.inr hf))
      · omega
    exact ⟨htt.num.at_.blk.cell (i := 0) rfl, bz.cell (i := 0) rfl, bz.cell (i := 1) rfl, bz.cell (i := 2) rfl⟩
  replace hend := Lib.hid hend
  replace hkeep := Lib.hid hkeep
  replace hadd := Lib.hid hadd
  clear hho h3 c3 hT4 hC4 h4 c4 b3 b4 i30 tl2 tl1 tl3 h6 b6 c6 ht6 hG hG2 g6
  go_upto_region 11 with fail
  clear ht4
  go_region_held3 (fun w' => w'.cell? ⟨c.tb, 0, none⟩ = some (.pointer (some ⟨c.fb, 0, none⟩)) ∧ w'.cell? ⟨z, 0, none⟩ = some (.bool true) ∧ w'.cell? ⟨z, 1, none⟩ = some (.bool true) ∧ w'.cell? ⟨z, 2, none⟩ = some (.bool m))
    (first | go_keep | exact hk)
    ((go_at_call 94; refine hadd.out.mono ?_; rintro e w7 ⟨kk, rfl, hle, F7, top', xs', htp, hT7, hC7⟩; have hk := hkeep.out kk top' xs' w7 F7 hT7 hC7; replace hle := Lib.hid hle; replace htp := Lib.hid htp))
  have hres := hend.out kk top' xs' w7 F7 hT7 hC7
  replace hres := Lib.hid hres
  go_wp2
  go_ret2
  obtain ⟨F', hr1, hr2⟩ := hres.out
  exact ⟨kk, rfl, hle.out, F', top', xs', htp.out, hr1, hr2⟩
set_option maxHeartbeats 1000000 in
set_option maxRecDepth 100000 in
theorem sys_TextG (h : Sys w F c s) (htop : s.top < 100000) (t : ByteArray) (ht1 : t.size ≤ 1048576) :
    Calls Tryz.prog 51 #[ptrV c.tb, .string t] w fun e w' => ∃ kk, e = .returned (.tuple #[.int .i64 kk, .int .i64 0]) ∧ Least (ids s.hs) kk ∧ ∃ F' top' xs', top' ≤ s.top + 1 ∧ Sys w' F' c { s with hs := s.hs ++ [(kk, ⟨1, .text (tl t) 0⟩)], top := top', xs := xs' } ∧ Chg F F' w w' := by
  obtain ⟨Ft, Fp, Fh, h, hF⟩ := h
  obtain ⟨lab, mb, mem, v, htb, hFh⟩ := h.tab
  have hi := isNil_no htb
  have i1 : ¬ (1048576 : Int) < (t.size : Int) := by omega
  have g6 : w.grownBy (w.alloc (.cells #[.string t, .int .i64 0] 197)) none := World.grownBy_alloc w _ _
  have h6 := h.grown g6
  have b6 : Blk (w.alloc (.cells #[.string t, .int .i64 0] 197)) w.heap.size [.string ⟨(tl t).toArray⟩, .int .i64 ((0 : Nat) : Int)] 197 := Blk.new w _ _
  have c6 : Chg (foot Ft Fp Fh) (fun g => foot Ft Fp Fh g ∨ g = w.heap.size) w (w.alloc (.cells #[.string t, .int .i64 0] 197)) := Chg.alloc _ w _
  have ht6 : TabF (w.alloc (.cells #[.string t, .int .i64 0] 197)) Fh c.fb c.plb c.tb s.hs s.pp s.top s.xs := h6.tab
  have hG : ∀ g, g = w.heap.size → g < (w.alloc (.cells #[.string t, .int .i64 0] 197)).heap.size ∧ ¬ Fh g := fun g hg => ⟨by rw [hg]; exact b6.lt, fun hf => absurd (h.tab.lt hf) (by omega)⟩
  have hG2 : ∀ g, g = w.heap.size → ¬ Ft g ∧ ¬ Fp g := fun g hg => ⟨fun hf => absurd (h.tree.lt hf) (by omega), fun hf => absurd (h.pool.lt hf) (by omega)⟩
  have hadd := tab_addG ht6 (fun g => g = w.heap.size) hG htop (.text (tl t) 0) w.heap.size (fun kk w' lab' hg kb => ⟨(hg _ rfl).1.trans b6, (hg _ rfl).2, Nat.zero_le _, by rw [tl_len]; exact ht1⟩)
  have hend := fun kk top' xs' w7 F7 (hT7 : TabF w7 F7 c.fb c.plb c.tb (s.hs ++ [(kk, ⟨1, .text (tl t) 0⟩)]) s.pp top' xs') hC7 => Sys.of hF (h6.tabStep hG2 hT7 hC7).1 (c6.trans (h6.tabStep hG2 hT7 hC7).2)
  unfold ptrV at hi ⊢
  unfold doesV ptrV at hadd
  replace hend := Lib.hid hend
  replace hadd := Lib.hid hadd
  clear h6 b6 c6 ht6 hG hG2 g6 h htb hFh ht1
  go_enter Tryz.func51, Tryz.ntmps51
  go_wp2_with fail
  refine hi.mono ?_
  rintro e w' ⟨rfl, hw⟩
  obtain rfl := hw.symm
  clear hi hw
  go_wp2_with fail
  refine hadd.out.mono ?_
  rintro e w7 ⟨kk, rfl, hle, F7, top', xs', htp, hT7, hC7⟩
  replace hle := Lib.hid hle
  replace htp := Lib.hid htp
  have hres := hend.out kk top' xs' w7 F7 hT7 hC7
  replace hres := Lib.hid hres
  clear hT7 hC7 hend hadd
  go_wp2
  go_ret2
  obtain ⟨F', hr1, hr2⟩ := hres.out
  exact ⟨kk, rfl, hle.out, F', top', xs', htp.out, hr1, hr2⟩
set_option maxHeartbeats 1000000 in
set_option maxRecDepth 100000 in
theorem sys_SinkG (h : Sys w F c s) (htop : s.top < 100000) (m : Nat) (hm : m ≤ 1048576) :
    Calls Tryz.prog 52 #[ptrV c.tb, .int .i64 (m : Int)] w fun e w' => ∃ kk, e = .returned (.tuple #[.int .i64 kk, .int .i64 0]) ∧ Least (ids s.hs) kk ∧ ∃ F' top' xs', top' ≤ s.top + 1 ∧ Sys w' F' c { s with hs := s.hs ++ [(kk, ⟨1, .sink [] m⟩)], top := top', xs := xs' } ∧ Chg F F' w w' := by
  obtain ⟨Ft, Fp, Fh, h, hF⟩ := h
  obtain ⟨lab, mb, mem, v, htb, hFh⟩ := h.tab
  have hi := isNil_no htb
  have i1 : ¬ (1048576 : Int) < (m : Int) := by omega
  have i2 : ¬ (m : Int) < 0 := by omega
  have g6 : w.grownBy (w.alloc (.cells #[.slice none 0 0, .int .i64 (m : Int)] 200)) none := World.grownBy_alloc w _ _
  have h6 := h.grown g6
  have b6 : Blk (w.alloc (.cells #[.slice none 0 0, .int .i64 (m : Int)] 200)) w.heap.size [.slice none 0 0, .int .i64 (m : Int)] 200 := Blk.new w _ _
  have c6 : Chg (foot Ft Fp Fh) (fun g => foot Ft Fp Fh g ∨ g = w.heap.size) w (w.alloc (.cells #[.slice none 0 0, .int .i64 (m : Int)] 200)) := Chg.alloc _ w _
  have ht6 : TabF (w.alloc (.cells #[.slice none 0 0, .int .i64 (m : Int)] 200)) Fh c.fb c.plb c.tb s.hs s.pp s.top s.xs := h6.tab
  have hG : ∀ g, g = w.heap.size → g < (w.alloc (.cells #[.slice none 0 0, .int .i64 (m : Int)] 200)).heap.size ∧ ¬ Fh g := fun g hg => ⟨by rw [hg]; exact b6.lt, fun hf => absurd (h.tab.lt hf) (by omega)⟩
  have hG2 : ∀ g, g = w.heap.size → ¬ Ft g ∧ ¬ Fp g := fun g hg => ⟨fun hf => absurd (h.tree.lt hf) (by omega), fun hf => absurd (h.pool.lt hf) (by omega)⟩
  have hadd := tab_addG ht6 (fun g => g = w.heap.size) hG htop (.sink [] m) w.heap.size (fun kk w' lab' hg kb => ⟨(hg _ rfl).1.trans b6, (hg _ rfl).2, .inl ⟨rfl, rfl, rfl⟩, nofun, Nat.zero_le _, hm⟩)
  have hend := fun kk top' xs' w7 F7 (hT7 : TabF w7 F7 c.fb c.plb c.tb (s.hs ++ [(kk, ⟨1, .sink [] m⟩)]) s.pp top' xs') hC7 => Sys.of hF (h6.tabStep hG2 hT7 hC7).1 (c6.trans (h6.tabStep hG2 hT7 hC7).2)
  unfold ptrV at hi ⊢
  unfold doesV ptrV at hadd
  replace hend := Lib.hid hend
  replace hadd := Lib.hid hadd
  clear h6 b6 c6 ht6 hG hG2 g6 h htb hFh hm
  go_enter Tryz.func52, Tryz.ntmps52
  go_wp2_with fail
  refine hi.mono ?_
  rintro e w' ⟨rfl, hw⟩
  obtain rfl := hw.symm
  clear hi hw
  go_wp2_with fail
  refine hadd.out.mono ?_
  rintro e w7 ⟨kk, rfl, hle, F7, top', xs', htp, hT7, hC7⟩
  replace hle := Lib.hid hle
  replace htp := Lib.hid htp
  have hres := hend.out kk top' xs' w7 F7 hT7 hC7
  replace hres := Lib.hid hres
  clear hT7 hC7 hend hadd
  go_wp2
  go_ret2
  obtain ⟨F', hr1, hr2⟩ := hres.out
  exact ⟨kk, rfl, hle.out, F', top', xs', htp.out, hr1, hr2⟩
set_option maxHeartbeats 1000000 in
set_option maxRecDepth 100000 in
theorem sys_PipeG (h : Sys w F c s) (htop : s.top < 99999) (hn : s.es.length ≤ 1000000) :
    Calls Tryz.prog 41 #[ptrV c.tb] w fun e w' => ∃ k1 k2, e = .returned (.tuple #[.int .i64 k1, .int .i64 k2, .int .i64 0]) ∧ Least (ids s.hs) k1 ∧ Least (ids s.hs ++ [k1]) k2 ∧
      ∃ F' pb bb top' xs', top' ≤ s.top + 2 ∧ Sys w' F' c { s with es := s.es ++ [(bb, some ⟨[], 0, c.M, .slice none 0 0, .slice none 0 0, []⟩)], pp := s.pp ++ [(pb, bb, 2)], hs := s.hs ++ [(k1, ⟨1, .rd s.pp.length⟩)] ++ [(k2, ⟨1, .wr s.pp.length⟩)], top := top', xs := xs' } ∧ Chg F F' w w' := by
  obtain ⟨Ft, Fp, Fh, h, hF⟩ := h
  obtain ⟨lab, mb, mem, v, ht, hFh⟩ := h.tab
  have hi := isNil_no ht
  have hop := allF_open h.pool hn
  have t1 := ht.num.at_.blk.cell (i := 1) rfl
  have tl := ht.num.at_.blk.lt
  unfold ptrV at hi t1 ⊢
  replace hop := Lib.hid hop
  clear ht
  go_enter Tryz.func41, Tryz.ntmps41
  go_wp2_with fail
  refine hi.mono ?_
  rintro e w' ⟨rfl, hw⟩
  obtain rfl := hw.symm
  clear hi hw
  go_wp2_with fail
  refine hop.out.mono ?_
  rintro e w1 ⟨rfl, ⟨Fp', hA1, hC1, hbb⟩, hs1⟩
  generalize hbbe : w.heap.size = bb at hA1 hbb hs1 ⊢
  obtain ⟨h1, c1⟩ := h.poolStep hA1 hC1
  have g2 : w1.grownBy (w1.alloc (.cells #[.pointer (some ⟨bb, 0, none⟩), .int .i64 2] 170)) none := World.grownBy_alloc w1 _ _
  have b2 : Blk (w1.alloc (.cells #[.pointer (some ⟨bb, 0, none⟩), .int .i64 2] 170)) w1.heap.size [ptrV bb, .int .i64 ((2 : Nat) : Int)] 170 := Blk.new w1 _ _
  have c2 := Chg.alloc (foot Ft Fp' Fh) w1 (.cells #[.pointer (some ⟨bb, 0, none⟩), .int .i64 2] 170)
  replace h1 := Lib.hid h1
  replace c1 := Lib.hid c1
  replace g2 := Lib.hid g2
  replace b2 := Lib.hid b2
  replace c2 := Lib.hid c2
  replace hop := Lib.hid trivial
  clear h hC1 hA1 t1 hs1
  go_upto_region 4 with fail
  generalize w1.alloc (.cells #[.pointer (some ⟨bb, 0, none⟩), .int .i64 2] 170) = w2 at g2 b2 c2 ⊢
  have hpbf : ∀ g, g = w1.heap.size → ¬ Ft g ∧ ¬ Fp' g ∧ ¬ Fh g := fun g hg => ⟨fun hf => absurd (h1.out.tree.lt hf) (by omega), fun hf => absurd (h1.out.pool.lt hf) (by omega), fun hf => absurd (h1.out.tab.lt hf) (by omega)⟩
  generalize w1.heap.size = pb at b2 c2 hpbf ⊢
  have h2 := h1.out.grown g2.out
  obtain ⟨lab2, mb2, mem2, v2, ht2, hFh2⟩ := h2.tab
  have hlpb : lab2 pb = .free := Classical.byContradiction fun hne => (hpbf pb rfl).2.2 ((hFh2 pb).2 hne)
  obtain ⟨Fh3, hT3, hC3⟩ := ht2.pipes (S := fun _ => False) (S' := fun _ => False) (w2 := w2) (pp' := s.pp ++ [(pb, bb, 2)]) (lab' := fun g => if g = pb then .pipe s.pp.length else lab2 g) hFh2 (fun g => g = pb) (Chg.refl _ w2) nofun
    (fun g _ hg => if_neg fun e => hg (by rw [e]; exact hlpb)) (fun g _ hg hne => by show (if g = pb then _ else _) = _; rw [if_neg hne]; exact hg) (fun g hg => by
      have := b2.out.lt
      show (if g = pb then _ else _) = _
      rw [if_neg (by omega)]
      exact ht2.new g hg) (by simp) (fun p hp => by unfold pipeB; rw [List.getD_eq_getElem?_getD, List.getD_eq_getElem?_getD, List.getElem?_append_left hp]) (fun p pb' bb' ends hp => by
      rw [List.getElem?_append] at hp
      split at hp
      · obtain ⟨q1, q2⟩ := ht2.pi p pb' bb' ends hp
        refine ⟨q1, ?_⟩
        show (if pb' = pb then _ else _) = _
        rw [if_neg fun e => by rw [e, hlpb] at q2; cases q2]
        exact q2
      · rename_i hp0
        obtain ⟨hp1, hp⟩ := List.getElem?_eq_some_iff.1 hp
        have hp2 : p = s.pp.length := by simp at hp1; omega
        subst hp2
        simp at hp
        obtain ⟨rfl, rfl, rfl⟩ := hp
        exact ⟨b2.out, if_pos rfl⟩)
  obtain ⟨h3, c3⟩ := h2.tabStep (G := fun g => g = pb) (fun g hg => ⟨(hpbf g hg).1, (hpbf g hg).2.1⟩) hT3 hC3
  have c4 := (c1.out.trans c2.out).trans c3
  have ht4 : TabF w2 Fh3 c.fb c.plb c.tb s.hs (s.pp ++ [(pb, bb, 2)]) s.top s.xs := h3.tab
  have hpl : s.pp.length < (s.pp ++ [(pb, bb, 2)]).length := by simp
  have hpbb : pipeB (s.pp ++ [(pb, bb, 2)]) s.pp.length = pb := by unfold pipeB; simp
  have hadd1 := tab_addG ht4 (fun _ => False) nofun (by omega) (.rd s.pp.length) 0 (fun k w' lab' hg kb => hpl)
  rw [show doesV (s.pp ++ [(pb, bb, 2)]) (.rd s.pp.length) 0 = .iface 172 (.agg #[ptrV pb]) by show Value.iface _ (.agg #[ptrV (pipeB _ _)]) = _; rw [hpbb]] at hadd1
  unfold ptrV at hadd1
  replace hadd1 := Lib.hid hadd1
  replace h3 := Lib.hid h3
  replace c4 := Lib.hid c4
  clear ht4 hT3 hC3 ht2 h2 h1 c1 c2 c3 b2 g2
  go_wp2_with fail
  refine hadd1.out.mono ?_
  rintro e w5 ⟨k1, rfl, hle1, Fh5, top1, xs1, htp1, hT5, hC5⟩
  replace hle1 := Lib.hid hle1
  have htp1' := Lib.hid htp1
  obtain ⟨h5, c5⟩ := h3.out.tabStep (G := fun _ => False) nofun hT5 hC5
  have c6 := c4.out.trans (c5.mono (G := foot Ft Fp' Fh3) (fun b hb => hb.elim id False.elim) fun b _ hb => .inl hb)
  have hadd2 := tab_addG hT5 (fun _ => False) nofun (by omega) (.wr s.pp.length) 0 (fun k w' lab' hg kb => hpl)
  rw [show doesV (s.pp ++ [(pb, bb, 2)]) (.wr s.pp.length) 0 = .iface 173 (.agg #[ptrV pb]) by show Value.iface _ (.agg #[ptrV (pipeB _ _)]) = _; rw [hpbb]] at hadd2
  unfold ptrV at hadd2
  replace hadd2 := Lib.hid hadd2
  replace h5 := Lib.hid h5
  replace c6 := Lib.hid c6
  clear hadd1 h3 c4 c5 hT5 hC5
  go_wp2_with fail
  refine hadd2.out.mono ?_
  rintro e w7 ⟨k2, rfl, hle2, Fh7, top2, xs2, htp2, hT7, hC7⟩
  have hle3 : Least (ids s.hs ++ [k1]) k2 := by have := hle2; unfold ids at this; rw [List.map_append] at this; exact this
  replace hle3 := Lib.hid hle3
  clear hle2
  have htp3 : top2 ≤ s.top + 2 := by omega
  replace htp3 := Lib.hid htp3
  clear htp2
  obtain ⟨h7, c7⟩ := h5.out.tabStep (G := fun _ => False) nofun hT7 hC7
  have c8 := c6.out.trans (c7.mono (G := foot Ft Fp' Fh5) (fun b hb => hb.elim id False.elim) fun b _ hb => .inl hb)
  have hres := Sys.of hF h7 c8
  replace hres := Lib.hid hres
  clear hadd2 h5 c6 c7 hT7 hC7 h7 c8
  go_wp2
  obtain ⟨F', h8, h9⟩ := hres.out
  exact bodyPost_ret (v := .tuple #[.int .i64 k1, .int .i64 k2, .int .i64 0]) (by simp [results, Tryz.results41, go_sem]) rfl ⟨k1, k2, rfl, hle1.out, hle3.out, F', pb, bb, top2, xs2, htp3.out, h8, h9⟩
end
end Go.Proofs.YtbjakhiflgjflaaGreatDoor
