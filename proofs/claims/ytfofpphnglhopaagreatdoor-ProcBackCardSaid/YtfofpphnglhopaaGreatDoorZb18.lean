/-
  A part. Conditions: each theorem's own.
-/
import Derived.Test.YtfofpphnglhopaaGreatDoorZb7
import Derived.Test.YtfofpphnglhopaaGreatDoorZb13
import Derived.Test.YtfofpphnglhopaaGreatDoorZb17
set_option maxHeartbeats 8000000
set_option maxRecDepth 100000
namespace Go.Proofs.YtfofpphnglhopaaGreatDoor
open Go Go.RowKit Go.ChangeMaps
section
variable {w : World} {lab : Nat → TL} {F : Nat → Prop} {fb most room mb : Nat} {nds : Nds} {mem : Int → NM}
theorem make_file (h : TreeF w F fb most room nds) (T : TOk nds) (a : Int) (p : ByteArray) (hp : p.size ≤ 1000000) {d : Int} {x : Pn} (hplE : placeP nds a (tl p) = (d, 0)) (hx : look nds d = some x) (hxn : x.nms = some (nmsOf x)) (hfrE : freeP x (nameP (tl p)) (slashP (tl p)) = 0)
    (m : Nat) (h1m : 2 ≤ m) (hmm : m ≤ 1000000) (hm : look nds (m : Int) = none) (hall : ∀ j : Nat, 1 ≤ j → j < m → ∃ x, look nds (j : Int) = some x) (hmany : nds.length < most) (s : ByteArray) (hs : s.size ≤ 4096) (hroom : usedN nds + s.size ≤ room) :
    Calls Tryz.prog 43 #[.pointer (some ⟨fb, 0, none⟩), .int .i64 a, .string p, .int .i64 2, .string s] w fun e w' => e = .returned (.tuple #[.int .i64 (m : Int), .int .i64 0]) ∧ ∃ F', TreeF w' F' fb most room (upd (upd (nds ++ [((m : Int), ⟨2, 0, 0, 0, tl s, none, ⟨#[]⟩⟩)]) d { x with nms := some (nmsOf x ++ [(⟨(nameP (tl p)).toArray⟩, m)]) }) (m : Int) ⟨2, 1, 0, 0, tl s, none, ⟨#[]⟩⟩) ∧ Chg F F' w w' := by
  obtain ⟨lab, mb, mem, h, hF⟩ := h
  have hpl := place_any h T a p hp
  obtain ⟨nm, hnmE⟩ : ∃ nm : ByteArray, (⟨(nameP (tl p)).toArray⟩ : ByteArray) = nm := ⟨_, rfl⟩
  have hnmt : tl nm = nameP (tl p) := by rw [← hnmE]; rfl
  obtain ⟨sl, hslE⟩ : ∃ sl, slashP (tl p) = sl := ⟨_, rfl⟩
  unfold plV at hpl
  rw [hplE] at hpl
  simp only [if_true] at hpl
  rw [hnmE, hslE] at hpl
  rw [hslE, ← hnmt] at hfrE
  rw [hnmE]
  have hl : look (nmsOf x) nm = none := by
    unfold freeP at hfrE
    split at hfrE
    · cases hfrE
    · split at hfrE
      · cases hfrE
      · split at hfrE
        · cases hfrE
        · split at hfrE
          · rename_i q1 q2; exact absurd hfrE q1
          · rename_i q1 q2
            have q3 : (findP (nmsOf x) (tl nm)).2 = 10 := Decidable.not_not.1 q2
            unfold findP at q3
            split at q3
            · cases q3
            · rw [show (⟨(tl nm).toArray⟩ : ByteArray) = nm by unfold tl; simp] at q3
              cases hq : look (nmsOf x) nm with
              | none => rfl
              | some n => rw [hq] at q3; simp at q3
  have hfr := fun (W : World) (hW : w.grownBy W none) => free_any (h.grown hW) hx hxn nm sl
  rw [hfrE] at hfr
  have hle := fun (W : World) (hW : w.grownBy W none) => least_any (h.grown hW) m (by omega) hmm hm hall
  have hgr := fun (W : World) (hW : w.grownBy W none) => h.grown hW
  have hcv := conv_bytes s (by omega)
  have hm1 : (m : Int) ≠ d := fun e => by rw [e, hx] at hm; cases hm
  have hn1 : look (nds ++ [((m : Int), (⟨2, 0, 0, 0, (tl s), none, ⟨#[]⟩⟩ : Pn))]) d = some x := by rw [look_app, hx]; rfl
  have hnm : look (nds ++ [((m : Int), (⟨2, 0, 0, 0, (tl s), none, ⟨#[]⟩⟩ : Pn))]) (m : Int) = some ⟨2, 0, 0, 0, (tl s), none, ⟨#[]⟩⟩ := by rw [look_app, hm]; simp [look]
  have hlim := h.lim
  have hfl := h.fs.lt
  have hml := h.map.lt
  have hlen : nds.length ≤ most := by omega
  have k4 : ¬ (4096 : Int) < (s.size : Int) := by omega
  obtain ⟨res, hres⟩ : ∃ res : Nds, upd (upd (nds ++ [((m : Int), ⟨2, 0, 0, 0, tl s, none, ⟨#[]⟩⟩)]) d { x with nms := some (nmsOf x ++ [(nm, m)]) }) (m : Int) ⟨2, 1, 0, 0, tl s, none, ⟨#[]⟩⟩ = res := ⟨_, rfl⟩
  rw [hres]
  replace hres := Lib.hid hres
  replace hfr := Lib.hid hfr
  replace hle := Lib.hid hle
  replace hgr := Lib.hid hgr
  replace hcv := Lib.hid hcv
  replace h := Lib.hid h
  clear hx hall hnmE hnmt hslE hplE hfrE T
  go_enter Tryz.func43, Tryz.ntmps43
  go_wp2_with fail
  refine hpl.mono ?_
  rintro e w1 ⟨rfl, g1⟩
  clear hpl
  go_upto_region 9 with fail
  have b2 : Blk (w1.alloc (.cells #[.int .i64 d, .string nm, .bool sl] 178)) w1.heap.size [.int .i64 d, .string nm, .bool sl] 178 := Blk.new w1 _ _
  have g2 : w.grownBy (w1.alloc (.cells #[.int .i64 d, .string nm, .bool sl] 178)) none := grownBy_tr g1 (World.grownBy_alloc w1 _ _)
  generalize (w1.alloc (.cells #[.int .i64 d, .string nm, .bool sl] 178)) = w2 at b2 g2 ⊢
  have hzw := g1.size
  generalize w1.heap.size = z at b2 hzw ⊢
  have hfr2 := hfr.out w2 g2
  have z0 := b2.cell (i := 0) rfl
  have z1 := b2.cell (i := 1) rfl
  have z2 := b2.cell (i := 2) rfl
  have hz2 := b2.lt
  clear g1 hfr
  go_wp2_with fail
  refine hfr2.mono ?_
  rintro e w3 ⟨rfl, g3⟩
  have b3 : Blk w3 z _ _ := (g3.block z hz2 (by simp)).trans b2
  have g3' := grownBy_tr g2 g3
  clear hfr2 z0 z1 z2 hz2 b2 g2 g3
  have h3 := hgr.out w3 g3'
  have hct := fun n => (hgr.out (w3.drewN n) (grownBy_drewN g3' n)).map.count Tryz.underlying174 3
  rw [show (entN mem nds).length = nds.length from List.length_map _] at hct
  have f0 := h3.fs.cell (i := 0) rfl
  have f1 := h3.fs.cell (i := 1) rfl
  have f2 := h3.fs.cell (i := 2) rfl
  have f3 := h3.fs.cell (i := 3) rfl
  have hfl3 := h3.fs.lt
  obtain ⟨U, hU⟩ : ∃ U, usedN nds = U := ⟨_, rfl⟩
  obtain ⟨NL, hNL⟩ : ∃ NL, nds.length = NL := ⟨_, rfl⟩
  rw [hU] at f3 hlim hroom
  rw [hNL] at hct hmany hlen
  replace hU := Lib.hid hU
  replace hNL := Lib.hid hNL
  have i1 : ¬ (most : Int) ≤ (NL : Int) := by omega
  have i2 : ¬ (room : Int) - (U : Int) < (s.size : Int) := by omega
  have i3 : IntKind.i64.wrap ((room : Int) - (U : Int)) = (room : Int) - (U : Int) := by rw [IntKind.wrap_i64]; omega
  replace b3 := Lib.hid b3
  replace g3' := Lib.hid g3'
  clear h3
  go_upto_region 12 with fail
  go_quiet (fail)
  have g4 : w.grownBy (w3.drewN nq) none := grownBy_drewN g3'.out nq
  have b4 : Blk (w3.drewN nq) z _ _ := b3.out
  generalize w3.drewN nq = w4 at g4 b4 ⊢
  have hle4 := hle.out w4 g4
  clear f0 f1 f2 f3 hct b3 g3' hle i1 i2 i3 hfl3
  go_wp2_with fail
  refine hle4.mono ?_
  rintro e w' ⟨rfl, hw⟩
  obtain rfl := hw.symm
  clear hle4 hw
  obtain ⟨dv, w5, hc5, hrow5, g5, hown5, hs5⟩ := hcv.out w4
  obtain ⟨A, cp, rfl, hcp, hcpm⟩ := hrow5.form
  replace hs5 := Lib.hid hs5
  clear hcv
  go_upto_region 16 with fail
  have b6 : Blk (w5.alloc (.cells #[.int .i64 2, .int .i64 0, .int .i64 0, .slice A (s.size) cp, .map none, .int .i64 0, .string ⟨#[]⟩] 156)) w5.heap.size (bodyC ⟨2, 0, 0, 0, (tl s), none, ⟨#[]⟩⟩ ⟨w5.heap.size, .slice A (s.size) cp, .map none⟩) 156 := Blk.new w5 _ _
  have g6 : w4.grownBy (w5.alloc (.cells #[.int .i64 2, .int .i64 0, .int .i64 0, .slice A (s.size) cp, .map none, .int .i64 0, .string ⟨#[]⟩] 156)) none := grownBy_tr g5 (World.grownBy_alloc w5 _ _)
  have r6 : RowM (w5.alloc (.cells #[.int .i64 2, .int .i64 0, .int .i64 0, .slice A (s.size) cp, .map none, .int .i64 0, .string ⟨#[]⟩] 156)) 5 (.slice A (s.size) cp) (s.size) (bc (tl s)) := hrow5.keep fun g hg => Below.heap_alloc w5 _ g (hrow5.lt hg)
  have n6 : (w5.alloc (.cells #[.int .i64 2, .int .i64 0, .int .i64 0, .slice A (s.size) cp, .map none, .int .i64 0, .string ⟨#[]⟩] 156)).heap.size = w5.heap.size + 1 := by simp
  generalize (w5.alloc (.cells #[.int .i64 2, .int .i64 0, .int .i64 0, .slice A (s.size) cp, .map none, .int .i64 0, .string ⟨#[]⟩] 156)) = w6 at b6 g6 r6 n6 ⊢
  generalize hnb : w5.heap.size = nb at b6 n6 ⊢
  clear hc5 hrow5 g5
  have h4 := hgr.out w4 g4
  have h6 := h4.grown g6
  have hkm := h6.map
  have hne : fb ≠ mb := fun e => by have := h4.lfs; rw [e, h4.lmap] at this; cases this
  have f0 := h6.fs.cell (i := 0) rfl
  have f3 := h6.fs.cell (i := 3) rfl
  rw [hU.out] at f3
  have ff3 := h6.fs.frozen 3
  have hfl6 := h6.fs.lt
  have hlke : look (entN mem nds) (m : Int) = none := by rw [entN_look, hm]; rfl
  replace h4 := Lib.hid h4
  replace h6 := Lib.hid h6
  go_upto_region 18 with fail
  go_wp2_with (at_mapUpdate; go_loud (refine wpList_put_k rfl _ _ _ 174 rfl 3 150 keyI Tryz.underlying174 Tryz.underlying3 rfl hkm (m : Int) rfl hlke (.pointer (some ⟨nb, 0, none⟩)) rfl ?_); intro ob hkm7; refine Hid.out ?_)
  refine Lib.hid ?_
  have c8 : Chg (fun g => g = fb ∨ g = mb) (fun g => g = fb ∨ g = mb) w4 ((setBlock w6 mb ob).setCell ⟨fb, 3, none⟩ (.int .i64 ((U : Int) + (s.size : Int)))) := ((Chg.of_grown g6 _).trans (Chg.setB (.inr rfl) ob)).trans (Chg.set (.inl rfl) 3 _)
  have hf7 : Blk (setBlock w6 mb ob) fb _ _ := h6.out.fs.setB hne ob
  have hf8 := hf7.set 3 (.int .i64 ((U : Int) + (s.size : Int)))
  have hz6 : z ≠ fb ∧ z ≠ mb := ⟨by omega, by omega⟩
  have b6z : Blk w6 z _ _ := (g6.block z b4.lt (by simp)).trans b4
  have b8 := (b6z.setB hz6.2 ob).other (a := ⟨fb, 3, none⟩) hz6.1 (.int .i64 ((U : Int) + (s.size : Int)))
  have e8 : ∀ g, w4.heap.size ≤ g → g ≠ fb ∧ g ≠ mb := fun g hg => ⟨fun e => by have := h4.out.fs.lt; omega, fun e => by have := h4.out.map.lt; omega⟩
  have hnb4 : w4.heap.size ≤ nb := by have := hs5.out; omega
  have k8 : ∀ g, w4.heap.size ≤ g → ((setBlock w6 mb ob).setCell ⟨fb, 3, none⟩ (.int .i64 ((U : Int) + (s.size : Int)))).heap[g]? = w6.heap[g]? := fun g hg => (heap_setCell_other _ _ g _ (e8 g hg).1).trans (setB_other (e8 g hg).2 ob)
  have hm7 : KMap ((setBlock w6 mb ob).setCell ⟨fb, 3, none⟩ (.int .i64 ((U : Int) + (s.size : Int)))) mb (.int .i64) encI _ := hkm7.keep (heap_setCell_other _ _ mb _ (fun e => hne e.symm))
  have hb8 : Blk ((setBlock w6 mb ob).setCell ⟨fb, 3, none⟩ (.int .i64 ((U : Int) + (s.size : Int)))) nb _ _ := (k8 nb hnb4).trans b6
  have hg8 : ∀ g, (Value.slice A (s.size) cp).ownBlock = some g → w4.heap.size ≤ g ∧ g ≠ nb := fun g hg => by
    rw [hown5] at hg
    cases hg
    exact ⟨Nat.le_refl _, by have := hs5.out; omega⟩
  have hr8 := r6.keep (w' := (setBlock w6 mb ob).setCell ⟨fb, 3, none⟩ (.int .i64 ((U : Int) + (s.size : Int)))) fun g hg => k8 g (hg8 g hg).1
  have htl : (tl s).length = s.size := tl_len s
  obtain ⟨lab', mem', h9, c9⟩ := h4.out.add (y := ⟨2, 0, 0, 0, (tl s), none, ⟨#[]⟩⟩) (M := ⟨nb, .slice A (s.size) cp, .map none⟩) hF hm c8
    (by rw [show ((usedN nds + ((tl s)).length : Nat) : Int) = ((U : Int) + (s.size : Int)) by rw [htl, hU.out]; omega]; exact hf8) hm7 hb8 hnb4 (by rw [htl]; exact hr8) hg8 (by rw [htl]; exact hs) (fun _ => rfl) nofun (by rw [htl, hU.out]; exact hroom)
  have c10 := (Chg.of_grown g4 F).trans c9
  have hen := enter_leaf (F := fun g => lab' g ≠ .free) h9 (fun _ => Iff.rfl) hn1 hxn nm hl hm1 hnm (Nat.zero_le _) (show (2 : Nat) ≠ 1 by decide) sl
  have y0 := b8.cell (i := 0) rfl
  have y1 := b8.cell (i := 1) rfl
  have y2 := b8.cell (i := 2) rfl
  have hzl := b8.lt
  have q1 : U + s.size ≤ 1048576 := by have := hlim.2.1; omega
  have x3 : (setBlock w6 mb ob).cell? ⟨fb, 3, none⟩ = some (.int .i64 (U : Int)) := by
    have := hf7.cell (i := 3) rfl
    rwa [hU.out] at this
  have xf := hf7.frozen 3
  have xl := hf7.lt
  clear hf7 b6z b8 e8 k8 hm7 hb8 hg8 hr8 htl b4 b6 r6 hkm hkm7 c8 hf8 g4 g6 hlke hz6
  replace c10 := Lib.hid c10
  clear h9 c9
  go_upto_region 20 with fail
  generalize (setBlock w6 mb ob).setCell ⟨fb, 3, none⟩ (.int .i64 ((U : Int) + (s.size : Int))) = w8 at hen c10 y0 y1 y2 hzl ⊢
  clear x3 xf xl f0 f3 ff3 hfl6
  go_wp2_with fail
  refine hen.mono ?_
  rintro e w9 ⟨rfl, hT, c11⟩
  have c12 := c10.out.trans c11
  replace hT := Lib.hid hT
  replace c12 := Lib.hid c12
  clear hen c11 c10 y0 y1 y2 hzl
  go_wp2
  go_ret2
  refine ⟨rfl, _, ⟨lab', mb, mem', ?_, fun _ => Iff.rfl⟩, c12.out⟩
  rw [← hres.out]
  exact hT.out
theorem make_err (h : TreeR w lab fb most room nds mb mem) (T : TOk nds) (a : Int) (p : ByteArray) (hp : p.size ≤ 1000000) (herE : (placeP nds a (tl p)).2 ≠ 0) :
    Calls Tryz.prog 43 #[.pointer (some ⟨fb, 0, none⟩), .int .i64 a, .string p, .int .i64 2, .string ⟨#[]⟩] w fun e w' => e = .returned (.tuple #[.int .i64 0, .int .i64 (placeP nds a (tl p)).2]) ∧ w.grownBy w' none := by
  have hpl := place_any h T a p hp
  unfold plV at hpl
  rw [if_neg herE] at hpl
  obtain ⟨er, her⟩ : ∃ er, (placeP nds a (tl p)).2 = er := ⟨_, rfl⟩
  rw [her] at hpl herE ⊢
  have e0 : (er == 0) = false := by rw [beq_eq_false_iff_ne]; exact herE
  clear h T her herE
  go_enter Tryz.func43, Tryz.ntmps43
  go_wp2_with fail
  refine hpl.mono ?_
  rintro e w1 ⟨rfl, g1⟩
  have g2 := grownBy_tr g1 (World.grownBy_alloc w1 (.cells #[.int .i64 0, .string ⟨#[]⟩, .bool false] 178) none)
  replace g2 := Lib.hid g2
  replace g1 := Lib.hid g1
  clear hpl
  go_wp2
  go_ret2
  exact ⟨rfl, g2.out⟩
end
section
variable {w : World} {lab : Nat → TL} {F : Nat → Prop} {fb most room mb : Nat} {nds : Nds} {mem : Int → NM}
theorem make_free (h : TreeR w lab fb most room nds mb mem) (T : TOk nds) (a : Int) (p : ByteArray) (hp : p.size ≤ 1000000) {d : Int} {x : Pn} (hplE : placeP nds a (tl p) = (d, 0)) (hx : look nds d = some x) (hxn : x.nms = some (nmsOf x)) {er : Int} (hfrE : freeP x (nameP (tl p)) (slashP (tl p)) = er) (her : er ≠ 0) :
    Calls Tryz.prog 43 #[.pointer (some ⟨fb, 0, none⟩), .int .i64 a, .string p, .int .i64 2, .string ⟨#[]⟩] w fun e w' => e = .returned (.tuple #[.int .i64 0, .int .i64 er]) ∧ w.grownBy w' none := by
  have e0 : (er == 0) = false := by rw [beq_eq_false_iff_ne]; exact her
  have hpl := place_any h T a p hp
  obtain ⟨nm, hnmE⟩ : ∃ nm : ByteArray, (⟨(nameP (tl p)).toArray⟩ : ByteArray) = nm := ⟨_, rfl⟩
  have hnmt : tl nm = nameP (tl p) := by rw [← hnmE]; rfl
  obtain ⟨sl, hslE⟩ : ∃ sl, slashP (tl p) = sl := ⟨_, rfl⟩
  unfold plV at hpl
  rw [hplE] at hpl
  simp only [if_true] at hpl
  rw [hnmE, hslE] at hpl
  rw [hslE, ← hnmt] at hfrE
  have hfr := fun (W : World) (hW : w.grownBy W none) => free_any (h.grown hW) hx hxn nm sl
  rw [hfrE] at hfr
  clear her
  have hgr := fun (W : World) (hW : w.grownBy W none) => h.grown hW
  replace hfr := Lib.hid hfr
  replace hgr := Lib.hid hgr
  clear hx hxn hnmE hnmt hslE hplE hfrE T h
  go_enter Tryz.func43, Tryz.ntmps43
  go_wp2_with fail
  refine hpl.mono ?_
  rintro e w1 ⟨rfl, g1⟩
  clear hpl
  go_upto_region 9 with fail
  have b2 : Blk (w1.alloc (.cells #[.int .i64 d, .string nm, .bool sl] 178)) w1.heap.size [.int .i64 d, .string nm, .bool sl] 178 := Blk.new w1 _ _
  have g2 : w.grownBy (w1.alloc (.cells #[.int .i64 d, .string nm, .bool sl] 178)) none := grownBy_tr g1 (World.grownBy_alloc w1 _ _)
  generalize (w1.alloc (.cells #[.int .i64 d, .string nm, .bool sl] 178)) = w2 at b2 g2 ⊢
  have hzw := g1.size
  generalize w1.heap.size = z at b2 hzw ⊢
  have hfr2 := hfr.out w2 g2
  have z0 := b2.cell (i := 0) rfl
  have z1 := b2.cell (i := 1) rfl
  have z2 := b2.cell (i := 2) rfl
  have hz2 := b2.lt
  clear g1 hfr
  go_wp2_with fail
  refine hfr2.mono ?_
  rintro e w3 ⟨rfl, g3⟩
  have g3' := grownBy_tr g2 g3
  clear hfr2 z0 z1 z2 hz2 b2 g2 g3
  replace g3' := Lib.hid g3'
  clear hgr hzw
  go_wp2
  go_ret2
  exact ⟨rfl, g3'.out⟩
theorem make_full (h : TreeR w lab fb most room nds mb mem) (T : TOk nds) (a : Int) (p : ByteArray) (hp : p.size ≤ 1000000) {d : Int} {x : Pn} (hplE : placeP nds a (tl p) = (d, 0)) (hx : look nds d = some x) (hxn : x.nms = some (nmsOf x)) (hfrE : freeP x (nameP (tl p)) (slashP (tl p)) = 0) (hmany : most ≤ nds.length) :
    Calls Tryz.prog 43 #[.pointer (some ⟨fb, 0, none⟩), .int .i64 a, .string p, .int .i64 2, .string ⟨#[]⟩] w fun e w' => e = .returned (.tuple #[.int .i64 0, .int .i64 15]) ∧ w.grownBy w' none := by
  have hpl := place_any h T a p hp
  obtain ⟨nm, hnmE⟩ : ∃ nm : ByteArray, (⟨(nameP (tl p)).toArray⟩ : ByteArray) = nm := ⟨_, rfl⟩
  have hnmt : tl nm = nameP (tl p) := by rw [← hnmE]; rfl
  obtain ⟨sl, hslE⟩ : ∃ sl, slashP (tl p) = sl := ⟨_, rfl⟩
  unfold plV at hpl
  rw [hplE] at hpl
  simp only [if_true] at hpl
  rw [hnmE, hslE] at hpl
  rw [hslE, ← hnmt] at hfrE
  have hfr := fun (W : World) (hW : w.grownBy W none) => free_any (h.grown hW) hx hxn nm sl
  rw [hfrE] at hfr
  have hlim := h.lim
  have hgr := fun (W : World) (hW : w.grownBy W none) => h.grown hW
  replace hfr := Lib.hid hfr
  replace hgr := Lib.hid hgr
  clear hx hxn hnmE hnmt hslE hplE hfrE T h
  go_enter Tryz.func43, Tryz.ntmps43
  go_wp2_with fail
  refine hpl.mono ?_
  rintro e w1 ⟨rfl, g1⟩
  clear hpl
  go_upto_region 9 with fail
  have b2 : Blk (w1.alloc (.cells #[.int .i64 d, .string nm, .bool sl] 178)) w1.heap.size [.int .i64 d, .string nm, .bool sl] 178 := Blk.new w1 _ _
  have g2 : w.grownBy (w1.alloc (.cells #[.int .i64 d, .string nm, .bool sl] 178)) none := grownBy_tr g1 (World.grownBy_alloc w1 _ _)
  generalize (w1.alloc (.cells #[.int .i64 d, .string nm, .bool sl] 178)) = w2 at b2 g2 ⊢
  have hzw := g1.size
  generalize w1.heap.size = z at b2 hzw ⊢
  have hfr2 := hfr.out w2 g2
  have z0 := b2.cell (i := 0) rfl
  have z1 := b2.cell (i := 1) rfl
  have z2 := b2.cell (i := 2) rfl
  have hz2 := b2.lt
  clear g1 hfr
  go_wp2_with fail
  refine hfr2.mono ?_
  rintro e w3 ⟨rfl, g3⟩
  have g3' := grownBy_tr g2 g3
  clear hfr2 z0 z1 z2 hz2 b2 g2 g3
  have h3 := hgr.out w3 g3'
  have hct := fun n => (hgr.out (w3.drewN n) (grownBy_drewN g3' n)).map.count Tryz.underlying174 3
  rw [show (entN mem nds).length = nds.length from List.length_map _] at hct
  have f0 := h3.fs.cell (i := 0) rfl
  have f1 := h3.fs.cell (i := 1) rfl
  have f2 := h3.fs.cell (i := 2) rfl
  have f3 := h3.fs.cell (i := 3) rfl
  have hfl3 := h3.fs.lt
  obtain ⟨U, hU⟩ : ∃ U, usedN nds = U := ⟨_, rfl⟩
  obtain ⟨NL, hNL⟩ : ∃ NL, nds.length = NL := ⟨_, rfl⟩
  rw [hU] at f3 hlim
  rw [hNL] at hct hmany
  replace hU := Lib.hid hU
  replace hNL := Lib.hid hNL
  have i1 : (most : Int) ≤ (NL : Int) := by omega
  replace g3' := Lib.hid g3'
  clear h3 hgr hzw
  go_upto_region 12 with fail
  go_quiet (fail)
  have g4 : w.grownBy (w3.drewN nq) none := grownBy_drewN g3'.out nq
  generalize w3.drewN nq = w4 at g4 ⊢
  clear f0 f1 f2 f3 hct g3' i1 hfl3
  replace g4 := Lib.hid g4
  go_wp2
  go_ret2
  exact ⟨rfl, g4.out⟩
end
section
variable {w : World} {lab : Nat → TL} {F : Nat → Prop} {fb most room mb : Nat} {nds : Nds} {mem : Int → NM}
theorem TreeR.pull (h : TreeR w lab fb most room nds mb mem) {k : Int} {x : Pn} {l : List (ByteArray × Nat)} (hx : look nds k = some x) (hl : x.nms = some l) {nb : Nat} (hnb : (mem k).nv = .map (some nb)) (ob : Obj) (nm : ByteArray)
    (hk : KMap (setBlock w nb ob) nb .string encS ((l.map fun p => (p.1, Value.int .i64 (p.2 : Int))).filter fun p => p.1 ≠ nm)) : TreeR (setBlock w nb ob) lab fb most room (upd nds k { x with nms := some (l.filter fun p => p.1 ≠ nm) }) mb mem := by
  have hN := h.nd k x hx
  obtain ⟨nb', h1, h2, h3⟩ := hN.nms l hl
  obtain rfl : nb' = nb := by rw [h1] at hnb; cases hnb; rfl
  have ne : ∀ {g l}, lab g = l → l ≠ .names k → g ≠ nb' := fun {g l} hg hl e => by
    rw [e, h2] at hg
    exact hl hg.symm
  refine h.stay (S := fun g => g = nb') hx (Chg.setB (F := fun g => g = nb') rfl ob) (fun g _ hg => by rw [hg, h2]; exact rfl) rfl ?_
  exact {
    blk := (setB_other (ne hN.lb nofun) ob).trans hN.blk
    lb := hN.lb
    data := hN.data.keep fun g hg => setB_other (ne (hN.dl g hg) nofun) ob
    dl := hN.dl
    few := hN.few
    nil := nofun
    nms := fun l' hl' => by
      cases hl'
      refine ⟨nb', h1, h2, ?_⟩
      rw [List.filter_map] at hk
      exact hk }
theorem len_none (h : TreeR w lab fb most room nds mb mem) {k : Int} {y : Pn} (hy : look nds k = some y) (h0 : nmsOf y = []) : (Builtin.len_ #[154] 3 #[(mem k).nv]).run Tryz.prog w = .ok (.int .i64 0) w := by
  have hN := h.nd k y hy
  cases hn : y.nms with
  | none =>
    rw [hN.nil hn]
    simp [Builtin.len_, run_underlying Tryz.underlying154, Result.andThen, goInt]
  | some l =>
    obtain ⟨nb, h1, h2, h3⟩ := hN.nms l hn
    obtain rfl : l = [] := by unfold nmsOf at h0; rw [hn] at h0; exact h0
    rw [h1]
    exact h3.count Tryz.underlying154 _
theorem remove_ok (h : TreeF w F fb most room nds) (T : TOk nds) (a : Int) (p : ByteArray) (hp : p.size ≤ 1000000) {d : Int} {x y : Pn} {n : Nat} (hplE : placeP nds a (tl p) = (d, 0)) (hx : look nds d = some x) (hxn : x.nms = some (nmsOf x)) (hidE : isDirP (nameP (tl p)) = false)
    (hfiE : findP (nmsOf x) (nameP (tl p)) = ((n : Int), 0)) (hy : look nds (n : Int) = some y) (hsl : slashP (tl p) = false ∨ y.kind = 1) (h0 : nmsOf y = []) (h1 : (n : Int) ≠ 1) (hnd : (n : Int) ≠ d) (hyn : 0 < y.named) (hym : y.named ≤ 1000000) :
    Calls Tryz.prog 77 #[.pointer (some ⟨fb, 0, none⟩), .int .i64 a, .string p] w fun e w' => e = .returned (.int .i64 0) ∧ ∃ F', TreeF w' F' fb most room (removed nds d x ⟨(nameP (tl p)).toArray⟩ n y) ∧ Chg F F' w w' := by
  obtain ⟨lab, mb, mem, h, hF⟩ := h
  have hpl := place_any h T a p hp
  obtain ⟨nm, hnmE⟩ : ∃ nm : ByteArray, (⟨(nameP (tl p)).toArray⟩ : ByteArray) = nm := ⟨_, rfl⟩
  have hnmt : tl nm = nameP (tl p) := by rw [← hnmE]; rfl
  obtain ⟨sl, hslE⟩ : ∃ sl, slashP (tl p) = sl := ⟨_, rfl⟩
  unfold plV at hpl
  rw [hplE] at hpl
  simp only [if_true] at hpl
  rw [hnmE, hslE] at hpl
  rw [← hnmt] at hidE hfiE
  rw [hslE] at hsl
  rw [hnmE]
  have hid := fun (W : World) => isDir_any d nm sl W
  rw [hidE] at hid
  have hfi := fun (W : World) (hW : w.grownBy W none) => findD_any (h.grown hW) hx hxn nm
  rw [hfiE] at hfi
  have hgr := fun (W : World) (hW : w.grownBy W none) => h.grown hW
  obtain ⟨nb, hnb, hnl, -⟩ := (h.nd d x hx).nms _ hxn
  obtain ⟨res, hres⟩ : ∃ res : Nds, removed nds d x nm n y = res := ⟨_, rfl⟩
  rw [hres]
  replace hres := Lib.hid hres
  replace hid := Lib.hid hid
  replace hfi := Lib.hid hfi
  replace hgr := Lib.hid hgr
  replace h := Lib.hid h
  clear hnmE hnmt hslE hplE hfiE hidE T
  go_enter Tryz.func77, Tryz.ntmps77
  go_wp2_with fail
  refine hpl.mono ?_
  rintro e w1 ⟨rfl, g1⟩
  clear hpl
  go_upto_region 6 with fail
  have b2 : Blk (w1.alloc (.cells #[.int .i64 d, .string nm, .bool sl] 178)) w1.heap.size [.int .i64 d, .string nm, .bool sl] 178 := Blk.new w1 _ _
  have g2 : w.grownBy (w1.alloc (.cells #[.int .i64 d, .string nm, .bool sl] 178)) none := grownBy_tr g1 (World.grownBy_alloc w1 _ _)
  generalize (w1.alloc (.cells #[.int .i64 d, .string nm, .bool sl] 178)) = w2 at b2 g2 ⊢
  have hzw := g1.size
  generalize w1.heap.size = z at b2 hzw ⊢
  have hid2 := hid.out w2
  have z0 := b2.cell (i := 0) rfl
  have z1 := b2.cell (i := 1) rfl
  have z2 := b2.cell (i := 2) rfl
  have hz2 := b2.lt
  clear g1 hid
  go_wp2_with fail
  refine hid2.mono ?_
  rintro e w3 ⟨rfl, g3⟩
  have b3 : Blk w3 z _ _ := (g3.block z hz2 (by simp)).trans b2
  have g3' := grownBy_tr g2 g3
  clear hid2 z0 z1 z2 hz2 b2 g2 g3
  have h3 := hgr.out w3 g3'
  have hlk := fun k => (hgr.out (w3.drewN k) (grownBy_drewN g3' k)).find_some hx
  have f0 := h3.fs.cell (i := 0) rfl
  have z0 := b3.cell (i := 0) rfl
  have hfl := h3.fs.lt
  have hzl := b3.lt
  replace b3 := Lib.hid b3
  replace g3' := Lib.hid g3'
  clear h3
  go_upto_region 8 with fail
  go_quiet (fail)
  have g4 : w.grownBy (w3.drewN nq) none := grownBy_drewN g3'.out nq
  have b4 : Blk (w3.drewN nq) z _ _ := b3.out
  generalize w3.drewN nq = w4 at g4 b4 ⊢
  clear f0 z0 hlk hfl hzl b3 g3'
  have hfi4 := hfi.out w4 g4
  have h4 := hgr.out w4 g4
  have z0 := b4.cell (i := 0) rfl
  have z1 := b4.cell (i := 1) rfl
  have z2 := b4.cell (i := 2) rfl
  have hzl := b4.lt
  have f0 := h4.fs.cell (i := 0) rfl
  have hfl := h4.fs.lt
  have hN := h4.nd d x hx
  have hM := h4.nd (n : Int) y hy
  have d4 := hN.blk.cell (show (bodyC x (mem d))[4]? = some _ from rfl)
  rw [hnb] at d4
  have hdl := hN.blk.lt
  have c0 := hM.blk.cell (show (bodyC y (mem n))[0]? = some _ from rfl)
  have c4 := hM.blk.cell (show (bodyC y (mem n))[4]? = some _ from rfl)
  have hlen := len_none h4 hy h0
  have hfn := h4.find_some hy
  have hnl' := hM.blk.lt
  obtain ⟨K, hK⟩ : ∃ K, y.kind = K := ⟨_, rfl⟩
  have hgu : sl = false ∨ (sl = true ∧ K = 1) := by
    cases sl with
    | false => exact .inl rfl
    | true => exact .inr ⟨rfl, by rcases hsl with hs | hs; (· cases hs); (· omega)⟩
  rw [hK] at c0
  have h6 : TreeR w4.drew lab fb most room nds mb mem := hgr.out (w4.drewN 1) (grownBy_drewN g4 1)
  have g6 : w.grownBy w4.drew none := grownBy_drewN g4 1
  clear hfi hgr
  replace h6 := Lib.hid h6
  replace g6 := Lib.hid g6
  replace h4 := Lib.hid h4
  replace b4 := Lib.hid b4
  replace g4 := Lib.hid g4
  generalize hkb : (mem d).blk = kb at d4 hfi4 hdl ⊢
  generalize hkn : (mem n).blk = kn at c0 c4 hfn hnl'
  generalize (mem n).nv = nv at c4 hlen
  replace hkb := Lib.hid hkb
  replace hkn := Lib.hid hkn
  replace hN := Lib.hid hN
  replace hM := Lib.hid hM
  go_wp2_with fail
  refine hfi4.mono ?_
  rintro e w5 ⟨rfl, hw⟩
  obtain rfl := hw.symm
  clear hfi4 hw
  rcases hgu with rfl | ⟨rfl, rfl⟩
  all_goals
    go_upto_region 17 with fail
    go_still_tail 6, (by kernel_rfl)
    change wpList _ _ _ _ _ w4.drew
    have c6 : Chg F F w w4.drew := Chg.of_grown g6.out F
    obtain ⟨nb', hb', -, hkm⟩ := (h6.out.nd d x hx).nms _ hxn
    obtain rfl : nb' = nb := by rw [hnb] at hb'; cases hb'; rfl
    clear z0 z1 z2 hzl f0 hfl d4 c0 c4 hlen hfn h4 b4 g4 hN hM hb' g6
    generalize w4.drew = w6 at h6 hkm c6 ⊢
    go_wp2_with (at_delete; go_loud (refine wpList_del_k rfl _ _ 154 9 rfl 3 keyS Tryz.underlying154 Tryz.underlying9 rfl hkm nm rfl ?_); intro ob hkm3; refine Hid.out ?_)
    refine Lib.hid ?_
    have h7 := h6.out.pull hx hxn hnb ob nm hkm3
    have c7 : Chg F F w (setBlock w6 nb' ob) := c6.trans (Chg.setB ((hF nb').2 (by rw [hnl]; exact nofun)) ob)
    have hy7 : look (upd nds d { x with nms := some ((nmsOf x).filter fun p => p.1 ≠ nm) }) (n : Int) = some y := by rw [look_upd, if_neg hnd]; exact hy
    clear h6 c6 hkm hkm3
    generalize setBlock w6 nb' ob = w7 at h7 c7 ⊢
    have hN7 := h7.nd _ y hy7
    have c1 := hN7.blk.cell (show (bodyC y (mem n))[1]? = some _ from rfl)
    have fr1 := hN7.blk.frozen 1
    have fr5 := hN7.blk.frozen 5
    have fr6 := hN7.blk.frozen 6
    have c5 := hN7.blk.cell (show (bodyC y (mem n))[5]? = some _ from rfl)
    have c6 := hN7.blk.cell (show (bodyC y (mem n))[6]? = some _ from rfl)
    have hml := hN7.blk.lt
    have hlb := hN7.lb
    have s1 := h7.stay1 hy7 1 (.int .i64 ((y.named - 1 : Nat) : Int)) (y := { y with named := y.named - 1 }) rfl rfl rfl
    have s2 := s1.stay1 (look_upd_same hy7 _) 5 (.int .i64 ((0 : Nat) : Int)) (y := { y with named := y.named - 1, par := 0 }) rfl rfl rfl
    rw [upd_upd] at s2
    have s3 := s2.stay1 (look_upd_same hy7 _) 6 (.string ⟨#[]⟩) (y := { y with named := y.named - 1, par := 0, name := ⟨#[]⟩ }) rfl rfl rfl
    rw [upd_upd] at s3
    have hFk : F (mem (n : Int)).blk := (hF _).2 (by rw [hlb]; exact nofun)
    have c8 := ((c7.trans (Chg.set hFk 1 (.int .i64 ((y.named - 1 : Nat) : Int)))).trans (Chg.set hFk 5 (.int .i64 ((0 : Nat) : Int)))).trans (Chg.set hFk 6 (.string ⟨#[]⟩))
    have hy8 := look_upd_same hy7 { y with named := y.named - 1, par := 0, name := ⟨#[]⟩ }
    have hsw : Calls Tryz.prog 125 #[.pointer (some ⟨fb, 0, none⟩), .int .i64 (n : Int)] (((w7.setCell ⟨(mem (n : Int)).blk, 1, none⟩ (.int .i64 ((y.named - 1 : Nat) : Int))).setCell ⟨(mem (n : Int)).blk, 5, none⟩ (.int .i64 ((0 : Nat) : Int))).setCell ⟨(mem (n : Int)).blk, 6, none⟩ (.string ⟨#[]⟩)) fun e w' => e = .returned (.tuple #[]) ∧ ∃ F', TreeF w' F' fb most room (removed nds d x nm n y) ∧ Chg F F' w w' := by
      by_cases hst : 1 < y.named ∨ 0 < y.holds
      · refine (sweep_stay ⟨lab, mb, mem, s3, hF⟩ hy8 (by show (n : Int) = 1 ∨ 0 < y.named - 1 ∨ 0 < y.holds; omega)).mono ?_
        rintro e w' ⟨rfl, rfl⟩
        refine ⟨rfl, F, ?_, c8⟩
        unfold removed
        rw [if_pos hst]
        exact ⟨lab, mb, mem, s3, hF⟩
      · refine (sweep_gone ⟨lab, mb, mem, s3, hF⟩ hy8 h1 (show y.named - 1 = 0 by omega) (show y.holds = 0 by omega)).mono ?_
        rintro e w' ⟨rfl, F', a1, a2⟩
        refine ⟨rfl, F', ?_, c8.trans a2⟩
        unfold removed
        rw [if_neg hst]
        exact a1
    rw [hres.out] at hsw
    obtain ⟨Y, hY⟩ : ∃ Y, y.named = Y + 1 := ⟨y.named - 1, by omega⟩
    rw [hY] at c1 hsw hym
    rw [show ((Y + 1 - 1 : Nat) : Int) = (Y : Int) by omega, show ((0 : Nat) : Int) = 0 from rfl, hkn.out] at hsw
    rw [hkn.out] at c1 c5 c6 fr1 fr5 fr6 hml
    clear s1 s2 s3 h7 hN7 c7 c8 hy8 hy7 hFk hlb hkb hkn h
    generalize y.named = YN at hY
    go_wp2_with fail
    refine hsw.mono ?_
    rintro e w9 ⟨rfl, F', hT, hC⟩
    replace hT := Lib.hid hT
    replace hC := Lib.hid hC
    clear hsw c1 c5 c6 fr1 fr5 fr6 hml
    go_wp2
    go_ret
    exact ⟨rfl, F', hT.out, hC.out⟩
end
def removeE (nds : Nds) (a : Int) (p : List UInt8) : Int :=
  if (placeP nds a p).2 ≠ 0 then (placeP nds a p).2 else if isDirP (nameP p) = true then 1 else match look nds (placeP nds a p).1 with
  | none => 0
  | some x => if (findP (nmsOf x) (nameP p)).2 ≠ 0 then (findP (nmsOf x) (nameP p)).2 else match look nds (findP (nmsOf x) (nameP p)).1 with
    | none => 0
    | some y => if slashP p = true ∧ y.kind ≠ 1 then 12 else if nmsOf y ≠ [] then 14 else 0
section
variable {w : World} {lab : Nat → TL} {F : Nat → Prop} {fb most room mb : Nat} {nds : Nds} {mem : Int → NM}
theorem len_any (h : TreeR w lab fb most room nds mb mem) {k : Int} {y : Pn} (hy : look nds k = some y) : (Builtin.len_ #[154] 3 #[(mem k).nv]).run Tryz.prog w = .ok (.int .i64 ((nmsOf y).length : Nat)) w := by
  cases hn : y.nms with
  | none =>
    have := len_none h hy (by unfold nmsOf; rw [hn]; rfl)
    unfold nmsOf
    rw [hn]
    exact this
  | some l =>
    obtain ⟨nb, h1, h2, h3⟩ := (h.nd k y hy).nms l hn
    rw [h1]
    have := h3.count Tryz.underlying154 3
    rw [List.length_map] at this
    unfold nmsOf
    rw [hn]
    exact this
theorem remove_e1 (h : TreeR w lab fb most room nds mb mem) (T : TOk nds) (a : Int) (p : ByteArray) (hp : p.size ≤ 1000000) {er : Int} (herE : (placeP nds a (tl p)).2 = er) (her : er ≠ 0) :
    Calls Tryz.prog 77 #[.pointer (some ⟨fb, 0, none⟩), .int .i64 a, .string p] w fun e w' => e = .returned (.int .i64 er) ∧ w.grownBy w' none := by
  have hpl := place_any h T a p hp
  unfold plV at hpl
  rw [herE, if_neg her] at hpl
  have e0 : (er == 0) = false := by rw [beq_eq_false_iff_ne]; exact her
  clear h T her herE
  go_enter Tryz.func77, Tryz.ntmps77
  go_wp2_with fail
  refine hpl.mono ?_
  rintro e w1 ⟨rfl, g1⟩
  have g2 := grownBy_tr g1 (World.grownBy_alloc w1 (.cells #[.int .i64 0, .string ⟨#[]⟩, .bool false] 178) none)
  replace g2 := Lib.hid g2
  replace g1 := Lib.hid g1
  clear hpl
  go_wp2
  go_ret
  exact ⟨rfl, g2.out⟩
theorem remove_e2 (h : TreeR w lab fb most room nds mb mem) (T : TOk nds) (a : Int) (p : ByteArray) (hp : p.size ≤ 1000000) {d : Int} (hplE : placeP nds a (tl p) = (d, 0)) (hidE : isDirP (nameP (tl p)) = true) :
    Calls Tryz.prog 77 #[.pointer (some ⟨fb, 0, none⟩), .int .i64 a, .string p] w fun e w' => e = .returned (.int .i64 1) ∧ w.grownBy w' none := by
  have hpl := place_any h T a p hp
  obtain ⟨nm, hnmE⟩ : ∃ nm : ByteArray, (⟨(nameP (tl p)).toArray⟩ : ByteArray) = nm := ⟨_, rfl⟩
  have hnmt : tl nm = nameP (tl p) := by rw [← hnmE]; rfl
  obtain ⟨sl, hslE⟩ : ∃ sl, slashP (tl p) = sl := ⟨_, rfl⟩
  unfold plV at hpl
  rw [hplE] at hpl
  simp only [if_true] at hpl
  rw [hnmE, hslE] at hpl
  rw [← hnmt] at hidE
  have hid := fun (W : World) => isDir_any d nm sl W
  rw [hidE] at hid
  replace hid := Lib.hid hid
  clear hnmE hnmt hslE hplE hidE T h
  go_enter Tryz.func77, Tryz.ntmps77
  go_wp2_with fail
  refine hpl.mono ?_
  rintro e w1 ⟨rfl, g1⟩
  clear hpl
  go_upto_region 6 with fail
  have b2 : Blk (w1.alloc (.cells #[.int .i64 d, .string nm, .bool sl] 178)) w1.heap.size [.int .i64 d, .string nm, .bool sl] 178 := Blk.new w1 _ _
  have g2 : w.grownBy (w1.alloc (.cells #[.int .i64 d, .string nm, .bool sl] 178)) none := grownBy_tr g1 (World.grownBy_alloc w1 _ _)
  generalize (w1.alloc (.cells #[.int .i64 d, .string nm, .bool sl] 178)) = w2 at b2 g2 ⊢
  have hzw := g1.size
  generalize w1.heap.size = z at b2 hzw ⊢
  have hid2 := hid.out w2
  have z0 := b2.cell (i := 0) rfl
  have z1 := b2.cell (i := 1) rfl
  have z2 := b2.cell (i := 2) rfl
  have hz2 := b2.lt
  clear g1 hid
  go_wp2_with fail
  refine hid2.mono ?_
  rintro e w3 ⟨rfl, g3⟩
  have b3 : Blk w3 z _ _ := (g3.block z hz2 (by simp)).trans b2
  have g3' := grownBy_tr g2 g3
  clear hid2 z0 z1 z2 hz2 b2 g2 g3
  replace g3' := Lib.hid g3'
  clear b3
  go_wp2
  go_ret
  exact ⟨rfl, g3'.out⟩
theorem remove_e3 (h : TreeR w lab fb most room nds mb mem) (T : TOk nds) (a : Int) (p : ByteArray) (hp : p.size ≤ 1000000) {d : Int} {x : Pn} {er q : Int} (hplE : placeP nds a (tl p) = (d, 0)) (hx : look nds d = some x) (hxn : x.nms = some (nmsOf x)) (hidE : isDirP (nameP (tl p)) = false) (hfiE : findP (nmsOf x) (nameP (tl p)) = (q, er)) (her : er ≠ 0) :
    Calls Tryz.prog 77 #[.pointer (some ⟨fb, 0, none⟩), .int .i64 a, .string p] w fun e w' => e = .returned (.int .i64 er) ∧ w.grownBy w' none := by
  have e0 : (er != 0) = true := by rw [bne_iff_ne]; exact her
  have hpl := place_any h T a p hp
  obtain ⟨nm, hnmE⟩ : ∃ nm : ByteArray, (⟨(nameP (tl p)).toArray⟩ : ByteArray) = nm := ⟨_, rfl⟩
  have hnmt : tl nm = nameP (tl p) := by rw [← hnmE]; rfl
  obtain ⟨sl, hslE⟩ : ∃ sl, slashP (tl p) = sl := ⟨_, rfl⟩
  unfold plV at hpl
  rw [hplE] at hpl
  simp only [if_true] at hpl
  rw [hnmE, hslE] at hpl
  rw [← hnmt] at hidE hfiE
  have hid := fun (W : World) => isDir_any d nm sl W
  rw [hidE] at hid
  have hfi := fun (W : World) (hW : w.grownBy W none) => findD_any (h.grown hW) hx hxn nm
  rw [hfiE] at hfi
  have hgr := fun (W : World) (hW : w.grownBy W none) => h.grown hW
  replace hid := Lib.hid hid
  replace hfi := Lib.hid hfi
  replace hgr := Lib.hid hgr
  clear hnmE hnmt hslE hplE hfiE hidE T
  replace h := Lib.hid h
  go_enter Tryz.func77, Tryz.ntmps77
  go_wp2_with fail
  refine hpl.mono ?_
  rintro e w1 ⟨rfl, g1⟩
  clear hpl
  go_upto_region 6 with fail
  have b2 : Blk (w1.alloc (.cells #[.int .i64 d, .string nm, .bool sl] 178)) w1.heap.size [.int .i64 d, .string nm, .bool sl] 178 := Blk.new w1 _ _
  have g2 : w.grownBy (w1.alloc (.cells #[.int .i64 d, .string nm, .bool sl] 178)) none := grownBy_tr g1 (World.grownBy_alloc w1 _ _)
  generalize (w1.alloc (.cells #[.int .i64 d, .string nm, .bool sl] 178)) = w2 at b2 g2 ⊢
  have hzw := g1.size
  generalize w1.heap.size = z at b2 hzw ⊢
  have hid2 := hid.out w2
  have z0 := b2.cell (i := 0) rfl
  have z1 := b2.cell (i := 1) rfl
  have z2 := b2.cell (i := 2) rfl
  have hz2 := b2.lt
  clear g1 hid
  go_wp2_with fail
  refine hid2.mono ?_
  rintro e w3 ⟨rfl, g3⟩
  have b3 : Blk w3 z _ _ := (g3.block z hz2 (by simp)).trans b2
  have g3' := grownBy_tr g2 g3
  clear hid2 z0 z1 z2 hz2 b2 g2 g3
  have h3 := hgr.out w3 g3'
  have hlk := fun k => (hgr.out (w3.drewN k) (grownBy_drewN g3' k)).find_some hx
  have f0 := h3.fs.cell (i := 0) rfl
  have z0 := b3.cell (i := 0) rfl
  have hfl := h3.fs.lt
  have hzl := b3.lt
  replace b3 := Lib.hid b3
  replace g3' := Lib.hid g3'
  clear h3
  go_upto_region 8 with fail
  go_quiet (fail)
  have g4 : w.grownBy (w3.drewN nq) none := grownBy_drewN g3'.out nq
  have b4 : Blk (w3.drewN nq) z _ _ := b3.out
  generalize w3.drewN nq = w4 at g4 b4 ⊢
  clear f0 z0 hlk hfl hzl b3 g3'
  have hfi4 := hfi.out w4 g4
  have h4 := hgr.out w4 g4
  have z0 := b4.cell (i := 0) rfl
  have z1 := b4.cell (i := 1) rfl
  have z2 := b4.cell (i := 2) rfl
  have hzl := b4.lt
  have f0 := h4.fs.cell (i := 0) rfl
  have hfl := h4.fs.lt
  replace h4 := Lib.hid h4
  replace g4 := Lib.hid g4
  go_wp2_with fail
  refine hfi4.mono ?_
  rintro e w5 ⟨rfl, hw⟩
  obtain rfl := hw.symm
  clear hfi4 hw
  go_wp2
  go_ret
  exact ⟨rfl, g4.out⟩
theorem remove_e4 (h : TreeR w lab fb most room nds mb mem) (T : TOk nds) (a : Int) (p : ByteArray) (hp : p.size ≤ 1000000) {d : Int} {x y : Pn} {n : Nat} (hplE : placeP nds a (tl p) = (d, 0)) (hx : look nds d = some x) (hxn : x.nms = some (nmsOf x)) (hidE : isDirP (nameP (tl p)) = false) (hfiE : findP (nmsOf x) (nameP (tl p)) = ((n : Int), 0)) (hy : look nds (n : Int) = some y) (hsl : slashP (tl p) = true ∧ y.kind ≠ 1) :
    Calls Tryz.prog 77 #[.pointer (some ⟨fb, 0, none⟩), .int .i64 a, .string p] w fun e w' => e = .returned (.int .i64 12) ∧ w.grownBy w' none := by
  have hpl := place_any h T a p hp
  obtain ⟨nm, hnmE⟩ : ∃ nm : ByteArray, (⟨(nameP (tl p)).toArray⟩ : ByteArray) = nm := ⟨_, rfl⟩
  have hnmt : tl nm = nameP (tl p) := by rw [← hnmE]; rfl
  obtain ⟨sl, hslE⟩ : ∃ sl, slashP (tl p) = sl := ⟨_, rfl⟩
  unfold plV at hpl
  rw [hplE] at hpl
  simp only [if_true] at hpl
  rw [hnmE, hslE] at hpl
  rw [← hnmt] at hidE hfiE
  rw [hslE] at hsl
  have hid := fun (W : World) => isDir_any d nm sl W
  rw [hidE] at hid
  have hfi := fun (W : World) (hW : w.grownBy W none) => findD_any (h.grown hW) hx hxn nm
  rw [hfiE] at hfi
  have hgr := fun (W : World) (hW : w.grownBy W none) => h.grown hW
  replace hid := Lib.hid hid
  replace hsl := Lib.hid hsl
  replace hfi := Lib.hid hfi
  replace hgr := Lib.hid hgr
  clear hnmE hnmt hslE hplE hfiE hidE T
  replace h := Lib.hid h
  go_enter Tryz.func77, Tryz.ntmps77
  go_wp2_with fail
  refine hpl.mono ?_
  rintro e w1 ⟨rfl, g1⟩
  clear hpl
  go_upto_region 6 with fail
  have b2 : Blk (w1.alloc (.cells #[.int .i64 d, .string nm, .bool sl] 178)) w1.heap.size [.int .i64 d, .string nm, .bool sl] 178 := Blk.new w1 _ _
  have g2 : w.grownBy (w1.alloc (.cells #[.int .i64 d, .string nm, .bool sl] 178)) none := grownBy_tr g1 (World.grownBy_alloc w1 _ _)
  generalize (w1.alloc (.cells #[.int .i64 d, .string nm, .bool sl] 178)) = w2 at b2 g2 ⊢
  have hzw := g1.size
  generalize w1.heap.size = z at b2 hzw ⊢
  have hid2 := hid.out w2
  have z0 := b2.cell (i := 0) rfl
  have z1 := b2.cell (i := 1) rfl
  have z2 := b2.cell (i := 2) rfl
  have hz2 := b2.lt
  clear g1 hid
  go_wp2_with fail
  refine hid2.mono ?_
  rintro e w3 ⟨rfl, g3⟩
  have b3 : Blk w3 z _ _ := (g3.block z hz2 (by simp)).trans b2
  have g3' := grownBy_tr g2 g3
  clear hid2 z0 z1 z2 hz2 b2 g2 g3
  have h3 := hgr.out w3 g3'
  have hlk := fun k => (hgr.out (w3.drewN k) (grownBy_drewN g3' k)).find_some hx
  have f0 := h3.fs.cell (i := 0) rfl
  have z0 := b3.cell (i := 0) rfl
  have hfl := h3.fs.lt
  have hzl := b3.lt
  replace b3 := Lib.hid b3
  replace g3' := Lib.hid g3'
  clear h3
  go_upto_region 8 with fail
  go_quiet (fail)
  have g4 : w.grownBy (w3.drewN nq) none := grownBy_drewN g3'.out nq
  have b4 : Blk (w3.drewN nq) z _ _ := b3.out
  generalize w3.drewN nq = w4 at g4 b4 ⊢
  clear f0 z0 hlk hfl hzl b3 g3'
  have hfi4 := hfi.out w4 g4
  have h4 := hgr.out w4 g4
  have z0 := b4.cell (i := 0) rfl
  have z1 := b4.cell (i := 1) rfl
  have z2 := b4.cell (i := 2) rfl
  have hzl := b4.lt
  have f0 := h4.fs.cell (i := 0) rfl
  have hfl := h4.fs.lt
  have hM := h4.nd (n : Int) y hy
  have c0 := hM.blk.cell (show (bodyC y (mem n))[0]? = some _ from rfl)
  have c4 := hM.blk.cell (show (bodyC y (mem n))[4]? = some _ from rfl)
  have hlen := len_any h4 hy
  have hfn := h4.find_some hy
  have hnl' := hM.blk.lt
  obtain ⟨K, hK⟩ : ∃ K, y.kind = K := ⟨_, rfl⟩
  rw [hK] at c0
  replace hsl := hsl.out
  rw [hK] at hsl
  replace hsl := Lib.hid hsl
  replace h4 := Lib.hid h4
  replace b4 := Lib.hid b4
  replace g4 := Lib.hid g4
  generalize hkn : (mem n).blk = kn at c0 c4 hfn hnl'
  generalize (mem n).nv = nv at c4 hlen
  replace hkn := Lib.hid hkn
  replace hM := Lib.hid hM
  clear hfi hgr
  go_wp2_with fail
  refine hfi4.mono ?_
  rintro e w5 ⟨rfl, hw⟩
  obtain rfl := hw.symm
  clear hfi4 hw
  obtain ⟨rfl, hk1⟩ := hsl.out
  have hk2 : ((K : Int) != 1) = true := by rw [bne_iff_ne]; omega
  clear hk1
  go_wp2
  go_ret
  exact ⟨rfl, g4.out⟩
theorem remove_e5 (h : TreeR w lab fb most room nds mb mem) (T : TOk nds) (a : Int) (p : ByteArray) (hp : p.size ≤ 1000000) {d : Int} {x y : Pn} {n : Nat} (hplE : placeP nds a (tl p) = (d, 0)) (hx : look nds d = some x) (hxn : x.nms = some (nmsOf x)) (hidE : isDirP (nameP (tl p)) = false) (hfiE : findP (nmsOf x) (nameP (tl p)) = ((n : Int), 0)) (hy : look nds (n : Int) = some y) (hsl : y.kind = 1) (hne : nmsOf y ≠ []) :
    Calls Tryz.prog 77 #[.pointer (some ⟨fb, 0, none⟩), .int .i64 a, .string p] w fun e w' => e = .returned (.int .i64 14) ∧ w.grownBy w' none := by
  have hpl := place_any h T a p hp
  obtain ⟨nm, hnmE⟩ : ∃ nm : ByteArray, (⟨(nameP (tl p)).toArray⟩ : ByteArray) = nm := ⟨_, rfl⟩
  have hnmt : tl nm = nameP (tl p) := by rw [← hnmE]; rfl
  obtain ⟨sl, hslE⟩ : ∃ sl, slashP (tl p) = sl := ⟨_, rfl⟩
  unfold plV at hpl
  rw [hplE] at hpl
  simp only [if_true] at hpl
  rw [hnmE, hslE] at hpl
  rw [← hnmt] at hidE hfiE
  have hid := fun (W : World) => isDir_any d nm sl W
  rw [hidE] at hid
  have hfi := fun (W : World) (hW : w.grownBy W none) => findD_any (h.grown hW) hx hxn nm
  rw [hfiE] at hfi
  have hgr := fun (W : World) (hW : w.grownBy W none) => h.grown hW
  replace hid := Lib.hid hid
  replace hfi := Lib.hid hfi
  replace hgr := Lib.hid hgr
  clear hnmE hnmt hslE hplE hfiE hidE T
  replace h := Lib.hid h
  go_enter Tryz.func77, Tryz.ntmps77
  go_wp2_with fail
  refine hpl.mono ?_
  rintro e w1 ⟨rfl, g1⟩
  clear hpl
  go_upto_region 6 with fail
  have b2 : Blk (w1.alloc (.cells #[.int .i64 d, .string nm, .bool sl] 178)) w1.heap.size [.int .i64 d, .string nm, .bool sl] 178 := Blk.new w1 _ _
  have g2 : w.grownBy (w1.alloc (.cells #[.int .i64 d, .string nm, .bool sl] 178)) none := grownBy_tr g1 (World.grownBy_alloc w1 _ _)
  generalize (w1.alloc (.cells #[.int .i64 d, .string nm, .bool sl] 178)) = w2 at b2 g2 ⊢
  have hzw := g1.size
  generalize w1.heap.size = z at b2 hzw ⊢
  have hid2 := hid.out w2
  have z0 := b2.cell (i := 0) rfl
  have z1 := b2.cell (i := 1) rfl
  have z2 := b2.cell (i := 2) rfl
  have hz2 := b2.lt
  clear g1 hid
  go_wp2_with fail
  refine hid2.mono ?_
  rintro e w3 ⟨rfl, g3⟩
  have b3 : Blk w3 z _ _ := (g3.block z hz2 (by simp)).trans b2
  have g3' := grownBy_tr g2 g3
  clear hid2 z0 z1 z2 hz2 b2 g2 g3
  have h3 := hgr.out w3 g3'
  have hlk := fun k => (hgr.out (w3.drewN k) (grownBy_drewN g3' k)).find_some hx
  have f0 := h3.fs.cell (i := 0) rfl
  have z0 := b3.cell (i := 0) rfl
  have hfl := h3.fs.lt
  have hzl := b3.lt
  replace b3 := Lib.hid b3
  replace g3' := Lib.hid g3'
  clear h3
  go_upto_region 8 with fail
  go_quiet (fail)
  have g4 : w.grownBy (w3.drewN nq) none := grownBy_drewN g3'.out nq
  have b4 : Blk (w3.drewN nq) z _ _ := b3.out
  generalize w3.drewN nq = w4 at g4 b4 ⊢
  clear f0 z0 hlk hfl hzl b3 g3'
  have hfi4 := hfi.out w4 g4
  have h4 := hgr.out w4 g4
  have z0 := b4.cell (i := 0) rfl
  have z1 := b4.cell (i := 1) rfl
  have z2 := b4.cell (i := 2) rfl
  have hzl := b4.lt
  have f0 := h4.fs.cell (i := 0) rfl
  have hfl := h4.fs.lt
  have hM := h4.nd (n : Int) y hy
  have c0 := hM.blk.cell (show (bodyC y (mem n))[0]? = some _ from rfl)
  have c4 := hM.blk.cell (show (bodyC y (mem n))[4]? = some _ from rfl)
  have hlen := len_any h4 hy
  have hfn := h4.find_some hy
  have hnl' := hM.blk.lt
  obtain ⟨K, hK⟩ : ∃ K, y.kind = K := ⟨_, rfl⟩
  rw [hK] at c0 hsl
  replace h4 := Lib.hid h4
  replace b4 := Lib.hid b4
  replace g4 := Lib.hid g4
  generalize hkn : (mem n).blk = kn at c0 c4 hfn hnl'
  generalize (mem n).nv = nv at c4 hlen
  replace hkn := Lib.hid hkn
  replace hM := Lib.hid hM
  clear hfi hgr
  go_wp2_with fail
  refine hfi4.mono ?_
  rintro e w5 ⟨rfl, hw⟩
  obtain rfl := hw.symm
  clear hfi4 hw
  obtain rfl := hsl
  have hk2 : decide ((0 : Int) < ((nmsOf y).length : Nat)) = true := by
    have := List.length_pos_iff.2 hne
    simp only [decide_eq_true_eq]
    omega
  have hle : (0 : Int) < ((nmsOf y).length : Nat) := by simpa using hk2
  cases sl
  all_goals
    go_wp2
    go_ret
    exact ⟨rfl, g4.out⟩
end
theorem pig {α : Type} : ∀ (n : Nat) (l : List (Int × α)), (∀ j : Nat, 1 ≤ j → j ≤ n → ∃ x, look l (j : Int) = some x) → n ≤ l.length
  | 0, _, _ => Nat.zero_le _
  | n + 1, l, h => by
    obtain ⟨x, hx⟩ := h (n + 1) (by omega) (by omega)
    have h1 := pig n (away l ((n + 1 : Nat) : Int)) fun j a b => by
      obtain ⟨y, hy⟩ := h j a (by omega)
      exact ⟨y, by rw [look_away, if_neg (by omega)]; exact hy⟩
    have h2 : (away l ((n + 1 : Nat) : Int)).length < l.length := by
      unfold away
      exact List.length_filter_lt_length_iff_exists.2 ⟨_, look_mem hx, by simp⟩
    omega
theorem least_go {α : Type} (l : List (Int × α)) : ∀ n : Nat, (∀ j : Nat, 1 ≤ j → j ≤ n → ∃ x, look l (j : Int) = some x) ∨ ∃ m : Nat, 1 ≤ m ∧ m ≤ n ∧ look l (m : Int) = none ∧ ∀ j : Nat, 1 ≤ j → j < m → ∃ x, look l (j : Int) = some x
  | 0 => .inl fun j a b => by omega
  | n + 1 => by
    rcases least_go l n with h | ⟨m, a, b, c, d⟩
    · cases hl : look l ((n + 1 : Nat) : Int) with
      | none => exact .inr ⟨n + 1, by omega, Nat.le_refl _, hl, fun j a b => h j a (by omega)⟩
      | some x =>
        refine .inl fun j a b => ?_
        rcases Nat.lt_or_ge n j with e | e
        · obtain rfl : j = n + 1 := by omega
          exact ⟨x, hl⟩
        · exact h j a e
    · exact .inr ⟨m, a, by omega, c, d⟩
theorem least_ex {α : Type} (l : List (Int × α)) {x : α} (h1 : look l 1 = some x) : ∃ m : Nat, 2 ≤ m ∧ m ≤ l.length + 1 ∧ look l (m : Int) = none ∧ ∀ j : Nat, 1 ≤ j → j < m → ∃ x, look l (j : Int) = some x := by
  rcases least_go l (l.length + 1) with h | ⟨m, a, b, c, d⟩
  · have := pig _ l h
    omega
  · refine ⟨m, ?_, b, c, d⟩
    rcases Nat.lt_or_ge 1 m with e | e
    · exact e
    · obtain rfl : m = 1 := by omega
      rw [show ((1 : Nat) : Int) = 1 from rfl, h1] at c
      cases c
structure Stay (nds nds' : Nds) : Prop where
  up : ∀ k y, look nds k = some y → 0 < y.holds → ∃ y', look nds' k = some y' ∧ y'.kind = y.kind ∧ y'.holds = y.holds ∧ y'.data = y.data
  dn : ∀ k y', look nds' k = some y' → (∃ y, look nds k = some y ∧ y'.kind = y.kind ∧ y'.holds = y.holds ∧ nmsLen y' ≤ nmsLen y + 1) ∨ look nds k = none ∧ y'.holds = 0 ∧ y'.kind = 2 ∧ y'.nms = none ∧ nmsLen y' = 0
theorem Stay.rfl_ (nds : Nds) : Stay nds nds := ⟨fun _ y h _ => ⟨y, h, rfl, rfl, rfl⟩, fun _ y h => .inl ⟨y, h, rfl, rfl, Nat.le_succ _⟩⟩
theorem nmsLen_of (x : Pn) : nmsLen x = (nmsOf x).length := by
  unfold nmsLen nmsOf
  cases x.nms <;> rfl
theorem made_stay {nds : Nds} {d : Int} {x : Pn} {nm : ByteArray} {m : Nat} (hx : look nds d = some x) (hm : look nds (m : Int) = none) : Stay nds (madeA nds d x nm m) := by
  have hlk := look_made (nm := nm) hx hm
  constructor
  · intro k y hy _
    rw [hlk, if_neg (fun e => by rw [e, hm] at hy; cases hy)]
    by_cases hk : k = d
    · rw [if_pos hk]
      rw [hk, hx] at hy
      obtain rfl := Option.some.inj hy
      exact ⟨_, rfl, rfl, rfl, rfl⟩
    · rw [if_neg hk]
      exact ⟨y, hy, rfl, rfl, rfl⟩
  · intro k y' hy'
    rw [hlk] at hy'
    by_cases hkm : k = (m : Int)
    · rw [if_pos hkm] at hy'
      obtain rfl := Option.some.inj hy'
      exact .inr ⟨by rw [hkm]; exact hm, rfl, rfl, rfl, rfl⟩
    · rw [if_neg hkm] at hy'
      by_cases hk : k = d
      · rw [if_pos hk] at hy'
        obtain rfl := Option.some.inj hy'
        exact .inl ⟨x, by rw [hk]; exact hx, rfl, rfl, by rw [nmsLen_of x]; show (nmsOf x ++ [(nm, m)]).length ≤ _; simp⟩
      · rw [if_neg hk] at hy'
        exact .inl ⟨y', hy', rfl, rfl, Nat.le_succ _⟩
theorem unnamed_stay {nds : Nds} {d b : Int} {x y : Pn} (hx : look nds d = some x) (hy : look nds b = some y) (hdb : b ≠ d) (nm : ByteArray) : Stay nds (unnamed nds d x nm b y) := by
  have hlk := look_unnamed hx hy hdb nm
  constructor
  · intro k z hz _
    rw [hlk]
    by_cases hb : k = b
    · rw [if_pos hb]
      rw [hb, hy] at hz
      obtain rfl := Option.some.inj hz
      exact ⟨_, rfl, rfl, rfl, rfl⟩
    · rw [if_neg hb]
      by_cases hk : k = d
      · rw [if_pos hk]
        rw [hk, hx] at hz
        obtain rfl := Option.some.inj hz
        exact ⟨_, rfl, rfl, rfl, rfl⟩
      · rw [if_neg hk]
        exact ⟨z, hz, rfl, rfl, rfl⟩
  · intro k z' hz'
    rw [hlk] at hz'
    by_cases hb : k = b
    · rw [if_pos hb] at hz'
      obtain rfl := Option.some.inj hz'
      exact .inl ⟨y, by rw [hb]; exact hy, rfl, rfl, Nat.le_succ _⟩
    · rw [if_neg hb] at hz'
      by_cases hk : k = d
      · rw [if_pos hk] at hz'
        obtain rfl := Option.some.inj hz'
        refine .inl ⟨x, by rw [hk]; exact hx, rfl, rfl, ?_⟩
        rw [nmsLen_of x]
        show ((nmsOf x).filter _).length ≤ _
        exact Nat.le_trans (List.length_filter_le _ _) (Nat.le_succ _)
      · rw [if_neg hk] at hz'
        exact .inl ⟨z', hz', rfl, rfl, Nat.le_succ _⟩
theorem removed_stay {nds : Nds} {d b : Int} {x y : Pn} (hx : look nds d = some x) (hy : look nds b = some y) (hdb : b ≠ d) (nm : ByteArray) : Stay nds (removed nds d x nm b y) := by
  have hs := unnamed_stay hx hy hdb nm
  unfold removed
  split
  · exact hs
  · rename_i hno
    constructor
    · intro k z hz h0
      obtain ⟨z', a, b1, c, e⟩ := hs.up k z hz h0
      refine ⟨z', ?_, b1, c, e⟩
      rw [look_away, if_neg]
      · exact a
      · intro hk
        rw [hk, hy] at hz
        obtain rfl := Option.some.inj hz
        omega
    · intro k z' hz'
      rw [look_away] at hz'
      split at hz'
      · cases hz'
      · exact hs.dn k z' hz'
def makeE (nds : Nds) (most : Nat) (a : Int) (p : List UInt8) : Int :=
  if (placeP nds a p).2 ≠ 0 then (placeP nds a p).2 else match look nds (placeP nds a p).1 with
  | none => 0
  | some x => if freeP x (nameP p) (slashP p) ≠ 0 then freeP x (nameP p) (slashP p) else if most ≤ nds.length then 15 else 0
section
variable {w : World} {F : Nat → Prop} {fb most room : Nat} {nds : Nds}
theorem make_any (h : TreeF w F fb most room nds) (T : TOk nds) (a : Int) (p : ByteArray) (hp : p.size ≤ 1000000) :
    Calls Tryz.prog 43 #[.pointer (some ⟨fb, 0, none⟩), .int .i64 a, .string p, .int .i64 2, .string ⟨#[]⟩] w fun e w' => ∃ m : Nat, e = .returned (.tuple #[.int .i64 (m : Int), .int .i64 (makeE nds most a (tl p))]) ∧
      ∃ F' nds', TreeF w' F' fb most room nds' ∧ TOk nds' ∧ Stay nds nds' ∧ Chg F F' w w' ∧ (makeE nds most a (tl p) ≠ 0 → m = 0 ∧ nds' = nds) ∧
        (makeE nds most a (tl p) = 0 → 2 ≤ m ∧ m ≤ most ∧ look nds (m : Int) = none ∧ look nds' (m : Int) = some ⟨2, 1, 0, 0, [], none, ⟨#[]⟩⟩ ∧ nds'.length ≤ most ∧ ∀ k, look nds k = none → k ≠ (m : Int) → look nds' k = none) := by
  obtain ⟨lab, mb, mem, hR, hF⟩ := h
  have hno : ∀ {er : Int} {Q : Exit → World → Prop}, er ≠ 0 → makeE nds most a (tl p) = er → Calls Tryz.prog 43 #[.pointer (some ⟨fb, 0, none⟩), .int .i64 a, .string p, .int .i64 2, .string ⟨#[]⟩] w (fun e w' => e = .returned (.tuple #[.int .i64 0, .int .i64 er]) ∧ w.grownBy w' none) →
      Calls Tryz.prog 43 #[.pointer (some ⟨fb, 0, none⟩), .int .i64 a, .string p, .int .i64 2, .string ⟨#[]⟩] w fun e w' => ∃ m : Nat, e = .returned (.tuple #[.int .i64 (m : Int), .int .i64 (makeE nds most a (tl p))]) ∧
      ∃ F' nds', TreeF w' F' fb most room nds' ∧ TOk nds' ∧ Stay nds nds' ∧ Chg F F' w w' ∧ (makeE nds most a (tl p) ≠ 0 → m = 0 ∧ nds' = nds) ∧
        (makeE nds most a (tl p) = 0 → 2 ≤ m ∧ m ≤ most ∧ look nds (m : Int) = none ∧ look nds' (m : Int) = some ⟨2, 1, 0, 0, [], none, ⟨#[]⟩⟩ ∧ nds'.length ≤ most ∧ ∀ k, look nds k = none → k ≠ (m : Int) → look nds' k = none) := by
    intro er Q h0 hE hc
    refine hc.mono ?_
    rintro e w' ⟨rfl, g⟩
    rw [hE]
    exact ⟨0, rfl, F, nds, ⟨lab, mb, mem, hR.grown g, hF⟩, T, Stay.rfl_ nds, Chg.of_grown g F, fun _ => ⟨rfl, rfl⟩, fun e => absurd e h0⟩
  by_cases h1 : (placeP nds a (tl p)).2 ≠ 0
  · exact hno (Q := fun _ _ => True) h1 (by unfold makeE; rw [if_pos h1]) (make_err hR T a p hp h1)
  have h1' : (placeP nds a (tl p)).2 = 0 := Decidable.not_not.1 h1
  obtain ⟨x, hx, hxk⟩ := placeP_dir T h1'
  obtain ⟨d, hd⟩ : ∃ d, (placeP nds a (tl p)).1 = d := ⟨_, rfl⟩
  have hpl : placeP nds a (tl p) = (d, 0) := by rw [← hd, ← h1']
  rw [hd] at hx
  obtain ⟨l, hl⟩ := T.dir d x hx hxk
  have hxn : x.nms = some (nmsOf x) := by unfold nmsOf; rw [hl]; rfl
  by_cases h2 : freeP x (nameP (tl p)) (slashP (tl p)) ≠ 0
  · exact hno (Q := fun _ _ => True) h2 (by unfold makeE; rw [if_neg h1, hd, hx]; exact if_pos h2) (make_free hR T a p hp hpl hx hxn rfl h2)
  have h2' := Decidable.not_not.1 h2
  by_cases h3 : most ≤ nds.length
  · exact hno (Q := fun _ _ => True) (er := 15) (by decide) (by unfold makeE; rw [if_neg h1, hd, hx]; exact (if_neg h2).trans (if_pos h3)) (make_full hR T a p hp hpl hx hxn h2' h3)
  obtain ⟨r, hr, _⟩ := T.root
  obtain ⟨m, m1, m2, m3, m4⟩ := least_ex nds hr
  have hlim := hR.lim
  have hE : makeE nds most a (tl p) = 0 := by unfold makeE; rw [if_neg h1, hd, hx]; exact (if_neg h2).trans (if_neg h3)
  refine (make_file ⟨lab, mb, mem, hR, hF⟩ T a p hp hpl hx hxn h2' m m1 (by omega) m3 m4 (by omega) ⟨#[]⟩ (Nat.zero_le _) hlim.2.2).mono ?_
  rintro e w' ⟨rfl, F', hT, hC⟩
  rw [hE]
  have hxp : x.par ≠ 0 := fun e => by unfold freeP at h2'; rw [if_pos e] at h2'; cases h2'
  exact ⟨m, rfl, F', _, hT, T.made hR.apart hx hxk hxp _ m1 m3, made_stay hx m3, hC, fun e => absurd rfl e, fun _ => ⟨m1, by omega, m3, by
    have := look_made (nm := ⟨(nameP (tl p)).toArray⟩) hx m3 (m : Int)
    rw [if_pos rfl] at this
    exact this, by
    rw [upd_len, upd_len, List.length_append]
    show nds.length + 1 ≤ most
    omega, fun k hk hkm => by
    have := look_made (nm := ⟨(nameP (tl p)).toArray⟩) hx m3 k
    rw [if_neg hkm, if_neg (fun e => by rw [e, hx] at hk; cases hk), hk] at this
    exact this⟩⟩
end
theorem findP_look {l : List (ByteArray × Nat)} {p : List UInt8} (h : (findP l p).2 = 0) : ∃ n : Nat, findP l p = ((n : Int), 0) ∧ look l ⟨p.toArray⟩ = some n := by
  unfold findP at *
  split at h
  · cases h
  · rename_i hc
    rw [if_neg hc]
    cases hq : look l ⟨p.toArray⟩ with
    | none => rw [hq] at h; cases h
    | some n => exact ⟨n, by simp, rfl⟩
theorem TreeR.apartN {w : World} {lab : Nat → TL} {fb most room mb : Nat} {nds : Nds} {mem : Int → NM} (h : TreeR w lab fb most room nds mb mem) {k : Int} {x : Pn} (hx : look nds k = some x) (hxn : x.nms = some (nmsOf x)) : ApartN (nmsOf x) := by
  obtain ⟨nb, -, -, hk⟩ := (h.nd k x hx).nms _ hxn
  have := hk.apart
  rw [List.pairwise_map] at this
  exact this
theorem TOk.named_le {nds : Nds} (T : TOk nds) (hd : Apart nds) (hM : ∀ k y, look nds k = some y → nmsLen y ≤ 900) (hl : nds.length ≤ 1100) {k : Int} {y : Pn} (hy : look nds k = some y) (hk : k ≠ 1) : y.named ≤ 1000000 := by
  rw [T.cnt k y hy hk]
  have := total_le_const (f := cntE k) (l := nds) (c := 900) fun p hp => by
    have := hM p.1 p.2 (look_of_mem hd hp)
    rw [nmsLen_of] at this
    unfold cntE
    exact Nat.le_trans (List.length_filter_le _ _) this
  omega
theorem removed_len (nds : Nds) (d : Int) (x : Pn) (nm : ByteArray) (b : Int) (y : Pn) : (removed nds d x nm b y).length ≤ nds.length := by
  have h : (unnamed nds d x nm b y).length = nds.length := by unfold unnamed; rw [upd_len, upd_len]
  unfold removed
  split
  · rw [h]; exact Nat.le_refl _
  · exact Nat.le_trans (away_len _ _) (by rw [h]; exact Nat.le_refl _)
theorem removed_none {nds : Nds} {d b : Int} {x y : Pn} (hx : look nds d = some x) (hy : look nds b = some y) (hdb : b ≠ d) (nm : ByteArray) (k : Int) (hk : look nds k = none) : look (removed nds d x nm b y) k = none := by
  have h : look (unnamed nds d x nm b y) k = none := by
    rw [look_unnamed hx hy hdb, if_neg (fun e => by rw [e, hy] at hk; cases hk), if_neg (fun e => by rw [e, hx] at hk; cases hk)]
    exact hk
  unfold removed
  split
  · exact h
  · rw [look_away, h]; split <;> rfl
section
variable {w : World} {F : Nat → Prop} {fb most room : Nat} {nds : Nds}
theorem remove_any (h : TreeF w F fb most room nds) (T : TOk nds) (hM : ∀ k y, look nds k = some y → nmsLen y ≤ 900) (hln : nds.length ≤ 1100) (a : Int) (p : ByteArray) (hp : p.size ≤ 1000000) :
    Calls Tryz.prog 77 #[.pointer (some ⟨fb, 0, none⟩), .int .i64 a, .string p] w fun e w' => e = .returned (.int .i64 (removeE nds a (tl p))) ∧
      ∃ F' nds', TreeF w' F' fb most room nds' ∧ TOk nds' ∧ Stay nds nds' ∧ Chg F F' w w' ∧ nds'.length ≤ nds.length ∧ ∀ k, look nds k = none → look nds' k = none := by
  obtain ⟨lab, mb, mem, hR, hF⟩ := h
  have hno : ∀ {er : Int}, removeE nds a (tl p) = er → Calls Tryz.prog 77 #[.pointer (some ⟨fb, 0, none⟩), .int .i64 a, .string p] w (fun e w' => e = .returned (.int .i64 er) ∧ w.grownBy w' none) →
      Calls Tryz.prog 77 #[.pointer (some ⟨fb, 0, none⟩), .int .i64 a, .string p] w fun e w' => e = .returned (.int .i64 (removeE nds a (tl p))) ∧
      ∃ F' nds', TreeF w' F' fb most room nds' ∧ TOk nds' ∧ Stay nds nds' ∧ Chg F F' w w' ∧ nds'.length ≤ nds.length ∧ ∀ k, look nds k = none → look nds' k = none := by
    intro er hE hc
    refine hc.mono ?_
    rintro e w' ⟨rfl, g⟩
    rw [hE]
    exact ⟨rfl, F, nds, ⟨lab, mb, mem, hR.grown g, hF⟩, T, Stay.rfl_ nds, Chg.of_grown g F, Nat.le_refl _, fun _ e => e⟩
  by_cases h1 : (placeP nds a (tl p)).2 ≠ 0
  · exact hno (by unfold removeE; rw [if_pos h1]) (remove_e1 hR T a p hp rfl h1)
  have h1' : (placeP nds a (tl p)).2 = 0 := Decidable.not_not.1 h1
  obtain ⟨x, hx, hxk⟩ := placeP_dir T h1'
  obtain ⟨d, hd⟩ : ∃ d, (placeP nds a (tl p)).1 = d := ⟨_, rfl⟩
  have hpl : placeP nds a (tl p) = (d, 0) := by rw [← hd, ← h1']
  rw [hd] at hx
  obtain ⟨l, hl⟩ := T.dir d x hx hxk
  have hxn : x.nms = some (nmsOf x) := by unfold nmsOf; rw [hl]; rfl
  by_cases h2 : isDirP (nameP (tl p)) = true
  · exact hno (er := 1) (by unfold removeE; rw [if_neg h1, if_pos h2]) (remove_e2 hR T a p hp hpl h2)
  have h2' : isDirP (nameP (tl p)) = false := by simpa using h2
  by_cases h3 : (findP (nmsOf x) (nameP (tl p))).2 ≠ 0
  · exact hno (by unfold removeE; rw [if_neg h1, if_neg h2, hd, hx]; exact if_pos h3) (remove_e3 hR T a p hp hpl hx hxn h2' rfl h3)
  obtain ⟨n, hn, hnl⟩ := findP_look (Decidable.not_not.1 h3)
  obtain ⟨_, y, hy⟩ := T.ent d x hx _ (look_mem hnl)
  by_cases h4 : slashP (tl p) = true ∧ y.kind ≠ 1
  · exact hno (er := 12) (by unfold removeE; rw [if_neg h1, if_neg h2, hd, hx]; refine (if_neg h3).trans ?_; rw [hn, hy]; exact if_pos h4) (remove_e4 hR T a p hp hpl hx hxn h2' hn hy h4)
  by_cases h5 : nmsOf y ≠ []
  · have hk : y.kind = 1 := Decidable.byContradiction fun e => h5 (by unfold nmsOf; rw [T.leaf _ y hy e]; rfl)
    exact hno (er := 14) (by unfold removeE; rw [if_neg h1, if_neg h2, hd, hx]; refine (if_neg h3).trans ?_; rw [hn, hy]; exact (if_neg h4).trans (if_pos h5)) (remove_e5 hR T a p hp hpl hx hxn h2' hn hy hk h5)
  have h5' := Decidable.not_not.1 h5
  have ha := hR.apartN hx hxn
  have hE : removeE nds a (tl p) = 0 := by unfold removeE; rw [if_neg h1, if_neg h2, hd, hx]; refine (if_neg h3).trans ?_; rw [hn, hy]; exact (if_neg h4).trans (if_neg h5)
  obtain ⟨-, q1, q2, q3⟩ := T.unnamed hR.apart hx hxk ha hnl hy h5'
  refine (remove_ok ⟨lab, mb, mem, hR, hF⟩ T a p hp hpl hx hxn h2' hn hy (by
    cases hs : slashP (tl p) with
    | false => exact .inl rfl
    | true => exact .inr (Decidable.byContradiction fun e => h4 ⟨hs, e⟩)) h5' q2 q3 q1 (T.named_le hR.apart hM hln hy q2)).mono ?_
  rintro e w' ⟨rfl, F', hT, hC⟩
  rw [hE]
  exact ⟨rfl, F', _, hT, T.removed hR.apart hx hxk ha hnl hy h5', removed_stay hx hy q3 _, hC, removed_len _ _ _ _ _ _, removed_none hx hy q3 _⟩
end
theorem freeP_no (x : Pn) (nm : List UInt8) (sl : Bool) : freeP x nm sl ≠ 43 := by
  unfold freeP
  split
  · decide
  · split
    · decide
    · split
      · decide
      · split
        · unfold findP
          split
          · decide
          · split <;> simp
        · split <;> decide
theorem walkE_no {e : Int} (h : walkE e) : e ≠ 43 := by unfold walkE at h; omega
theorem makeE_no {nds : Nds} (T : TOk nds) (most : Nat) (a : Int) (p : List UInt8) : makeE nds most a p ≠ 43 := by
  unfold makeE
  split
  · rcases placeP_e T a p with h | h
    · exact walkE_no h
    · omega
  · split
    · decide
    · split
      · exact freeP_no _ _ _
      · split <;> decide
theorem findP_no (l : List (ByteArray × Nat)) (p : List UInt8) : (findP l p).2 ≠ 43 := by
  unfold findP
  split
  · decide
  · split <;> simp
theorem removeE_no {nds : Nds} (T : TOk nds) (a : Int) (p : List UInt8) : removeE nds a p ≠ 43 := by
  unfold removeE
  split
  · rcases placeP_e T a p with h | h
    · exact walkE_no h
    · omega
  · split
    · decide
    · split
      · decide
      · split
        · exact findP_no _ _
        · split
          · decide
          · split
            · decide
            · split <;> decide
structure Inv (s : St) (R D : Int → Nat) (B : Nat) : Prop where
  good : Good ⟨D, 12⟩ s
  bnd : Bnd s B
  ref : ∀ k x, look s.hs k = some x → x.refs = R k
  ex : ∀ k, k ≠ 0 → 0 < R k → ∃ x, look s.hs k = some x
  dir : ∀ n, 0 < D n → ∃ y, look s.nds n = some y
  tok : TOk s.nds
  cnt : s.nds.length ≤ 12
  nms : ∀ k y, look s.nds k = some y → nmsLen y ≤ B + 3
  bs : ∀ k, base k ≤ R k
  nof : ∀ k x, look s.hs k = some x → k ≤ 4 → ∀ n, nF n x = 0
def what (x : Hd) : Nat × (Int → Nat) := (x.refs, fun n => nF n x)
structure Sm (s s' : St) : Prop where
  refs : ∀ k, (look s'.hs k).map what = (look s.hs k).map what
  tree : s'.nds = s.nds ∨ ∃ n y d, look s.nds n = some y ∧ s'.nds = upd s.nds n { y with data := d }
theorem Sm.same (s : St) (es : List Ent) (t : Nat) : Sm s { s with es := es, tot := t } := ⟨fun _ => rfl, .inl rfl⟩
theorem upd_refs {hs : Hs} {k : Int} {x y : Hd} (hk : look hs k = some x) (hr : what y = what x) (j : Int) : (look (upd hs k y) j).map what = (look hs j).map what := by
  rw [look_upd]
  split
  · rename_i e
    rw [e, hk]
    exact congrArg some hr
  · rfl
theorem Sm.kd {s : St} {k : Int} {x y : Hd} (hk : look s.hs k = some x) (hr : what y = what x) : Sm s { s with hs := upd s.hs k y } := ⟨upd_refs hk hr, .inl rfl⟩
theorem Sm.wrote {s : St} {k : Int} {x y : Hd} (hk : look s.hs k = some x) (hr : what y = what x) {n : Int} {z : Pn} (hz : look s.nds n = some z) (d : List UInt8) : Sm s { s with nds := upd s.nds n { z with data := d }, hs := upd s.hs k y } := ⟨upd_refs hk hr, .inr ⟨n, z, d, hz, rfl⟩⟩
section
variable {w : World} {F : Nat → Prop} {c : Sy} {s s' : St} {R D R' D' : Int → Nat} {B : Nat} {k : Int}
theorem Inv.le (h : Inv s R D B) {B' : Nat} (hB : B ≤ B') : Inv s R D B' := ⟨h.good, h.bnd.le hB, h.ref, h.ex, h.dir, h.tok, h.cnt, fun k y hy => by have := h.nms k y hy; omega, h.bs, h.nof⟩
theorem Inv.congr (h : Inv s R D B) (hk : look s.hs 0 = none) (hR : ∀ k, k ≠ 0 → R' k = R k) (hD : ∀ n, D' n = D n) : Inv s R' D' B := by
  obtain rfl : D' = D := funext hD
  refine ⟨h.good, h.bnd, fun k x hx => ?_, fun k k0 h0 => h.ex k k0 (by rw [← hR k k0]; exact h0), h.dir, h.tok, h.cnt, h.nms, fun k => ?_, h.nof⟩
  · rw [hR k (fun e => by rw [e, hk] at hx; cases hx)]
    exact h.ref k x hx
  · by_cases k0 : k = 0
    · rw [k0]; exact Nat.zero_le _
    · rw [hR k k0]; exact h.bs k
theorem Inv.sm (I : Inv s R D B) (h : Sys w F c s) (g : Good ⟨D, 12⟩ s') (b : Bnd s' (B + 1)) (m : Sm s s') : Inv s' R D (B + 1) := by
  have hex : ∀ k x, look s'.hs k = some x → ∃ z, look s.hs k = some z ∧ what z = what x := fun k x hx => by
    have := m.refs k
    rw [hx] at this
    cases hz : look s.hs k with
    | none => rw [hz] at this; cases this
    | some z => rw [hz] at this; exact ⟨z, rfl, (Option.some.inj this).symm⟩
  have hex' : ∀ k x, look s.hs k = some x → ∃ z, look s'.hs k = some z := fun k x hx => by
    have := m.refs k
    rw [hx] at this
    cases hz : look s'.hs k with
    | none => rw [hz] at this; cases this
    | some z => exact ⟨z, rfl⟩
  have ht : TOk s'.nds ∧ s'.nds.length ≤ 12 ∧ (∀ k y, look s'.nds k = some y → nmsLen y ≤ B + 1 + 3) ∧ ∀ n y, look s.nds n = some y → ∃ y', look s'.nds n = some y' := by
    rcases m.tree with e | ⟨n, y, d, hy, e⟩
    · rw [e]
      exact ⟨I.tok, I.cnt, fun k y hy => Nat.le_trans (I.nms k y hy) (by omega), fun n y hy => ⟨y, hy⟩⟩
    · rw [e]
      refine ⟨I.tok.upd h.ndd hy rfl rfl rfl rfl rfl, by rw [upd_len]; exact I.cnt, fun k z hz => ?_, fun j z hz => ?_⟩
      · rw [look_upd] at hz
        split at hz
        · rw [hy] at hz
          obtain rfl := Option.some.inj hz
          exact Nat.le_trans (I.nms n y hy) (by omega)
        · exact Nat.le_trans (I.nms k z hz) (by omega)
      · rw [look_upd]
        split
        · exact ⟨_, by rw [hy]; rfl⟩
        · exact ⟨z, hz⟩
  obtain ⟨t1, t2, t3, t4⟩ := ht
  refine ⟨g, b, fun k x hx => ?_, fun k k0 h0 => ?_, fun n h0 => ?_, t1, t2, t3, I.bs, fun k x hx h4 n => ?_⟩
  · obtain ⟨z, e1, e2⟩ := hex k x hx
    rw [← show z.refs = x.refs from congrArg Prod.fst e2]
    exact I.ref k z e1
  · obtain ⟨z, hz⟩ := I.ex k k0 h0
    exact hex' k z hz
  · obtain ⟨y, hy⟩ := I.dir n h0
    exact t4 n y hy
  · obtain ⟨z, e1, e2⟩ := hex k x hx
    rw [← show nF n z = nF n x from congrFun (congrArg Prod.snd e2) n]
    exact I.nof k z e1 h4 n
def Nxi (R D : Int → Nat) (c : Sy) (B : Nat) (F : Nat → Prop) (w w' : World) : Prop := ∃ F' s', Sys w' F' c s' ∧ Inv s' R D B ∧ Chg F F' w w'
theorem Nxi.same (h : Sys w F c s) (I : Inv s R D B) {w' : World} (hg : w.grownBy w' none) : Nxi R D c (B + 1) F w w' := ⟨F, s, h.grown hg, I.le (Nat.le_succ _), Chg.of_grown hg F⟩
theorem iRead (h : Sys w F c s) (I : Inv s R D B) (hB : B ≤ 1000) (k j : Int) (hj : j ≤ 9223372036854775807) :
    Calls Tryz.prog 36 #[ptrV c.tb, .int .i64 k, .int .i64 j] w fun e w' => (∃ S er, e = .returned (.tuple #[.string S, .int .i64 er]) ∧ er ≠ 43) ∧ Nxi R D c (B + 1) F w w' := by
  have g := I.good
  have b := I.bnd
  cases hk : look s.hs k with
  | none =>
    refine (sys_Read_none h hk j).mono ?_
    rintro e w' ⟨rfl, hw⟩
    obtain rfl := hw.symm
    exact ⟨⟨_, _, rfl, by decide⟩, Nxi.same h I (grownBy_re w)⟩
  | some x =>
    have hr := b.refs k x hk
    have hr1 := g.refs k x hk
    have htot := b.tot
    obtain ⟨refs, kd⟩ := x
    cases kd with
    | file n a r wr m =>
      obtain ⟨⟨y, hy, hyk⟩, ha⟩ := g.file k _ hk n a r wr m rfl
      cases r with
      | false =>
        refine (sys_Read_file_no (r := true) h hk rfl j).mono ?_
        rintro e w' ⟨rfl, hw⟩
        exact ⟨⟨_, _, rfl, by decide⟩, Nxi.same h I hw⟩
      | true =>
        by_cases hj0 : j < 0
        · refine (sys_Read_file_neg (r := true) h hk rfl j hj0).mono ?_
          rintro e w' ⟨rfl, hw⟩
          exact ⟨⟨_, _, rfl, by decide⟩, Nxi.same h I hw⟩
        · obtain ⟨i, rfl⟩ : ∃ i : Nat, j = (i : Int) := ⟨j.toNat, by omega⟩
          have hd := h.data hy
          refine (sys_read_file h hk rfl hy (by omega) (by omega) i (by omega) (by omega)).mono ?_
          rintro e w' ⟨rfl, F', h1, h2⟩
          refine ⟨⟨_, _, rfl, by decide⟩, F', _, h1, I.sm h (g.kd h.hsd hk hr1 (fun _ => rfl) (fun _ => rfl) (fun _ => rfl) (fun n' a' r' w' m' e => ?_) (fun p e => by rcases e with e | e <;> cases e)) (b.kd hk (Nat.le_succ_of_le hr)) (by first | exact Sm.same _ _ _ | exact Sm.kd hk rfl | exact Sm.refl _), h2⟩
          simp only [Kd.file.injEq] at e
          obtain ⟨rfl, rfl, rfl, rfl, rfl⟩ := e
          exact ⟨take_drop_le _ _ _ hd ha, a, rfl⟩
    | text T a =>
      by_cases hj0 : j < 0
      · refine (sys_Read_text_neg h hk (T := ⟨T.toArray⟩) rfl j hj0).mono ?_
        rintro e w' ⟨rfl, hw⟩
        exact ⟨⟨_, _, rfl, by decide⟩, Nxi.same h I hw⟩
      · obtain ⟨i, rfl⟩ : ∃ i : Nat, j = (i : Int) := ⟨j.toNat, by omega⟩
        refine (sys_read_text h hk (S := ⟨T.toArray⟩) rfl i).mono ?_
        rintro e w' ⟨rfl, F', h1, h2⟩
        exact ⟨⟨_, _, rfl, by decide⟩, F', _, h1, I.sm h (g.kd h.hsd hk hr1 (fun _ => rfl) (fun _ => rfl) (fun _ => rfl) (fun n' a' r' w' m' e => by cases e) (fun p e => by rcases e with e | e <;> cases e)) (b.kd hk (Nat.le_succ_of_le hr)) (by first | exact Sm.same _ _ _ | exact Sm.kd hk rfl | exact Sm.refl _), h2⟩
    | sink l m =>
      refine (sys_Read_sink h hk rfl j).mono ?_
      rintro e w' ⟨rfl, hw⟩
      exact ⟨⟨_, _, rfl, by decide⟩, Nxi.same h I hw⟩
    | rd p =>
      obtain ⟨pb, bb, ends, bf, hpp, he⟩ := g.pipeEnd hk (.inl rfl)
      by_cases hj0 : j < 0
      · refine (sys_Read_rd_neg h hk rfl hpp he j hj0).mono ?_
        rintro e w' ⟨rfl, hw⟩
        exact ⟨⟨_, _, rfl, by decide⟩, Nxi.same h I hw⟩
      · obtain ⟨i, rfl⟩ : ∃ i : Nat, j = (i : Int) := ⟨j.toNat, by omega⟩
        refine (sys_read_rd h hk rfl hpp he i (by omega)).mono ?_
        rintro e w' ⟨rfl, F', b', h1, h2, _, _⟩
        exact ⟨⟨_, _, rfl, by decide⟩, F', _, h1, I.sm h (g.buf he s.tot) (b.same (List.length_set ..) (by omega)) (by first | exact Sm.same _ _ _ | exact Sm.kd hk rfl | exact Sm.refl _), h2⟩
    | wr p =>
      obtain ⟨pb, bb, ends, bf, hpp, he⟩ := g.pipeEnd hk (.inr rfl)
      refine (sys_Read_wr h hk rfl hpp j).mono ?_
      rintro e w' ⟨rfl, hw⟩
      exact ⟨⟨_, _, rfl, by decide⟩, Nxi.same h I hw⟩
theorem iWrite (h : Sys w F c s) (I : Inv s R D B) (hB : B ≤ 1000) (k : Int) (t : ByteArray) (ht : t.size ≤ 100) :
    Calls Tryz.prog 39 #[ptrV c.tb, .int .i64 k, .string t] w fun e w' => (∃ er, e = .returned (.int .i64 er) ∧ er ≠ 43) ∧ Nxi R D c (B + 1) F w w' := by
  have g := I.good
  have b := I.bnd
  cases hk : look s.hs k with
  | none =>
    refine (sys_Write_none h hk t).mono ?_
    rintro e w' ⟨rfl, hw⟩
    obtain rfl := hw.symm
    exact ⟨⟨_, rfl, by decide⟩, Nxi.same h I (grownBy_re w)⟩
  | some x =>
    have hr := b.refs k x hk
    have hr1 := g.refs k x hk
    have htot := b.tot
    obtain ⟨refs, kd⟩ := x
    cases kd with
    | file n a r wr m =>
      obtain ⟨⟨y, hy, hyk⟩, ha⟩ := g.file k _ hk n a r wr m rfl
      have hd := h.data hy
      have hnl : nmsLen y = 0 := by unfold nmsLen; rw [(g.nms n y hy).2 hyk]
      cases wr with
      | false =>
        refine (sys_Write_file_no (wr := true) h hk rfl t).mono ?_
        rintro e w' ⟨rfl, hw⟩
        exact ⟨⟨_, rfl, by decide⟩, Nxi.same h I hw⟩
      | true =>
        cases m with
        | false =>
          by_cases hbig : 4096 < a + t.size
          · refine (sys_write_file_err h hk rfl t (fun Ft => refuses_big hy hyk a t (by omega) (by omega) hbig) (by decide)).mono ?_
            rintro e w' ⟨rfl, F', h1, h2⟩
            exact ⟨⟨_, rfl, by decide⟩, F', _, h1, I.sm h (g) (b.le (Nat.le_succ _)) (by first | exact Sm.same _ _ _ | exact Sm.kd hk rfl | exact Sm.refl _), h2⟩
          · by_cases hroom : t.size = 0 ∨ usedN s.nds + (a + t.size - y.data.length) ≤ c.room
            · refine (sys_write_file h hk rfl hy hyk t (by omega) hroom).mono ?_
              rintro e w' ⟨rfl, F', h1, h2⟩
              exact ⟨⟨_, rfl, by decide⟩, F', _, h1, I.sm h (g.wrote h hk rfl hy _ (by omega)) ((b.kd (y := ⟨refs, .file n (a + t.size) r true false⟩) hk (Nat.le_succ_of_le hr)).nds _) (by first | exact Sm.same _ _ _ | exact Sm.kd hk rfl | exact Sm.wrote (y := ⟨refs, .file n (a + t.size) r true false⟩) hk rfl hy _ | exact Sm.wrote (y := ⟨refs, .file n (y.data.length + t.size) r true true⟩) hk rfl hy _ | exact Sm.refl _), h2⟩
            · have hu := h.used
              refine (sys_write_file_err h hk rfl t (fun Ft => refuses_room hy hyk a t (by omega) (by omega) (by omega) (by omega)) (by decide)).mono ?_
              rintro e w' ⟨rfl, F', h1, h2⟩
              exact ⟨⟨_, rfl, by decide⟩, F', _, h1, I.sm h (g) (b.le (Nat.le_succ _)) (by first | exact Sm.same _ _ _ | exact Sm.kd hk rfl | exact Sm.refl _), h2⟩
        | true =>
          have hu := h.used
          by_cases hbig : 4096 < y.data.length + t.size
          · refine (sys_write_more_err h hk rfl hy hyk hnl hd t (fun Ft => refuses_big hy hyk _ t (by omega) (by omega) hbig) (by decide)).mono ?_
            rintro e w' ⟨rfl, F', h1, h2⟩
            exact ⟨⟨_, rfl, by decide⟩, F', _, h1, I.sm h (g.place h hk rfl hd) (b.kd hk (Nat.le_succ_of_le hr)) (by first | exact Sm.same _ _ _ | exact Sm.kd hk rfl | exact Sm.refl _), h2⟩
          · by_cases hroom : usedN s.nds + t.size ≤ c.room
            · refine (sys_write_more h hk rfl hy hyk hnl t (by omega) hroom).mono ?_
              rintro e w' ⟨rfl, F', h1, h2⟩
              exact ⟨⟨_, rfl, by decide⟩, F', _, h1, I.sm h (g.wrote h hk rfl hy _ (by omega)) ((b.kd (y := ⟨refs, .file n (y.data.length + t.size) r true true⟩) hk (Nat.le_succ_of_le hr)).nds _) (by first | exact Sm.same _ _ _ | exact Sm.kd hk rfl | exact Sm.wrote (y := ⟨refs, .file n (a + t.size) r true false⟩) hk rfl hy _ | exact Sm.wrote (y := ⟨refs, .file n (y.data.length + t.size) r true true⟩) hk rfl hy _ | exact Sm.refl _), h2⟩
            · refine (sys_write_more_err h hk rfl hy hyk hnl hd t (fun Ft => refuses_room hy hyk _ t (by omega) (by omega) (by omega) (by omega)) (by decide)).mono ?_
              rintro e w' ⟨rfl, F', h1, h2⟩
              exact ⟨⟨_, rfl, by decide⟩, F', _, h1, I.sm h (g.place h hk rfl hd) (b.kd hk (Nat.le_succ_of_le hr)) (by first | exact Sm.same _ _ _ | exact Sm.kd hk rfl | exact Sm.refl _), h2⟩
    | text T a =>
      refine (sys_Write_text h hk (T := ⟨T.toArray⟩) rfl t).mono ?_
      rintro e w' ⟨rfl, hw⟩
      exact ⟨⟨_, rfl, by decide⟩, Nxi.same h I hw⟩
    | sink l m =>
      refine (sys_write_sink h hk rfl t (by omega)).mono ?_
      rintro e w' (⟨_, rfl, F', h1, h2⟩ | ⟨_, rfl, h1, h2⟩)
      · exact ⟨⟨_, rfl, by decide⟩, F', _, h1, I.sm h (g.kd h.hsd hk hr1 (fun _ => rfl) (fun _ => rfl) (fun _ => rfl) (fun n' a' r' w' m' e => by cases e) (fun p e => by rcases e with e | e <;> cases e)) (b.kd hk (Nat.le_succ_of_le hr)) (by first | exact Sm.same _ _ _ | exact Sm.kd hk rfl | exact Sm.refl _), h2⟩
      · exact ⟨⟨_, rfl, by decide⟩, F, s, h1, I.sm h (g) (b.le (Nat.le_succ _)) (by first | exact Sm.same _ _ _ | exact Sm.kd hk rfl | exact Sm.refl _), h2⟩
    | rd p =>
      obtain ⟨pb, bb, ends, bf, hpp, he⟩ := g.pipeEnd hk (.inl rfl)
      refine (sys_Write_rd h hk rfl hpp t).mono ?_
      rintro e w' ⟨rfl, hw⟩
      exact ⟨⟨_, rfl, by decide⟩, Nxi.same h I hw⟩
    | wr p =>
      obtain ⟨pb, bb, ends, bf, hpp, he⟩ := g.pipeEnd hk (.inr rfl)
      refine (sys_write_wr h hk rfl hpp he t (by omega)).mono ?_
      rintro e w' (⟨_, rfl, F', b', h1, h2, _, _⟩ | ⟨_, rfl, F', h1, h2⟩)
      · exact ⟨⟨_, rfl, by decide⟩, F', _, h1, I.sm h (g.buf he _) (b.same (List.length_set ..) (by omega)) (by first | exact Sm.same _ _ _ | exact Sm.kd hk rfl | exact Sm.refl _), h2⟩
      · exact ⟨⟨_, rfl, by decide⟩, F', s, h1, I.sm h (g) (b.le (Nat.le_succ _)) (by first | exact Sm.same _ _ _ | exact Sm.kd hk rfl | exact Sm.refl _), h2⟩
end
end Go.Proofs.YtfofpphnglhopaaGreatDoor
