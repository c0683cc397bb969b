/-
  New of a table, File, Pipe. Conditions: none is back; at most a hundred thousand.
-/
import Derived.Test.YtbjakhiflgjflaaGreatDoorHnSys
import Derived.Test.YtbjakhiflgjflaaGreatDoorNdSmall
import Derived.Deep.RegionHeld3
namespace Go.Proofs.YtbjakhiflgjflaaGreatDoor
open Go Go.RowKit Go.ChangeMaps

set_option maxHeartbeats 1000000 in
set_option maxRecDepth 100000 in
theorem tab_New (w : World) (fb plb : Nat) :
    Calls Tryz.prog 46 #[ptrV fb, ptrV plb] w fun e w' => ∃ tb, e = .returned (.tuple #[.pointer (some ⟨tb, 0, none⟩), .int .i64 0]) ∧ ∃ F', TabF w' F' fb plb tb [] [] 0 [] ∧ Chg (fun _ => False) F' w w' := by
  have hmm := @run_makeMap Tryz.prog
  unfold ptrV
  go_enter Tryz.func46, Tryz.ntmps46
  go_upto_region 3 with fail
  have b1 : KMap (w.alloc (.map #[] 0)) w.heap.size (.int .i64) encI ([] : List (Int × Value)) := KMap.new w _ _
  have n1 : (w.alloc (.map #[] 0)).heap.size = w.heap.size + 1 := by simp
  have k1 : ∀ g, g < w.heap.size → (w.alloc (.map #[] 0)).heap[g]? = w.heap[g]? := fun g hg => Below.heap_alloc w _ g hg
  have o1 : (w.alloc (.map #[] 0)).os = w.os ∧ (w.alloc (.map #[] 0)).tape = w.tape ∧ (w.alloc (.map #[] 0)).output = w.output := ⟨rfl, rfl, rfl⟩
  replace b1 := Lib.hid b1
  replace k1 := Lib.hid k1
  replace o1 := Lib.hid o1
  go_wp2
  have b2 : Blk ((w.alloc (.map #[] 0)).alloc (.cells #[.pointer (some ⟨fb, 0, none⟩), .pointer (some ⟨plb, 0, none⟩), .map (some w.heap.size), .int .i64 0, .slice none 0 0] 123)) (w.alloc (.map #[] 0)).heap.size (tabC (ptrV fb) (ptrV plb) (.map (some w.heap.size)) 0 (.slice none 0 0)) 123 := Blk.new (w.alloc (.map #[] 0)) _ _
  have k2 : ∀ g, g < w.heap.size + 1 → ((w.alloc (.map #[] 0)).alloc (.cells #[.pointer (some ⟨fb, 0, none⟩), .pointer (some ⟨plb, 0, none⟩), .map (some w.heap.size), .int .i64 0, .slice none 0 0] 123)).heap[g]? = (w.alloc (.map #[] 0)).heap[g]? := fun g hg => Below.heap_alloc _ _ g (by omega)
  have n2 : ((w.alloc (.map #[] 0)).alloc (.cells #[.pointer (some ⟨fb, 0, none⟩), .pointer (some ⟨plb, 0, none⟩), .map (some w.heap.size), .int .i64 0, .slice none 0 0] 123)).heap.size = w.heap.size + 2 := by simp
  have o2 : ((w.alloc (.map #[] 0)).alloc (.cells #[.pointer (some ⟨fb, 0, none⟩), .pointer (some ⟨plb, 0, none⟩), .map (some w.heap.size), .int .i64 0, .slice none 0 0] 123)).os = w.os ∧ ((w.alloc (.map #[] 0)).alloc (.cells #[.pointer (some ⟨fb, 0, none⟩), .pointer (some ⟨plb, 0, none⟩), .map (some w.heap.size), .int .i64 0, .slice none 0 0] 123)).tape = w.tape ∧ ((w.alloc (.map #[] 0)).alloc (.cells #[.pointer (some ⟨fb, 0, none⟩), .pointer (some ⟨plb, 0, none⟩), .map (some w.heap.size), .int .i64 0, .slice none 0 0] 123)).output = w.output := o1.out
  rw [n1] at b2
  generalize (w.alloc (.map #[] 0)).alloc (.cells #[.pointer (some ⟨fb, 0, none⟩), .pointer (some ⟨plb, 0, none⟩), .map (some w.heap.size), .int .i64 0, .slice none 0 0] 123) = w2 at b2 k2 n2 o2 ⊢
  go_ret2
  refine ⟨w.heap.size + 1, rfl, ?_⟩
  have b1' : KMap w2 w.heap.size (.int .i64) encI ([] : List (Int × Value)) := b1.out.keep (k2 _ (Nat.lt_succ_self _))
  obtain ⟨z, hz⟩ : ∃ z, w.heap.size = z := ⟨_, rfl⟩
  rw [hz] at b2 k2 n2 b1' ⊢
  obtain ⟨lab, hlab⟩ : ∃ lab : Nat → HL, lab = fun g => if g = z then .tmap else if g = z + 1 then .tab else .free := ⟨_, rfl⟩
  have l0 : lab z = .tmap := by rw [hlab]; exact if_pos rfl
  have l1 : lab (z + 1) = .tab := by rw [hlab]; simp
  have l4 : ∀ g, g < z ∨ z + 2 ≤ g → lab g = .free := fun g hg => by
    rw [hlab]
    show (if g = z then _ else _) = _
    rw [if_neg (by omega), if_neg (by omega)]
  refine ⟨fun g => lab g ≠ .free, ⟨lab, z, fun _ => ⟨0, 0, .slice none 0 0⟩, .slice none 0 0, ⟨⟨⟨b2, .inl ⟨rfl, rfl, rfl⟩, nofun, Nat.zero_le _⟩, IsHp.nil _, rfl, fun j => ?_, nofun, List.nodup_nil, Nat.zero_le _⟩, l1, nofun, b1', l0, nofun, fun p pb bb ends hp => by simp at hp, fun g hg => l4 g (by omega)⟩, fun _ => Iff.rfl⟩,
    ⟨o2.1, o2.2.1, o2.2.2, by omega, fun g hg _ => (k2 g (by omega)).trans (k1.out g hg), fun g hg _ hx => hx (l4 g (by omega))⟩⟩
  simp [ids]
  omega
set_option maxRecDepth 100000 in
theorem tab_New_nil (w : World) (fb : Nat) :
    Calls Tryz.prog 46 #[ptrV fb, .pointer none] w fun e w' => e = .returned (.tuple #[.pointer none, .int .i64 2]) ∧ w' = w := by
  unfold ptrV
  go_enter Tryz.func46, Tryz.ntmps46
  go_wp2
  go_ret2
  exact ⟨rfl, rfl⟩

section
variable {w : World} {F Ft Fp Fh : Nat → Prop} {c : Sy} {s : St}
theorem SysR.grown {w' : World} (h : SysR w Ft Fp Fh c s) (hg : w.grownBy w' none) : SysR w' Ft Fp Fh c s := h.keep hg.size fun g hg' => hg.block g (h.lt hg') (by simp)
set_option maxHeartbeats 1000000 in
set_option maxRecDepth 100000 in
theorem sys_File_r (h : Sys w F c s) (hxs : s.xs = []) (htop : s.top < 100000) {n : Int} {y : Pn} (hy : look s.nds n = some y) (hyk : y.kind = 2) (hyh : y.holds ≤ 1000000) (hyl : nmsLen y ≤ 1000000) (m : Bool) :
    Calls Tryz.prog 38 #[ptrV c.tb, .int .i64 n, .agg #[.bool true, .bool false, .bool m]] w fun e w' => e = .returned (.tuple #[.int .i64 ((s.top + 1 : Nat) : Int), .int .i64 0]) ∧
      ∃ F', Sys w' F' c { s with nds := upd s.nds n { y with holds := y.holds + 1 }, hs := s.hs ++ [(((s.top + 1 : Nat) : Int), ⟨1, .file n 0 true false m⟩)], top := s.top + 1, xs := [] } ∧ Chg F F' w w' := by
  obtain ⟨Ft, Fp, Fh, h, hF⟩ := h
  have g1 : w.grownBy (w.alloc (.cells #[.bool true, .bool false, .bool m] 38)) none := World.grownBy_alloc w _ _
  have b1 : Blk (w.alloc (.cells #[.bool true, .bool false, .bool m] 38)) w.heap.size [.bool true, .bool false, .bool m] 38 := Blk.new w _ _
  have hzF : ¬ foot Ft Fp Fh w.heap.size := fun hf => absurd (h.lt hf) (Nat.lt_irrefl _)
  unfold ptrV
  go_enter Tryz.func38, Tryz.ntmps38
  go_upto_region 1 with fail
  obtain ⟨z, hz⟩ : ∃ z, w.heap.size = z := ⟨_, rfl⟩
  generalize w.alloc (.cells #[.bool true, .bool false, .bool m] 38) = w1 at g1 b1 ⊢
  simp only [hz] at b1 hzF ⊢
  replace hz := Lib.hid hz
  have h1 := h.grown g1
  have c1 := Chg.of_grown g1 (foot Ft Fp Fh)
  obtain ⟨lab, mb, mem, v, ht1, hFh1⟩ := h1.tab
  obtain ⟨labt, mbt, memt, hT1, hFt1⟩ := h1.tree
  have hi := isNil_no ht1
  have hst := stat_some hT1 hy hyl
  have t0 := ht1.num.at_.blk.cell (i := 0) rfl
  have tl1 := ht1.num.at_.blk.lt
  unfold ptrV at hi t0
  unfold infoOf at hst
  rw [hyk] at hst
  replace hst := Lib.hid hst
  replace h1 := Lib.hid h1
  replace c1 := Lib.hid c1
  clear h g1 hT1 hFt1
  go_wp2_with fail
  refine hi.mono ?_
  rintro e w' ⟨rfl, hw⟩
  obtain rfl := hw.symm
  clear hi hw
  go_wp2_with fail
  refine hst.out.mono ?_
  rintro e w2 ⟨rfl, g2⟩
  have h2 := h1.out.grown g2
  have c2 := c1.out.trans (Chg.of_grown g2 (foot Ft Fp Fh))
  have b2 : Blk w2 z [.bool true, .bool false, .bool m] 38 := (g2.block z b1.lt (by simp)).trans b1
  have tl2 := g2.size
  generalize (y.data.length + nmsLen y : Nat) = sz
  generalize y.named = nd
  replace h2 := Lib.hid h2
  replace c2 := Lib.hid c2
  replace b2 := Lib.hid b2
  clear hst h1 c1 g2 t0 b1
  go_upto_region 4 with fail
  have g3 : w2.grownBy (w2.alloc (.cells #[.int .i64 2, .int .i64 (sz : Int), .int .i64 (nd : Int), .int .i64 (y.holds : Int)] 50)) none := World.grownBy_alloc w2 _ _
  have i3 : Blk (w2.alloc (.cells #[.int .i64 2, .int .i64 (sz : Int), .int .i64 (nd : Int), .int .i64 (y.holds : Int)] 50)) w2.heap.size [.int .i64 2, .int .i64 (sz : Int), .int .i64 (nd : Int), .int .i64 (y.holds : Int)] 50 := Blk.new w2 _ _
  generalize w2.alloc (.cells #[.int .i64 2, .int .i64 (sz : Int), .int .i64 (nd : Int), .int .i64 (y.holds : Int)] 50) = w3 at g3 i3 ⊢
  generalize w2.heap.size = zi at i3 ⊢
  have h3 := h2.out.grown g3
  have c3 := c2.out.trans (Chg.of_grown g3 (foot Ft Fp Fh))
  have b3 : Blk w3 z [.bool true, .bool false, .bool m] 38 := (g3.block z b2.out.lt (by simp)).trans b2.out
  obtain ⟨lab3, mb3, mem3, v3, ht3, hFh3⟩ := h3.tab
  have t0 := ht3.num.at_.blk.cell (i := 0) rfl
  have tl3 := ht3.num.at_.blk.lt
  have i30 := i3.cell (i := 0) rfl
  have m0 := Blk.cell (w := w3) (b := z) (i := 0) b3 rfl
  have m1 := Blk.cell (w := w3) (b := z) (i := 1) b3 rfl
  have m2 := Blk.cell (w := w3) (b := z) (i := 2) b3 rfl
  have hho := hold_some h3.tree hy hyh
  unfold ptrV at t0
  replace h3 := Lib.hid h3
  replace c3 := Lib.hid c3
  replace b3 := Lib.hid b3
  replace hho := Lib.hid hho
  clear h2 c2 b2 g3 i3 ht3 ht1
  go_upto_region 10 with fail
  go_wp2_with fail
  refine hho.out.mono ?_
  rintro e w4 ⟨rfl, Ft4, hT4, hC4⟩
  obtain ⟨h4, c4⟩ := h3.out.treeStep hT4 hC4
  have b4 : Blk w4 z _ _ := b3.out.chg c4 hzF
  have m0 := b4.cell (i := 0) rfl
  have m1 := b4.cell (i := 1) rfl
  have m2 := b4.cell (i := 2) rfl
  have hz4 := b4.lt
  obtain ⟨lab4, mb4, mem4, v4, ht4, hFh4⟩ := h4.tab
  have t0 := ht4.num.at_.blk.cell (i := 0) rfl
  have tl4 := ht4.num.at_.blk.lt
  unfold ptrV at t0
  have g6 : w4.grownBy ((w4.alloc (.cells #[.pointer (some ⟨c.fb, 0, none⟩), .int .i64 n, .int .i64 0, .bool true, .bool false, .bool m] 165)).drew) none := grownBy_drewN (World.grownBy_alloc w4 _ _) 1
  have h6 := h4.grown g6
  have b6 : Blk ((w4.alloc (.cells #[.pointer (some ⟨c.fb, 0, none⟩), .int .i64 n, .int .i64 0, .bool true, .bool false, .bool m] 165)).drew) w4.heap.size (fileC c.fb n 0 true false m) 165 := Blk.new w4 _ _
  have c6 : Chg (foot Ft4 Fp Fh) (fun g => foot Ft4 Fp Fh g ∨ g = w4.heap.size) w4 ((w4.alloc (.cells #[.pointer (some ⟨c.fb, 0, none⟩), .int .i64 n, .int .i64 0, .bool true, .bool false, .bool m] 165)).drew) := (Chg.alloc _ w4 _).trans (Chg.drewN _ _ 1)
  have ht6 : TabF ((w4.alloc (.cells #[.pointer (some ⟨c.fb, 0, none⟩), .int .i64 n, .int .i64 0, .bool true, .bool false, .bool m] 165)).drew) Fh c.fb c.plb c.tb s.hs s.pp s.top [] := by rw [← hxs]; exact h6.tab
  have hG : ∀ g, g = w4.heap.size → g < ((w4.alloc (.cells #[.pointer (some ⟨c.fb, 0, none⟩), .int .i64 n, .int .i64 0, .bool true, .bool false, .bool m] 165)).drew).heap.size ∧ ¬ Fh g := fun g hg => ⟨by rw [hg]; exact b6.lt, fun hf => absurd (h4.tab.lt hf) (by omega)⟩
  have hG2 : ∀ g, g = w4.heap.size → ¬ Ft4 g ∧ ¬ Fp g := fun g hg => ⟨fun hf => absurd (h4.tree.lt hf) (by omega), fun hf => absurd (h4.pool.lt hf) (by omega)⟩
  have hadd := tab_add ht6 (fun g => g = w4.heap.size) hG htop (.file n 0 true false m) w4.heap.size (fun w' lab' hg kb => ⟨(hg _ rfl).1.trans b6, (hg _ rfl).2⟩)
  have hend := fun w7 F7 (hT7 : TabF w7 F7 c.fb c.plb c.tb (s.hs ++ [(((s.top + 1 : Nat) : Int), ⟨1, .file n 0 true false m⟩)]) s.pp (s.top + 1) []) hC7 => Sys.of hF (h6.tabStep hG2 hT7 hC7).1 (((c3.out.trans c4).trans c6).trans (h6.tabStep hG2 hT7 hC7).2)
  have hkeep := fun w7 F7 (hT7 : TabF w7 F7 c.fb c.plb c.tb (s.hs ++ [(((s.top + 1 : Nat) : Int), ⟨1, .file n 0 true false m⟩)]) s.pp (s.top + 1) []) (hC7 : Chg (fun g => Fh g ∨ g = w4.heap.size) F7 ((w4.alloc (.cells #[.pointer (some ⟨c.fb, 0, none⟩), .int .i64 n, .int .i64 0, .bool true, .bool false, .bool m] 165)).drew) w7) => show w7.cell? ⟨c.tb, 0, none⟩ = some (.pointer (some ⟨c.fb, 0, none⟩)) ∧ w7.cell? ⟨z, 0, none⟩ = some (.bool true) ∧ w7.cell? ⟨z, 1, none⟩ = some (.bool false) ∧ w7.cell? ⟨z, 2, none⟩ = some (.bool m) by
    obtain ⟨_, _, _, _, htt, _⟩ := hT7
    have bz : Blk w7 z [.bool true, .bool false, .bool m] 38 := by
      refine (hC7.block z (Nat.lt_of_lt_of_le hz4 g6.size) fun hf => ?_).trans ((g6.block z hz4 (by simp)).trans b4)
      rcases hf with hf | hf
      · exact hzF (.inr (.inr hf))
      · omega
    exact ⟨htt.num.at_.blk.cell (i := 0) rfl, bz.cell (i := 0) rfl, bz.cell (i := 1) rfl, bz.cell (i := 2) rfl⟩
  replace hend := Lib.hid hend
  replace hkeep := Lib.hid hkeep
  replace hadd := Lib.hid hadd
  clear hho h3 c3 hT4 hC4 h4 c4 b3 b4 i30 tl2 tl1 tl3 h6 b6 c6 ht6 hG hG2 g6
  go_upto_region 11 with fail
  clear ht4
  go_region_held3 (fun w' => w'.cell? ⟨c.tb, 0, none⟩ = some (.pointer (some ⟨c.fb, 0, none⟩)) ∧ w'.cell? ⟨z, 0, none⟩ = some (.bool true) ∧ w'.cell? ⟨z, 1, none⟩ = some (.bool false) ∧ w'.cell? ⟨z, 2, none⟩ = some (.bool m))
    (first | go_keep | exact hk)
    ((go_at_call 94; refine hadd.out.mono ?_; rintro e w7 ⟨rfl, F7, hT7, hC7⟩; have hk := hkeep.out w7 F7 hT7 hC7))
  have hres := hend.out w7 F7 hT7 hC7
  replace hres := Lib.hid hres
  go_wp2
  go_ret2
  exact ⟨rfl, hres.out⟩
set_option maxHeartbeats 1000000 in
set_option maxRecDepth 100000 in
theorem sys_File_w (h : Sys w F c s) (hxs : s.xs = []) (htop : s.top < 100000) {n : Int} {y : Pn} (hy : look s.nds n = some y) (hyk : y.kind = 2) (hyh : y.holds ≤ 1000000) (hyl : nmsLen y ≤ 1000000) (m : Bool) :
    Calls Tryz.prog 38 #[ptrV c.tb, .int .i64 n, .agg #[.bool false, .bool true, .bool m]] w fun e w' => e = .returned (.tuple #[.int .i64 ((s.top + 1 : Nat) : Int), .int .i64 0]) ∧
      ∃ F', Sys w' F' c { s with nds := upd s.nds n { y with holds := y.holds + 1 }, hs := s.hs ++ [(((s.top + 1 : Nat) : Int), ⟨1, .file n 0 false true m⟩)], top := s.top + 1, xs := [] } ∧ Chg F F' w w' := by
  obtain ⟨Ft, Fp, Fh, h, hF⟩ := h
  have g1 : w.grownBy (w.alloc (.cells #[.bool false, .bool true, .bool m] 38)) none := World.grownBy_alloc w _ _
  have b1 : Blk (w.alloc (.cells #[.bool false, .bool true, .bool m] 38)) w.heap.size [.bool false, .bool true, .bool m] 38 := Blk.new w _ _
  have hzF : ¬ foot Ft Fp Fh w.heap.size := fun hf => absurd (h.lt hf) (Nat.lt_irrefl _)
  unfold ptrV
  go_enter Tryz.func38, Tryz.ntmps38
  go_upto_region 1 with fail
  obtain ⟨z, hz⟩ : ∃ z, w.heap.size = z := ⟨_, rfl⟩
  generalize w.alloc (.cells #[.bool false, .bool true, .bool m] 38) = w1 at g1 b1 ⊢
  simp only [hz] at b1 hzF ⊢
  replace hz := Lib.hid hz
  have h1 := h.grown g1
  have c1 := Chg.of_grown g1 (foot Ft Fp Fh)
  obtain ⟨lab, mb, mem, v, ht1, hFh1⟩ := h1.tab
  obtain ⟨labt, mbt, memt, hT1, hFt1⟩ := h1.tree
  have hi := isNil_no ht1
  have hst := stat_some hT1 hy hyl
  have t0 := ht1.num.at_.blk.cell (i := 0) rfl
  have tl1 := ht1.num.at_.blk.lt
  unfold ptrV at hi t0
  unfold infoOf at hst
  rw [hyk] at hst
  replace hst := Lib.hid hst
  replace h1 := Lib.hid h1
  replace c1 := Lib.hid c1
  clear h g1 hT1 hFt1
  go_wp2_with fail
  refine hi.mono ?_
  rintro e w' ⟨rfl, hw⟩
  obtain rfl := hw.symm
  clear hi hw
  go_wp2_with fail
  refine hst.out.mono ?_
  rintro e w2 ⟨rfl, g2⟩
  have h2 := h1.out.grown g2
  have c2 := c1.out.trans (Chg.of_grown g2 (foot Ft Fp Fh))
  have b2 : Blk w2 z [.bool false, .bool true, .bool m] 38 := (g2.block z b1.lt (by simp)).trans b1
  have tl2 := g2.size
  generalize (y.data.length + nmsLen y : Nat) = sz
  generalize y.named = nd
  replace h2 := Lib.hid h2
  replace c2 := Lib.hid c2
  replace b2 := Lib.hid b2
  clear hst h1 c1 g2 t0 b1
  go_upto_region 4 with fail
  have g3 : w2.grownBy (w2.alloc (.cells #[.int .i64 2, .int .i64 (sz : Int), .int .i64 (nd : Int), .int .i64 (y.holds : Int)] 50)) none := World.grownBy_alloc w2 _ _
  have i3 : Blk (w2.alloc (.cells #[.int .i64 2, .int .i64 (sz : Int), .int .i64 (nd : Int), .int .i64 (y.holds : Int)] 50)) w2.heap.size [.int .i64 2, .int .i64 (sz : Int), .int .i64 (nd : Int), .int .i64 (y.holds : Int)] 50 := Blk.new w2 _ _
  generalize w2.alloc (.cells #[.int .i64 2, .int .i64 (sz : Int), .int .i64 (nd : Int), .int .i64 (y.holds : Int)] 50) = w3 at g3 i3 ⊢
  generalize w2.heap.size = zi at i3 ⊢
  have h3 := h2.out.grown g3
  have c3 := c2.out.trans (Chg.of_grown g3 (foot Ft Fp Fh))
  have b3 : Blk w3 z [.bool false, .bool true, .bool m] 38 := (g3.block z b2.out.lt (by simp)).trans b2.out
  obtain ⟨lab3, mb3, mem3, v3, ht3, hFh3⟩ := h3.tab
  have t0 := ht3.num.at_.blk.cell (i := 0) rfl
  have tl3 := ht3.num.at_.blk.lt
  have i30 := i3.cell (i := 0) rfl
  have m0 := Blk.cell (w := w3) (b := z) (i := 0) b3 rfl
  have m1 := Blk.cell (w := w3) (b := z) (i := 1) b3 rfl
  have m2 := Blk.cell (w := w3) (b := z) (i := 2) b3 rfl
  have hho := hold_some h3.tree hy hyh
  unfold ptrV at t0
  replace h3 := Lib.hid h3
  replace c3 := Lib.hid c3
  replace b3 := Lib.hid b3
  replace hho := Lib.hid hho
  clear h2 c2 b2 g3 i3 ht3 ht1
  go_upto_region 10 with fail
  go_wp2_with fail
  refine hho.out.mono ?_
  rintro e w4 ⟨rfl, Ft4, hT4, hC4⟩
  obtain ⟨h4, c4⟩ := h3.out.treeStep hT4 hC4
  have b4 : Blk w4 z _ _ := b3.out.chg c4 hzF
  have m0 := b4.cell (i := 0) rfl
  have m1 := b4.cell (i := 1) rfl
  have m2 := b4.cell (i := 2) rfl
  have hz4 := b4.lt
  obtain ⟨lab4, mb4, mem4, v4, ht4, hFh4⟩ := h4.tab
  have t0 := ht4.num.at_.blk.cell (i := 0) rfl
  have tl4 := ht4.num.at_.blk.lt
  unfold ptrV at t0
  have g6 : w4.grownBy ((w4.alloc (.cells #[.pointer (some ⟨c.fb, 0, none⟩), .int .i64 n, .int .i64 0, .bool false, .bool true, .bool m] 165)).drew) none := grownBy_drewN (World.grownBy_alloc w4 _ _) 1
  have h6 := h4.grown g6
  have b6 : Blk ((w4.alloc (.cells #[.pointer (some ⟨c.fb, 0, none⟩), .int .i64 n, .int .i64 0, .bool false, .bool true, .bool m] 165)).drew) w4.heap.size (fileC c.fb n 0 false true m) 165 := Blk.new w4 _ _
  have c6 : Chg (foot Ft4 Fp Fh) (fun g => foot Ft4 Fp Fh g ∨ g = w4.heap.size) w4 ((w4.alloc (.cells #[.pointer (some ⟨c.fb, 0, none⟩), .int .i64 n, .int .i64 0, .bool false, .bool true, .bool m] 165)).drew) := (Chg.alloc _ w4 _).trans (Chg.drewN _ _ 1)
  have ht6 : TabF ((w4.alloc (.cells #[.pointer (some ⟨c.fb, 0, none⟩), .int .i64 n, .int .i64 0, .bool false, .bool true, .bool m] 165)).drew) Fh c.fb c.plb c.tb s.hs s.pp s.top [] := by rw [← hxs]; exact h6.tab
  have hG : ∀ g, g = w4.heap.size → g < ((w4.alloc (.cells #[.pointer (some ⟨c.fb, 0, none⟩), .int .i64 n, .int .i64 0, .bool false, .bool true, .bool m] 165)).drew).heap.size ∧ ¬ Fh g := fun g hg => ⟨by rw [hg]; exact b6.lt, fun hf => absurd (h4.tab.lt hf) (by omega)⟩
  have hG2 : ∀ g, g = w4.heap.size → ¬ Ft4 g ∧ ¬ Fp g := fun g hg => ⟨fun hf => absurd (h4.tree.lt hf) (by omega), fun hf => absurd (h4.pool.lt hf) (by omega)⟩
  have hadd := tab_add ht6 (fun g => g = w4.heap.size) hG htop (.file n 0 false true m) w4.heap.size (fun w' lab' hg kb => ⟨(hg _ rfl).1.trans b6, (hg _ rfl).2⟩)
  have hend := fun w7 F7 (hT7 : TabF w7 F7 c.fb c.plb c.tb (s.hs ++ [(((s.top + 1 : Nat) : Int), ⟨1, .file n 0 false true m⟩)]) s.pp (s.top + 1) []) hC7 => Sys.of hF (h6.tabStep hG2 hT7 hC7).1 (((c3.out.trans c4).trans c6).trans (h6.tabStep hG2 hT7 hC7).2)
  have hkeep := fun w7 F7 (hT7 : TabF w7 F7 c.fb c.plb c.tb (s.hs ++ [(((s.top + 1 : Nat) : Int), ⟨1, .file n 0 false true m⟩)]) s.pp (s.top + 1) []) (hC7 : Chg (fun g => Fh g ∨ g = w4.heap.size) F7 ((w4.alloc (.cells #[.pointer (some ⟨c.fb, 0, none⟩), .int .i64 n, .int .i64 0, .bool false, .bool true, .bool m] 165)).drew) w7) => show w7.cell? ⟨c.tb, 0, none⟩ = some (.pointer (some ⟨c.fb, 0, none⟩)) ∧ w7.cell? ⟨z, 0, none⟩ = some (.bool false) ∧ w7.cell? ⟨z, 1, none⟩ = some (.bool true) ∧ w7.cell? ⟨z, 2, none⟩ = some (.bool m) by
    obtain ⟨_, _, _, _, htt, _⟩ := hT7
    have bz : Blk w7 z [.bool false, .bool true, .bool m] 38 := by
      refine (hC7.block z (Nat.lt_of_lt_of_le hz4 g6.size) fun hf => ?_).trans ((g6.block z hz4 (by simp)).trans b4)
      rcases hf with hf | hf
      · exact hzF (.inr (.inr hf))
      · omega
    exact ⟨htt.num.at_.blk.cell (i := 0) rfl, bz.cell (i := 0) rfl, bz.cell (i := 1) rfl, bz.cell (i := 2) rfl⟩
  replace hend := Lib.hid hend
  replace hkeep := Lib.hid hkeep
  replace hadd := Lib.hid hadd
  clear hho h3 c3 hT4 hC4 h4 c4 b3 b4 i30 tl2 tl1 tl3 h6 b6 c6 ht6 hG hG2 g6
  go_upto_region 11 with fail
  clear ht4
  go_region_held3 (fun w' => w'.cell? ⟨c.tb, 0, none⟩ = some (.pointer (some ⟨c.fb, 0, none⟩)) ∧ w'.cell? ⟨z, 0, none⟩ = some (.bool false) ∧ w'.cell? ⟨z, 1, none⟩ = some (.bool true) ∧ w'.cell? ⟨z, 2, none⟩ = some (.bool m))
    (first | go_keep | exact hk)
    ((go_at_call 94; refine hadd.out.mono ?_; rintro e w7 ⟨rfl, F7, hT7, hC7⟩; have hk := hkeep.out w7 F7 hT7 hC7))
  have hres := hend.out w7 F7 hT7 hC7
  replace hres := Lib.hid hres
  go_wp2
  go_ret2
  exact ⟨rfl, hres.out⟩
set_option maxHeartbeats 1000000 in
set_option maxRecDepth 100000 in
theorem sys_File_rw (h : Sys w F c s) (hxs : s.xs = []) (htop : s.top < 100000) {n : Int} {y : Pn} (hy : look s.nds n = some y) (hyk : y.kind = 2) (hyh : y.holds ≤ 1000000) (hyl : nmsLen y ≤ 1000000) (m : Bool) :
    Calls Tryz.prog 38 #[ptrV c.tb, .int .i64 n, .agg #[.bool true, .bool true, .bool m]] w fun e w' => e = .returned (.tuple #[.int .i64 ((s.top + 1 : Nat) : Int), .int .i64 0]) ∧
      ∃ F', Sys w' F' c { s with nds := upd s.nds n { y with holds := y.holds + 1 }, hs := s.hs ++ [(((s.top + 1 : Nat) : Int), ⟨1, .file n 0 true true m⟩)], top := s.top + 1, xs := [] } ∧ Chg F F' w w' := by
  obtain ⟨Ft, Fp, Fh, h, hF⟩ := h
  have g1 : w.grownBy (w.alloc (.cells #[.bool true, .bool true, .bool m] 38)) none := World.grownBy_alloc w _ _
  have b1 : Blk (w.alloc (.cells #[.bool true, .bool true, .bool m] 38)) w.heap.size [.bool true, .bool true, .bool m] 38 := Blk.new w _ _
  have hzF : ¬ foot Ft Fp Fh w.heap.size := fun hf => absurd (h.lt hf) (Nat.lt_irrefl _)
  unfold ptrV
  go_enter Tryz.func38, Tryz.ntmps38
  go_upto_region 1 with fail
  obtain ⟨z, hz⟩ : ∃ z, w.heap.size = z := ⟨_, rfl⟩
  generalize w.alloc (.cells #[.bool true, .bool true, .bool m] 38) = w1 at g1 b1 ⊢
  simp only [hz] at b1 hzF ⊢
  replace hz := Lib.hid hz
  have h1 := h.grown g1
  have c1 := Chg.of_grown g1 (foot Ft Fp Fh)
  obtain ⟨lab, mb, mem, v, ht1, hFh1⟩ := h1.tab
  obtain ⟨labt, mbt, memt, hT1, hFt1⟩ := h1.tree
  have hi := isNil_no ht1
  have hst := stat_some hT1 hy hyl
  have t0 := ht1.num.at_.blk.cell (i := 0) rfl
  have tl1 := ht1.num.at_.blk.lt
  unfold ptrV at hi t0
  unfold infoOf at hst
  rw [hyk] at hst
  replace hst := Lib.hid hst
  replace h1 := Lib.hid h1
  replace c1 := Lib.hid c1
  clear h g1 hT1 hFt1
  go_wp2_with fail
  refine hi.mono ?_
  rintro e w' ⟨rfl, hw⟩
  obtain rfl := hw.symm
  clear hi hw
  go_wp2_with fail
  refine hst.out.mono ?_
  rintro e w2 ⟨rfl, g2⟩
  have h2 := h1.out.grown g2
  have c2 := c1.out.trans (Chg.of_grown g2 (foot Ft Fp Fh))
  have b2 : Blk w2 z [.bool true, .bool true, .bool m] 38 := (g2.block z b1.lt (by simp)).trans b1
  have tl2 := g2.size
  generalize (y.data.length + nmsLen y : Nat) = sz
  generalize y.named = nd
  replace h2 := Lib.hid h2
  replace c2 := Lib.hid c2
  replace b2 := Lib.hid b2
  clear hst h1 c1 g2 t0 b1
  go_upto_region 4 with fail
  have g3 : w2.grownBy (w2.alloc (.cells #[.int .i64 2, .int .i64 (sz : Int), .int .i64 (nd : Int), .int .i64 (y.holds : Int)] 50)) none := World.grownBy_alloc w2 _ _
  have i3 : Blk (w2.alloc (.cells #[.int .i64 2, .int .i64 (sz : Int), .int .i64 (nd : Int), .int .i64 (y.holds : Int)] 50)) w2.heap.size [.int .i64 2, .int .i64 (sz : Int), .int .i64 (nd : Int), .int .i64 (y.holds : Int)] 50 := Blk.new w2 _ _
  generalize w2.alloc (.cells #[.int .i64 2, .int .i64 (sz : Int), .int .i64 (nd : Int), .int .i64 (y.holds : Int)] 50) = w3 at g3 i3 ⊢
  generalize w2.heap.size = zi at i3 ⊢
  have h3 := h2.out.grown g3
  have c3 := c2.out.trans (Chg.of_grown g3 (foot Ft Fp Fh))
  have b3 : Blk w3 z [.bool true, .bool true, .bool m] 38 := (g3.block z b2.out.lt (by simp)).trans b2.out
  obtain ⟨lab3, mb3, mem3, v3, ht3, hFh3⟩ := h3.tab
  have t0 := ht3.num.at_.blk.cell (i := 0) rfl
  have tl3 := ht3.num.at_.blk.lt
  have i30 := i3.cell (i := 0) rfl
  have m0 := Blk.cell (w := w3) (b := z) (i := 0) b3 rfl
  have m1 := Blk.cell (w := w3) (b := z) (i := 1) b3 rfl
  have m2 := Blk.cell (w := w3) (b := z) (i := 2) b3 rfl
  have hho := hold_some h3.tree hy hyh
  unfold ptrV at t0
  replace h3 := Lib.hid h3
  replace c3 := Lib.hid c3
  replace b3 := Lib.hid b3
  replace hho := Lib.hid hho
  clear h2 c2 b2 g3 i3 ht3 ht1
  go_upto_region 10 with fail
  go_wp2_with fail
  refine hho.out.mono ?_
  rintro e w4 ⟨rfl, Ft4, hT4, hC4⟩
  obtain ⟨h4, c4⟩ := h3.out.treeStep hT4 hC4
  have b4 : Blk w4 z _ _ := b3.out.chg c4 hzF
  have m0 := b4.cell (i := 0) rfl
  have m1 := b4.cell (i := 1) rfl
  have m2 := b4.cell (i := 2) rfl
  have hz4 := b4.lt
  obtain ⟨lab4, mb4, mem4, v4, ht4, hFh4⟩ := h4.tab
  have t0 := ht4.num.at_.blk.cell (i := 0) rfl
  have tl4 := ht4.num.at_.blk.lt
  unfold ptrV at t0
  have g6 : w4.grownBy ((w4.alloc (.cells #[.pointer (some ⟨c.fb, 0, none⟩), .int .i64 n, .int .i64 0, .bool true, .bool true, .bool m] 165)).drew) none := grownBy_drewN (World.grownBy_alloc w4 _ _) 1
  have h6 := h4.grown g6
  have b6 : Blk ((w4.alloc (.cells #[.pointer (some ⟨c.fb, 0, none⟩), .int .i64 n, .int .i64 0, .bool true, .bool true, .bool m] 165)).drew) w4.heap.size (fileC c.fb n 0 true true m) 165 := Blk.new w4 _ _
  have c6 : Chg (foot Ft4 Fp Fh) (fun g => foot Ft4 Fp Fh g ∨ g = w4.heap.size) w4 ((w4.alloc (.cells #[.pointer (some ⟨c.fb, 0, none⟩), .int .i64 n, .int .i64 0, .bool true, .bool true, .bool m] 165)).drew) := (Chg.alloc _ w4 _).trans (Chg.drewN _ _ 1)
  have ht6 : TabF ((w4.alloc (.cells #[.pointer (some ⟨c.fb, 0, none⟩), .int .i64 n, .int .i64 0, .bool true, .bool true, .bool m] 165)).drew) Fh c.fb c.plb c.tb s.hs s.pp s.top [] := by rw [← hxs]; exact h6.tab
  have hG : ∀ g, g = w4.heap.size → g < ((w4.alloc (.cells #[.pointer (some ⟨c.fb, 0, none⟩), .int .i64 n, .int .i64 0, .bool true, .bool true, .bool m] 165)).drew).heap.size ∧ ¬ Fh g := fun g hg => ⟨by rw [hg]; exact b6.lt, fun hf => absurd (h4.tab.lt hf) (by omega)⟩
  have hG2 : ∀ g, g = w4.heap.size → ¬ Ft4 g ∧ ¬ Fp g := fun g hg => ⟨fun hf => absurd (h4.tree.lt hf) (by omega), fun hf => absurd (h4.pool.lt hf) (by omega)⟩
  have hadd := tab_add ht6 (fun g => g = w4.heap.size) hG htop (.file n 0 true true m) w4.heap.size (fun w' lab' hg kb => ⟨(hg _ rfl).1.trans b6, (hg _ rfl).2⟩)
  have hend := fun w7 F7 (hT7 : TabF w7 F7 c.fb c.plb c.tb (s.hs ++ [(((s.top + 1 : Nat) : Int), ⟨1, .file n 0 true true m⟩)]) s.pp (s.top + 1) []) hC7 => Sys.of hF (h6.tabStep hG2 hT7 hC7).1 (((c3.out.trans c4).trans c6).trans (h6.tabStep hG2 hT7 hC7).2)
  have hkeep := fun w7 F7 (hT7 : TabF w7 F7 c.fb c.plb c.tb (s.hs ++ [(((s.top + 1 : Nat) : Int), ⟨1, .file n 0 true true m⟩)]) s.pp (s.top + 1) []) (hC7 : Chg (fun g => Fh g ∨ g = w4.heap.size) F7 ((w4.alloc (.cells #[.pointer (some ⟨c.fb, 0, none⟩), .int .i64 n, .int .i64 0, .bool true, .bool true, .bool m] 165)).drew) w7) => show w7.cell? ⟨c.tb, 0, none⟩ = some (.pointer (some ⟨c.fb, 0, none⟩)) ∧ w7.cell? ⟨z, 0, none⟩ = some (.bool true) ∧ w7.cell? ⟨z, 1, none⟩ = some (.bool true) ∧ w7.cell? ⟨z, 2, none⟩ = some (.bool m) by
    obtain ⟨_, _, _, _, htt, _⟩ := hT7
    have bz : Blk w7 z [.bool true, .bool true, .bool m] 38 := by
      refine (hC7.block z (Nat.lt_of_lt_of_le hz4 g6.size) fun hf => ?_).trans ((g6.block z hz4 (by simp)).trans b4)
      rcases hf with hf | hf
      · exact hzF (.inr (.inr hf))
      · omega
    exact ⟨htt.num.at_.blk.cell (i := 0) rfl, bz.cell (i := 0) rfl, bz.cell (i := 1) rfl, bz.cell (i := 2) rfl⟩
  replace hend := Lib.hid hend
  replace hkeep := Lib.hid hkeep
  replace hadd := Lib.hid hadd
  clear hho h3 c3 hT4 hC4 h4 c4 b3 b4 i30 tl2 tl1 tl3 h6 b6 c6 ht6 hG hG2 g6
  go_upto_region 11 with fail
  clear ht4
  go_region_held3 (fun w' => w'.cell? ⟨c.tb, 0, none⟩ = some (.pointer (some ⟨c.fb, 0, none⟩)) ∧ w'.cell? ⟨z, 0, none⟩ = some (.bool true) ∧ w'.cell? ⟨z, 1, none⟩ = some (.bool true) ∧ w'.cell? ⟨z, 2, none⟩ = some (.bool m))
    (first | go_keep | exact hk)
    ((go_at_call 94; refine hadd.out.mono ?_; rintro e w7 ⟨rfl, F7, hT7, hC7⟩; have hk := hkeep.out w7 F7 hT7 hC7))
  have hres := hend.out w7 F7 hT7 hC7
  replace hres := Lib.hid hres
  go_wp2
  go_ret2
  exact ⟨rfl, hres.out⟩
set_option maxHeartbeats 1000000 in
set_option maxRecDepth 100000 in
theorem sys_Pipe (h : Sys w F c s) (hxs : s.xs = []) (htop : s.top < 99999) (hn : s.es.length ≤ 1000000) :
    Calls Tryz.prog 41 #[ptrV c.tb] w fun e w' => e = .returned (.tuple #[.int .i64 ((s.top + 1 : Nat) : Int), .int .i64 ((s.top + 2 : Nat) : Int), .int .i64 0]) ∧
      ∃ F' pb bb, Sys w' F' c { s with es := s.es ++ [(bb, some ⟨[], 0, c.M, .slice none 0 0, .slice none 0 0, []⟩)], pp := s.pp ++ [(pb, bb, 2)], hs := s.hs ++ [(((s.top + 1 : Nat) : Int), ⟨1, .rd s.pp.length⟩)] ++ [(((s.top + 2 : Nat) : Int), ⟨1, .wr s.pp.length⟩)], top := s.top + 2, xs := [] } ∧ Chg F F' w w' := by
  obtain ⟨Ft, Fp, Fh, h, hF⟩ := h
  obtain ⟨lab, mb, mem, v, ht, hFh⟩ := h.tab
  have hi := isNil_no ht
  have hop := allF_open h.pool hn
  have t1 := ht.num.at_.blk.cell (i := 1) rfl
  have tl := ht.num.at_.blk.lt
  unfold ptrV at hi t1 ⊢
  replace hop := Lib.hid hop
  clear ht
  go_enter Tryz.func41, Tryz.ntmps41
  go_wp2_with fail
  refine hi.mono ?_
  rintro e w' ⟨rfl, hw⟩
  obtain rfl := hw.symm
  clear hi hw
  go_wp2_with fail
  refine hop.out.mono ?_
  rintro e w1 ⟨rfl, ⟨Fp', hA1, hC1, hbb⟩, hs1⟩
  generalize hbbe : w.heap.size = bb at hA1 hbb hs1 ⊢
  obtain ⟨h1, c1⟩ := h.poolStep hA1 hC1
  have g2 : w1.grownBy (w1.alloc (.cells #[.pointer (some ⟨bb, 0, none⟩), .int .i64 2] 170)) none := World.grownBy_alloc w1 _ _
  have b2 : Blk (w1.alloc (.cells #[.pointer (some ⟨bb, 0, none⟩), .int .i64 2] 170)) w1.heap.size [ptrV bb, .int .i64 ((2 : Nat) : Int)] 170 := Blk.new w1 _ _
  have c2 := Chg.alloc (foot Ft Fp' Fh) w1 (.cells #[.pointer (some ⟨bb, 0, none⟩), .int .i64 2] 170)
  replace h1 := Lib.hid h1
  replace c1 := Lib.hid c1
  replace g2 := Lib.hid g2
  replace b2 := Lib.hid b2
  replace c2 := Lib.hid c2
  replace hop := Lib.hid trivial
  clear h hC1 hA1 t1 hs1
  go_upto_region 4 with fail
  generalize w1.alloc (.cells #[.pointer (some ⟨bb, 0, none⟩), .int .i64 2] 170) = w2 at g2 b2 c2 ⊢
  have hpbf : ∀ g, g = w1.heap.size → ¬ Ft g ∧ ¬ Fp' g ∧ ¬ Fh g := fun g hg => ⟨fun hf => absurd (h1.out.tree.lt hf) (by omega), fun hf => absurd (h1.out.pool.lt hf) (by omega), fun hf => absurd (h1.out.tab.lt hf) (by omega)⟩
  generalize w1.heap.size = pb at b2 c2 hpbf ⊢
  have h2 := h1.out.grown g2.out
  obtain ⟨lab2, mb2, mem2, v2, ht2, hFh2⟩ := h2.tab
  have hlpb : lab2 pb = .free := Classical.byContradiction fun hne => (hpbf pb rfl).2.2 ((hFh2 pb).2 hne)
  obtain ⟨Fh3, hT3, hC3⟩ := ht2.pipes (S := fun _ => False) (S' := fun _ => False) (w2 := w2) (pp' := s.pp ++ [(pb, bb, 2)]) (lab' := fun g => if g = pb then .pipe s.pp.length else lab2 g) hFh2 (fun g => g = pb) (Chg.refl _ w2) nofun
    (fun g _ hg => if_neg fun e => hg (by rw [e]; exact hlpb)) (fun g _ hg hne => by show (if g = pb then _ else _) = _; rw [if_neg hne]; exact hg) (fun g hg => by
      have := b2.out.lt
      show (if g = pb then _ else _) = _
      rw [if_neg (by omega)]
      exact ht2.new g hg) (by simp) (fun p hp => by unfold pipeB; rw [List.getD_eq_getElem?_getD, List.getD_eq_getElem?_getD, List.getElem?_append_left hp]) (fun p pb' bb' ends hp => by
      rw [List.getElem?_append] at hp
      split at hp
      · obtain ⟨q1, q2⟩ := ht2.pi p pb' bb' ends hp
        refine ⟨q1, ?_⟩
        show (if pb' = pb then _ else _) = _
        rw [if_neg fun e => by rw [e, hlpb] at q2; cases q2]
        exact q2
      · rename_i hp0
        obtain ⟨hp1, hp⟩ := List.getElem?_eq_some_iff.1 hp
        have hp2 : p = s.pp.length := by simp at hp1; omega
        subst hp2
        simp at hp
        obtain ⟨rfl, rfl, rfl⟩ := hp
        exact ⟨b2.out, if_pos rfl⟩)
  obtain ⟨h3, c3⟩ := h2.tabStep (G := fun g => g = pb) (fun g hg => ⟨(hpbf g hg).1, (hpbf g hg).2.1⟩) hT3 hC3
  have c4 := (c1.out.trans c2.out).trans c3
  have ht4 : TabF w2 Fh3 c.fb c.plb c.tb s.hs (s.pp ++ [(pb, bb, 2)]) s.top [] := by rw [← hxs]; exact h3.tab
  have hpl : s.pp.length < (s.pp ++ [(pb, bb, 2)]).length := by simp
  have hpbb : pipeB (s.pp ++ [(pb, bb, 2)]) s.pp.length = pb := by unfold pipeB; simp
  have hadd1 := tab_add ht4 (fun _ => False) nofun (by omega) (.rd s.pp.length) 0 (fun w' lab' hg kb => hpl)
  rw [show doesV (s.pp ++ [(pb, bb, 2)]) (.rd s.pp.length) 0 = .iface 172 (.agg #[ptrV pb]) by show Value.iface _ (.agg #[ptrV (pipeB _ _)]) = _; rw [hpbb]] at hadd1
  unfold ptrV at hadd1
  replace hadd1 := Lib.hid hadd1
  replace h3 := Lib.hid h3
  replace c4 := Lib.hid c4
  clear ht4 hT3 hC3 ht2 h2 h1 c1 c2 c3 b2 g2
  go_wp2_with fail
  refine hadd1.out.mono ?_
  rintro e w5 ⟨rfl, Fh5, hT5, hC5⟩
  obtain ⟨h5, c5⟩ := h3.out.tabStep (G := fun _ => False) nofun hT5 hC5
  have c6 := c4.out.trans (c5.mono (G := foot Ft Fp' Fh3) (fun b hb => hb.elim id False.elim) fun b _ hb => .inl hb)
  have hadd2 := tab_add hT5 (fun _ => False) nofun (by omega) (.wr s.pp.length) 0 (fun w' lab' hg kb => hpl)
  rw [show doesV (s.pp ++ [(pb, bb, 2)]) (.wr s.pp.length) 0 = .iface 173 (.agg #[ptrV pb]) by show Value.iface _ (.agg #[ptrV (pipeB _ _)]) = _; rw [hpbb]] at hadd2
  unfold ptrV at hadd2
  replace hadd2 := Lib.hid hadd2
  replace h5 := Lib.hid h5
  replace c6 := Lib.hid c6
  clear hadd1 h3 c4 c5 hT5 hC5
  go_wp2_with fail
  refine hadd2.out.mono ?_
  rintro e w7 ⟨rfl, Fh7, hT7, hC7⟩
  obtain ⟨h7, c7⟩ := h5.out.tabStep (G := fun _ => False) nofun hT7 hC7
  have c8 := c6.out.trans (c7.mono (G := foot Ft Fp' Fh5) (fun b hb => hb.elim id False.elim) fun b _ hb => .inl hb)
  have hres := Sys.of hF h7 c8
  replace hres := Lib.hid hres
  clear hadd2 h5 c6 c7 hT7 hC7 h7 c8
  go_wp2
  obtain ⟨F', h8, h9⟩ := hres.out
  exact bodyPost_ret (v := .tuple #[.int .i64 ((s.top + 1 : Nat) : Int), .int .i64 ((s.top + 2 : Nat) : Int), .int .i64 0]) (by simp [results, Tryz.results41, go_sem]; omega) rfl ⟨rfl, F', pb, bb, h8, h9⟩
end
end Go.Proofs.YtbjakhiflgjflaaGreatDoor
