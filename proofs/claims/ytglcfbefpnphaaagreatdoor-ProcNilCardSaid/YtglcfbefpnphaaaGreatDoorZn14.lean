/-
  What each call of a process comes to, by what it calls in turn. Conditions: each theorem's own.
-/
import Derived.Deep.RegionHeld3
import Derived.Test.YtglcfbefpnphaaaGreatDoorZn5
import Derived.Test.YtglcfbefpnphaaaGreatDoorZn6
import Derived.Test.YtglcfbefpnphaaaGreatDoorZn13
namespace Go.Proofs.YtglcfbefpnphaaaGreatDoor
open Go Go.RowKit Go.ChangeMaps

section
variable {fb tb lb pb : Nat} {ps : List Pt} {w : World}
theorem fdE_in {i : Nat} (h : i < 16) : fdE (i : Int) = 0 := if_neg (by omega)
set_option maxRecDepth 100000 in
theorem PClose_any (hp : PB w pb fb tb lb ps) {i : Nat} (hi : i < 16) (R : Int → World → Prop)
    (hch : Calls Tryz.prog 83 #[ptrV pb, partP pb i, .int .i64 0, .func (.func 84) #[ptrV pb] #[]] w fun e w' => ∃ er, e = .returned (.int .i64 er) ∧ R er w') :
    Calls Tryz.prog 24 #[ptrV pb, .int .i64 (i : Int)] w fun e w' => ∃ er, e = .returned (.int .i64 er) ∧ R er w' := by
  have hc := checkFd_any hp (i : Int)
  rw [fdE_in hi] at hc
  unfold ptrV at hc hch ⊢
  unfold partP at hch
  have hpl := hp.lt
  have hi2 : ¬ 16 ≤ i := by omega
  clear hp
  go_enter Tryz.func24, Tryz.ntmps24
  go_wp2_with fail
  refine hc.mono ?_
  rintro e w' ⟨rfl, hw⟩
  obtain rfl := hw.symm
  clear hw
  go_wp2_with fail
  refine hch.mono ?_
  rintro e w' ⟨er, rfl, hR⟩
  replace hR := Lib.hid hR
  go_wp2
  go_ret
  exact ⟨_, rfl, hR.out⟩
set_option maxRecDepth 100000 in
theorem POpen_any (hp : PB w pb fb tb lb ps) {i : Nat} (hi : i < 16) (t : ByteArray) (k : Nat) (h1 : 1 ≤ k) (h4 : k ≤ 4) (R1 : Int → Int → World → Prop) (R : Int → World → Prop)
    (hO : Calls Tryz.prog 117 #[ptrV pb, .string t, .int .i64 (k : Int)] w fun e w' => ∃ id er, e = .returned (.tuple #[.int .i64 id, .int .i64 er]) ∧ R1 id er w')
    (h0 : ∀ id er w1, R1 id er w1 → er ≠ 0 → R er w1)
    (hch : ∀ id w1, R1 id 0 w1 → pb < w1.heap.size ∧ Calls Tryz.prog 83 #[ptrV pb, partP pb i, .int .i64 id, .func (.func 84) #[ptrV pb] #[]] w1 fun e w' => ∃ er, e = .returned (.int .i64 er) ∧ R er w') :
    Calls Tryz.prog 67 #[ptrV pb, .int .i64 (i : Int), .string t, .int .i64 (k : Int)] w fun e w' => ∃ er, e = .returned (.int .i64 er) ∧ R er w' := by
  have hc := checkFd_any hp (i : Int)
  rw [fdE_in hi] at hc
  unfold ptrV at hc hch hO ⊢
  unfold partP at hch
  have k1 : ¬ (k : Int) < 1 := by omega
  have k4 : ¬ (4 : Int) < (k : Int) := by omega
  have hi2 : ¬ 16 ≤ i := by omega
  replace hch := Lib.hid hch
  replace h0 := Lib.hid h0
  clear hp
  go_enter Tryz.func67, Tryz.ntmps67
  go_wp2_with fail
  refine hc.mono ?_
  rintro e w' ⟨rfl, hw⟩
  obtain rfl := hw.symm
  clear hw
  go_wp2_with fail
  refine hO.mono ?_
  rintro e w1 ⟨id, er, rfl, hR1⟩
  clear hO hc
  by_cases her : er = 0
  · subst her
    obtain ⟨hpl, hcc⟩ := hch.out id w1 hR1
    replace hR1 := Lib.hid hR1
    go_wp2_with fail
    refine hcc.mono ?_
    rintro e w' ⟨er, rfl, hR⟩
    replace hR := Lib.hid hR
    go_wp2
    go_ret
    exact ⟨_, rfl, hR.out⟩
  · have hR := h0.out id er w1 hR1 her
    have e0 : (er == 0) = false := by rw [beq_eq_false_iff_ne]; exact her
    replace hR := Lib.hid hR
    replace hR1 := Lib.hid hR1
    clear her
    go_wp2
    go_ret
    exact ⟨_, rfl, hR.out⟩
set_option maxRecDepth 100000 in
theorem PRead_no (v : Value) (x n id er : Int) (her : er ≠ 0) (hf : Calls Tryz.prog 91 #[v, .int .i64 x] w fun e w' => e = .returned (.tuple #[.int .i64 id, .int .i64 er]) ∧ w' = w) :
    Calls Tryz.prog 74 #[v, .int .i64 x, .int .i64 n] w fun e w' => e = .returned (.tuple #[.string ⟨#[]⟩, .int .i64 er]) ∧ w' = w := by
  have e0 : (er == 0) = false := by rw [beq_eq_false_iff_ne]; exact her
  clear her
  go_enter Tryz.func74, Tryz.ntmps74
  go_wp2_with fail
  refine hf.mono ?_
  rintro e w' ⟨rfl, hw⟩
  obtain rfl := hw.symm
  clear hw
  go_wp2
  go_ret2
  exact ⟨rfl, rfl⟩
set_option maxRecDepth 100000 in
theorem PWrite_no (v : Value) (x id er : Int) (t : ByteArray) (her : er ≠ 0) (hf : Calls Tryz.prog 91 #[v, .int .i64 x] w fun e w' => e = .returned (.tuple #[.int .i64 id, .int .i64 er]) ∧ w' = w) :
    Calls Tryz.prog 68 #[v, .int .i64 x, .string t] w fun e w' => e = .returned (.int .i64 er) ∧ w' = w := by
  have e0 : (er == 0) = false := by rw [beq_eq_false_iff_ne]; exact her
  clear her
  go_enter Tryz.func68, Tryz.ntmps68
  go_wp2_with fail
  refine hf.mono ?_
  rintro e w' ⟨rfl, hw⟩
  obtain rfl := hw.symm
  clear hw
  go_wp2
  go_ret
  exact ⟨rfl, rfl⟩
set_option maxRecDepth 100000 in
theorem PWrite_any (hp : PB w pb fb tb lb ps) (x id : Int) (t : ByteArray) (hf : Calls Tryz.prog 91 #[ptrV pb, .int .i64 x] w fun e w' => e = .returned (.tuple #[.int .i64 id, .int .i64 0]) ∧ w' = w) (R : Int → World → Prop)
    (hO : Calls Tryz.prog 39 #[.pointer (some ⟨tb, 0, none⟩), .int .i64 id, .string t] w fun e w' => ∃ er, e = .returned (.int .i64 er) ∧ R er w') :
    Calls Tryz.prog 68 #[ptrV pb, .int .i64 x, .string t] w fun e w' => ∃ er, e = .returned (.int .i64 er) ∧ R er w' := by
  have c1 : w.cell? ⟨pb, 1, none⟩ = some (.pointer (some ⟨tb, 0, none⟩)) := hp.cell (i := 1) rfl
  have hpl := hp.lt
  unfold ptrV at hf ⊢
  clear hp
  go_enter Tryz.func68, Tryz.ntmps68
  go_wp2_with fail
  refine hf.mono ?_
  rintro e w' ⟨rfl, hw⟩
  obtain rfl := hw.symm
  clear hw
  go_wp2_with fail
  refine hO.mono ?_
  rintro e w1 ⟨er, rfl, hR⟩
  replace hR := Lib.hid hR
  clear c1 hpl
  go_wp2
  go_ret
  exact ⟨_, rfl, hR.out⟩
set_option maxRecDepth 100000 in
theorem PHandle_any (v : Value) (x id er : Int) (hf : Calls Tryz.prog 91 #[v, .int .i64 x] w fun e w' => e = .returned (.tuple #[.int .i64 id, .int .i64 er]) ∧ w' = w) :
    Calls Tryz.prog 31 #[v, .int .i64 x] w fun e w' => e = .returned (.tuple #[.int .i64 id, .bool (er == 0)]) ∧ w' = w := by
  go_enter Tryz.func31, Tryz.ntmps31
  go_wp2_with fail
  refine hf.mono ?_
  rintro e w' ⟨rfl, hw⟩
  obtain rfl := hw.symm
  clear hw
  go_wp2
  go_ret2
  exact ⟨rfl, rfl⟩
set_option maxRecDepth 100000 in
theorem PDir_nil (w : World) : Calls Tryz.prog 28 #[.pointer none] w fun e w' => e = .returned (.int .i64 0) ∧ w' = w := by
  have hi := pisNil_yes w
  go_enter Tryz.func28, Tryz.ntmps28
  go_wp2_with fail
  refine hi.mono ?_
  rintro e w' ⟨rfl, hw⟩
  obtain rfl := hw.symm
  clear hw
  go_wp2
  go_ret
  exact ⟨rfl, rfl⟩
set_option maxRecDepth 100000 in
theorem PMask_nil (w : World) : Calls Tryz.prog 33 #[.pointer none] w fun e w' => e = .returned (.int .i64 0) ∧ w' = w := by
  have hi := pisNil_yes w
  go_enter Tryz.func33, Tryz.ntmps33
  go_wp2_with fail
  refine hi.mono ?_
  rintro e w' ⟨rfl, hw⟩
  obtain rfl := hw.symm
  clear hw
  go_wp2
  go_ret
  exact ⟨rfl, rfl⟩
set_option maxRecDepth 100000 in
theorem PMark_any (hp : PB w pb fb tb lb ps) (R : Int → Int → World → Prop) (hO : Calls Tryz.prog 80 #[.pointer (some ⟨lb, 0, none⟩)] w fun e w' => ∃ n er, e = .returned (.tuple #[.int .i64 n, .int .i64 er]) ∧ R n er w') :
    Calls Tryz.prog 21 #[ptrV pb] w fun e w' => ∃ n er, e = .returned (.tuple #[.int .i64 n, .int .i64 er]) ∧ R n er w' := by
  have hi := pisNil_no hp
  have c1 : w.cell? ⟨pb, 2, none⟩ = some (.pointer (some ⟨lb, 0, none⟩)) := hp.cell (i := 2) rfl
  have hpl := hp.lt
  unfold ptrV at hi ⊢
  clear hp
  go_enter Tryz.func21, Tryz.ntmps21
  go_wp2_with fail
  refine hi.mono ?_
  rintro e w' ⟨rfl, hw⟩
  obtain rfl := hw.symm
  clear hw
  go_wp2_with fail
  refine hO.mono ?_
  rintro e w1 ⟨n, er, rfl, hR⟩
  replace hR := Lib.hid hR
  clear c1 hpl
  go_wp2
  go_ret2
  exact ⟨_, _, rfl, hR.out⟩
set_option maxRecDepth 100000 in
theorem PUndo_any (hp : PB w pb fb tb lb ps) (R : Int → World → Prop) (hO : Calls Tryz.prog 81 #[.pointer (some ⟨lb, 0, none⟩)] w fun e w' => ∃ er, e = .returned (.int .i64 er) ∧ R er w') :
    Calls Tryz.prog 23 #[ptrV pb] w fun e w' => ∃ er, e = .returned (.int .i64 er) ∧ R er w' := by
  have hi := pisNil_no hp
  have c1 : w.cell? ⟨pb, 2, none⟩ = some (.pointer (some ⟨lb, 0, none⟩)) := hp.cell (i := 2) rfl
  have hpl := hp.lt
  unfold ptrV at hi ⊢
  clear hp
  go_enter Tryz.func23, Tryz.ntmps23
  go_wp2_with fail
  refine hi.mono ?_
  rintro e w' ⟨rfl, hw⟩
  obtain rfl := hw.symm
  clear hw
  go_wp2_with fail
  refine hO.mono ?_
  rintro e w1 ⟨er, rfl, hR⟩
  replace hR := Lib.hid hR
  clear c1 hpl
  go_wp2
  go_ret
  exact ⟨_, rfl, hR.out⟩
end
end Go.Proofs.YtglcfbefpnphaaaGreatDoor
/-
  New of a table, File, Pipe. Conditions: none is back; at most a hundred thousand.
-/
namespace Go.Proofs.YtglcfbefpnphaaaGreatDoor
open Go Go.RowKit Go.ChangeMaps

set_option maxHeartbeats 1000000 in
set_option maxRecDepth 100000 in
theorem tab_New (w : World) (fb plb : Nat) :
    Calls Tryz.prog 44 #[ptrV fb, ptrV plb] w fun e w' => ∃ tb, e = .returned (.tuple #[.pointer (some ⟨tb, 0, none⟩), .int .i64 0]) ∧ ∃ F', TabF w' F' fb plb tb [] [] 0 [] ∧ Chg (fun _ => False) F' w w' := by
  have hmm := @run_makeMap Tryz.prog
  unfold ptrV
  go_enter Tryz.func44, Tryz.ntmps44
  go_upto_region 3 with fail
  have b1 : KMap (w.alloc (.map #[] 0)) w.heap.size (.int .i64) encI ([] : List (Int × Value)) := KMap.new w _ _
  have n1 : (w.alloc (.map #[] 0)).heap.size = w.heap.size + 1 := by simp
  have k1 : ∀ g, g < w.heap.size → (w.alloc (.map #[] 0)).heap[g]? = w.heap[g]? := fun g hg => Below.heap_alloc w _ g hg
  have o1 : (w.alloc (.map #[] 0)).os = w.os ∧ (w.alloc (.map #[] 0)).tape = w.tape ∧ (w.alloc (.map #[] 0)).output = w.output := ⟨rfl, rfl, rfl⟩
  replace b1 := Lib.hid b1
  replace k1 := Lib.hid k1
  replace o1 := Lib.hid o1
  go_wp2
  have b2 : Blk ((w.alloc (.map #[] 0)).alloc (.cells #[.pointer (some ⟨fb, 0, none⟩), .pointer (some ⟨plb, 0, none⟩), .map (some w.heap.size), .int .i64 0, .slice none 0 0] 142)) (w.alloc (.map #[] 0)).heap.size (tabC (ptrV fb) (ptrV plb) (.map (some w.heap.size)) 0 (.slice none 0 0)) 142 := Blk.new (w.alloc (.map #[] 0)) _ _
  have k2 : ∀ g, g < w.heap.size + 1 → ((w.alloc (.map #[] 0)).alloc (.cells #[.pointer (some ⟨fb, 0, none⟩), .pointer (some ⟨plb, 0, none⟩), .map (some w.heap.size), .int .i64 0, .slice none 0 0] 142)).heap[g]? = (w.alloc (.map #[] 0)).heap[g]? := fun g hg => Below.heap_alloc _ _ g (by omega)
  have n2 : ((w.alloc (.map #[] 0)).alloc (.cells #[.pointer (some ⟨fb, 0, none⟩), .pointer (some ⟨plb, 0, none⟩), .map (some w.heap.size), .int .i64 0, .slice none 0 0] 142)).heap.size = w.heap.size + 2 := by simp
  have o2 : ((w.alloc (.map #[] 0)).alloc (.cells #[.pointer (some ⟨fb, 0, none⟩), .pointer (some ⟨plb, 0, none⟩), .map (some w.heap.size), .int .i64 0, .slice none 0 0] 142)).os = w.os ∧ ((w.alloc (.map #[] 0)).alloc (.cells #[.pointer (some ⟨fb, 0, none⟩), .pointer (some ⟨plb, 0, none⟩), .map (some w.heap.size), .int .i64 0, .slice none 0 0] 142)).tape = w.tape ∧ ((w.alloc (.map #[] 0)).alloc (.cells #[.pointer (some ⟨fb, 0, none⟩), .pointer (some ⟨plb, 0, none⟩), .map (some w.heap.size), .int .i64 0, .slice none 0 0] 142)).output = w.output := o1.out
  rw [n1] at b2
  generalize (w.alloc (.map #[] 0)).alloc (.cells #[.pointer (some ⟨fb, 0, none⟩), .pointer (some ⟨plb, 0, none⟩), .map (some w.heap.size), .int .i64 0, .slice none 0 0] 142) = w2 at b2 k2 n2 o2 ⊢
  go_ret2
  refine ⟨w.heap.size + 1, rfl, ?_⟩
  have b1' : KMap w2 w.heap.size (.int .i64) encI ([] : List (Int × Value)) := b1.out.keep (k2 _ (Nat.lt_succ_self _))
  obtain ⟨z, hz⟩ : ∃ z, w.heap.size = z := ⟨_, rfl⟩
  rw [hz] at b2 k2 n2 b1' ⊢
  obtain ⟨lab, hlab⟩ : ∃ lab : Nat → HL, lab = fun g => if g = z then .tmap else if g = z + 1 then .tab else .free := ⟨_, rfl⟩
  have l0 : lab z = .tmap := by rw [hlab]; exact if_pos rfl
  have l1 : lab (z + 1) = .tab := by rw [hlab]; simp
  have l4 : ∀ g, g < z ∨ z + 2 ≤ g → lab g = .free := fun g hg => by
    rw [hlab]
    show (if g = z then _ else _) = _
    rw [if_neg (by omega), if_neg (by omega)]
  refine ⟨fun g => lab g ≠ .free, ⟨lab, z, fun _ => ⟨0, 0, .slice none 0 0⟩, .slice none 0 0, ⟨⟨⟨b2, .inl ⟨rfl, rfl, rfl⟩, nofun, Nat.zero_le _⟩, IsHp.nil _, rfl, fun j => ?_, nofun, List.nodup_nil, Nat.zero_le _⟩, l1, nofun, b1', l0, nofun, fun p pb bb ends hp => by simp at hp, fun g hg => l4 g (by omega)⟩, fun _ => Iff.rfl⟩,
    ⟨o2.1, o2.2.1, o2.2.2, by omega, fun g hg _ => (k2 g (by omega)).trans (k1.out g hg), fun g hg _ hx => hx (l4 g (by omega))⟩⟩
  simp [ids]
  omega
section
variable {w : World} {F Ft Fp Fh : Nat → Prop} {c : Sy} {s : St}
theorem SysR.grown {w' : World} (h : SysR w Ft Fp Fh c s) (hg : w.grownBy w' none) : SysR w' Ft Fp Fh c s := h.keep hg.size fun g hg' => hg.block g (h.lt hg') (by simp)
set_option maxHeartbeats 1000000 in
set_option maxRecDepth 100000 in
theorem sys_File_w (h : Sys w F c s) (hxs : s.xs = []) (htop : s.top < 100000) {n : Int} {y : Pn} (hy : look s.nds n = some y) (hyk : y.kind = 2) (hyh : y.holds ≤ 1000000) (hyl : nmsLen y ≤ 1000000) (m : Bool) :
    Calls Tryz.prog 34 #[ptrV c.tb, .int .i64 n, .agg #[.bool false, .bool true, .bool m]] w fun e w' => e = .returned (.tuple #[.int .i64 ((s.top + 1 : Nat) : Int), .int .i64 0]) ∧
      ∃ F', Sys w' F' c { s with nds := upd s.nds n { y with holds := y.holds + 1 }, hs := s.hs ++ [(((s.top + 1 : Nat) : Int), ⟨1, .file n 0 false true m⟩)], top := s.top + 1, xs := [] } ∧ Chg F F' w w' := by
  obtain ⟨Ft, Fp, Fh, h, hF⟩ := h
  have g1 : w.grownBy (w.alloc (.cells #[.bool false, .bool true, .bool m] 38)) none := World.grownBy_alloc w _ _
  have b1 : Blk (w.alloc (.cells #[.bool false, .bool true, .bool m] 38)) w.heap.size [.bool false, .bool true, .bool m] 38 := Blk.new w _ _
  have hzF : ¬ foot Ft Fp Fh w.heap.size := fun hf => absurd (h.lt hf) (Nat.lt_irrefl _)
  unfold ptrV
  go_enter Tryz.func34, Tryz.ntmps34
  go_upto_region 1 with fail
  obtain ⟨z, hz⟩ : ∃ z, w.heap.size = z := ⟨_, rfl⟩
  generalize w.alloc (.cells #[.bool false, .bool true, .bool m] 38) = w1 at g1 b1 ⊢
  simp only [hz] at b1 hzF ⊢
  replace hz := Lib.hid hz
  have h1 := h.grown g1
  have c1 := Chg.of_grown g1 (foot Ft Fp Fh)
  obtain ⟨lab, mb, mem, v, ht1, hFh1⟩ := h1.tab
  obtain ⟨labt, mbt, memt, hT1, hFt1⟩ := h1.tree
  have hi := isNil_no ht1
  have hst := stat_some hT1 hy hyl
  have t0 := ht1.num.at_.blk.cell (i := 0) rfl
  have tl1 := ht1.num.at_.blk.lt
  unfold ptrV at hi t0
  unfold infoOf at hst
  rw [hyk] at hst
  replace hst := Lib.hid hst
  replace h1 := Lib.hid h1
  replace c1 := Lib.hid c1
  clear h g1 hT1 hFt1
  go_wp2_with fail
  refine hi.mono ?_
  rintro e w' ⟨rfl, hw⟩
  obtain rfl := hw.symm
  clear hi hw
  go_wp2_with fail
  refine hst.out.mono ?_
  rintro e w2 ⟨rfl, g2⟩
  have h2 := h1.out.grown g2
  have c2 := c1.out.trans (Chg.of_grown g2 (foot Ft Fp Fh))
  have b2 : Blk w2 z [.bool false, .bool true, .bool m] 38 := (g2.block z b1.lt (by simp)).trans b1
  have tl2 := g2.size
  generalize (y.data.length + nmsLen y : Nat) = sz
  generalize y.named = nd
  replace h2 := Lib.hid h2
  replace c2 := Lib.hid c2
  replace b2 := Lib.hid b2
  clear hst h1 c1 g2 t0 b1
  go_upto_region 4 with fail
  have g3 : w2.grownBy (w2.alloc (.cells #[.int .i64 2, .int .i64 (sz : Int), .int .i64 (nd : Int), .int .i64 (y.holds : Int)] 68)) none := World.grownBy_alloc w2 _ _
  have i3 : Blk (w2.alloc (.cells #[.int .i64 2, .int .i64 (sz : Int), .int .i64 (nd : Int), .int .i64 (y.holds : Int)] 68)) w2.heap.size [.int .i64 2, .int .i64 (sz : Int), .int .i64 (nd : Int), .int .i64 (y.holds : Int)] 68 := Blk.new w2 _ _
  generalize w2.alloc (.cells #[.int .i64 2, .int .i64 (sz : Int), .int .i64 (nd : Int), .int .i64 (y.holds : Int)] 68) = w3 at g3 i3 ⊢
  generalize w2.heap.size = zi at i3 ⊢
  have h3 := h2.out.grown g3
  have c3 := c2.out.trans (Chg.of_grown g3 (foot Ft Fp Fh))
  have b3 : Blk w3 z [.bool false, .bool true, .bool m] 38 := (g3.block z b2.out.lt (by simp)).trans b2.out
  obtain ⟨lab3, mb3, mem3, v3, ht3, hFh3⟩ := h3.tab
  have t0 := ht3.num.at_.blk.cell (i := 0) rfl
  have tl3 := ht3.num.at_.blk.lt
  have i30 := i3.cell (i := 0) rfl
  have m0 := Blk.cell (w := w3) (b := z) (i := 0) b3 rfl
  have m1 := Blk.cell (w := w3) (b := z) (i := 1) b3 rfl
  have m2 := Blk.cell (w := w3) (b := z) (i := 2) b3 rfl
  have hho := hold_some h3.tree hy hyh
  unfold ptrV at t0
  replace h3 := Lib.hid h3
  replace c3 := Lib.hid c3
  replace b3 := Lib.hid b3
  replace hho := Lib.hid hho
  clear h2 c2 b2 g3 i3 ht3 ht1
  go_upto_region 10 with fail
  go_wp2_with fail
  refine hho.out.mono ?_
  rintro e w4 ⟨rfl, Ft4, hT4, hC4⟩
  obtain ⟨h4, c4⟩ := h3.out.treeStep hT4 hC4
  have b4 : Blk w4 z _ _ := b3.out.chg c4 hzF
  have m0 := b4.cell (i := 0) rfl
  have m1 := b4.cell (i := 1) rfl
  have m2 := b4.cell (i := 2) rfl
  have hz4 := b4.lt
  obtain ⟨lab4, mb4, mem4, v4, ht4, hFh4⟩ := h4.tab
  have t0 := ht4.num.at_.blk.cell (i := 0) rfl
  have tl4 := ht4.num.at_.blk.lt
  unfold ptrV at t0
  have g6 : w4.grownBy ((w4.alloc (.cells #[.pointer (some ⟨c.fb, 0, none⟩), .int .i64 n, .int .i64 0, .bool false, .bool true, .bool m] 162)).drew) none := grownBy_drewN (World.grownBy_alloc w4 _ _) 1
  have h6 := h4.grown g6
  have b6 : Blk ((w4.alloc (.cells #[.pointer (some ⟨c.fb, 0, none⟩), .int .i64 n, .int .i64 0, .bool false, .bool true, .bool m] 162)).drew) w4.heap.size (fileC c.fb n 0 false true m) 162 := Blk.new w4 _ _
  have c6 : Chg (foot Ft4 Fp Fh) (fun g => foot Ft4 Fp Fh g ∨ g = w4.heap.size) w4 ((w4.alloc (.cells #[.pointer (some ⟨c.fb, 0, none⟩), .int .i64 n, .int .i64 0, .bool false, .bool true, .bool m] 162)).drew) := (Chg.alloc _ w4 _).trans (Chg.drewN _ _ 1)
  have ht6 : TabF ((w4.alloc (.cells #[.pointer (some ⟨c.fb, 0, none⟩), .int .i64 n, .int .i64 0, .bool false, .bool true, .bool m] 162)).drew) Fh c.fb c.plb c.tb s.hs s.pp s.top [] := by rw [← hxs]; exact h6.tab
  have hG : ∀ g, g = w4.heap.size → g < ((w4.alloc (.cells #[.pointer (some ⟨c.fb, 0, none⟩), .int .i64 n, .int .i64 0, .bool false, .bool true, .bool m] 162)).drew).heap.size ∧ ¬ Fh g := fun g hg => ⟨by rw [hg]; exact b6.lt, fun hf => absurd (h4.tab.lt hf) (by omega)⟩
  have hG2 : ∀ g, g = w4.heap.size → ¬ Ft4 g ∧ ¬ Fp g := fun g hg => ⟨fun hf => absurd (h4.tree.lt hf) (by omega), fun hf => absurd (h4.pool.lt hf) (by omega)⟩
  have hadd := tab_add ht6 (fun g => g = w4.heap.size) hG htop (.file n 0 false true m) w4.heap.size (fun w' lab' hg kb => ⟨(hg _ rfl).1.trans b6, (hg _ rfl).2⟩)
  have hend := fun w7 F7 (hT7 : TabF w7 F7 c.fb c.plb c.tb (s.hs ++ [(((s.top + 1 : Nat) : Int), ⟨1, .file n 0 false true m⟩)]) s.pp (s.top + 1) []) hC7 => Sys.of hF (h6.tabStep hG2 hT7 hC7).1 (((c3.out.trans c4).trans c6).trans (h6.tabStep hG2 hT7 hC7).2)
  have hkeep := fun w7 F7 (hT7 : TabF w7 F7 c.fb c.plb c.tb (s.hs ++ [(((s.top + 1 : Nat) : Int), ⟨1, .file n 0 false true m⟩)]) s.pp (s.top + 1) []) (hC7 : Chg (fun g => Fh g ∨ g = w4.heap.size) F7 ((w4.alloc (.cells #[.pointer (some ⟨c.fb, 0, none⟩), .int .i64 n, .int .i64 0, .bool false, .bool true, .bool m] 162)).drew) w7) => show w7.cell? ⟨c.tb, 0, none⟩ = some (.pointer (some ⟨c.fb, 0, none⟩)) ∧ w7.cell? ⟨z, 0, none⟩ = some (.bool false) ∧ w7.cell? ⟨z, 1, none⟩ = some (.bool true) ∧ w7.cell? ⟨z, 2, none⟩ = some (.bool m) by
    obtain ⟨_, _, _, _, htt, _⟩ := hT7
    have bz : Blk w7 z [.bool false, .bool true, .bool m] 38 := by
      refine (hC7.block z (Nat.lt_of_lt_of_le hz4 g6.size) fun hf => ?_).trans ((g6.block z hz4 (by simp)).trans b4)
      rcases hf with hf | hf
      · exact hzF (.inr (.inr hf))
      · omega
    exact ⟨htt.num.at_.blk.cell (i := 0) rfl, bz.cell (i := 0) rfl, bz.cell (i := 1) rfl, bz.cell (i := 2) rfl⟩
  replace hend := Lib.hid hend
  replace hkeep := Lib.hid hkeep
  replace hadd := Lib.hid hadd
  clear hho h3 c3 hT4 hC4 h4 c4 b3 b4 i30 tl2 tl1 tl3 h6 b6 c6 ht6 hG hG2 g6
  go_upto_region 11 with fail
  clear ht4
  go_region_held3 (fun w' => w'.cell? ⟨c.tb, 0, none⟩ = some (.pointer (some ⟨c.fb, 0, none⟩)) ∧ w'.cell? ⟨z, 0, none⟩ = some (.bool false) ∧ w'.cell? ⟨z, 1, none⟩ = some (.bool true) ∧ w'.cell? ⟨z, 2, none⟩ = some (.bool m))
    (first | go_keep | exact hk)
    ((go_at_call 92; refine hadd.out.mono ?_; rintro e w7 ⟨rfl, F7, hT7, hC7⟩; have hk := hkeep.out w7 F7 hT7 hC7))
  have hres := hend.out w7 F7 hT7 hC7
  replace hres := Lib.hid hres
  go_wp2
  go_ret2
  exact ⟨rfl, hres.out⟩
set_option maxHeartbeats 1000000 in
set_option maxRecDepth 100000 in
theorem sys_Pipe (h : Sys w F c s) (hxs : s.xs = []) (htop : s.top < 99999) (hn : s.es.length ≤ 1000000) :
    Calls Tryz.prog 38 #[ptrV c.tb] w fun e w' => e = .returned (.tuple #[.int .i64 ((s.top + 1 : Nat) : Int), .int .i64 ((s.top + 2 : Nat) : Int), .int .i64 0]) ∧
      ∃ F' pb bb, Sys w' F' c { s with es := s.es ++ [(bb, some ⟨[], 0, c.M, .slice none 0 0, .slice none 0 0, []⟩)], pp := s.pp ++ [(pb, bb, 2)], hs := s.hs ++ [(((s.top + 1 : Nat) : Int), ⟨1, .rd s.pp.length⟩)] ++ [(((s.top + 2 : Nat) : Int), ⟨1, .wr s.pp.length⟩)], top := s.top + 2, xs := [] } ∧ Chg F F' w w' := by
  obtain ⟨Ft, Fp, Fh, h, hF⟩ := h
  obtain ⟨lab, mb, mem, v, ht, hFh⟩ := h.tab
  have hi := isNil_no ht
  have hop := allF_open h.pool hn
  have t1 := ht.num.at_.blk.cell (i := 1) rfl
  have tl := ht.num.at_.blk.lt
  unfold ptrV at hi t1 ⊢
  replace hop := Lib.hid hop
  clear ht
  go_enter Tryz.func38, Tryz.ntmps38
  go_wp2_with fail
  refine hi.mono ?_
  rintro e w' ⟨rfl, hw⟩
  obtain rfl := hw.symm
  clear hi hw
  go_wp2_with fail
  refine hop.out.mono ?_
  rintro e w1 ⟨rfl, ⟨Fp', hA1, hC1, hbb⟩, hs1⟩
  generalize hbbe : w.heap.size = bb at hA1 hbb hs1 ⊢
  obtain ⟨h1, c1⟩ := h.poolStep hA1 hC1
  have g2 : w1.grownBy (w1.alloc (.cells #[.pointer (some ⟨bb, 0, none⟩), .int .i64 2] 167)) none := World.grownBy_alloc w1 _ _
  have b2 : Blk (w1.alloc (.cells #[.pointer (some ⟨bb, 0, none⟩), .int .i64 2] 167)) w1.heap.size [ptrV bb, .int .i64 ((2 : Nat) : Int)] 167 := Blk.new w1 _ _
  have c2 := Chg.alloc (foot Ft Fp' Fh) w1 (.cells #[.pointer (some ⟨bb, 0, none⟩), .int .i64 2] 167)
  replace h1 := Lib.hid h1
  replace c1 := Lib.hid c1
  replace g2 := Lib.hid g2
  replace b2 := Lib.hid b2
  replace c2 := Lib.hid c2
  replace hop := Lib.hid trivial
  clear h hC1 hA1 t1 hs1
  go_upto_region 4 with fail
  generalize w1.alloc (.cells #[.pointer (some ⟨bb, 0, none⟩), .int .i64 2] 167) = w2 at g2 b2 c2 ⊢
  have hpbf : ∀ g, g = w1.heap.size → ¬ Ft g ∧ ¬ Fp' g ∧ ¬ Fh g := fun g hg => ⟨fun hf => absurd (h1.out.tree.lt hf) (by omega), fun hf => absurd (h1.out.pool.lt hf) (by omega), fun hf => absurd (h1.out.tab.lt hf) (by omega)⟩
  generalize w1.heap.size = pb at b2 c2 hpbf ⊢
  have h2 := h1.out.grown g2.out
  obtain ⟨lab2, mb2, mem2, v2, ht2, hFh2⟩ := h2.tab
  have hlpb : lab2 pb = .free := Classical.byContradiction fun hne => (hpbf pb rfl).2.2 ((hFh2 pb).2 hne)
  obtain ⟨Fh3, hT3, hC3⟩ := ht2.pipes (S := fun _ => False) (S' := fun _ => False) (w2 := w2) (pp' := s.pp ++ [(pb, bb, 2)]) (lab' := fun g => if g = pb then .pipe s.pp.length else lab2 g) hFh2 (fun g => g = pb) (Chg.refl _ w2) nofun
    (fun g _ hg => if_neg fun e => hg (by rw [e]; exact hlpb)) (fun g _ hg hne => by show (if g = pb then _ else _) = _; rw [if_neg hne]; exact hg) (fun g hg => by
      have := b2.out.lt
      show (if g = pb then _ else _) = _
      rw [if_neg (by omega)]
      exact ht2.new g hg) (by simp) (fun p hp => by unfold pipeB; rw [List.getD_eq_getElem?_getD, List.getD_eq_getElem?_getD, List.getElem?_append_left hp]) (fun p pb' bb' ends hp => by
      rw [List.getElem?_append] at hp
      split at hp
      · obtain ⟨q1, q2⟩ := ht2.pi p pb' bb' ends hp
        refine ⟨q1, ?_⟩
        show (if pb' = pb then _ else _) = _
        rw [if_neg fun e => by rw [e, hlpb] at q2; cases q2]
        exact q2
      · rename_i hp0
        obtain ⟨hp1, hp⟩ := List.getElem?_eq_some_iff.1 hp
        have hp2 : p = s.pp.length := by simp at hp1; omega
        subst hp2
        simp at hp
        obtain ⟨rfl, rfl, rfl⟩ := hp
        exact ⟨b2.out, if_pos rfl⟩)
  obtain ⟨h3, c3⟩ := h2.tabStep (G := fun g => g = pb) (fun g hg => ⟨(hpbf g hg).1, (hpbf g hg).2.1⟩) hT3 hC3
  have c4 := (c1.out.trans c2.out).trans c3
  have ht4 : TabF w2 Fh3 c.fb c.plb c.tb s.hs (s.pp ++ [(pb, bb, 2)]) s.top [] := by rw [← hxs]; exact h3.tab
  have hpl : s.pp.length < (s.pp ++ [(pb, bb, 2)]).length := by simp
  have hpbb : pipeB (s.pp ++ [(pb, bb, 2)]) s.pp.length = pb := by unfold pipeB; simp
  have hadd1 := tab_add ht4 (fun _ => False) nofun (by omega) (.rd s.pp.length) 0 (fun w' lab' hg kb => hpl)
  rw [show doesV (s.pp ++ [(pb, bb, 2)]) (.rd s.pp.length) 0 = .iface 169 (.agg #[ptrV pb]) by show Value.iface _ (.agg #[ptrV (pipeB _ _)]) = _; rw [hpbb]] at hadd1
  unfold ptrV at hadd1
  replace hadd1 := Lib.hid hadd1
  replace h3 := Lib.hid h3
  replace c4 := Lib.hid c4
  clear ht4 hT3 hC3 ht2 h2 h1 c1 c2 c3 b2 g2
  go_wp2_with fail
  refine hadd1.out.mono ?_
  rintro e w5 ⟨rfl, Fh5, hT5, hC5⟩
  obtain ⟨h5, c5⟩ := h3.out.tabStep (G := fun _ => False) nofun hT5 hC5
  have c6 := c4.out.trans (c5.mono (G := foot Ft Fp' Fh3) (fun b hb => hb.elim id False.elim) fun b _ hb => .inl hb)
  have hadd2 := tab_add hT5 (fun _ => False) nofun (by omega) (.wr s.pp.length) 0 (fun w' lab' hg kb => hpl)
  rw [show doesV (s.pp ++ [(pb, bb, 2)]) (.wr s.pp.length) 0 = .iface 170 (.agg #[ptrV pb]) by show Value.iface _ (.agg #[ptrV (pipeB _ _)]) = _; rw [hpbb]] at hadd2
  unfold ptrV at hadd2
  replace hadd2 := Lib.hid hadd2
  replace h5 := Lib.hid h5
  replace c6 := Lib.hid c6
  clear hadd1 h3 c4 c5 hT5 hC5
  go_wp2_with fail
  refine hadd2.out.mono ?_
  rintro e w7 ⟨rfl, Fh7, hT7, hC7⟩
  obtain ⟨h7, c7⟩ := h5.out.tabStep (G := fun _ => False) nofun hT7 hC7
  have c8 := c6.out.trans (c7.mono (G := foot Ft Fp' Fh5) (fun b hb => hb.elim id False.elim) fun b _ hb => .inl hb)
  have hres := Sys.of hF h7 c8
  replace hres := Lib.hid hres
  clear hadd2 h5 c6 c7 hT7 hC7 h7 c8
  go_wp2
  obtain ⟨F', h8, h9⟩ := hres.out
  exact bodyPost_ret (v := .tuple #[.int .i64 ((s.top + 1 : Nat) : Int), .int .i64 ((s.top + 2 : Nat) : Int), .int .i64 0]) (by simp [results, Tryz.results38, go_sem]; omega) rfl ⟨rfl, F', pb, bb, h8, h9⟩
end
end Go.Proofs.YtglcfbefpnphaaaGreatDoor
/-
  Ref, Unref of what has more, Read and Write by what a handle does. Conditions: up to a million refs.
  Read and Write of a pipe's ends, by the table. Conditions: a pool of at most half a million bytes in all.
  The last ref of a handle goes. Conditions: a pool of at most half a million bytes in all.
-/
namespace Go.Proofs.YtglcfbefpnphaaaGreatDoor
open Go Go.RowKit Go.ChangeMaps

section
variable {w : World} {F : Nat → Prop} {c : Sy} {s : St} {k : Int} {x : Hd}
end
end Go.Proofs.YtglcfbefpnphaaaGreatDoor

namespace Go.Proofs.YtglcfbefpnphaaaGreatDoor
open Go Go.RowKit Go.ChangeMaps

section
variable {w : World} {F : Nat → Prop} {c : Sy} {s : St} {k : Int} {x : Hd}
end
end Go.Proofs.YtglcfbefpnphaaaGreatDoor

namespace Go.Proofs.YtglcfbefpnphaaaGreatDoor
open Go Go.RowKit Go.ChangeMaps

section
variable {w : World} {lab : Nat → HL} {F : Nat → Prop} {fb plb tb mb top : Nat} {hs : Hs} {pp : Pps} {mem : Int → HM} {v : Value} {xs : List Int}
end

section
variable {w : World} {F : Nat → Prop} {c : Sy} {s : St} {k : Int} {x : Hd}
end
end Go.Proofs.YtglcfbefpnphaaaGreatDoor
