/-
  A path of one part, of one byte, from the root on: its place, and that nothing stands against a new name. Conditions: the byte is no / and no point, and not 0; the root is a directory.
-/
import Derived.Test.YtbjakhiflgjflaaGreatDoorNdWrite
import Derived.Test.YtbjakhiflgjflaaGreatDoorHnShelf
import Derived.WalkMore
namespace Go.Proofs.YtbjakhiflgjflaaGreatDoor
open Go Go.RowKit

def nm1 (c : UInt8) : ByteArray := ⟨#[c]⟩
theorem TreeR.grown {w w' : World} {lab : Nat → TL} {fb most room mb : Nat} {nds : Nds} {mem : Int → NM} (h : TreeR w lab fb most room nds mb mem) (hg : w.grownBy w' none) : TreeR w' lab fb most room nds mb mem :=
  have hk : ∀ g, g < w.heap.size → w'.heap[g]? = w.heap[g]? := fun g hlt => hg.block g hlt (by simp)
  ⟨(hk fb h.fs.lt).trans h.fs, h.lfs, h.map.keep (hk mb h.map.lt), h.lmap, fun k x hx => (h.nd k x hx).keep fun g hlt _ => ⟨hk g hlt, rfl⟩, fun g hlt => h.new g (Nat.le_trans hg.size hlt), h.lim⟩
theorem grownBy_tr {w w' w'' : World} (h : w.grownBy w' none) (k : w'.grownBy w'' none) : w.grownBy w'' none :=
  ⟨k.os.trans h.os, k.tape.trans h.tape, k.output.trans h.output, Nat.le_trans h.size k.size, fun b hb _ => (k.block b (Nat.lt_of_lt_of_le hb h.size) (by simp)).trans (h.block b hb (by simp))⟩
theorem grownBy_re (w : World) : w.grownBy w none := ⟨rfl, rfl, rfl, Nat.le_refl _, fun _ _ _ => rfl⟩

section
variable {w : World} {lab : Nat → TL} {F : Nat → Prop} {fb most room mb : Nat} {nds : Nds} {mem : Int → NM}

set_option maxRecDepth 100000 in
theorem begin_one (d : Int) (c : UInt8) (hc : c ≠ 47) (w : World) :
    Calls Tryz.prog 154 #[.int .i64 d, .string (nm1 c)] w fun e w' => e = .returned (.tuple #[.int .i64 d, .int .i64 0]) ∧ w' = w := by
  have e1 : ((c.toNat : Int) == 47) = false := by
    simp only [beq_eq_false_iff_ne, ne_eq]
    intro h
    exact hc (UInt8.toNat_inj.1 (by show c.toNat = 47; omega))
  have e2 : (nm1 c).toList.isEmpty = false := by rw [tl_emp]; rfl
  have e3 : (nm1 c).size = 1 := rfl
  have e4 : (nm1 c).data[0]? = some c := rfl
  have e5 : (nm1 c)[0]'(by rw [e3]; decide) = c := rfl
  go_enter Tryz.func154, Tryz.ntmps154
  go_wp2
  go_ret2
  exact ⟨rfl, rfl⟩
set_option maxRecDepth 100000 in
theorem start_one (h : TreeR w lab fb most room nds mb mem) {x : Pn} (hx : look nds 1 = some x) (hk : x.kind = 1) (c : UInt8) (hc : c ≠ 47) :
    Calls Tryz.prog 124 #[.pointer (some ⟨fb, 0, none⟩), .int .i64 1, .string (nm1 c)] w fun e w' => e = .returned (.tuple #[.int .i64 1, .int .i64 0]) ∧ w' = w := by
  have hb := begin_one 1 c hc w
  have hf := h.find_some hx
  have f0 := h.fs.cell (i := 0) rfl
  have hfl := h.fs.lt
  have c0 := (h.nd 1 x hx).blk.cell (show (bodyC x (mem 1))[0]? = some _ from rfl)
  have hlt := (h.nd 1 x hx).blk.lt
  rw [hk] at c0
  generalize (mem 1).blk = kb at hf c0 hlt
  clear h hx hk
  go_enter Tryz.func124, Tryz.ntmps124
  go_wp2_with fail
  refine hb.mono ?_
  rintro e w' ⟨rfl, hw⟩
  obtain rfl := hw.symm
  clear hb hw
  go_wp2
  go_ret2
  exact ⟨rfl, rfl⟩
set_option maxHeartbeats 1000000 in
set_option maxRecDepth 100000 in
theorem walk_empty (d : Int) (b : Bool) (w : World) :
    Calls Tryz.prog 125 #[.pointer (some ⟨fb, 0, none⟩), .int .i64 d, .string ⟨#[]⟩, .bool b] w fun e w' => e = .returned (.tuple #[.int .i64 d, .int .i64 0]) ∧ w' = w := by
  have e2 : (⟨#[]⟩ : ByteArray).toList.isEmpty = true := by decide +kernel
  go_enter Tryz.func125, Tryz.ntmps125
  go_wp2
  go_step3
  go_wp2
  go_step3
  go_wp2
  refine wp_loop_rounds 1 ?_
  rw [rounds_succ]
  go_wp2
  first | go_ret2 | (rw [Exit.noGoto_ret]; go_ret2)
  exact ⟨rfl, rfl⟩
set_option maxHeartbeats 1000000 in
set_option maxRecDepth 100000 in
theorem isDir_one (d : Int) (c : UInt8) (hc : c ≠ 46) (w : World) :
    Calls Tryz.prog 129 #[.agg #[.int .i64 d, .string (nm1 c), .bool false]] w fun e w' => e = .returned (.bool false) ∧ w.grownBy w' none := by
  have e2 : (nm1 c).toList.isEmpty = false := by rw [tl_emp]; rfl
  have e0 : ((nm1 c).toList == []) = false := by rw [ByteArray.toList_eq]; rfl
  have e3 : ((nm1 c).toList == [46]) = false := by
    rw [ByteArray.toList_eq]
    simp [nm1, hc]
  have e4 : ((nm1 c).toList == [46, 46]) = false := by
    rw [ByteArray.toList_eq]
    simp [nm1]
  generalize nm1 c = nm at e2 e0 e3 e4 ⊢
  have g1 : w.grownBy (w.alloc (.cells #[.int .i64 d, .string nm, .bool false] 178)) none := World.grownBy_alloc w _ _
  have b1 : Blk (w.alloc (.cells #[.int .i64 d, .string nm, .bool false] 178)) w.heap.size [.int .i64 d, .string nm, .bool false] 178 := Blk.new w _ _
  have c1 := b1.cell (i := 1) rfl
  have hlt := b1.lt
  replace b1 := Lib.hid b1
  replace g1 := Lib.hid g1
  go_enter Tryz.func129, Tryz.ntmps129
  go_wp2
  go_ret
  exact ⟨rfl, g1.out⟩

/-- A directory's names have the byte's name not yet. -/
theorem find_none (h : TreeR w lab fb most room nds mb mem) {k : Int} {x : Pn} {l : List (ByteArray × Nat)} (hx : look nds k = some x) (hn : x.nms = some l) (c : UInt8) (hc : c ≠ 0) (hl : look l (nm1 c) = none) :
    Calls Tryz.prog 130 #[.pointer (some ⟨(mem k).blk, 0, none⟩), .string (nm1 c)] w fun e w' => e = .returned (.tuple #[.int .i64 0, .int .i64 10]) ∧ w' = w := by
  have hN := h.nd k x hx
  obtain ⟨nb, h1, _, h3⟩ := hN.nms l hn
  have hix := indexByte (nm1 c) 0 w
  have e0 : Lib.indexByte (nm1 c).data.toList (0 : Int).toNat.toUInt8 = -1 := by
    show Lib.indexByte [c] 0 = -1
    simp [Lib.indexByte, hc]
  rw [e0] at hix
  have hfi := h3.find keyS Tryz.underlying135 Tryz.underlying9 (Tryz.zeroValue3 w) true (nm1 c)
  have e1 : look (l.map fun p => (p.1, Value.int .i64 (p.2 : Int))) (nm1 c) = none := by rw [look_map (fun n : Nat => Value.int .i64 (n : Int)), hl]; rfl
  rw [e1] at hfi
  replace hfi : (Instr.lookup 135 (.map (some nb)) (.string (nm1 c)) true).run Tryz.prog w = .ok (.tuple #[.int .i64 0, .bool false]) w := hfi
  have c4 := hN.blk.cell (show (bodyC x (mem k))[4]? = some _ from rfl)
  have hlt := hN.blk.lt
  rw [h1] at c4
  have e3 : ¬ (32 : Int) < ((nm1 c).size : Int) := by show ¬ (32 : Int) < ((1 : Nat) : Int); omega
  generalize (mem k).blk = kb at c4 hlt ⊢
  generalize nm1 c = nm at hfi hix e3 ⊢
  clear h hN hx hn hl e0 e1 h3 h1
  go_enter Tryz.func130, Tryz.ntmps130
  go_wp2_with fail
  refine hix.mono ?_
  rintro e w' ⟨rfl, hw⟩
  obtain rfl := hw.symm
  clear hix hw
  go_wp2
  go_ret2
  exact ⟨rfl, rfl⟩
theorem nm1_trim (c : UInt8) (hc : c ≠ 47) : (⟨(Lib.trimRightB (nm1 c).data.toList 47).toArray⟩ : ByteArray) = nm1 c := by
  show (⟨(Lib.trimRightB [c] 47).toArray⟩ : ByteArray) = nm1 c
  simp [Lib.trimRightB, nm1, hc]
theorem nm1_last (c : UInt8) (hc : c ≠ 47) : Lib.lastIndexByte (nm1 c) 47 = -1 := by
  rcases Lib.lastIndexByte_spec (nm1 c) 47 with ⟨h, _⟩ | ⟨i, hi, _, h, _⟩
  · exact h
  · have hi : i < 1 := hi
    obtain rfl : i = 0 := by omega
    have h : ((c.toNat : Nat) : Int) = 47 := h
    exact absurd (UInt8.toNat_inj.1 (show c.toNat = (47 : UInt8).toNat by have e : (47 : UInt8).toNat = 47 := rfl; omega)) hc
theorem nm1_all (c : UInt8) : (nm1 c).extract 0 1 = nm1 c := rfl
theorem nm1_none (c : UInt8) : (nm1 c).extract 0 0 = ⟨#[]⟩ := rfl

set_option maxHeartbeats 1000000 in
set_option maxRecDepth 100000 in
theorem place_one (h : TreeR w lab fb most room nds mb mem) {x : Pn} (hx : look nds 1 = some x) (hk : x.kind = 1) (c : UInt8) (hc : c ≠ 47) :
    Calls Tryz.prog 96 #[.pointer (some ⟨fb, 0, none⟩), .int .i64 1, .string (nm1 c)] w fun e w' => e = .returned (.tuple #[.agg #[.int .i64 1, .string (nm1 c), .bool false], .int .i64 0]) ∧ w.grownBy w' none := by
  have hst := fun (W : World) (hW : w.grownBy W none) => start_one (h.grown hW) hx hk c hc
  have htr := fun (W : World) => trimRight (nm1 c) 47 (by decide) W (by show 1 ≤ _; omega)
  rw [nm1_trim c hc] at htr
  have hla := fun (W : World) => lastIndexByte (nm1 c) 47 (by show 1 < _; omega) W
  rw [nm1_last c hc] at hla
  have hwk := fun (W : World) => walk_empty (fb := fb) 1 true W
  have hsz : (nm1 c).size = 1 := rfl
  have x1 := nm1_all c
  have x0 := nm1_none c
  generalize nm1 c = nm at hst htr hla hsz x1 x0 ⊢
  clear h hx hk
  replace hst := Lib.hid hst
  replace htr := Lib.hid htr
  replace hla := Lib.hid hla
  replace hwk := Lib.hid hwk
  go_enter Tryz.func96, Tryz.ntmps96
  go_upto_region 1 with fail
  have b1 : Blk (w.alloc (.cells #[.int .i64 0, .string ⟨#[]⟩, .bool false] 178)) w.heap.size [.int .i64 0, .string ⟨#[]⟩, .bool false] 178 := Blk.new w _ _
  have g1 : w.grownBy (w.alloc (.cells #[.int .i64 0, .string ⟨#[]⟩, .bool false] 178)) none := World.grownBy_alloc w _ _
  obtain ⟨z, hz⟩ : ∃ z, w.heap.size = z := ⟨_, rfl⟩
  generalize (w.alloc (.cells #[.int .i64 0, .string ⟨#[]⟩, .bool false] 178)) = w1 at b1 g1 ⊢
  simp only [hz] at b1 ⊢
  have hst1 := hst.out w1 g1
  have htr1 := htr.out w1
  have hla1 := hla.out w1
  have hwk1 := hwk.out w1
  have z0 := b1.cell (i := 0) rfl
  have z1 := b1.cell (i := 1) rfl
  have z2 := b1.cell (i := 2) rfl
  have f0 := b1.frozen 0
  have f1 := b1.frozen 1
  have f2 := b1.frozen 2
  have hzl := b1.lt
  replace hz := Lib.hid hz
  replace g1 := Lib.hid g1
  replace b1 := Lib.hid b1
  clear hst htr hla hwk
  go_wp2_with fail
  refine hst1.mono ?_
  rintro e w' ⟨rfl, hw⟩
  obtain rfl := hw.symm
  clear hst1 hw
  go_wp2_with fail
  refine htr1.mono ?_
  rintro e w' ⟨rfl, hw⟩
  obtain rfl := hw.symm
  clear htr1 hw
  go_wp2_with fail
  refine hla1.mono ?_
  rintro e w' ⟨rfl, hw⟩
  obtain rfl := hw.symm
  clear hla1 hw
  go_wp2_with fail
  refine hwk1.mono ?_
  rintro e w' ⟨rfl, hw⟩
  obtain rfl := hw.symm
  clear hwk1 hw
  go_wp2
  have b3 := ((b1.out.set 0 (.int .i64 1)).set 1 (.string nm)).set 2 (.bool false)
  have g3 := grown_setNew (grown_setNew (grown_setNew g1.out (Nat.le_of_eq hz.out) 0 (.int .i64 1)) (Nat.le_of_eq hz.out) 1 (.string nm)) (Nat.le_of_eq hz.out) 2 (.bool false)
  generalize ((w1.setCell ⟨z, 0, none⟩ (.int .i64 1)).setCell ⟨z, 1, none⟩ (.string nm)).setCell ⟨z, 2, none⟩ (.bool false) = w3 at b3 g3 ⊢
  have e0 := b3.cell (i := 0) rfl
  have e1 := b3.cell (i := 1) rfl
  have e2 := b3.cell (i := 2) rfl
  exact bodyPost_ret (v := .tuple #[.agg #[.int .i64 1, .string nm, .bool false], .int .i64 0]) (by simp [results, Tryz.results96, go_sem, e0, e1, e2]) rfl ⟨rfl, g3⟩

theorem least_any (h : TreeR w lab fb most room nds mb mem) (m : Nat) (h1 : 1 ≤ m) (hm : m ≤ 1000000) (hno : look nds (m : Int) = none) (hall : ∀ j : Nat, 1 ≤ j → j < m → ∃ x, look nds (j : Int) = some x) :
    Calls Tryz.prog 98 #[.pointer (some ⟨fb, 0, none⟩)] w fun e w' => e = .returned (.int .i64 (m : Int)) ∧ w' = w := by
  have f0 := h.fs.cell (i := 0) rfl
  have hfl := h.fs.lt
  have hf0 := h.find_none hno
  have hf1 : ∀ j : Nat, 1 ≤ j → j < m → ∃ a, (Instr.lookup 174 (.map (some mb)) (.int .i64 (j : Int)) false).run Tryz.prog w = .ok (.pointer (some a)) w := fun j h1 h2 => by
    obtain ⟨x, hx⟩ := hall j h1 h2
    exact ⟨_, h.find_some hx⟩
  replace hf0 := Lib.hid hf0
  replace hf1 := Lib.hid hf1
  clear h hno hall
  go_enter Tryz.func98, Tryz.ntmps98
  go_wp2
  go_loopw [3] (fun nv wr => ∃ n : Nat, 1 ≤ n ∧ n ≤ m ∧ nv = .int .i64 (n : Int) ∧ wr = w) (fun nv _ => m - (intOf nv).toNat)
  case atStart => exact ⟨1, Nat.le_refl _, h1, rfl, rfl⟩
  case round =>
    obtain ⟨n, hn1, hn, rfl, hw⟩ := hrel
    obtain rfl := hw.symm
    by_cases hlt : n < m
    · obtain ⟨ad, hf⟩ := hf1.out n hn1 hlt
      go_wp2
      go_roundw
      case rel => exact ⟨n + 1, by omega, by omega, by go_num, by first | rfl | trivial⟩
      case measure => simp [intOf]; omega
    · obtain rfl : n = m := by omega
      have hf := hf0.out
      go_wp2
      go_ret
      exact ⟨rfl, rfl⟩
end
end Go.Proofs.YtbjakhiflgjflaaGreatDoor
