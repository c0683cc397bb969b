/-
  The library functions that nodes call (TrimRight, IndexByte, LastIndexByte), met by the shelf's contracts.
-/
import Derived.Shelf.Strings.Trim
import Derived.Shelf.Strings.LastIndex
import Derived.Shelf.Small.Strs
import Derived.Test.YtglcfbefpnphaaaGreatDoorProg
import Derived.WalkMore
import Derived.Handy
import Derived.Deep.AppendSrc
import Derived.Laws.CopyRow
import Derived.Test.YtglcfbefpnphaaaGreatDoorZn0
import Derived.Test.YtglcfbefpnphaaaGreatDoorZn1
import Derived.Test.YtglcfbefpnphaaaGreatDoorZn4
import Derived.Test.YtglcfbefpnphaaaGreatDoorZn5
namespace Go.Proofs.YtglcfbefpnphaaaGreatDoor
open Go Go.Shelf Go.RowKit

def shRen : Ren := ⟨fun | 119 => 218 | 149 => 138 | 222 => 164 | 120 => 208 | 137 => 152 | 151 => 192 | 152 => 210 | 162 => 137 | 165 => 214 | 166 => 145 | 169 => 115 | 197 => 209 | 217 => 177 | 224 => 219 | 225 => 220 | 227 => 161 | 228 => 190 | 232 => 160 | 234 => 162 | 236 => 163 | 240 => 173 | 241 => 232 | 260 => 217 | 266 => 201 | 271 => 191 | 276 => 196 | 277 => 238 | n => n, fun | 0 => 0 | 3 => 3 | 4 => 4 | 5 => 5 | 9 => 9 | 20 => 20 | 21 => 21 | 37 => 153 | 46 => 252 | 70 => 212 | 72 => 214 | 75 => 241 | 80 => 105 | 105 => 291 | 116 => 260 | 117 => 261 | 119 => 318 | 124 => 264 | 127 => 245 | 138 => 320 | 139 => 321 | 164 => 295 | n => n, fun | 3 => 1 | 4 => 2 | n => n⟩
theorem sh162 : Lays.n162 Tryz.prog shRen := {
  mixed := by kernel_rfl
  f119 := Tryz.func218.trans (congrArg some (by kernel_rfl))
  f120 := Tryz.func208.trans (congrArg some (by kernel_rfl))
  f137 := Tryz.func152.trans (congrArg some (by kernel_rfl))
  f151 := Tryz.func192.trans (congrArg some (by kernel_rfl))
  f152 := Tryz.func210.trans (congrArg some (by kernel_rfl))
  f162 := Tryz.func137.trans (congrArg some (by kernel_rfl))
  f197 := Tryz.func209.trans (congrArg some (by kernel_rfl))
  f217 := Tryz.func177.trans (congrArg some (by kernel_rfl))
  f224 := Tryz.func219.trans (congrArg some (by kernel_rfl))
  f225 := Tryz.func220.trans (congrArg some (by kernel_rfl))
  f227 := Tryz.func161.trans (congrArg some (by kernel_rfl))
  f228 := Tryz.func190.trans (congrArg some (by kernel_rfl))
  f232 := Tryz.func160.trans (congrArg some (by kernel_rfl))
  f234 := Tryz.func162.trans (congrArg some (by kernel_rfl))
  f236 := Tryz.func163.trans (congrArg some (by kernel_rfl))
  f260 := Tryz.func217.trans (congrArg some (by kernel_rfl))
  f266 := Tryz.func201.trans (congrArg some (by kernel_rfl))
  f271 := Tryz.func191.trans (congrArg some (by kernel_rfl))
  t0 := Tryz.underlying0
  a0 := Tryz.isAgg0
  z0 := Tryz.sizeOf0
  v0 := Tryz.zeroValue0
  t3 := Tryz.underlying3
  a3 := Tryz.isAgg3
  z3 := Tryz.sizeOf3
  v3 := Tryz.zeroValue3
  t4 := Tryz.underlying4
  a4 := Tryz.isAgg4
  z4 := Tryz.sizeOf4
  v4 := Tryz.zeroValue4
  t5 := Tryz.underlying5
  a5 := Tryz.isAgg5
  z5 := Tryz.sizeOf5
  v5 := Tryz.zeroValue5
  t9 := Tryz.underlying9
  a9 := Tryz.isAgg9
  z9 := Tryz.sizeOf9
  v9 := Tryz.zeroValue9
  t21 := Tryz.underlying21
  a21 := Tryz.isAgg21
  z21 := Tryz.sizeOf21
  v21 := Tryz.zeroValue21
  t46 := Tryz.underlying252
  a46 := Tryz.isAgg252
  z46 := Tryz.sizeOf252
  v46 := Tryz.zeroValue252
  t105 := Tryz.underlying291
  a105 := Tryz.isAgg291
  z105 := Tryz.sizeOf291
  v105 := Tryz.zeroValue291
  t116 := Tryz.underlying260
  a116 := Tryz.isAgg260
  z116 := Tryz.sizeOf260
  t117 := Tryz.underlying261
  a117 := Tryz.isAgg261
  z117 := Tryz.sizeOf261
  v117 := Tryz.zeroValue261
  t119 := Tryz.underlying318
  a119 := Tryz.isAgg318
  z119 := Tryz.sizeOf318
  t124 := Tryz.underlying264
  a124 := Tryz.isAgg264
  z124 := Tryz.sizeOf264
  v124 := Tryz.zeroValue264
  t138 := Tryz.underlying320
  a138 := Tryz.isAgg320
  z138 := Tryz.sizeOf320
  v138 := Tryz.zeroValue320
  t139 := Tryz.underlying321
  a139 := Tryz.isAgg321
  z139 := Tryz.sizeOf321
  v139 := Tryz.zeroValue321
  g3 := by kernel_rfl
  g4 := by kernel_rfl }
theorem sh137 : Lays.n137 Tryz.prog shRen := {
  mixed := by kernel_rfl
  f137 := Tryz.func152.trans (congrArg some (by kernel_rfl))
  f217 := Tryz.func177.trans (congrArg some (by kernel_rfl))
  f266 := Tryz.func201.trans (congrArg some (by kernel_rfl))
  t3 := Tryz.underlying3
  a3 := Tryz.isAgg3
  z3 := Tryz.sizeOf3
  v3 := Tryz.zeroValue3
  t5 := Tryz.underlying5
  a5 := Tryz.isAgg5
  z5 := Tryz.sizeOf5
  v5 := Tryz.zeroValue5
  t9 := Tryz.underlying9
  a9 := Tryz.isAgg9
  z9 := Tryz.sizeOf9
  v9 := Tryz.zeroValue9 }
theorem sh149 : Lays.n149 Tryz.prog shRen := {
  mixed := by kernel_rfl
  f149 := Tryz.func138.trans (congrArg some (by kernel_rfl))
  f222 := Tryz.func164.trans (congrArg some (by kernel_rfl))
  t3 := Tryz.underlying3
  a3 := Tryz.isAgg3
  z3 := Tryz.sizeOf3
  v3 := Tryz.zeroValue3
  t4 := Tryz.underlying4
  a4 := Tryz.isAgg4
  z4 := Tryz.sizeOf4
  v4 := Tryz.zeroValue4
  t5 := Tryz.underlying5
  a5 := Tryz.isAgg5
  z5 := Tryz.sizeOf5
  v5 := Tryz.zeroValue5
  t9 := Tryz.underlying9
  a9 := Tryz.isAgg9
  z9 := Tryz.sizeOf9
  v9 := Tryz.zeroValue9 }
theorem trimRight (s : ByteArray) (c : UInt8) (hc : c.toNat < 128) (w : World) (hs : s.size ≤ 9223372036854775807) :
    Calls Tryz.prog 137 #[.string s, .string ⟨#[c]⟩] w fun e w' => e = .returned (.string ⟨(Lib.trimRightB s.data.toList c).toArray⟩) ∧ w' = w :=
  Any.strings_TrimRight_one sh162 s c hc w hs
theorem indexByte (s : ByteArray) (c : Int) (w : World) :
    Calls Tryz.prog 152 #[.string s, .int .u8 c] w fun e w' => e = .returned (.int .i64 (Lib.indexByte s.data.toList c.toNat.toUInt8)) ∧ w' = w :=
  Any.strings_IndexByte sh137 s c w
theorem lastIndexByte (s : ByteArray) (c : Int) (hs : s.size < 4611686018427387904) (w : World) :
    Calls Tryz.prog 138 #[.string s, .int .u8 c] w fun e w' => e = .returned (.int .i64 (Lib.lastIndexByte s c)) ∧ w' = w :=
  Any.strings_LastIndexByte sh149 s c hs w
end Go.Proofs.YtglcfbefpnphaaaGreatDoor
/-
  A path of one part, of one byte, from the root on: its place, and that nothing stands against a new name. Conditions: the byte is no / and no point, and not 0; the root is a directory.
-/
namespace Go.Proofs.YtglcfbefpnphaaaGreatDoor
open Go Go.RowKit

def nm1 (c : UInt8) : ByteArray := ⟨#[c]⟩
theorem TreeR.grown {w w' : World} {lab : Nat → TL} {fb most room mb : Nat} {nds : Nds} {mem : Int → NM} (h : TreeR w lab fb most room nds mb mem) (hg : w.grownBy w' none) : TreeR w' lab fb most room nds mb mem :=
  have hk : ∀ g, g < w.heap.size → w'.heap[g]? = w.heap[g]? := fun g hlt => hg.block g hlt (by simp)
  ⟨(hk fb h.fs.lt).trans h.fs, h.lfs, h.map.keep (hk mb h.map.lt), h.lmap, fun k x hx => (h.nd k x hx).keep fun g hlt _ => ⟨hk g hlt, rfl⟩, fun g hlt => h.new g (Nat.le_trans hg.size hlt), h.lim⟩
theorem grownBy_tr {w w' w'' : World} (h : w.grownBy w' none) (k : w'.grownBy w'' none) : w.grownBy w'' none :=
  ⟨k.os.trans h.os, k.tape.trans h.tape, k.output.trans h.output, Nat.le_trans h.size k.size, fun b hb _ => (k.block b (Nat.lt_of_lt_of_le hb h.size) (by simp)).trans (h.block b hb (by simp))⟩
theorem grownBy_re (w : World) : w.grownBy w none := ⟨rfl, rfl, rfl, Nat.le_refl _, fun _ _ _ => rfl⟩

section
variable {w : World} {lab : Nat → TL} {F : Nat → Prop} {fb most room mb : Nat} {nds : Nds} {mem : Int → NM}

set_option maxRecDepth 100000 in
theorem begin_one (d : Int) (c : UInt8) (hc : c ≠ 47) (w : World) :
    Calls Tryz.prog 149 #[.int .i64 d, .string (nm1 c)] w fun e w' => e = .returned (.tuple #[.int .i64 d, .int .i64 0]) ∧ w' = w := by
  have e1 : ((c.toNat : Int) == 47) = false := by
    simp only [beq_eq_false_iff_ne, ne_eq]
    intro h
    exact hc (UInt8.toNat_inj.1 (by show c.toNat = 47; omega))
  have e2 : (nm1 c).toList.isEmpty = false := by rw [tl_emp]; rfl
  have e3 : (nm1 c).size = 1 := rfl
  have e4 : (nm1 c).data[0]? = some c := rfl
  have e5 : (nm1 c)[0]'(by rw [e3]; decide) = c := rfl
  go_enter Tryz.func149, Tryz.ntmps149
  go_wp2
  go_ret2
  exact ⟨rfl, rfl⟩
set_option maxRecDepth 100000 in
theorem start_one (h : TreeR w lab fb most room nds mb mem) {x : Pn} (hx : look nds 1 = some x) (hk : x.kind = 1) (c : UInt8) (hc : c ≠ 47) :
    Calls Tryz.prog 118 #[.pointer (some ⟨fb, 0, none⟩), .int .i64 1, .string (nm1 c)] w fun e w' => e = .returned (.tuple #[.int .i64 1, .int .i64 0]) ∧ w' = w := by
  have hb := begin_one 1 c hc w
  have hf := h.find_some hx
  have f0 := h.fs.cell (i := 0) rfl
  have hfl := h.fs.lt
  have c0 := (h.nd 1 x hx).blk.cell (show (bodyC x (mem 1))[0]? = some _ from rfl)
  have hlt := (h.nd 1 x hx).blk.lt
  rw [hk] at c0
  generalize (mem 1).blk = kb at hf c0 hlt
  clear h hx hk
  go_enter Tryz.func118, Tryz.ntmps118
  go_wp2_with fail
  refine hb.mono ?_
  rintro e w' ⟨rfl, hw⟩
  obtain rfl := hw.symm
  clear hb hw
  go_wp2
  go_ret2
  exact ⟨rfl, rfl⟩
set_option maxHeartbeats 1000000 in
set_option maxRecDepth 100000 in
theorem walk_empty (d : Int) (b : Bool) (w : World) :
    Calls Tryz.prog 119 #[.pointer (some ⟨fb, 0, none⟩), .int .i64 d, .string ⟨#[]⟩, .bool b] w fun e w' => e = .returned (.tuple #[.int .i64 d, .int .i64 0]) ∧ w' = w := by
  have e2 : (⟨#[]⟩ : ByteArray).toList.isEmpty = true := by decide +kernel
  go_enter Tryz.func119, Tryz.ntmps119
  go_wp2
  go_step3
  go_wp2
  go_step3
  go_wp2
  refine wp_loop_rounds 1 ?_
  rw [rounds_succ]
  go_wp2
  first | go_ret2 | (rw [Exit.noGoto_ret]; go_ret2)
  exact ⟨rfl, rfl⟩
set_option maxHeartbeats 1000000 in
set_option maxRecDepth 100000 in
theorem isDir_one (d : Int) (c : UInt8) (hc : c ≠ 46) (w : World) :
    Calls Tryz.prog 123 #[.agg #[.int .i64 d, .string (nm1 c), .bool false]] w fun e w' => e = .returned (.bool false) ∧ w.grownBy w' none := by
  have e2 : (nm1 c).toList.isEmpty = false := by rw [tl_emp]; rfl
  have e0 : ((nm1 c).toList == []) = false := by rw [ByteArray.toList_eq]; rfl
  have e3 : ((nm1 c).toList == [46]) = false := by
    rw [ByteArray.toList_eq]
    simp [nm1, hc]
  have e4 : ((nm1 c).toList == [46, 46]) = false := by
    rw [ByteArray.toList_eq]
    simp [nm1]
  generalize nm1 c = nm at e2 e0 e3 e4 ⊢
  have g1 : w.grownBy (w.alloc (.cells #[.int .i64 d, .string nm, .bool false] 178)) none := World.grownBy_alloc w _ _
  have b1 : Blk (w.alloc (.cells #[.int .i64 d, .string nm, .bool false] 178)) w.heap.size [.int .i64 d, .string nm, .bool false] 178 := Blk.new w _ _
  have c1 := b1.cell (i := 1) rfl
  have hlt := b1.lt
  replace b1 := Lib.hid b1
  replace g1 := Lib.hid g1
  go_enter Tryz.func123, Tryz.ntmps123
  go_wp2
  go_ret
  exact ⟨rfl, g1.out⟩

/-- A directory's names have the byte's name not yet. -/
theorem find_none (h : TreeR w lab fb most room nds mb mem) {k : Int} {x : Pn} {l : List (ByteArray × Nat)} (hx : look nds k = some x) (hn : x.nms = some l) (c : UInt8) (hc : c ≠ 0) (hl : look l (nm1 c) = none) :
    Calls Tryz.prog 124 #[.pointer (some ⟨(mem k).blk, 0, none⟩), .string (nm1 c)] w fun e w' => e = .returned (.tuple #[.int .i64 0, .int .i64 10]) ∧ w' = w := by
  have hN := h.nd k x hx
  obtain ⟨nb, h1, _, h3⟩ := hN.nms l hn
  have hix := indexByte (nm1 c) 0 w
  have e0 : Lib.indexByte (nm1 c).data.toList (0 : Int).toNat.toUInt8 = -1 := by
    show Lib.indexByte [c] 0 = -1
    simp [Lib.indexByte, hc]
  rw [e0] at hix
  have hfi := h3.find keyS Tryz.underlying154 Tryz.underlying9 (Tryz.zeroValue3 w) true (nm1 c)
  have e1 : look (l.map fun p => (p.1, Value.int .i64 (p.2 : Int))) (nm1 c) = none := by rw [look_map (fun n : Nat => Value.int .i64 (n : Int)), hl]; rfl
  rw [e1] at hfi
  replace hfi : (Instr.lookup 154 (.map (some nb)) (.string (nm1 c)) true).run Tryz.prog w = .ok (.tuple #[.int .i64 0, .bool false]) w := hfi
  have c4 := hN.blk.cell (show (bodyC x (mem k))[4]? = some _ from rfl)
  have hlt := hN.blk.lt
  rw [h1] at c4
  have e3 : ¬ (32 : Int) < ((nm1 c).size : Int) := by show ¬ (32 : Int) < ((1 : Nat) : Int); omega
  generalize (mem k).blk = kb at c4 hlt ⊢
  generalize nm1 c = nm at hfi hix e3 ⊢
  clear h hN hx hn hl e0 e1 h3 h1
  go_enter Tryz.func124, Tryz.ntmps124
  go_wp2_with fail
  refine hix.mono ?_
  rintro e w' ⟨rfl, hw⟩
  obtain rfl := hw.symm
  clear hix hw
  go_wp2
  go_ret2
  exact ⟨rfl, rfl⟩
theorem nm1_trim (c : UInt8) (hc : c ≠ 47) : (⟨(Lib.trimRightB (nm1 c).data.toList 47).toArray⟩ : ByteArray) = nm1 c := by
  show (⟨(Lib.trimRightB [c] 47).toArray⟩ : ByteArray) = nm1 c
  simp [Lib.trimRightB, nm1, hc]
theorem nm1_last (c : UInt8) (hc : c ≠ 47) : Lib.lastIndexByte (nm1 c) 47 = -1 := by
  rcases Lib.lastIndexByte_spec (nm1 c) 47 with ⟨h, _⟩ | ⟨i, hi, _, h, _⟩
  · exact h
  · have hi : i < 1 := hi
    obtain rfl : i = 0 := by omega
    have h : ((c.toNat : Nat) : Int) = 47 := h
    exact absurd (UInt8.toNat_inj.1 (show c.toNat = (47 : UInt8).toNat by have e : (47 : UInt8).toNat = 47 := rfl; omega)) hc
theorem nm1_all (c : UInt8) : (nm1 c).extract 0 1 = nm1 c := rfl
theorem nm1_none (c : UInt8) : (nm1 c).extract 0 0 = ⟨#[]⟩ := rfl

set_option maxHeartbeats 1000000 in
set_option maxRecDepth 100000 in
theorem place_one (h : TreeR w lab fb most room nds mb mem) {x : Pn} (hx : look nds 1 = some x) (hk : x.kind = 1) (c : UInt8) (hc : c ≠ 47) :
    Calls Tryz.prog 95 #[.pointer (some ⟨fb, 0, none⟩), .int .i64 1, .string (nm1 c)] w fun e w' => e = .returned (.tuple #[.agg #[.int .i64 1, .string (nm1 c), .bool false], .int .i64 0]) ∧ w.grownBy w' none := by
  have hst := fun (W : World) (hW : w.grownBy W none) => start_one (h.grown hW) hx hk c hc
  have htr := fun (W : World) => trimRight (nm1 c) 47 (by decide) W (by show 1 ≤ _; omega)
  rw [nm1_trim c hc] at htr
  have hla := fun (W : World) => lastIndexByte (nm1 c) 47 (by show 1 < _; omega) W
  rw [nm1_last c hc] at hla
  have hwk := fun (W : World) => walk_empty (fb := fb) 1 true W
  have hsz : (nm1 c).size = 1 := rfl
  have x1 := nm1_all c
  have x0 := nm1_none c
  generalize nm1 c = nm at hst htr hla hsz x1 x0 ⊢
  clear h hx hk
  replace hst := Lib.hid hst
  replace htr := Lib.hid htr
  replace hla := Lib.hid hla
  replace hwk := Lib.hid hwk
  go_enter Tryz.func95, Tryz.ntmps95
  go_upto_region 1 with fail
  have b1 : Blk (w.alloc (.cells #[.int .i64 0, .string ⟨#[]⟩, .bool false] 178)) w.heap.size [.int .i64 0, .string ⟨#[]⟩, .bool false] 178 := Blk.new w _ _
  have g1 : w.grownBy (w.alloc (.cells #[.int .i64 0, .string ⟨#[]⟩, .bool false] 178)) none := World.grownBy_alloc w _ _
  obtain ⟨z, hz⟩ : ∃ z, w.heap.size = z := ⟨_, rfl⟩
  generalize (w.alloc (.cells #[.int .i64 0, .string ⟨#[]⟩, .bool false] 178)) = w1 at b1 g1 ⊢
  simp only [hz] at b1 ⊢
  have hst1 := hst.out w1 g1
  have htr1 := htr.out w1
  have hla1 := hla.out w1
  have hwk1 := hwk.out w1
  have z0 := b1.cell (i := 0) rfl
  have z1 := b1.cell (i := 1) rfl
  have z2 := b1.cell (i := 2) rfl
  have f0 := b1.frozen 0
  have f1 := b1.frozen 1
  have f2 := b1.frozen 2
  have hzl := b1.lt
  replace hz := Lib.hid hz
  replace g1 := Lib.hid g1
  replace b1 := Lib.hid b1
  clear hst htr hla hwk
  go_wp2_with fail
  refine hst1.mono ?_
  rintro e w' ⟨rfl, hw⟩
  obtain rfl := hw.symm
  clear hst1 hw
  go_wp2_with fail
  refine htr1.mono ?_
  rintro e w' ⟨rfl, hw⟩
  obtain rfl := hw.symm
  clear htr1 hw
  go_wp2_with fail
  refine hla1.mono ?_
  rintro e w' ⟨rfl, hw⟩
  obtain rfl := hw.symm
  clear hla1 hw
  go_wp2_with fail
  refine hwk1.mono ?_
  rintro e w' ⟨rfl, hw⟩
  obtain rfl := hw.symm
  clear hwk1 hw
  go_wp2
  have b3 := ((b1.out.set 0 (.int .i64 1)).set 1 (.string nm)).set 2 (.bool false)
  have g3 := grown_setNew (grown_setNew (grown_setNew g1.out (Nat.le_of_eq hz.out) 0 (.int .i64 1)) (Nat.le_of_eq hz.out) 1 (.string nm)) (Nat.le_of_eq hz.out) 2 (.bool false)
  generalize ((w1.setCell ⟨z, 0, none⟩ (.int .i64 1)).setCell ⟨z, 1, none⟩ (.string nm)).setCell ⟨z, 2, none⟩ (.bool false) = w3 at b3 g3 ⊢
  have e0 := b3.cell (i := 0) rfl
  have e1 := b3.cell (i := 1) rfl
  have e2 := b3.cell (i := 2) rfl
  exact bodyPost_ret (v := .tuple #[.agg #[.int .i64 1, .string nm, .bool false], .int .i64 0]) (by simp [results, Tryz.results95, go_sem, e0, e1, e2]) rfl ⟨rfl, g3⟩

theorem least_any (h : TreeR w lab fb most room nds mb mem) (m : Nat) (h1 : 1 ≤ m) (hm : m ≤ 1000000) (hno : look nds (m : Int) = none) (hall : ∀ j : Nat, 1 ≤ j → j < m → ∃ x, look nds (j : Int) = some x) :
    Calls Tryz.prog 97 #[.pointer (some ⟨fb, 0, none⟩)] w fun e w' => e = .returned (.int .i64 (m : Int)) ∧ w' = w := by
  have f0 := h.fs.cell (i := 0) rfl
  have hfl := h.fs.lt
  have hf0 := h.find_none hno
  have hf1 : ∀ j : Nat, 1 ≤ j → j < m → ∃ a, (Instr.lookup 174 (.map (some mb)) (.int .i64 (j : Int)) false).run Tryz.prog w = .ok (.pointer (some a)) w := fun j h1 h2 => by
    obtain ⟨x, hx⟩ := hall j h1 h2
    exact ⟨_, h.find_some hx⟩
  replace hf0 := Lib.hid hf0
  replace hf1 := Lib.hid hf1
  clear h hno hall
  go_enter Tryz.func97, Tryz.ntmps97
  go_wp2
  go_loopw [3] (fun nv wr => ∃ n : Nat, 1 ≤ n ∧ n ≤ m ∧ nv = .int .i64 (n : Int) ∧ wr = w) (fun nv _ => m - (intOf nv).toNat)
  case atStart => exact ⟨1, Nat.le_refl _, h1, rfl, rfl⟩
  case round =>
    obtain ⟨n, hn1, hn, rfl, hw⟩ := hrel
    obtain rfl := hw.symm
    by_cases hlt : n < m
    · obtain ⟨ad, hf⟩ := hf1.out n hn1 hlt
      go_wp2
      go_roundw
      case rel => exact ⟨n + 1, by omega, by omega, by go_num, by first | rfl | trivial⟩
      case measure => simp [intOf]; omega
    · obtain rfl : n = m := by omega
      have hf := hf0.out
      go_wp2
      go_ret
      exact ⟨rfl, rfl⟩
end
end Go.Proofs.YtglcfbefpnphaaaGreatDoor
/-
  A table's add, Ref and the first half of Unref. Conditions: none is back where one is given out; at most a hundred thousand.
  What an open node does: its end, its bytes. Conditions: places up to a thousand million.
  What the ends of a pipe do. Conditions: a pool of at most half a million bytes in all.
-/
namespace Go.Proofs.YtglcfbefpnphaaaGreatDoor
open Go Go.RowKit Go.ChangeMaps

theorem doesV_form (pp : Pps) (kd : Kd) (ob : Nat) : ∃ T u, doesV pp kd ob = .iface T u := by cases kd <;> exact ⟨_, _, rfl⟩
section
variable {w : World} {lab : Nat → HL} {F : Nat → Prop} {fb plb tb mb top : Nat} {hs : Hs} {pp : Pps} {mem : Int → HM} {v : Value} {xs : List Int}
set_option maxHeartbeats 1000000 in
set_option maxRecDepth 100000 in
theorem tab_add (h : TabF w F fb plb tb hs pp top []) (G : Nat → Prop) [DecidablePred G] (hG : ∀ g, G g → g < w.heap.size ∧ ¬ F g) (ht : top < 100000) (kd : Kd) (ob : Nat)
    (hob : ∀ w' lab', (∀ g, G g → w'.heap[g]? = w.heap[g]? ∧ lab' g = .obj ((top + 1 : Nat) : Int)) → ∀ kb, ObjAt w' lab' fb pp.length ((top + 1 : Nat) : Int) ⟨kb, ob, .slice none 0 0⟩ kd) :
    Calls Tryz.prog 92 #[ptrV tb, doesV pp kd ob] w fun e w' => e = .returned (.int .i64 ((top + 1 : Nat) : Int)) ∧ ∃ F', TabF w' F' fb plb tb (hs ++ [(((top + 1 : Nat) : Int), ⟨1, kd⟩)]) pp (top + 1) [] ∧ Chg (fun g => F g ∨ G g) F' w w' := by
  obtain ⟨lab, mb, mem, v, h, hF⟩ := h
  have htk := nums_take0 h.num ht
  have hlt := h.num.at_.blk.lt
  have hadd := fun w2 kb => h.add (S := fun g => g = tb ∨ g = mb) (S' := fun g => g = tb ∨ g = mb) (w2 := w2) (k := ((top + 1 : Nat) : Int)) (kd := kd) (ob := ob) (kb := kb) (top' := top + 1) (v' := v) (xs' := []) hF G hG
  have hno : look hs ((top + 1 : Nat) : Int) = none := by
    rw [look_none]
    intro p hp e
    have := (h.num.all p.1).2 (.inl (List.mem_map.2 ⟨p, hp, rfl⟩))
    omega
  have hlk : look (entH mem hs) ((top + 1 : Nat) : Int) = none := by rw [entH_look, hno]; rfl
  have hmt : mb ≠ tb := fun e => by have := h.lmap; rw [e, h.ltb] at this; cases this
  have hkm := h.map
  have hsp : ∀ g, g < w.heap.size → (fun g => g = tb ∨ g = mb) g → lab g = .tab ∨ lab g = .tmap ∨ lab g = .back := fun g _ hg => by
    rcases hg with hg | hg
    · exact .inl (by rw [hg]; exact h.ltb)
    · exact .inr (.inl (by rw [hg]; exact h.lmap))
  have hbk := h.lbk
  have hlm := h.lmap
  generalize ((top + 1 : Nat) : Int) = k at htk hadd hno hlk hob ⊢
  obtain ⟨T, u, hdv⟩ := doesV_form pp kd ob
  unfold ptrV
  rw [hdv]
  replace hdv := Lib.hid hdv
  replace hadd := Lib.hid hadd
  replace hob := Lib.hid hob
  replace hsp := Lib.hid hsp
  replace hbk := Lib.hid hbk
  replace hno := Lib.hid hno
  clear h
  go_enter Tryz.func92, Tryz.ntmps92
  go_wp2_with fail
  refine htk.mono ?_
  rintro e w1 ⟨rfl, hn, hC⟩
  clear htk
  have hkm1 := hkm.keep (hC.block mb hkm.lt hmt)
  have c2 := hn.at_.blk.cell (i := 2) rfl
  have hlt1 := hn.at_.blk.lt
  have hmb1 := hkm1.lt
  have hz1 := hC.size
  replace hn := Lib.hid hn
  replace hC := Lib.hid hC
  have hkm2 : KMap (w1.alloc (.cells #[.iface T u, .int .i64 1] 148)) mb (.int .i64) encI (entH mem hs) := hkm1.keep (Below.heap_alloc w1 _ mb hmb1)
  have hb2 : Blk (w1.alloc (.cells #[.iface T u, .int .i64 1] 148)) w1.heap.size [.iface T u, .int .i64 ((1 : Nat) : Int)] 148 := Blk.new w1 _ _
  have hc2 : Chg (fun g => g = tb ∨ g = mb) (fun g => g = tb ∨ g = mb) w1 (w1.alloc (.cells #[.iface T u, .int .i64 1] 148)) := Chg.alloc_other _ w1 _
  replace hb2 := Lib.hid hb2
  replace hc2 := Lib.hid hc2
  go_wp2_with (at_mapUpdate; go_loud (refine wpList_put_k rfl _ _ _ 134 rfl 3 135 keyI Tryz.underlying134 Tryz.underlying3 rfl hkm2 k rfl hlk (.pointer (some ⟨w1.heap.size, 0, none⟩)) rfl ?_); intro ob2 hkm3; refine Hid.out ?_)
  refine Lib.hid ?_
  have hc3 := (hC.out.mono (G := fun g => g = tb ∨ g = mb) (G' := fun g => g = tb ∨ g = mb) (fun b hb => .inl hb) (fun b _ hb => .inr hb)).trans (hc2.out.trans (Chg.setB (F := fun g => g = tb ∨ g = mb) (.inr rfl) ob2))
  have hb3 := hb2.out.setB (g := mb) (by omega) ob2
  have hn3 : NumR (setBlock (w1.alloc (.cells #[.iface T u, .int .i64 1] 148)) mb ob2) tb _ _ _ _ _ _ _ := hn.out.keep ((setB_other (Ne.symm hmt) ob2).trans (Below.heap_alloc w1 _ tb hlt1)) fun g hg => by
    have hgl := hn.out.at_.row.lt hg
    have hgm : g ≠ mb := fun e => by
      have := hbk.out g hg
      rw [e, hlm] at this
      cases this
    exact (setB_other hgm ob2).trans (Below.heap_alloc w1 _ g hgl)
  have hres := hadd.out _ w1.heap.size hno.out hc3 hsp.out hn3 hbk.out hkm3 (by rw [hdv.out]; exact hb3) hz1 hob.out
  generalize setBlock (w1.alloc (.cells #[.iface T u, .int .i64 1] 148)) mb ob2 = w3 at hres ⊢
  replace hres := Lib.hid hres
  clear hc3 hb3 hn3 hkm2 hb2 hc2 c2 hkm1 hkm3
  go_wp2
  go_ret
  exact ⟨rfl, hres.out⟩
end
end Go.Proofs.YtglcfbefpnphaaaGreatDoor

namespace Go.Proofs.YtglcfbefpnphaaaGreatDoor
open Go Go.RowKit

def fileC (fb : Nat) (n : Int) (a : Nat) (r wr m : Bool) : List Value := [ptrV fb, .int .i64 n, .int .i64 (a : Int), .bool r, .bool wr, .bool m]
section
variable {w : World} {F : Nat → Prop} {fb most room : Nat} {nds : Nds} {ob a : Nat} {n : Int} {r wr m : Bool}

end
end Go.Proofs.YtglcfbefpnphaaaGreatDoor

namespace Go.Proofs.YtglcfbefpnphaaaGreatDoor
open Go Go.RowKit

section
variable {w : World} {F : Nat → Prop} {plb q M C tot k bb pb ends : Nat} {es : List Ent} {b : Bs}

end
end Go.Proofs.YtglcfbefpnphaaaGreatDoor
/-
  A tree, a pool and a table together, apart from each other. Conditions: none.
-/
namespace Go.Proofs.YtglcfbefpnphaaaGreatDoor
open Go Go.RowKit Go.ChangeMaps

/-- Where they lie, and their bounds. -/
structure Sy where
  fb : Nat
  plb : Nat
  tb : Nat
  most : Nat
  room : Nat
  q : Nat
  M : Nat
  C : Nat
/-- What they hold. -/
structure St where
  nds : Nds
  es : List Ent
  tot : Nat
  hs : Hs
  pp : Pps
  top : Nat
  xs : List Int
structure SysR (w : World) (Ft Fp Fh : Nat → Prop) (c : Sy) (s : St) : Prop where
  tree : TreeF w Ft c.fb c.most c.room s.nds
  pool : AllF w Fp c.plb c.q c.M c.C s.es s.tot
  tab : TabF w Fh c.fb c.plb c.tb s.hs s.pp s.top s.xs
  tp : ∀ g, Ft g → ¬ Fp g
  th : ∀ g, Ft g → ¬ Fh g
  ph : ∀ g, Fp g → ¬ Fh g
def foot (Ft Fp Fh : Nat → Prop) (g : Nat) : Prop := Ft g ∨ Fp g ∨ Fh g
def Sys (w : World) (F : Nat → Prop) (c : Sy) (s : St) : Prop := ∃ Ft Fp Fh, SysR w Ft Fp Fh c s ∧ ∀ g, F g ↔ foot Ft Fp Fh g

section
variable {w w' : World} {F Ft Fp Fh Ft' Fp' Fh' : Nat → Prop} {c : Sy} {s s' : St}
theorem SysR.lt (h : SysR w Ft Fp Fh c s) {g : Nat} (hg : foot Ft Fp Fh g) : g < w.heap.size := by
  rcases hg with hg | hg | hg
  · exact h.tree.lt hg
  · exact h.pool.lt hg
  · exact h.tab.lt hg
theorem SysR.keep (h : SysR w Ft Fp Fh c s) (hs : w.heap.size ≤ w'.heap.size) (hk : ∀ g, foot Ft Fp Fh g → w'.heap[g]? = w.heap[g]?) : SysR w' Ft Fp Fh c s :=
  ⟨h.tree.keep hs fun g hg => hk g (.inl hg), h.pool.keep hs fun g hg => hk g (.inr (.inl hg)), h.tab.keep hs fun g hg => hk g (.inr (.inr hg)), h.tp, h.th, h.ph⟩
theorem Sys.lt (h : Sys w F c s) {g : Nat} (hg : F g) : g < w.heap.size := by
  obtain ⟨Ft, Fp, Fh, h, hF⟩ := h
  exact h.lt ((hF g).1 hg)
theorem Sys.keep (h : Sys w F c s) (hs : w.heap.size ≤ w'.heap.size) (hk : ∀ g, F g → w'.heap[g]? = w.heap[g]?) : Sys w' F c s := by
  obtain ⟨Ft, Fp, Fh, h, hF⟩ := h
  exact ⟨Ft, Fp, Fh, h.keep hs fun g hg => hk g ((hF g).2 hg), hF⟩
theorem Sys.grown (h : Sys w F c s) (hg : w.grownBy w' none) : Sys w' F c s := h.keep hg.size fun g hg' => hg.block g (h.lt hg') (by simp)
theorem Sys.of {w0 : World} (hF : ∀ g, F g ↔ foot Ft Fp Fh g) (h : SysR w' Ft' Fp' Fh' c s') (k : Chg (foot Ft Fp Fh) (foot Ft' Fp' Fh') w0 w') : ∃ F', Sys w' F' c s' ∧ Chg F F' w0 w' :=
  ⟨foot Ft' Fp' Fh', ⟨Ft', Fp', Fh', h, fun _ => Iff.rfl⟩, k.mono (fun b hb => (hF b).2 hb) fun _ _ h => .inl h⟩
theorem SysR.treeStep {nds' : Nds} (h : SysR w Ft Fp Fh c s) (ht : TreeF w' Ft' c.fb c.most c.room nds') (k : Chg Ft Ft' w w') :
    SysR w' Ft' Fp Fh c { s with nds := nds' } ∧ Chg (foot Ft Fp Fh) (foot Ft' Fp Fh) w w' := by
  have h1 := k.off (G := Fp) fun g hg => ⟨h.pool.lt hg, fun hf => h.tp g hf hg⟩
  have h2 := k.off (G := Fh) fun g hg => ⟨h.tab.lt hg, fun hf => h.th g hf hg⟩
  exact ⟨⟨ht, h.pool.keep k.size fun g hg => k.block g (h.pool.lt hg) fun hf => h.tp g hf hg, h.tab.keep k.size fun g hg => k.block g (h.tab.lt hg) fun hf => h.th g hf hg,
    fun g hg hp => h1 g hp hg, fun g hg hh => h2 g hh hg, h.ph⟩, k.mono (fun b hb => .inl hb) fun b _ hb => hb.elim .inl fun hb => .inr (.inr hb)⟩
theorem SysR.poolStep {es' : List Ent} {tot' : Nat} (h : SysR w Ft Fp Fh c s) (ht : AllF w' Fp' c.plb c.q c.M c.C es' tot') (k : Chg Fp Fp' w w') :
    SysR w' Ft Fp' Fh c { s with es := es', tot := tot' } ∧ Chg (foot Ft Fp Fh) (foot Ft Fp' Fh) w w' := by
  have h1 := k.off (G := Ft) fun g hg => ⟨h.tree.lt hg, fun hf => h.tp g hg hf⟩
  have h2 := k.off (G := Fh) fun g hg => ⟨h.tab.lt hg, fun hf => h.ph g hf hg⟩
  exact ⟨⟨h.tree.keep k.size fun g hg => k.block g (h.tree.lt hg) fun hf => h.tp g hg hf, ht, h.tab.keep k.size fun g hg => k.block g (h.tab.lt hg) fun hf => h.ph g hf hg,
    fun g hg hp => h1 g hg hp, h.th, fun g hg hh => h2 g hh hg⟩, k.mono (fun b hb => .inr (.inl hb)) fun b _ hb => by
      rcases hb with hb | hb | hb
      · exact .inr (.inl hb)
      · exact .inl hb
      · exact .inr (.inr (.inr hb))⟩
theorem SysR.tabStep {G : Nat → Prop} {hs' : Hs} {pp' : Pps} {top' : Nat} {xs' : List Int} (h : SysR w Ft Fp Fh c s) (hG : ∀ g, G g → ¬ Ft g ∧ ¬ Fp g) (ht : TabF w' Fh' c.fb c.plb c.tb hs' pp' top' xs') (k : Chg (fun g => Fh g ∨ G g) Fh' w w') :
    SysR w' Ft Fp Fh' c { s with hs := hs', pp := pp', top := top', xs := xs' } ∧ Chg (fun g => foot Ft Fp Fh g ∨ G g) (foot Ft Fp Fh') w w' := by
  have n1 : ∀ g, Ft g → ¬ (Fh g ∨ G g) := fun g hg hf => hf.elim (h.th g hg) fun hf => (hG g hf).1 hg
  have n2 : ∀ g, Fp g → ¬ (Fh g ∨ G g) := fun g hg hf => hf.elim (h.ph g hg) fun hf => (hG g hf).2 hg
  have h1 := k.off (G := Ft) fun g hg => ⟨h.tree.lt hg, n1 g hg⟩
  have h2 := k.off (G := Fp) fun g hg => ⟨h.pool.lt hg, n2 g hg⟩
  refine ⟨⟨h.tree.keep k.size fun g hg => k.block g (h.tree.lt hg) (n1 g hg), h.pool.keep k.size fun g hg => k.block g (h.pool.lt hg) (n2 g hg), ht, h.tp, fun g hg => h1 g hg, fun g hg => h2 g hg⟩,
    k.mono (fun b hb => hb.elim (fun hb => .inl (.inr (.inr hb))) .inr) fun b _ hb => ?_⟩
  rcases hb with hb | hb | hb
  · exact .inr (.inl (.inl hb))
  · exact .inr (.inl (.inr (.inl hb)))
  · exact .inl hb
theorem SysR.tabStep0 {hs' : Hs} {pp' : Pps} {top' : Nat} {xs' : List Int} (h : SysR w Ft Fp Fh c s) (ht : TabF w' Fh' c.fb c.plb c.tb hs' pp' top' xs') (k : Chg Fh Fh' w w') :
    SysR w' Ft Fp Fh' c { s with hs := hs', pp := pp', top := top', xs := xs' } ∧ Chg (foot Ft Fp Fh) (foot Ft Fp Fh') w w' := by
  have := h.tabStep (G := fun _ => False) nofun ht (k.mono (fun b hb => .inl hb) fun b _ hb => .inl hb)
  exact ⟨this.1, this.2.mono (fun b hb => hb.elim id False.elim) fun b _ hb => .inl hb⟩
end

section
variable {w : World} {lab : Nat → HL} {F : Nat → Prop} {fb plb tb mb top : Nat} {hs : Hs} {pp : Pps} {mem : Int → HM} {v : Value} {xs : List Int}
/-- What a handle does changes, in its own block. -/
theorem TabR.does (h : TabR w lab fb plb tb hs pp mb mem top v xs) (hF : ∀ g, F g ↔ lab g ≠ .free) {k : Int} {x : Hd} (hx : look hs k = some x) {w' : World} (kd : Kd) (hdv : doesV pp kd (mem k).ob = doesV pp x.kd (mem k).ob) (hl : lab (mem k).ob = .obj k) (c : Chg (fun g => g = (mem k).ob) (fun g => g = (mem k).ob) w w')
    (ho : ObjAt w' lab fb pp.length k (mem k) kd) : ∃ F', TabF w' F' fb plb tb (upd hs k { x with kd := kd }) pp top xs ∧ Chg F F' w w' := by
  have hd := h.hd k x hx
  refine h.step (S := fun g => g = (mem k).ob) (S' := fun g => g = (mem k).ob) (lab' := lab) (M' := mem k) hF hx c (fun g _ hg => by rw [hg, hl]; exact rfl) (fun _ _ => rfl) (fun g hg => h.new g (Nat.le_trans c.size hg)) ⟨?_, hd.lb, ho⟩ rfl
  rw [show doesV pp ({ x with kd := kd } : Hd).kd (mem k).ob = doesV pp x.kd (mem k).ob from hdv]
  exact (c.block _ hd.blk.lt fun e => by rw [← e, hd.lb] at hl; cases hl).trans hd.blk
end
end Go.Proofs.YtglcfbefpnphaaaGreatDoor
/-
  Words for memory in which much is written: blocks that may be written, rows of such blocks, what a step may change; append as a run equation. Conditions: none.
-/
namespace Go.Proofs.YtglcfbefpnphaaaGreatDoor
open Go Go.RowKit Go.ChangeMaps

section
variable {w w' : World} {b : Nat} {cur : List Value} {t : TypeId}
end
structure Stp (S : Nat → Prop) (w w' : World) : Prop where
  os : w'.os = w.os
  tape : w'.tape = w.tape
  output : w'.output = w.output
  size : w.heap.size ≤ w'.heap.size
  block : ∀ b, b < w.heap.size → ¬ S b → w'.heap[b]? = w.heap[b]?
section
variable {S S' : Nat → Prop} {w w' w'' : World}
theorem Stp.refl (S : Nat → Prop) (w : World) : Stp S w w := ⟨rfl, rfl, rfl, Nat.le_refl _, fun _ _ _ => rfl⟩
theorem Stp.trans (h : Stp S w w') (k : Stp S' w' w'') (hs : ∀ b, b < w.heap.size → S' b → S b) : Stp S w w'' :=
  ⟨k.os.trans h.os, k.tape.trans h.tape, k.output.trans h.output, Nat.le_trans h.size k.size, fun b hb hn => (k.block b (Nat.lt_of_lt_of_le hb h.size) (fun e => hn (hs b hb e))).trans (h.block b hb hn)⟩
theorem Stp.mono (h : Stp S w w') (hs : ∀ b, b < w.heap.size → S b → S' b) : Stp S' w w' := ⟨h.os, h.tape, h.output, h.size, fun b hb hn => h.block b hb fun k => hn (hs b hb k)⟩
theorem Stp.set {b : Nat} (hS : S b) (i : Nat) (u : Value) : Stp S w (w.setCell ⟨b, i, none⟩ u) :=
  ⟨rfl, rfl, rfl, by simp [World.setCell], fun k _ hk => heap_setCell_other w _ k u (fun e => hk (by rw [e]; exact hS))⟩
theorem Stp.row {b : Nat} (hS : S b) (cs : Array Value) : Stp S w (w.setRow b cs) :=
  ⟨rfl, rfl, rfl, by simp, fun k _ hk => setRow_other w b k cs (fun e => hk (by rw [e]; exact hS))⟩
theorem Stp.alloc (S : Nat → Prop) (w : World) (o : Obj) : Stp S w (w.alloc o) := ⟨rfl, rfl, rfl, by simp, fun k hk _ => Below.heap_alloc w o k hk⟩
theorem Stp.drew (S : Nat → Prop) (w : World) : Stp S w w.drew := ⟨rfl, rfl, rfl, Nat.le_refl _, fun _ _ _ => rfl⟩
theorem Blk.stp {b : Nat} {cur : List Value} {t : TypeId} (h : Blk w b cur t) (m : Stp S w w') (hb : ¬ S b) : Blk w' b cur t := (m.block b h.lt hb).trans h
end

structure Fr (B : Nat) (T : TypeId → Prop) (M : Nat → Prop) (w w' : World) : Prop where
  os : w'.os = w.os
  tape : w'.tape = w.tape
  output : w'.output = w.output
  size : w.heap.size ≤ w'.heap.size
  keep : ∀ b, b < w.heap.size → (b < B ∨ ¬ M b ∧ ∀ cur t f, w.heap[b]? = some (.cells cur t f) → ¬ T t) → w'.heap[b]? = w.heap[b]?
section
variable {B B' : Nat} {T T' : TypeId → Prop} {M M' S : Nat → Prop} {w w' w'' : World}
theorem Fr.trans (h : Fr B T M w w') (k : Fr B T M w' w'') : Fr B T M w w'' :=
  ⟨k.os.trans h.os, k.tape.trans h.tape, k.output.trans h.output, Nat.le_trans h.size k.size, fun b hb hf => by
    have e := h.keep b hb hf
    exact (k.keep b (Nat.lt_of_lt_of_le hb h.size) (hf.imp id fun hf => ⟨hf.1, fun cur t f hc => hf.2 cur t f (e ▸ hc)⟩)).trans e⟩
theorem Fr.of_stp (h : Stp S w w') (hs : ∀ b, b < w.heap.size → S b → B ≤ b ∧ (M b ∨ ∃ cur t f, w.heap[b]? = some (.cells cur t f) ∧ T t)) : Fr B T M w w' :=
  ⟨h.os, h.tape, h.output, h.size, fun b hb hf => h.block b hb fun k => by
    obtain ⟨h1, h2⟩ := hs b hb k
    rcases hf with hf | ⟨hf, hg⟩
    · omega
    · rcases h2 with h2 | ⟨cur, t, f, h3, h4⟩
      · exact hf h2
      · exact hg cur t f h3 h4⟩
theorem Fr.drewN (B : Nat) (T : TypeId → Prop) (M : Nat → Prop) (w : World) (n : Nat) : Fr B T M w (w.drewN n) := ⟨rfl, rfl, rfl, Nat.le_refl _, fun _ _ _ => rfl⟩
theorem Blk.fr {b : Nat} {cur : List Value} {t : TypeId} (h : Blk w b cur t) (m : Fr B T M w w') (ht : ¬ T t) (hM : ¬ M b) : Blk w' b cur t :=
  (m.keep b h.lt (.inr ⟨hM, fun _ _ _ hc => by
    have := h.symm.trans hc
    simp only [Option.some.injEq, Obj.cells.injEq] at this
    rw [← this.2.1]; exact ht⟩)).trans h
end

section
variable {w w' : World} {B : Nat} {e : TypeId} {v : Value} {n : Nat} {xs : List Value}
theorem Row.stp {S : Nat → Prop} (h : Row w B e v n xs) (m : Stp S w w') (hb : ∀ g, v.ownBlock = some g → ¬ S g) : Row w' B e v n xs :=
  h.keep fun g hg => m.block g (h.lt hg).2.1 (hb g hg)
end

section
variable {P : Program} (w : World)
theorem run_append_rowS (B : Nat) (t tx ty e : TypeId) (i : TypeInfo) (z : Value) (ht : P.underlying t = some (.slice e)) (hi : P.info? e = some i) (hz : i.zero = some z) (hs1 : i.size = 1) (hzs : z.cells.size = 1)
    (v : Value) (n : Nat) (xs : List Value) (hr : Row w B e v n xs) (x : Value) (m : Nat) (news : List Value) (hs : Src P 1 tx x m news w) (hb : (n + m) * i.bytes ≤ 140737488355328) (hm : n + m ≤ 100000000) (hB : B ≤ w.heap.size) :
    ∃ v' w', (Builtin.append_ #[t, tx] ty #[v, x]).run P w = .ok v' w' ∧ Row w' B e v' (n + m) (xs ++ news) ∧ Stp (fun b => v.ownBlock = some b) w w' ∧ (v'.ownBlock = v.ownBlock ∨ v'.ownBlock = some w.heap.size) := by
  have hs0 := hs
  rw [← hs1] at hs0
  have hnl : news.length = m := by simpa using hs.newsLen
  have hxl := hr.len
  have h63 : n + m ≤ maxLen := by simp only [maxLen]; omega
  have grown : ∀ (base : Option Addr) (cap : Nat) (hv : v = .slice base n cap) (hlt : cap < n + m) (hold : (Builtin.firstCells i.size n (.slice base n cap)).run P w.drew = .ok xs.toArray w.drew),
      ∃ v' w', (Builtin.append_ #[t, tx] ty #[v, x]).run P w = .ok v' w' ∧ Row w' B e v' (n + m) (xs ++ news) ∧ Stp (fun b => v.ownBlock = some b) w w' ∧ (v'.ownBlock = v.ownBlock ∨ v'.ownBlock = some w.heap.size) := by
    intro base cap hv hlt hold
    subst hv
    have hge := grownCap_ge w (n + m) cap e
    have hcm := grownCap_le_maxLen w (n + m) cap e h63
    refine ⟨_, _, run_append_grow_src w t tx ty e i z ht hi hz base n cap xs hold x m news hs0 hlt (by omega) (growslice_fits hlt hb), .inr ⟨w.heap.size, 0, _, (xs ++ news) ++ (Builtin.zeroCells z.cells (grownCap w (n + m) cap e - (n + m))).toList, rfl, hB, ?_, hge, hcm, ?_, ?_⟩, (Stp.drew _ w).trans (Stp.alloc _ w.drew _) (fun _ _ h => h), .inr rfl⟩
    · have e1 : ((xs ++ news).toArray ++ Builtin.zeroCells z.cells (grownCap w (n + m) cap e - (n + m))) = ((xs ++ news) ++ (Builtin.zeroCells z.cells (grownCap w (n + m) cap e - (n + m))).toList).toArray := by apply Array.ext'; simp
      rw [e1]
      exact Blk.new w.drew _ e
    · simp only [List.length_append, Array.length_toList, size_zeroCells, hzs]
      omega
    · rw [List.drop_zero]
      exact List.take_left' (by rw [List.length_append]; omega)
  rcases hr with ⟨rfl, rfl, rfl⟩ | ⟨g, off, cap, cur, rfl, h0, h1, h2, h3, h4, rfl⟩
  · by_cases hm0 : m = 0
    · subst hm0
      obtain rfl : news = [] := List.eq_nil_of_length_eq_zero hnl
      refine ⟨.slice none 0 0, w, ?_, .inl ⟨rfl, rfl, rfl⟩, Stp.refl _ _, .inl rfl⟩
      rcases hs.kind with ⟨e', hk⟩ | hk <;> simp [Builtin.append_, run_underlying ht, run_underlying hk, sizeOf, typeInfo, hi, hs0.len, hs0.cells]
    · exact grown none 0 rfl (by omega) (run_firstCells_none w.drew i.size 0 0 0)
  · by_cases hroom : n + m ≤ cap
    · have hst := run_storeCells_at P g (off + n) e news 0 cur.toArray w h1 (by simp; omega) hs.one
      simp only [Nat.add_zero] at hst
      refine ⟨.slice (some ⟨g, off, none⟩) (n + m) cap, w.setRow g (cur.take (off + n) ++ news ++ cur.drop (off + n + news.length)).toArray, ?_, .inr ⟨g, off, cap, _, rfl, h0, h1.row _, hroom, h3, ?_, ?_⟩, Stp.row (S := fun b => (Value.slice (some ⟨g, off, none⟩) n cap).ownBlock = some b) rfl _, .inl rfl⟩
      · rcases hs.kind with ⟨e', hk⟩ | hk <;> simp [Builtin.append_, run_underlying ht, run_underlying hk, sizeOf, typeInfo, hi, hs1, hs.len, hroom, hs.cells, Addr.add_lit, hst]
      · simp only [List.length_append, List.length_take, List.length_drop]; omega
      · have e1 : (cur.take (off + n) ++ news ++ cur.drop (off + n + news.length)).drop off = (cur.drop off).take n ++ news ++ cur.drop (off + n + news.length) := by
          rw [List.append_assoc, List.drop_append_of_le_length (by rw [List.length_take]; omega), List.drop_take, Nat.add_sub_cancel_left, List.append_assoc]
        rw [e1]
        exact List.take_left' (by simp only [List.length_append, List.length_take, List.length_drop]; omega)
    · refine grown (some ⟨g, off, none⟩) cap rfl (by omega) ?_
      refine run_firstCells_some w.drew i.size n ⟨g, off, none⟩ n cap _ (by rw [hs1, hxl, Nat.mul_one]) fun j u hu => ?_
      rw [add_plain0]
      exact Row.cell (w := w) (.inr ⟨g, off, cap, cur, rfl, h0, h1, h2, h3, h4, rfl⟩) hu
end
end Go.Proofs.YtglcfbefpnphaaaGreatDoor
