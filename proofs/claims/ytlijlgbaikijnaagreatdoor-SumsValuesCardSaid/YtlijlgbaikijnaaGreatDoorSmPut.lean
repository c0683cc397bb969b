/-
  The library's strings.Builder, met by the shelf's contracts at this translation.
  A text is put behind what is there, by the package, or there is too much. Conditions: at most a million bytes at a time.
-/
import Derived.Shelf.Strings.Builder1
import Derived.Shelf.Strings.BuilderK
import Derived.Test.YtlijlgbaikijnaaGreatDoorProg
import Derived.Test.YtlijlgbaikijnaaGreatDoorSmFaceV
namespace Go.Proofs.YtlijlgbaikijnaaGreatDoor
open Go Go.Shelf Go.RowKit

def shRen : Ren := ⟨fun | 166 => 95 | 169 => 38 | 240 => 113 | 276 => 125 | n => n, fun | 0 => 0 | 3 => 3 | 4 => 4 | 5 => 5 | 9 => 9 | 20 => 20 | 21 => 21 | 37 => 68 | 46 => 148 | 70 => 76 | 72 => 78 | 75 => 137 | 80 => 80 | 127 => 109 | 164 => 159 | n => n, fun | 3 => 1 | 4 => 2 | n => n⟩
theorem sh166 : Lays.n166 Tryz.prog shRen := {
  mixed := by kernel_rfl
  f166 := Tryz.func95.trans (congrArg some (by kernel_rfl))
  f240 := Tryz.func113.trans (congrArg some (by kernel_rfl))
  f276 := Tryz.func125.trans (congrArg some (by kernel_rfl))
  t0 := Tryz.underlying0
  a0 := Tryz.isAgg0
  z0 := Tryz.sizeOf0
  v0 := Tryz.zeroValue0
  t3 := Tryz.underlying3
  a3 := Tryz.isAgg3
  z3 := Tryz.sizeOf3
  v3 := Tryz.zeroValue3
  t4 := Tryz.underlying4
  a4 := Tryz.isAgg4
  z4 := Tryz.sizeOf4
  v4 := Tryz.zeroValue4
  t9 := Tryz.underlying9
  a9 := Tryz.isAgg9
  z9 := Tryz.sizeOf9
  v9 := Tryz.zeroValue9
  t20 := Tryz.underlying20
  a20 := Tryz.isAgg20
  z20 := Tryz.sizeOf20
  v20 := Tryz.zeroValue20
  t37 := Tryz.underlying68
  a37 := Tryz.isAgg68
  z37 := Tryz.sizeOf68
  v37 := Tryz.zeroValue68
  t70 := Tryz.underlying76
  a70 := Tryz.isAgg76
  z70 := Tryz.sizeOf76
  v70 := Tryz.zeroValue76
  t72 := Tryz.underlying78
  a72 := Tryz.isAgg78
  z72 := Tryz.sizeOf78
  v72 := Tryz.zeroValue78
  t75 := Tryz.underlying137
  a75 := Tryz.isAgg137
  z75 := Tryz.sizeOf137
  v75 := Tryz.zeroValue137
  t164 := Tryz.underlying159
  a164 := Tryz.isAgg159
  z164 := Tryz.sizeOf159
  v164 := Tryz.zeroValue159 }
theorem sh169 : Lays.n169 Tryz.prog shRen := {
  mixed := by kernel_rfl
  f169 := Tryz.func38.trans (congrArg some (by kernel_rfl))
  t0 := Tryz.underlying0
  a0 := Tryz.isAgg0
  z0 := Tryz.sizeOf0
  v0 := Tryz.zeroValue0
  t3 := Tryz.underlying3
  a3 := Tryz.isAgg3
  z3 := Tryz.sizeOf3
  v3 := Tryz.zeroValue3
  t9 := Tryz.underlying9
  a9 := Tryz.isAgg9
  z9 := Tryz.sizeOf9
  v9 := Tryz.zeroValue9
  t37 := Tryz.underlying68
  a37 := Tryz.isAgg68
  z37 := Tryz.sizeOf68
  v37 := Tryz.zeroValue68
  t70 := Tryz.underlying76
  a70 := Tryz.isAgg76
  z70 := Tryz.sizeOf76
  v70 := Tryz.zeroValue76
  t72 := Tryz.underlying78
  a72 := Tryz.isAgg78
  z72 := Tryz.sizeOf78
  v72 := Tryz.zeroValue78
  t127 := Tryz.underlying109
  a127 := Tryz.isAgg109
  z127 := Tryz.sizeOf109
  v127 := Tryz.zeroValue109 }
theorem shExtra : Builder.Extra Tryz.prog shRen := {
  sizeBuilder := by kernel_rfl
  liesBuilder := by kernel_rfl
  t5 := Tryz.underlying5
  a5 := Tryz.isAgg5
  z5 := Tryz.sizeOf5
  v5 := Tryz.zeroValue5
  infoByte := by kernel_rfl
  cellsByte := by kernel_rfl
  sizeByte := by kernel_rfl
  neB5 := by decide }

abbrev IsB (B b : Nat) (bs : List Value) (w : World) : Prop := Lib.IsBuilderF 78 5 B b bs w
abbrev AtB (B b : Nat) (p : Value) (bs : List Value) (w : World) : Prop := Lib.BuilderAtF 78 5 B b p bs w
/-- Blocks that are neither the builder's nor rows of bytes are as they were. -/
abbrev Kept (b : Nat) (w w' : World) : Prop := Lib.OthersKept 5 (some b) w w'

theorem fresh_isB (w : World) : IsB w.heap.size w.heap.size [] (w.alloc (.cells #[.pointer none, .slice none 0 0] 78)) := by
  rcases Lib.fresh_isBuilder 78 5 w with h | h
  · exact .inl (.of h)
  · exact .inr (.of h)

theorem bWriteString (B b : Nat) (bs : List Value) (s : ByteArray) (w : World) (h : IsB B b bs w) (hlen : bs.length + s.size ≤ 140737488355328) (hBw : B ≤ w.heap.size) :
    Calls Tryz.prog 95 #[.pointer (some ⟨b, 0, none⟩), .string s] w fun e w' => e = .returned (.tuple #[.int .i64 s.size, .nilIface]) ∧ (AtB B b (.pointer (some ⟨b, 0, none⟩)) (bs ++ Lib.strCells s) w' ∧ Below B w w' ∧ Kept b w w') :=
  Any.Builder_WriteString_k sh166 shExtra B b bs s w h hlen hBw
theorem bString (B b : Nat) (l : List UInt8) (w : World) (h : IsB B b (Lib.byteCells l) w) (hBw : B ≤ w.heap.size) :
    Calls Tryz.prog 38 #[.pointer (some ⟨b, 0, none⟩)] w fun e w' => e = .returned (.string ⟨l.toArray⟩) ∧ Below B w w' :=
  (Any.Builder_String_any_k sh169 shExtra B b l w h hBw).mono fun _ _ ⟨he, _, hb, _⟩ => ⟨he, hb⟩
end Go.Proofs.YtlijlgbaikijnaaGreatDoor

namespace Go.Proofs.YtlijlgbaikijnaaGreatDoor
open Go Go.RowKit

theorem byteCells_app (a b : List UInt8) : Lib.byteCells (a ++ b) = Lib.byteCells a ++ Lib.byteCells b := by simp [Lib.byteCells]
theorem byteCells_len (a : List UInt8) : (Lib.byteCells a).length = a.length := by simp [Lib.byteCells]
theorem strCells_tl (s : ByteArray) : Lib.strCells s = Lib.byteCells (tl s) := by simp [Lib.strCells, Lib.byteCells, tl]
/-- What a builder has in memory: the two cells. -/
theorem isB_cells {B b : Nat} {bs : List Value} {w : World} (h : IsB B b bs w) : ∃ (A : Option Addr) (c : Nat), w.cell? ⟨b, 1, none⟩ = some (.slice A bs.length c) := by
  have hh : ∃ p, AtB B b p bs w := by
    rcases h with h | h
    · exact ⟨_, h⟩
    · exact ⟨_, h⟩
  obtain ⟨p, hB, v, hb, hown, _⟩ := hh
  have hc : w.cell? ⟨b, 1, none⟩ = some v := by rw [cell_of_row w b 1 _ _ _ hb]; rfl
  rcases hown.2 with ⟨rfl, h0⟩ | ⟨g, cap, cur, fz, rfl, _⟩
  · exact ⟨none, 0, by rw [hc, h0]⟩
  · exact ⟨_, _, hc⟩
theorem isB_lt {B b : Nat} {bs : List Value} {w : World} (h : IsB B b bs w) : B ≤ b ∧ b < w.heap.size := by
  obtain ⟨A, c, hc⟩ := isB_cells h
  refine ⟨?_, World.block_lt_of_cell? w ⟨b, 1, none⟩ hc⟩
  rcases h with h | h <;> exact h.1

set_option maxHeartbeats 1000000 in
set_option maxRecDepth 100000 in
theorem bLen (B b : Nat) (bs : List Value) (w : World) (h : IsB B b bs w) : Calls Tryz.prog 94 #[.pointer (some ⟨b, 0, none⟩)] w fun e w' => e = .returned (.int .i64 (bs.length : Int)) ∧ w' = w := by
  obtain ⟨A, c, hc⟩ := isB_cells h
  clear h
  generalize bs.length = n at hc ⊢
  go_enter Tryz.func94, Tryz.ntmps94
  go_wp2
  go_ret
  exact ⟨rfl, rfl⟩

/-- What is put, or that there is too much. -/
def PutR (B b : Nat) (w : World) (out txt : List UInt8) (e : Ending) (w' : World) : Prop :=
  if out.length + txt.length ≤ 4096 then (∃ u, e = .returned u) ∧ IsB B b (Lib.byteCells (out ++ txt)) w' ∧ Below B w w' ∧ Kept b w w'
  else e = thrown 21 0 ∧ Below B w w'

set_option maxHeartbeats 1000000 in
set_option maxRecDepth 100000 in
theorem put_any (B b : Nat) (out : List UInt8) (s : ByteArray) (w : World) (h : IsB B b (Lib.byteCells out) w) (hB : B ≤ w.heap.size) (ho : out.length ≤ 4096) (hs : s.size ≤ 2000000) :
    Calls Tryz.prog 64 #[.pointer (some ⟨b, 0, none⟩), .string s] w (PutR B b w out (tl s)) := by
  have hle := fun W h => bLen B b (Lib.byteCells out) W h
  rw [byteCells_len] at hle
  have hth := fun W => throw_any 21 0 W
  have hws := fun W h => bWriteString B b (Lib.byteCells out) s W h (by rw [byteCells_len]; omega)
  rw [strCells_tl, ← byteCells_app] at hws
  unfold PutR
  rw [tl_len]
  have k1 : IntKind.i64.wrap ((out.length : Int) + (s.size : Int)) = (out.length : Int) + (s.size : Int) := IntWalk.i64_in _ (by omega)
  by_cases hf : out.length + s.size ≤ 4096
  · simp only [if_pos hf]
    have i0 : ¬ (4096 : Int) < (out.length : Int) + (s.size : Int) := by omega
    have h := Lib.hid h
    have hf := Lib.hid hf
    go_enter Tryz.func64, Tryz.ntmps64
    go_wp2_with fail
    refine (hle _ h.out).mono ?_
    rintro e w1 ⟨rfl, hw1⟩
    obtain rfl := hw1.symm
    go_wp2_with fail
    refine (hws _ h.out hB).mono ?_
    rintro e w2 ⟨rfl, hat, hb, hk⟩
    go_wp2
    go_end0
    exact ⟨⟨_, rfl⟩, .inr hat, hb, hk⟩
  · simp only [if_neg hf]
    have i0 : (4096 : Int) < (out.length : Int) + (s.size : Int) := by omega
    have h := Lib.hid h
    have hf := Lib.hid hf
    go_enter Tryz.func64, Tryz.ntmps64
    go_wp2_with fail
    refine (hle _ h.out).mono ?_
    rintro e w1 ⟨rfl, hw1⟩
    obtain rfl := hw1.symm
    go_wp2_with fail
    refine (hth _).mono ?_
    rintro e w2 ⟨rfl, hw1⟩
    obtain rfl := hw1.symm
    exact ⟨rfl, rfl, Below.refl _ _⟩
end Go.Proofs.YtlijlgbaikijnaaGreatDoor
