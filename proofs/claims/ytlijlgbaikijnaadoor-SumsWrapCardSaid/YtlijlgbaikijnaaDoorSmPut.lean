/-
  The library's strings.Builder, met by the shelf's contracts at this translation.
  A text is put behind what is there, by the package, or there is too much. Conditions: at most a million bytes at a time.
-/
import Derived.Shelf.Strings.Builder1
import Derived.Shelf.Strings.BuilderK
import Derived.Test.YtlijlgbaikijnaaDoorProg
import Derived.Test.YtlijlgbaikijnaaDoorSmFaceV
namespace Go.Proofs.YtlijlgbaikijnaaDoor
open Go Go.Shelf Go.RowKit

def shRen : Ren := ⟨fun | 166 => 58 | 169 => 23 | 240 => 73 | 276 => 88 | n => n, fun | 0 => 0 | 3 => 3 | 4 => 4 | 5 => 5 | 9 => 9 | 20 => 20 | 21 => 21 | 37 => 65 | 46 => 115 | 70 => 64 | 72 => 67 | 75 => 106 | 80 => 69 | 127 => 88 | 164 => 129 | n => n, fun | 3 => 1 | 4 => 2 | n => n⟩
theorem sh166 : Lays.n166 Tryd.prog shRen := {
  mixed := by kernel_rfl
  f166 := Tryd.func58.trans (congrArg some (by kernel_rfl))
  f240 := Tryd.func73.trans (congrArg some (by kernel_rfl))
  f276 := Tryd.func88.trans (congrArg some (by kernel_rfl))
  t0 := Tryd.underlying0
  a0 := Tryd.isAgg0
  z0 := Tryd.sizeOf0
  v0 := Tryd.zeroValue0
  t3 := Tryd.underlying3
  a3 := Tryd.isAgg3
  z3 := Tryd.sizeOf3
  v3 := Tryd.zeroValue3
  t4 := Tryd.underlying4
  a4 := Tryd.isAgg4
  z4 := Tryd.sizeOf4
  v4 := Tryd.zeroValue4
  t9 := Tryd.underlying9
  a9 := Tryd.isAgg9
  z9 := Tryd.sizeOf9
  v9 := Tryd.zeroValue9
  t20 := Tryd.underlying20
  a20 := Tryd.isAgg20
  z20 := Tryd.sizeOf20
  v20 := Tryd.zeroValue20
  t37 := Tryd.underlying65
  a37 := Tryd.isAgg65
  z37 := Tryd.sizeOf65
  v37 := Tryd.zeroValue65
  t70 := Tryd.underlying64
  a70 := Tryd.isAgg64
  z70 := Tryd.sizeOf64
  v70 := Tryd.zeroValue64
  t72 := Tryd.underlying67
  a72 := Tryd.isAgg67
  z72 := Tryd.sizeOf67
  v72 := Tryd.zeroValue67
  t75 := Tryd.underlying106
  a75 := Tryd.isAgg106
  z75 := Tryd.sizeOf106
  v75 := Tryd.zeroValue106
  t164 := Tryd.underlying129
  a164 := Tryd.isAgg129
  z164 := Tryd.sizeOf129
  v164 := Tryd.zeroValue129 }
theorem sh169 : Lays.n169 Tryd.prog shRen := {
  mixed := by kernel_rfl
  f169 := Tryd.func23.trans (congrArg some (by kernel_rfl))
  t0 := Tryd.underlying0
  a0 := Tryd.isAgg0
  z0 := Tryd.sizeOf0
  v0 := Tryd.zeroValue0
  t3 := Tryd.underlying3
  a3 := Tryd.isAgg3
  z3 := Tryd.sizeOf3
  v3 := Tryd.zeroValue3
  t9 := Tryd.underlying9
  a9 := Tryd.isAgg9
  z9 := Tryd.sizeOf9
  v9 := Tryd.zeroValue9
  t37 := Tryd.underlying65
  a37 := Tryd.isAgg65
  z37 := Tryd.sizeOf65
  v37 := Tryd.zeroValue65
  t70 := Tryd.underlying64
  a70 := Tryd.isAgg64
  z70 := Tryd.sizeOf64
  v70 := Tryd.zeroValue64
  t72 := Tryd.underlying67
  a72 := Tryd.isAgg67
  z72 := Tryd.sizeOf67
  v72 := Tryd.zeroValue67
  t127 := Tryd.underlying88
  a127 := Tryd.isAgg88
  z127 := Tryd.sizeOf88
  v127 := Tryd.zeroValue88 }
theorem shExtra : Builder.Extra Tryd.prog shRen := {
  sizeBuilder := by kernel_rfl
  liesBuilder := by kernel_rfl
  t5 := Tryd.underlying5
  a5 := Tryd.isAgg5
  z5 := Tryd.sizeOf5
  v5 := Tryd.zeroValue5
  infoByte := by kernel_rfl
  cellsByte := by kernel_rfl
  sizeByte := by kernel_rfl
  neB5 := by decide }

abbrev IsB (B b : Nat) (bs : List Value) (w : World) : Prop := Lib.IsBuilderF 67 5 B b bs w
abbrev AtB (B b : Nat) (p : Value) (bs : List Value) (w : World) : Prop := Lib.BuilderAtF 67 5 B b p bs w
/-- Blocks that are neither the builder's nor rows of bytes are as they were. -/
abbrev Kept (b : Nat) (w w' : World) : Prop := Lib.OthersKept 5 (some b) w w'

theorem fresh_isB (w : World) : IsB w.heap.size w.heap.size [] (w.alloc (.cells #[.pointer none, .slice none 0 0] 67)) := by
  rcases Lib.fresh_isBuilder 67 5 w with h | h
  · exact .inl (.of h)
  · exact .inr (.of h)

theorem bWriteString (B b : Nat) (bs : List Value) (s : ByteArray) (w : World) (h : IsB B b bs w) (hlen : bs.length + s.size ≤ 140737488355328) (hBw : B ≤ w.heap.size) :
    Calls Tryd.prog 58 #[.pointer (some ⟨b, 0, none⟩), .string s] w fun e w' => e = .returned (.tuple #[.int .i64 s.size, .nilIface]) ∧ (AtB B b (.pointer (some ⟨b, 0, none⟩)) (bs ++ Lib.strCells s) w' ∧ Below B w w' ∧ Kept b w w') :=
  Any.Builder_WriteString_k sh166 shExtra B b bs s w h hlen hBw
theorem bString (B b : Nat) (l : List UInt8) (w : World) (h : IsB B b (Lib.byteCells l) w) (hBw : B ≤ w.heap.size) :
    Calls Tryd.prog 23 #[.pointer (some ⟨b, 0, none⟩)] w fun e w' => e = .returned (.string ⟨l.toArray⟩) ∧ Below B w w' :=
  (Any.Builder_String_any_k sh169 shExtra B b l w h hBw).mono fun _ _ ⟨he, _, hb, _⟩ => ⟨he, hb⟩
end Go.Proofs.YtlijlgbaikijnaaDoor

namespace Go.Proofs.YtlijlgbaikijnaaDoor
open Go Go.RowKit

theorem byteCells_app (a b : List UInt8) : Lib.byteCells (a ++ b) = Lib.byteCells a ++ Lib.byteCells b := by simp [Lib.byteCells]
theorem byteCells_len (a : List UInt8) : (Lib.byteCells a).length = a.length := by simp [Lib.byteCells]
theorem strCells_tl (s : ByteArray) : Lib.strCells s = Lib.byteCells (tl s) := by simp [Lib.strCells, Lib.byteCells, tl]
/-- What a builder has in memory: the two cells. -/
theorem isB_cells {B b : Nat} {bs : List Value} {w : World} (h : IsB B b bs w) : ∃ (A : Option Addr) (c : Nat), w.cell? ⟨b, 1, none⟩ = some (.slice A bs.length c) := by
  have hh : ∃ p, AtB B b p bs w := by
    rcases h with h | h
    · exact ⟨_, h⟩
    · exact ⟨_, h⟩
  obtain ⟨p, hB, v, hb, hown, _⟩ := hh
  have hc : w.cell? ⟨b, 1, none⟩ = some v := by rw [cell_of_row w b 1 _ _ _ hb]; rfl
  rcases hown.2 with ⟨rfl, h0⟩ | ⟨g, cap, cur, fz, rfl, _⟩
  · exact ⟨none, 0, by rw [hc, h0]⟩
  · exact ⟨_, _, hc⟩
theorem isB_lt {B b : Nat} {bs : List Value} {w : World} (h : IsB B b bs w) : B ≤ b ∧ b < w.heap.size := by
  obtain ⟨A, c, hc⟩ := isB_cells h
  refine ⟨?_, World.block_lt_of_cell? w ⟨b, 1, none⟩ hc⟩
  rcases h with h | h <;> exact h.1

set_option maxHeartbeats 1000000 in
set_option maxRecDepth 100000 in
theorem bLen (B b : Nat) (bs : List Value) (w : World) (h : IsB B b bs w) : Calls Tryd.prog 57 #[.pointer (some ⟨b, 0, none⟩)] w fun e w' => e = .returned (.int .i64 (bs.length : Int)) ∧ w' = w := by
  obtain ⟨A, c, hc⟩ := isB_cells h
  clear h
  generalize bs.length = n at hc ⊢
  go_enter Tryd.func57, Tryd.ntmps57
  go_wp2
  go_ret
  exact ⟨rfl, rfl⟩

/-- What is put, or that there is too much. -/
def PutR (B b : Nat) (w : World) (out txt : List UInt8) (e : Ending) (w' : World) : Prop :=
  if out.length + txt.length ≤ 4096 then (∃ u, e = .returned u) ∧ IsB B b (Lib.byteCells (out ++ txt)) w' ∧ Below B w w' ∧ Kept b w w'
  else e = thrown 21 0 ∧ Below B w w'

set_option maxHeartbeats 1000000 in
set_option maxRecDepth 100000 in
theorem put_any (B b : Nat) (out : List UInt8) (s : ByteArray) (w : World) (h : IsB B b (Lib.byteCells out) w) (hB : B ≤ w.heap.size) (ho : out.length ≤ 4096) (hs : s.size ≤ 2000000) :
    Calls Tryd.prog 39 #[.pointer (some ⟨b, 0, none⟩), .string s] w (PutR B b w out (tl s)) := by
  have hle := fun W h => bLen B b (Lib.byteCells out) W h
  rw [byteCells_len] at hle
  have hth := fun W => throw_any 21 0 W
  have hws := fun W h => bWriteString B b (Lib.byteCells out) s W h (by rw [byteCells_len]; omega)
  rw [strCells_tl, ← byteCells_app] at hws
  unfold PutR
  rw [tl_len]
  have k1 : IntKind.i64.wrap ((out.length : Int) + (s.size : Int)) = (out.length : Int) + (s.size : Int) := IntWalk.i64_in _ (by omega)
  by_cases hf : out.length + s.size ≤ 4096
  · simp only [if_pos hf]
    have i0 : ¬ (4096 : Int) < (out.length : Int) + (s.size : Int) := by omega
    have h := Lib.hid h
    have hf := Lib.hid hf
    go_enter Tryd.func39, Tryd.ntmps39
    go_wp2_with fail
    refine (hle _ h.out).mono ?_
    rintro e w1 ⟨rfl, hw1⟩
    obtain rfl := hw1.symm
    go_wp2_with fail
    refine (hws _ h.out hB).mono ?_
    rintro e w2 ⟨rfl, hat, hb, hk⟩
    go_wp2
    go_end0
    exact ⟨⟨_, rfl⟩, .inr hat, hb, hk⟩
  · simp only [if_neg hf]
    have i0 : (4096 : Int) < (out.length : Int) + (s.size : Int) := by omega
    have h := Lib.hid h
    have hf := Lib.hid hf
    go_enter Tryd.func39, Tryd.ntmps39
    go_wp2_with fail
    refine (hle _ h.out).mono ?_
    rintro e w1 ⟨rfl, hw1⟩
    obtain rfl := hw1.symm
    go_wp2_with fail
    refine (hth _).mono ?_
    rintro e w2 ⟨rfl, hw1⟩
    obtain rfl := hw1.symm
    exact ⟨rfl, rfl, Below.refl _ _⟩
end Go.Proofs.YtlijlgbaikijnaaDoor
