/-
  trees: what is asked of a loop over words.
-/
import Derived.Shelf.Strings.Prefix
import Derived.Shelf.Small.Utf8
import Derived.Shelf.Small.Strs
import Derived.Shelf.Strings.Search3
import Derived.Shelf.Strings.Runes
import Derived.Shelf.Strings.IndexAny
import Derived.Shelf.Strings.AsciiSet
import Derived.Shelf.Strings.IndexAnyAll
import Derived.Laws.Runes
import Derived.Laws.RangeAny
import Derived.Lib.DecodeN
import Derived.Deep.LoopGhost
import Derived.WalkMore
import Derived.BigQuiet
import Derived.Test.YtmchfoedjajbdaaGreatZq5
set_option linter.unusedSimpArgs false
set_option linter.unusedVariables false
namespace Go.Proofs.YtmchfoedjajbdaaGreat
open Go Go.RowKit Go.ChangeMaps

def forP (n : ByteArray) (g : Bool) (M : Nat) (L : F) : Bool := nameB n && (g || decide (M = 0)) && groupP L
section
variable {w0 w : World} {A AW : Option Addr} {c0 cW M : Nat} {f g : F}
set_option maxRecDepth 100000 in
set_option maxHeartbeats 4000000 in
theorem mayFor_any {k : Int} {b gv : Bool} {n : ByteArray} {S R C : Value} (hn : n.size ≤ 1000000) (hM : M ≤ 4194304) (ht : Ty f 6) (hs : Slc w0 A c0 f) (hb : Below w0.heap.size w0 w) : Calls Tryz.prog 69 #[ndV k b n gv S (.slice AW M cW) R (.slice A f.len c0) C] w fun e w' => e = .returned (.bool (forP n gv M f)) ∧ Below w.heap.size w w' := by
  have hW := fun o => (Below.refl w.heap.size w).alloc (Nat.le_refl _) o
  have hnm := fun W9 => Name_any n hn W9
  have hc := fun o => mayGroup_any (k := k) (b := b) (gv := gv) (n := n) (S := S) (W := .slice AW M cW) (R := R) (C := C) ht hs (hb.alloc hb.size o)
  obtain ⟨v, hv⟩ : ∃ v, forP n gv M f = v := ⟨_, rfl⟩
  rw [hv]
  unfold forP at hv
  have hfin := fun o w' (h : Below (w.alloc o).heap.size (w.alloc o) w') => (hW o).trans (h.mono (by rw [World.size_alloc]; omega))
  generalize f.len = N at hc ⊢
  generalize groupP f = a at hc hv
  generalize nameB n = nb at hnm hv
  unfold ndV at hc ⊢
  replace hc := Lib.hid hc
  replace hW := Lib.hid hW
  replace hnm := Lib.hid hnm
  replace hfin := Lib.hid hfin
  clear ht hs hb hn
  have hcast : ((M : Int) == 0) = decide (M = 0) := by by_cases h : M = 0 <;> simp [h]
  obtain ⟨z, hz⟩ : ∃ z, decide (M = 0) = z := ⟨_, rfl⟩
  rw [hz] at hv hcast
  clear hz
  replace hcast := Lib.hid hcast
  go_enter Tryz.func69, Tryz.ntmps69
  go_wp2_with fail
  refine (hnm.out _).mono ?_
  rintro e w5 ⟨rfl, rfl⟩
  clear hnm
  cases nb
  · obtain rfl : false = v := by rw [← hv]; rfl
    clear hv hc
    go_wp2
    go_ret
    exact ⟨rfl, hW.out _⟩
  · cases gv
    · cases z
      · obtain rfl : false = v := by rw [← hv]; rfl
        clear hv hc
        have h1 := hcast.out
        have h2 : ¬ (M : Int) = 0 := by simpa using h1
        have h3 : ¬ M = 0 := by omega
        go_wp2
        go_ret
        exact ⟨rfl, hW.out _⟩
      · obtain rfl : a = v := by rw [← hv]; simp
        have h1 := hcast.out
        have h2 : M = 0 := by have : (M : Int) = 0 := by simpa using h1
                              omega
        subst h2
        clear hv hcast h1
        go_wp2_with fail
        refine (hc.out _).mono ?_
        rintro e w6 ⟨rfl, h6⟩
        have hF := Lib.hid (hfin.out _ _ h6)
        clear hc h6 hfin
        go_wp2
        go_ret
        exact ⟨rfl, hF.out⟩
    · obtain rfl : a = v := by rw [← hv]; simp
      clear hv hcast
      go_wp2_with fail
      refine (hc.out _).mono ?_
      rintro e w6 ⟨rfl, h6⟩
      have hF := Lib.hid (hfin.out _ _ h6)
      clear hc h6 hfin
      go_wp2
      go_ret
      exact ⟨rfl, hF.out⟩
end
end Go.Proofs.YtmchfoedjajbdaaGreat
/-
  trees: which bytes a bare piece cannot have.
-/
set_option linter.unusedSimpArgs false
set_option linter.unusedVariables false
namespace Go.Proofs.YtmchfoedjajbdaaGreat
open Go Go.RowKit Go.ChangeMaps

def barP (m : Int) : ByteArray := if m = 1 then ⟨#[32, 9, 10, 59, 38, 124, 60, 62, 40, 41, 36, 96, 92, 34, 39]⟩ else if m = 2 then ⟨#[36, 96, 92, 34, 39, 125]⟩ else if m = 8 then ⟨#[36, 96, 92, 34, 39, 35]⟩ else ⟨#[]⟩
set_option maxRecDepth 100000 in
set_option maxHeartbeats 4000000 in
theorem barred_any (m : Int) (w : World) : Calls Tryz.prog 113 #[.int .i64 m] w fun e w' => e = .returned (.string (barP m)) ∧ w' = w := by
  by_cases h1 : m = 1
  · subst h1
    rw [show barP 1 = ⟨#[32, 9, 10, 59, 38, 124, 60, 62, 40, 41, 36, 96, 92, 34, 39]⟩ from rfl]
    go_enter Tryz.func113, Tryz.ntmps113
    go_wp2
    go_ret
    exact ⟨rfl, rfl⟩
  by_cases h2 : m = 2
  · subst h2
    rw [show barP 2 = ⟨#[36, 96, 92, 34, 39, 125]⟩ from rfl]
    go_enter Tryz.func113, Tryz.ntmps113
    go_wp2
    go_ret
    exact ⟨rfl, rfl⟩
  by_cases h8 : m = 8
  · subst h8
    rw [show barP 8 = ⟨#[36, 96, 92, 34, 39, 35]⟩ from rfl]
    go_enter Tryz.func113, Tryz.ntmps113
    go_wp2
    go_ret
    exact ⟨rfl, rfl⟩
  rw [show barP m = ⟨#[]⟩ by unfold barP; rw [if_neg h1, if_neg h2, if_neg h8]]
  have g1 : (m == 1) = false := by simp [h1]
  have g2 : (m == 2) = false := by simp [h2]
  have g8 : (m == 8) = false := by simp [h8]
  go_enter Tryz.func113, Tryz.ntmps113
  go_wp2
  go_ret
  exact ⟨rfl, rfl⟩
end Go.Proofs.YtmchfoedjajbdaaGreat
/-
  trees: how texts begin and end.
-/
set_option linter.unusedSimpArgs false
set_option linter.unusedVariables false
namespace Go.Proofs.YtmchfoedjajbdaaGreat
open Go Go.Shelf Go.RowKit Go.ChangeMaps

def preRen : Ren := ⟨fun | 99 => 118 | 206 => 134 | 100 => 149 | 207 => 152 | n => n, fun | 3 => 3 | 4 => 4 | 9 => 9 | n => n, fun n => n⟩
theorem psh99 : Lays.n99 Tryz.prog preRen := {
  mixed := by kernel_rfl
  f99 := Tryz.func118.trans (congrArg some (by kernel_rfl))
  f206 := Tryz.func134.trans (congrArg some (by kernel_rfl))
  t3 := Tryz.underlying3
  a3 := Tryz.isAgg3
  z3 := Tryz.sizeOf3
  v3 := Tryz.zeroValue3
  t4 := Tryz.underlying4
  a4 := Tryz.isAgg4
  z4 := Tryz.sizeOf4
  v4 := Tryz.zeroValue4
  t9 := Tryz.underlying9
  a9 := Tryz.isAgg9
  z9 := Tryz.sizeOf9
  v9 := Tryz.zeroValue9 }
theorem psh100 : Lays.n100 Tryz.prog preRen := {
  mixed := by kernel_rfl
  f100 := Tryz.func149.trans (congrArg some (by kernel_rfl))
  f207 := Tryz.func152.trans (congrArg some (by kernel_rfl))
  t3 := Tryz.underlying3
  a3 := Tryz.isAgg3
  z3 := Tryz.sizeOf3
  v3 := Tryz.zeroValue3
  t4 := Tryz.underlying4
  a4 := Tryz.isAgg4
  z4 := Tryz.sizeOf4
  v4 := Tryz.zeroValue4
  t9 := Tryz.underlying9
  a9 := Tryz.isAgg9
  z9 := Tryz.sizeOf9
  v9 := Tryz.zeroValue9 }
theorem hasPrefix_any (s p : ByteArray) (w : World) : Calls Tryz.prog 118 #[.string s, .string p] w fun e w' => e = .returned (.bool (Lib.hasPrefix s.data.toList p.data.toList)) ∧ w' = w :=
  Any.strings_HasPrefix psh99 s p w
theorem hasSuffix_any (s p : ByteArray) (w : World) (hs : s.size ≤ 9223372036854775807) : Calls Tryz.prog 149 #[.string s, .string p] w fun e w' => e = .returned (.bool (Lib.hasSuffix s.data.toList p.data.toList)) ∧ w' = w :=
  Any.strings_HasSuffix psh100 s p w hs
def endsL (s : ByteArray) : Bool := Lib.hasSuffix s.data.toList [10]
set_option maxRecDepth 100000 in
theorem endsLine_any (s : ByteArray) (w : World) (hs : s.size ≤ 9223372036854775807) : Calls Tryz.prog 135 #[.string s] w fun e w' => e = .returned (.bool (endsL s)) ∧ w' = w := by
  have hc := hasSuffix_any s ⟨#[10]⟩ w hs
  rw [show Lib.hasSuffix s.data.toList (ByteArray.mk #[10]).data.toList = endsL s from rfl] at hc
  generalize endsL s = v at hc ⊢
  go_enter Tryz.func135, Tryz.ntmps135
  go_wp2_with fail
  refine hc.mono ?_
  rintro e w' ⟨rfl, rfl⟩
  clear hc
  go_wp2
  go_ret
  exact ⟨rfl, rfl⟩
end Go.Proofs.YtmchfoedjajbdaaGreat
/-
  The library functions that the package calls, met by the shelf's contracts at this program. Conditions: each theorem's own.
-/
set_option linter.unusedSimpArgs false
set_option linter.unusedVariables false
namespace Go.Proofs.YtmchfoedjajbdaaGreat
open Go Go.Proofs Go.Shelf
def ly119_ren : Go.Shelf.Ren := ⟨fun | 119 => 151 | n => n, fun | 21 => 21 | 4 => 4 | n => n, fun | n => n⟩
theorem ly119 : Go.Proofs.Lays.n119 Tryz.prog ly119_ren := {
  mixed := by kernel_rfl
  f119 := Tryz.func151.trans (congrArg some (by kernel_rfl))
  t4 := Tryz.underlying4
  a4 := Tryz.isAgg4
  z4 := Tryz.sizeOf4
  v4 := Tryz.zeroValue4
  t21 := Tryz.underlying21
  a21 := Tryz.isAgg21
  z21 := Tryz.sizeOf21
  v21 := Tryz.zeroValue21 }
theorem sl_utf8_ValidRune (r : Int) (w : World) :
    Calls Tryz.prog 151 #[.int .i32 r] w fun e w' => e = .returned (.bool (Lib.validRune r)) ∧ w' = w := Any.utf8_ValidRune ly119 r w
def ly137_ren : Go.Shelf.Ren := ⟨fun | 137 => 101 | 217 => 126 | 266 => 139 | n => n, fun | 9 => 9 | 5 => 5 | 3 => 3 | n => n, fun | n => n⟩
theorem ly137 : Go.Proofs.Lays.n137 Tryz.prog ly137_ren := {
  mixed := by kernel_rfl
  f137 := Tryz.func101.trans (congrArg some (by kernel_rfl))
  f217 := Tryz.func126.trans (congrArg some (by kernel_rfl))
  f266 := Tryz.func139.trans (congrArg some (by kernel_rfl))
  t3 := Tryz.underlying3
  a3 := Tryz.isAgg3
  z3 := Tryz.sizeOf3
  v3 := Tryz.zeroValue3
  t5 := Tryz.underlying5
  a5 := Tryz.isAgg5
  z5 := Tryz.sizeOf5
  v5 := Tryz.zeroValue5
  t9 := Tryz.underlying9
  a9 := Tryz.isAgg9
  z9 := Tryz.sizeOf9
  v9 := Tryz.zeroValue9 }
open Go.RowKit in
theorem sl_strings_IndexByte (s : ByteArray) (c : Int) (w : World) :
    Calls Tryz.prog 101 #[.string s, .int .u8 c] w fun e w' => e = .returned (.int .i64 (Lib.indexByte s.data.toList c.toNat.toUInt8)) ∧ w' = w := Any.strings_IndexByte ly137 s c w
def ly217_ren : Go.Shelf.Ren := ⟨fun | 217 => 126 | 266 => 139 | n => n, fun | 9 => 9 | 5 => 5 | 3 => 3 | n => n, fun | n => n⟩
open Go.RowKit Go.Lib in
def ly224_ren : Go.Shelf.Ren := ⟨fun | 224 => 141 | n => n, fun | 3 => 3 | n => n, fun | n => n⟩
open Go.RowKit Go.Lib in
def ly219_ren : Go.Shelf.Ren := ⟨fun | 219 => 127 | 217 => 126 | 225 => 140 | 224 => 141 | 267 => 142 | 266 => 139 | 314 => 150 | n => n, fun | 9 => 9 | 3 => 3 | 4 => 4 | 5 => 5 | 46 => 132 | 146 => 143 | 51 => 142 | n => n, fun | 1 => 0 | n => n⟩
theorem ly219 : Go.Proofs.Lays.n219 Tryz.prog ly219_ren := {
  mixed := by kernel_rfl
  f217 := Tryz.func126.trans (congrArg some (by kernel_rfl))
  f219 := Tryz.func127.trans (congrArg some (by kernel_rfl))
  f224 := Tryz.func141.trans (congrArg some (by kernel_rfl))
  f225 := Tryz.func140.trans (congrArg some (by kernel_rfl))
  f266 := Tryz.func139.trans (congrArg some (by kernel_rfl))
  f267 := Tryz.func142.trans (congrArg some (by kernel_rfl))
  f314 := Tryz.func150.trans (congrArg some (by kernel_rfl))
  t3 := Tryz.underlying3
  a3 := Tryz.isAgg3
  z3 := Tryz.sizeOf3
  v3 := Tryz.zeroValue3
  t4 := Tryz.underlying4
  a4 := Tryz.isAgg4
  z4 := Tryz.sizeOf4
  v4 := Tryz.zeroValue4
  t5 := Tryz.underlying5
  a5 := Tryz.isAgg5
  z5 := Tryz.sizeOf5
  v5 := Tryz.zeroValue5
  t9 := Tryz.underlying9
  a9 := Tryz.isAgg9
  z9 := Tryz.sizeOf9
  v9 := Tryz.zeroValue9
  t46 := Tryz.underlying132
  a46 := Tryz.isAgg132
  z46 := Tryz.sizeOf132
  v46 := Tryz.zeroValue132
  t51 := Tryz.underlying142
  a51 := Tryz.isAgg142
  z51 := Tryz.sizeOf142
  v51 := Tryz.zeroValue142
  t146 := Tryz.underlying143
  a146 := Tryz.isAgg143
  z146 := Tryz.sizeOf143
  v146 := Tryz.zeroValue143
  g1 := by kernel_rfl }
open Go.RowKit Go.Lib in
theorem sl_stringslite_Index_one (s : ByteArray) (c : UInt8) (w : World) :
    Calls Tryz.prog 127 #[.string s, .string ⟨#[c]⟩] w fun e w' => e = .returned (.int .i64 (Lib.indexByte s.data.toList c)) ∧ w' = w := Any.stringslite_Index_one ly219 s c w
def ly143_ren : Go.Shelf.Ren := ⟨fun | 143 => 102 | 219 => 127 | 217 => 126 | 225 => 140 | 224 => 141 | 267 => 142 | 266 => 139 | 314 => 150 | n => n, fun | 9 => 9 | 3 => 3 | 4 => 4 | 5 => 5 | 46 => 132 | 146 => 143 | 51 => 142 | n => n, fun | 1 => 0 | n => n⟩
open Go.RowKit Go.Lib in
def ly144_ren : Go.Shelf.Ren := ⟨fun | 144 => 59 | 143 => 102 | 219 => 127 | 217 => 126 | 225 => 140 | 224 => 141 | 267 => 142 | 266 => 139 | 314 => 150 | n => n, fun | 9 => 9 | 4 => 4 | 3 => 3 | 5 => 5 | 46 => 132 | 146 => 143 | 51 => 142 | n => n, fun | 1 => 0 | n => n⟩
theorem ly144 : Go.Proofs.Lays.n144 Tryz.prog ly144_ren := {
  mixed := by kernel_rfl
  f143 := Tryz.func102.trans (congrArg some (by kernel_rfl))
  f144 := Tryz.func59.trans (congrArg some (by kernel_rfl))
  f217 := Tryz.func126.trans (congrArg some (by kernel_rfl))
  f219 := Tryz.func127.trans (congrArg some (by kernel_rfl))
  f224 := Tryz.func141.trans (congrArg some (by kernel_rfl))
  f225 := Tryz.func140.trans (congrArg some (by kernel_rfl))
  f266 := Tryz.func139.trans (congrArg some (by kernel_rfl))
  f267 := Tryz.func142.trans (congrArg some (by kernel_rfl))
  f314 := Tryz.func150.trans (congrArg some (by kernel_rfl))
  t3 := Tryz.underlying3
  a3 := Tryz.isAgg3
  z3 := Tryz.sizeOf3
  v3 := Tryz.zeroValue3
  t4 := Tryz.underlying4
  a4 := Tryz.isAgg4
  z4 := Tryz.sizeOf4
  v4 := Tryz.zeroValue4
  t5 := Tryz.underlying5
  a5 := Tryz.isAgg5
  z5 := Tryz.sizeOf5
  v5 := Tryz.zeroValue5
  t9 := Tryz.underlying9
  a9 := Tryz.isAgg9
  z9 := Tryz.sizeOf9
  v9 := Tryz.zeroValue9
  t46 := Tryz.underlying132
  a46 := Tryz.isAgg132
  z46 := Tryz.sizeOf132
  v46 := Tryz.zeroValue132
  t51 := Tryz.underlying142
  a51 := Tryz.isAgg142
  z51 := Tryz.sizeOf142
  v51 := Tryz.zeroValue142
  t146 := Tryz.underlying143
  a146 := Tryz.isAgg143
  z146 := Tryz.sizeOf143
  v146 := Tryz.zeroValue143
  g1 := by kernel_rfl }
open Go.RowKit Go.Lib in
theorem sl_strings_Contains_one (s : ByteArray) (c : UInt8) (w : World) :
    Calls Tryz.prog 59 #[.string s, .string ⟨#[c]⟩] w fun e w' => e = .returned (.bool (decide (0 ≤ Lib.indexByte s.data.toList c))) ∧ w' = w := Any.strings_Contains_one ly144 s c w
def ly152_ren : Go.Shelf.Ren := ⟨fun | 152 => 144 | 137 => 101 | 119 => 151 | 224 => 141 | 225 => 140 | 217 => 126 | 266 => 139 | n => n, fun | 9 => 9 | 21 => 21 | 3 => 3 | 4 => 4 | 5 => 5 | 0 => 0 | 46 => 132 | n => n, fun | n => n⟩
theorem ly152 : Go.Proofs.Lays.n152 Tryz.prog ly152_ren := {
  mixed := by kernel_rfl
  f119 := Tryz.func151.trans (congrArg some (by kernel_rfl))
  f137 := Tryz.func101.trans (congrArg some (by kernel_rfl))
  f152 := Tryz.func144.trans (congrArg some (by kernel_rfl))
  f217 := Tryz.func126.trans (congrArg some (by kernel_rfl))
  f224 := Tryz.func141.trans (congrArg some (by kernel_rfl))
  f225 := Tryz.func140.trans (congrArg some (by kernel_rfl))
  f266 := Tryz.func139.trans (congrArg some (by kernel_rfl))
  t0 := Tryz.underlying0
  a0 := Tryz.isAgg0
  z0 := Tryz.sizeOf0
  v0 := Tryz.zeroValue0
  t3 := Tryz.underlying3
  a3 := Tryz.isAgg3
  z3 := Tryz.sizeOf3
  v3 := Tryz.zeroValue3
  t4 := Tryz.underlying4
  a4 := Tryz.isAgg4
  z4 := Tryz.sizeOf4
  v4 := Tryz.zeroValue4
  t5 := Tryz.underlying5
  a5 := Tryz.isAgg5
  z5 := Tryz.sizeOf5
  v5 := Tryz.zeroValue5
  t9 := Tryz.underlying9
  a9 := Tryz.isAgg9
  z9 := Tryz.sizeOf9
  v9 := Tryz.zeroValue9
  t21 := Tryz.underlying21
  a21 := Tryz.isAgg21
  z21 := Tryz.sizeOf21
  v21 := Tryz.zeroValue21
  t46 := Tryz.underlying132
  a46 := Tryz.isAgg132
  z46 := Tryz.sizeOf132
  v46 := Tryz.zeroValue132 }
open Go.RowKit Go.Lib in
theorem sl_strings_IndexRune_ascii (s : ByteArray) (r : Int) (w : World) (h0 : 0 ≤ r) (h1 : r < 128) :
    Calls Tryz.prog 144 #[.string s, .int .i32 r] w fun e w' => e = .returned (.int .i64 (Lib.indexByte s.data.toList r.toNat.toUInt8)) ∧ w' = w := Any.strings_IndexRune_ascii ly152 s r w h0 h1
def ly226_ren : Go.Shelf.Ren := ⟨fun | 226 => 145 | n => n, fun | 3 => 3 | 4 => 4 | n => n, fun | n => n⟩
theorem ly226 : Go.Proofs.Lays.n226 Tryz.prog ly226_ren := {
  mixed := by kernel_rfl
  f226 := Tryz.func145.trans (congrArg some (by kernel_rfl))
  t3 := Tryz.underlying3
  a3 := Tryz.isAgg3
  z3 := Tryz.sizeOf3
  v3 := Tryz.zeroValue3
  t4 := Tryz.underlying4
  a4 := Tryz.isAgg4
  z4 := Tryz.sizeOf4
  v4 := Tryz.zeroValue4 }
open Go.RowKit Go.Lib in
theorem sl_strings_shouldUseASCIISet (n : Int) (w : World) :
    Calls Tryz.prog 145 #[.int .i64 n] w fun e w' => e = .returned (.bool (decide (8 < n))) ∧ w' = w := Any.strings_shouldUseASCIISet ly226 n w
def ly153_ren : Go.Shelf.Ren := ⟨fun | 153 => 131 | 152 => 144 | 226 => 145 | 227 => 146 | 228 => 147 | 137 => 101 | 119 => 151 | 224 => 141 | 225 => 140 | 217 => 126 | 266 => 139 | n => n, fun | 9 => 9 | 3 => 3 | 4 => 4 | 5 => 5 | 21 => 21 | 117 => 138 | 116 => 137 | 0 => 0 | 46 => 132 | 124 => 146 | n => n, fun | n => n⟩
theorem ly153 : Go.Proofs.Lays.n153 Tryz.prog ly153_ren := {
  mixed := by kernel_rfl
  f119 := Tryz.func151.trans (congrArg some (by kernel_rfl))
  f137 := Tryz.func101.trans (congrArg some (by kernel_rfl))
  f152 := Tryz.func144.trans (congrArg some (by kernel_rfl))
  f153 := Tryz.func131.trans (congrArg some (by kernel_rfl))
  f217 := Tryz.func126.trans (congrArg some (by kernel_rfl))
  f224 := Tryz.func141.trans (congrArg some (by kernel_rfl))
  f225 := Tryz.func140.trans (congrArg some (by kernel_rfl))
  f226 := Tryz.func145.trans (congrArg some (by kernel_rfl))
  f227 := Tryz.func146.trans (congrArg some (by kernel_rfl))
  f228 := Tryz.func147.trans (congrArg some (by kernel_rfl))
  f266 := Tryz.func139.trans (congrArg some (by kernel_rfl))
  t0 := Tryz.underlying0
  a0 := Tryz.isAgg0
  z0 := Tryz.sizeOf0
  v0 := Tryz.zeroValue0
  t3 := Tryz.underlying3
  a3 := Tryz.isAgg3
  z3 := Tryz.sizeOf3
  v3 := Tryz.zeroValue3
  t4 := Tryz.underlying4
  a4 := Tryz.isAgg4
  z4 := Tryz.sizeOf4
  v4 := Tryz.zeroValue4
  t5 := Tryz.underlying5
  a5 := Tryz.isAgg5
  z5 := Tryz.sizeOf5
  v5 := Tryz.zeroValue5
  t9 := Tryz.underlying9
  a9 := Tryz.isAgg9
  z9 := Tryz.sizeOf9
  v9 := Tryz.zeroValue9
  t21 := Tryz.underlying21
  a21 := Tryz.isAgg21
  z21 := Tryz.sizeOf21
  v21 := Tryz.zeroValue21
  t46 := Tryz.underlying132
  a46 := Tryz.isAgg132
  z46 := Tryz.sizeOf132
  v46 := Tryz.zeroValue132
  t116 := Tryz.underlying137
  a116 := Tryz.isAgg137
  z116 := Tryz.sizeOf137
  t117 := Tryz.underlying138
  a117 := Tryz.isAgg138
  z117 := Tryz.sizeOf138
  v117 := Tryz.zeroValue138
  t124 := Tryz.underlying146
  a124 := Tryz.isAgg146
  z124 := Tryz.sizeOf146
  v124 := Tryz.zeroValue146 }
open Go.RowKit Go.Lib in
theorem sl_strings_IndexAny_none (s chars : ByteArray) (w : World) (h0 : chars.size = 0) :
    Calls Tryz.prog 131 #[.string s, .string chars] w fun e w' => e = .returned (.int .i64 (Lib.indexAny s.data.toList chars.data.toList)) ∧ w' = w := Any.strings_IndexAny_none ly153 s chars w h0
open Go.RowKit Go.Lib in
theorem sl_strings_IndexAny_one (s chars : ByteArray) (w : World) (h1 : chars.size = 1) (hascii : ∀ (j : Nat) b, chars.data.toList[j]? = some b → b.toNat < 128) :
    Calls Tryz.prog 131 #[.string s, .string chars] w fun e w' => e = .returned (.int .i64 (Lib.indexAny s.data.toList chars.data.toList)) ∧ w' = w := Any.strings_IndexAny_one ly153 s chars w h1 hascii
def ly227_ren : Go.Shelf.Ren := ⟨fun | 227 => 146 | n => n, fun | 9 => 9 | 116 => 137 | 4 => 4 | 0 => 0 | 3 => 3 | 5 => 5 | n => n, fun | n => n⟩
open Go.RowKit Go.Lib in
def ly228_ren : Go.Shelf.Ren := ⟨fun | 228 => 147 | n => n, fun | 124 => 146 | 5 => 5 | 4 => 4 | 0 => 0 | 116 => 137 | n => n, fun | n => n⟩
open Go.RowKit Go.Lib in
open Go.RowKit Go.Lib in
theorem sl_strings_IndexAny_long (hv116 : ∀ w, (zeroValue 137).run Tryz.prog w = .ok (.agg (Array.replicate 256 (.bool false))) w) (s chars : ByteArray) (w : World) (h2 : 2 ≤ chars.size) (h8 : 8 < s.size) (hs : s.size < 4294967281) (hcs : chars.size < 4294967281) (hascii : ∀ (j : Nat) b, chars.data.toList[j]? = some b → b.toNat < 128) :
    Calls Tryz.prog 131 #[.string s, .string chars] w fun e w' => e = .returned (.int .i64 (Lib.indexAny s.data.toList chars.data.toList)) ∧ w' = ((w.alloc (.cells (Lib.setCells chars.data.toList) 137)).alloc (.cells (Lib.setCells chars.data.toList) 137)) := Any.strings_IndexAny_long ly153 hv116 (by kernel_rfl) s chars w h2 h8 hs hcs hascii
def ly150_ren : Go.Shelf.Ren := ⟨fun | 150 => 112 | 153 => 131 | 152 => 144 | 226 => 145 | 227 => 146 | 228 => 147 | 137 => 101 | 119 => 151 | 224 => 141 | 225 => 140 | 217 => 126 | 266 => 139 | n => n, fun | 9 => 9 | 4 => 4 | 3 => 3 | 5 => 5 | 21 => 21 | 117 => 138 | 116 => 137 | 0 => 0 | 46 => 132 | 124 => 146 | n => n, fun | n => n⟩
end Go.Proofs.YtmchfoedjajbdaaGreat
/-
  strings.IndexRune at a rune that is no ASCII byte, and strings.ContainsAny of any text: conditions: what is looked for is ASCII.
-/
set_option linter.unusedSimpArgs false
set_option linter.unusedVariables false
namespace Go.Proofs.YtmchfoedjajbdaaGreat
open Go Go.Proofs Go.Shelf Go.RowKit Go.ChangeMaps

def AscB (s : ByteArray) : Prop := ∀ b ∈ s.data.toList, b.toNat < 128
theorem decN_ok (n b0 b1 b2 b3 : Nat) (h0 : b0 < 256) : (Lib.decodeN n b0 b1 b2 b3).1 < 55296 ∨ (57343 < (Lib.decodeN n b0 b1 b2 b3).1 ∧ (Lib.decodeN n b0 b1 b2 b3).1 ≤ 1114111) := by
  unfold Lib.decodeN
  repeat' split
  all_goals (simp only; omega)
theorem decode_ok (s : ByteArray) (pos : Nat) : Go.validRune ((Utf8.decode s pos).1 : Int) = true := by
  have h := decN_ok (s.size - pos) (s.get! pos).toNat (s.get! (pos + 1)).toNat (s.get! (pos + 2)).toNat (s.get! (pos + 3)).toNat (UInt8.toNat_lt _)
  rw [← Lib.decode_at] at h
  simp only [Go.validRune, decide_eq_true_eq]
  omega
set_option maxRecDepth 100000 in
set_option maxHeartbeats 4000000 in
theorem indexRune_wide (s : ByteArray) (r : Int) (w : World) (hs : AscB s) (hz : s.size ≤ 1000000) (h1 : 128 ≤ r) (hv : Go.validRune r = true) :
    Calls Tryz.prog 144 #[.string s, .int .i32 r] w fun e w' => e = .returned (.int .i64 (-1)) ∧ Below w.heap.size w w' := by
  by_cases hr : r = 65533
  · subst hr
    have hS : Aside (AscB s) := hs
    clear hs
    go_enter Tryz.func144, Tryz.ntmps144
    go_wp2
    go_loopg [5, 6] s.size (fun g _ _ wx => ∃ i : Nat, i + g = s.size ∧ wx = w.iter s i)
    case atStart => exact ⟨0, by omega, rfl⟩
    case round =>
      obtain ⟨i, hig, rfl⟩ := hrel
      cases gk with
      | zero =>
        obtain rfl : i = s.size := by omega
        have hnx := run_next_end (P := Tryz.prog) w s s.size
        go_wp2
        go_ret
        exact ⟨rfl, (Below.refl _ w).alloc (Nat.le_refl _) _⟩
      | succ g =>
        have hi : i < s.size := by omega
        obtain ⟨x, hx⟩ : ∃ x : UInt8, s[i]'hi = x := ⟨_, rfl⟩
        have hx128 : x.toNat < 128 := hS.out x (by rw [← hx]; exact Array.getElem_mem_toList (xs := s.data) hi)
        have hnx := fun ty => run_next_ascii (P := Tryz.prog) w s i ty hi (by rw [hx]; exact hx128)
        rw [hx] at hnx
        clear hx
        have hne : ((x.toNat : Int) == 65533) = false := beq_eq_false_iff_ne.2 (by omega)
        go_wp2
        go_roundg g
        case measure => omega
        case rel => exact ⟨i + 1, by omega, rfl⟩
  · have hva : Lib.validRune r = true := hv
    have hrne : (r == 65533) = false := beq_eq_false_iff_ne.2 hr
    have hr9 : ¬ (r < 128) := by omega
    obtain ⟨e2, e4, e5⟩ := encode_facts r (by rw [validRune_eq]; exact hv) h1
    have hcv : ∀ w, (convert 21 9 (.int .i32 r)).run Tryz.prog w = .ok (.string (Utf8.encode r)) w := fun w => run_convert_int_string w 21 9 .i32 r (by rw [Tryz.underlying21]; rfl) Tryz.underlying9
    generalize Utf8.encode r = rs at e2 e4 e5 hcv
    obtain ⟨K, hK⟩ : ∃ K, rs.size = K + 1 := ⟨rs.size - 1, by omega⟩
    have hK9 : (rs.size : Int) = (K : Int) + 1 := by omega
    have hKl : K < rs.size := by omega
    have hK4 : (K : Int) ≤ 3 := by omega
    obtain ⟨c, hc⟩ : ∃ c : UInt8, rs[K]'hKl = c := ⟨_, rfl⟩
    have hc8 : 128 ≤ c.toNat := by
      have h := e5 (by omega)
      simp only [hK, Nat.add_sub_cancel] at h
      rw [hc] at h
      exact h
    have hib : ∀ a e W, Calls Tryz.prog 101 #[.string (s.extract a e), .int .u8 (c.toNat : Int)] W fun e2 W' => e2 = .returned (.int .i64 (-1)) ∧ W' = W := fun a e W =>
      (sl_strings_IndexByte (s.extract a e) (c.toNat : Int) W).mono fun e2 W' ⟨h1, h2⟩ => ⟨by rw [h1, ← Lib.firstIdx_eq, show ((c.toNat : Int)).toNat.toUInt8 = c by simp, firstIdx_ascii s a e c hs hc8], h2⟩
    have hvr : ∀ W, Calls Tryz.prog 151 #[.int .i32 r] W fun e W' => e = .returned (.bool true) ∧ W' = W := fun W => (sl_utf8_ValidRune r W).mono fun e W' ⟨h1, h2⟩ => ⟨by rw [h1, hva], h2⟩
    by_cases hKs : K < s.size
    · obtain ⟨x, hx⟩ : ∃ x : UInt8, s[K]'hKs = x := ⟨_, rfl⟩
      have hx128 : x.toNat < 128 := hs x (by rw [← hx]; exact Array.getElem_mem_toList (xs := s.data) hKs)
      have hxc : ((x.toNat : Int) != (c.toNat : Int)) = true := by simp; omega
      have hxc2 : ¬ x = c := fun h => by rw [h] at hx128; omega
      have hks2 : (K : Int) < (s.size : Int) := by omega
      have hk0 : (0 : Int) ≤ (K : Int) := by omega
      clear hs hv hva e2 e4 e5 hK
      replace hx128 := Lib.hid hx128
      replace hc8 := Lib.hid hc8
      go_enter Tryz.func144, Tryz.ntmps144
      go_wp2_with fail
      refine (hvr _).mono ?_
      rintro e w1 ⟨rfl, hw⟩
      obtain rfl := hw.symm
      go_wp2
      go_step3
      go_wp2
      go_loopw [9] (fun iv wr => iv = .int .i64 (K : Int) ∧ Hid (wr = w)) (fun _ _ => 1)
      case atStart => exact ⟨rfl, Lib.hid rfl⟩
      case round =>
        obtain ⟨rfl, hwr⟩ := hrel
        obtain rfl := hwr.out
        clear hwr
        go_wp2
        go_step3
        go_wp2
        go_quiet (fail)
        go_wp2
        have hB3 := drewN_below wr nq
        generalize wr.drewN nq = w3 at hB3 ⊢
        have k5 : (0 : Int) ≤ (K : Int) + 1 := by omega
        have k6 : (K : Int) + 1 ≤ (s.size : Int) := by omega
        go_quiet ((go_at_call 101; refine Calls.quiet_of_same (hib _ _ _)))
        go_wp2
        rw [Exit.noGoto_ret]
        simp only [Exit.inBlock]
        show Exit.noGoto _ Exit.ret _ _
        rw [Exit.noGoto_ret]
        simp only [Exit.inBlock, Exit.then]
        rw [Exit.noGoto_ret]
        simp only [Exit.inBlock]
        go_ret
        exact ⟨rfl, hB3.trans ((drewN_below _ _).mono hB3.size)⟩
    · have hks2 : ¬ (K : Int) < (s.size : Int) := by omega
      clear hs hv hva e2 e4 e5 hK
      go_enter Tryz.func144, Tryz.ntmps144
      go_wp2_with fail
      refine (hvr _).mono ?_
      rintro e w1 ⟨rfl, hw⟩
      obtain rfl := hw.symm
      go_wp2
      go_step3
      go_wp2
      go_loopw [9] (fun iv wr => iv = .int .i64 (K : Int) ∧ Hid (wr = w)) (fun _ _ => 1)
      case atStart => exact ⟨rfl, Lib.hid rfl⟩
      case round =>
        obtain ⟨rfl, hwr⟩ := hrel
        obtain rfl := hwr.out
        clear hwr
        go_wp2
        rw [Exit.noGoto_ret]
        go_ret
        exact ⟨rfl, Below.refl _ _⟩
end Go.Proofs.YtmchfoedjajbdaaGreat
/-
  strings.ContainsAny of any text: conditions: what is looked for is ASCII; no text of more than a million bytes.
-/
set_option linter.unusedSimpArgs false
set_option linter.unusedVariables false
namespace Go.Proofs.YtmchfoedjajbdaaGreat
open Go Go.Proofs Go.Shelf Go.RowKit Go.ChangeMaps

theorem decN_conts (n b0 b1 b2 b3 : Nat) (h : 128 ≤ b0) (hn : 1 ≤ n) : ∀ j, j < (Lib.decodeN n b0 b1 b2 b3).2 → j = 0 ∨ (j = 1 ∧ 1 < n ∧ 128 ≤ b1) ∨ (j = 2 ∧ 2 < n ∧ 128 ≤ b2) ∨ (j = 3 ∧ 3 < n ∧ 128 ≤ b3) := by
  unfold Lib.decodeN
  repeat' split
  all_goals (intro j hj; simp only at hj; omega)
/-- What a rune of more than one byte takes has no ASCII byte. -/
theorem decode_conts (s : ByteArray) (pos : Nat) (h : pos < s.size) (ha : 128 ≤ (s[pos]'h).toNat) (j : Nat) (hj : j < (Utf8.decode s pos).2) : ∃ hl : pos + j < s.size, 128 ≤ (s[pos + j]'hl).toNat := by
  have hg : ∀ k (hk : k < s.size), s.get! k = s[k]'hk := fun k hk => by
    simp [ByteArray.get!, getElem!_pos, hk]; rfl
  rw [Lib.decode_at] at hj
  have h0 : 128 ≤ (s.get! pos).toNat := by rw [hg pos h]; exact ha
  rcases decN_conts _ _ _ _ _ h0 (by omega) j hj with rfl | ⟨rfl, h1, h2⟩ | ⟨rfl, h1, h2⟩ | ⟨rfl, h1, h2⟩
  · exact ⟨h, ha⟩
  · exact ⟨by omega, by rw [← hg]; exact h2⟩
  · exact ⟨by omega, by rw [← hg]; exact h2⟩
  · exact ⟨by omega, by rw [← hg]; exact h2⟩
theorem noAny_on {s c : ByteArray} {i d : Nat} (h : Lib.NoAny s.data.toList c.data.toList i) (hc : AscB c) (hd : ∀ j, j < d → ∃ hl : i + j < s.size, 128 ≤ (s[i + j]'hl).toNat) : Lib.NoAny s.data.toList c.data.toList (i + d) := by
  intro j b hj hb
  by_cases hji : j < i
  · exact h j b hji hb
  · obtain ⟨hl, hx⟩ := hd (j - i) (by omega)
    have e : i + (j - i) = j := by omega
    simp only [e] at hl hx
    have hg := Lib.data_getElem? s j hl
    rw [hg] at hb
    obtain rfl := Option.some.inj hb
    cases hin : c.data.toList.contains s[j] with
    | false => rfl
    | true =>
      have := hc _ (List.contains_iff_mem.1 hin)
      omega
/-- An iterator over a string, wherever it lies, at its next place. -/
def itSet (w : World) (b : Nat) (s : ByteArray) (p : Nat) : World := { w with heap := w.heap.setIfInBounds b (.stringIter s p) }
theorem next_at (w : World) (b : Nat) (s : ByteArray) (pos : Nat) (ty : TypeId) (hb : w.heap[b]? = some (.stringIter s pos)) (h : pos < s.size) :
    (Instr.next (.pointer (some ⟨b, 0, none⟩)) true ty).run Tryz.prog w = .ok (.tuple #[.bool true, .int .i64 pos, .int .i32 (Utf8.decode s pos).1]) (itSet w b s (pos + (Utf8.decode s pos).2)) := by
  have hl : b < w.heap.size := (Array.getElem?_eq_some_iff.1 hb).1
  simp only [Instr.next, getObj, setObj, Sem.run_bind, Sem.run, hb, Result.andThen, h, if_true]
  simp [goInt, itSet, hl]
theorem next_over (w : World) (b : Nat) (s : ByteArray) (pos : Nat) (ty : TypeId) (hb : w.heap[b]? = some (.stringIter s pos)) (h : ¬ pos < s.size) :
    (Instr.next (.pointer (some ⟨b, 0, none⟩)) true ty).run Tryz.prog w = .ok (.tuple #[.bool false]) w := by
  simp only [Instr.next, getObj, setObj, Sem.run_bind, Sem.run, hb, Result.andThen, h, if_false]
  simp [goInt]
theorem itSet_same (w : World) (b : Nat) (s : ByteArray) (p : Nat) (hl : b < w.heap.size) : (itSet w b s p).heap[b]? = some (.stringIter s p) := by
  simp [itSet, hl]
theorem itSet_below {w0 w : World} (hb : Below w0.heap.size w0 w) (s : ByteArray) (p : Nat) : Below w0.heap.size w0 (itSet w w0.heap.size s p) := by
  refine ⟨hb.1, hb.2, hb.3, ?_, fun n hn => ?_⟩
  · have := hb.size; simp [itSet]; exact this
  · have h := hb.block n hn
    simp only [itSet]
    rw [Array.getElem?_setIfInBounds_ne (by omega)]
    exact h
set_option maxRecDepth 100000 in
set_option maxHeartbeats 8000000 in
theorem indexAny_short (s chars : ByteArray) (w : World) (h2 : 2 ≤ chars.size) (hcz : chars.size ≤ 1000000) (h8 : s.size ≤ 8) (hc : AscB chars) :
    Calls Tryz.prog 131 #[.string s, .string chars] w fun e w' => e = .returned (.int .i64 (Lib.indexAny s.data.toList chars.data.toList)) ∧ Below w.heap.size w w' := by
  have hemp : chars.toList.isEmpty = false := by
    rw [Lib.toList_data]
    cases h : chars.data.toList with
    | nil => have := Lib.size_eq chars; rw [h, List.length_nil] at this; omega
    | cons _ _ => rfl
  have hn1 : ((chars.size : Int) == 1) = false := beq_eq_false_iff_ne.2 (by omega)
  have h8z : decide ((8 : Int) < (s.size : Int)) = false := decide_eq_false (by omega)
  have hash := sl_strings_shouldUseASCIISet (s.size : Int) w
  rw [h8z] at hash
  have HC : Aside (AscB chars) := hc
  have HZ : Aside (chars.size ≤ 1000000) := hcz
  clear hc hcz h2 h8z
  go_enter Tryz.func131, Tryz.ntmps131
  go_wp2_with fail
  refine hash.mono ?_
  rintro e w1 ⟨rfl, hw⟩
  obtain rfl := hw.symm
  clear hash
  go_wp2
  go_loopg [9, 10] s.size (fun g _ _ wx => ∃ i : Nat, i + g = s.size ∧ Below w.heap.size w wx ∧ wx.heap[w.heap.size]? = some (.stringIter s i) ∧ Lib.NoAny s.data.toList chars.data.toList i)
  case atStart => exact ⟨0, by omega, (Below.refl _ w).alloc (Nat.le_refl _) _, World.iter_heap w s 0, Lib.NoAny.zero _ _⟩
  case round =>
    obtain ⟨i, hig, hB, hit, hno⟩ := hrel
    have HN : Aside (Lib.NoAny s.data.toList chars.data.toList i) := hno
    clear hno
    have hlt := (Array.getElem?_eq_some_iff.1 hit).1
    by_cases hi : i < s.size
    · have hnx := fun ty => next_at wr w.heap.size s i ty hit hi
      have hB2 := fun p => itSet_below hB s p
      have hI2 := fun p => itSet_same wr w.heap.size s p hlt
      obtain ⟨x, hx⟩ : ∃ x : UInt8, s[i]'hi = x := ⟨_, rfl⟩
      have hxl : s.data.toList[i]? = some x := by rw [← hx]; exact Lib.data_getElem? s i hi
      have HS : Aside (s.data.toList[i]? = some x) := hxl
      by_cases h128 : x.toNat < 128
      · rw [decode_ascii s i hi (by rw [hx]; exact h128), hx] at hnx
        have hcon := Lib.contains_iff_indexByte chars.data.toList x
        have hback : ((x.toNat : Int)).toNat.toUInt8 = x := by simp
        have hcall := fun W => sl_strings_IndexRune_ascii chars (x.toNat : Int) W (by omega) (by omega)
        simp only [hback] at hcall
        have hB3 := Lib.hid (hB2 (i + 1))
        have hI3 := Lib.hid (hI2 (i + 1))
        have hsz : Aside (i + gk = s.size) := hig
        clear hit hxl hx hB2 hI2 hB hig hback
        generalize itSet wr w.heap.size s (i + 1) = w4 at hnx hB3 hI3
        replace hcall := hcall w4
        cases hin : chars.data.toList.contains x
        · rw [hin] at hcon
          have hlt2 : ¬ ((0 : Int) ≤ Lib.indexByte chars.data.toList x) := of_decide_eq_false hcon.symm
          clear hcon
          generalize Lib.indexByte chars.data.toList x = ib at hcall hlt2
          go_wp2_with fail
          refine hcall.mono ?_
          rintro e w5 ⟨rfl, hw5⟩
          obtain rfl := hw5.symm
          clear hcall
          go_wp2
          go_roundg (gk - 1)
          case measure => have := hsz.out; omega
          case rel => exact ⟨i + 1, by have := hsz.out; omega, hB3.out, hI3.out, HN.out.succ HS.out hin⟩
        · rw [hin] at hcon
          have hge : (0 : Int) ≤ Lib.indexByte chars.data.toList x := of_decide_eq_true hcon.symm
          clear hcon
          generalize Lib.indexByte chars.data.toList x = ib at hcall hge
          go_wp2_with fail
          refine hcall.mono ?_
          rintro e w5 ⟨rfl, hw5⟩
          obtain rfl := hw5.symm
          clear hcall
          go_wp2
          go_ret
          exact ⟨by rw [Lib.indexAny_hit HN.out HS.out hin]; rfl, hB3.out⟩
      · have hdc := decode_conts s i hi (by rw [hx]; omega)
        obtain ⟨hr, hd⟩ := decode_high s i hi (by rw [hx]; omega)
        have hv := decode_ok s i
        have hcall := fun W => indexRune_wide chars ((Utf8.decode s i).1 : Int) W HC.out HZ.out (by omega) hv
        have hlast := hdc ((Utf8.decode s i).2 - 1) (by omega)
        have hN2 := Lib.hid (noAny_on HN.out HC.out hdc)
        have hB3 := Lib.hid (hB2 (i + (Utf8.decode s i).2))
        have hI3 := Lib.hid (hI2 (i + (Utf8.decode s i).2))
        have hsz : Aside (i + gk = s.size ∧ i + (Utf8.decode s i).2 ≤ s.size ∧ 1 ≤ (Utf8.decode s i).2) := ⟨hig, by obtain ⟨a, _⟩ := hlast; omega, hd⟩
        clear hit hxl hx hB2 hI2 hB hig hdc hv hlast hd hr
        generalize (Utf8.decode s i).1 = r at hnx hcall
        generalize (Utf8.decode s i).2 = d at hnx hcall hN2 hB3 hI3 hsz
        generalize itSet wr w.heap.size s (i + d) = w4 at hnx hB3 hI3
        replace hcall := hcall w4
        go_wp2_with fail
        refine hcall.mono ?_
        rintro e w5 ⟨rfl, hb5⟩
        have hB5 := Lib.hid (hB3.out.trans (hb5.mono hB3.out.size))
        have hI5 := Lib.hid ((hb5.block _ (Array.getElem?_eq_some_iff.1 hI3.out).1).trans hI3.out)
        clear hcall hb5 hB3 hI3
        go_wp2
        go_roundg (gk - d)
        case measure => have := hsz.out; omega
        case rel => exact ⟨i + d, by have := hsz.out; omega, hB5.out, hI5.out, hN2.out⟩
    · have hnx := fun ty => next_over wr w.heap.size s i ty hit hi
      clear hit
      replace hB := Lib.hid hB
      go_wp2
      go_ret
      exact ⟨by rw [Lib.indexAny_none (by rw [← Lib.size_eq]; have := HN.out; rwa [show i = s.size by omega] at this)]; rfl, hB.out⟩
set_option maxRecDepth 100000 in
set_option maxHeartbeats 8000000 in
theorem indexAny_any (s chars : ByteArray) (w : World) (hs : s.size ≤ 1000000) (hcz : chars.size ≤ 1000000) (hc : AscB chars) :
    Calls Tryz.prog 131 #[.string s, .string chars] w fun e w' => e = .returned (.int .i64 (Lib.indexAny s.data.toList chars.data.toList)) ∧ Below w.heap.size w w' := by
  have hac : ∀ (j : Nat) b, chars.data.toList[j]? = some b → b.toNat < 128 := fun j b h => hc b (List.mem_of_getElem? h)
  by_cases h0 : chars.size = 0
  · exact (sl_strings_IndexAny_none s chars w h0).mono fun e w' ⟨h1, h2⟩ => ⟨h1, h2 ▸ Below.refl _ _⟩
  by_cases h1 : chars.size = 1
  · exact (sl_strings_IndexAny_one s chars w h1 hac).mono fun e w' ⟨h1, h2⟩ => ⟨h1, h2 ▸ Below.refl _ _⟩
  by_cases h8 : s.size ≤ 8
  · exact indexAny_short s chars w (by omega) hcz h8 hc
  · refine (sl_strings_IndexAny_long (zero_of_info (n := 256) (by kernel_rfl)).1 s chars w (by omega) (by omega) (by omega) (by omega) hac).mono fun e w' ⟨h1, h2⟩ => ⟨h1, ?_⟩
    rw [h2]
    exact ((Below.refl _ _).alloc (Nat.le_refl _) _).alloc (by simp) _
set_option maxRecDepth 100000 in
theorem containsAny_any (s chars : ByteArray) (w : World) (hs : s.size ≤ 1000000) (hcz : chars.size ≤ 1000000) (hc : AscB chars) :
    Calls Tryz.prog 112 #[.string s, .string chars] w fun e w' => e = .returned (.bool (Lib.containsAny s.data.toList chars.data.toList)) ∧ Below w.heap.size w w' := by
  have hcall := indexAny_any s chars w hs hcz hc
  unfold Lib.containsAny
  generalize Lib.indexAny s.data.toList chars.data.toList = v at hcall ⊢
  clear hs hcz hc
  go_enter Tryz.func112, Tryz.ntmps112
  go_wp2_with fail
  refine hcall.mono ?_
  rintro e w5 ⟨rfl, hb⟩
  replace hb := Lib.hid hb
  clear hcall
  go_wp2
  go_ret
  exact ⟨rfl, hb.out⟩
end Go.Proofs.YtmchfoedjajbdaaGreat
/-
  trees: parameters' names; which words would be read as a name and its value.
-/
set_option linter.unusedSimpArgs false
set_option linter.unusedVariables false
namespace Go.Proofs.YtmchfoedjajbdaaGreat
open Go Go.Proofs Go.Shelf Go.RowKit Go.ChangeMaps

def signB (s : ByteArray) : Bool := match s.data.toList with
  | [c] => decide (0 ≤ Lib.indexByte [64, 42, 35, 63, 45, 36, 33] c)
  | _ => false
def paramB (s : ByteArray) : Bool := nameB s || numB s || signB s
theorem sign_one {s : ByteArray} (h : s.size = 1) : ∃ c : UInt8, s = ⟨#[c]⟩ ∧ signB s = decide (0 ≤ Lib.indexByte [64, 42, 35, 63, 45, 36, 33] c) := by
  obtain ⟨⟨l⟩⟩ := s
  cases l with
  | nil => exact absurd h (by decide)
  | cons c l => cases l with
    | nil => exact ⟨c, rfl, rfl⟩
    | cons d l => exact absurd h (by show ¬ (l.length + 1 + 1 = 1); omega)
theorem sign_no {s : ByteArray} (h : s.size ≠ 1) : signB s = false := by
  obtain ⟨⟨l⟩⟩ := s
  cases l with
  | nil => rfl
  | cons c l => cases l with
    | nil => exact absurd rfl h
    | cons d l => rfl
set_option maxRecDepth 100000 in
set_option maxHeartbeats 4000000 in
theorem isSign_any (s : ByteArray) (hz : s.size ≤ 1000000) (w : World) : Calls Tryz.prog 40 #[.string s] w fun e w' => e = .returned (.bool (signB s)) ∧ w' = w := by
  by_cases h1 : s.size = 1
  · obtain ⟨c, rfl, hv⟩ := sign_one h1
    rw [hv]
    have hc := sl_strings_Contains_one ⟨#[64, 42, 35, 63, 45, 36, 33]⟩ c w
    rw [show (ByteArray.mk #[64, 42, 35, 63, 45, 36, 33]).data.toList = [64, 42, 35, 63, 45, 36, 33] from rfl] at hc
    generalize decide (0 ≤ Lib.indexByte [64, 42, 35, 63, 45, 36, 33] c) = v at hc ⊢
    clear hv
    have h2 : (ByteArray.mk #[c]).size = 1 := rfl
    go_enter Tryz.func40, Tryz.ntmps40
    go_wp2_with fail
    refine hc.mono ?_
    rintro e w1 ⟨rfl, hw⟩
    obtain rfl := hw.symm
    clear hc
    go_wp2
    go_ret
    exact ⟨rfl, rfl⟩
  · rw [sign_no h1]
    have h2 : ((s.size : Int) == 1) = false := beq_eq_false_iff_ne.2 (by omega)
    have h3 : ¬ (s.size : Int) = 1 := by omega
    go_enter Tryz.func40, Tryz.ntmps40
    go_wp2
    go_ret
    exact ⟨rfl, rfl⟩
set_option maxRecDepth 100000 in
set_option maxHeartbeats 4000000 in
theorem Parameter_any (s : ByteArray) (hz : s.size ≤ 1000000) (w : World) : Calls Tryz.prog 23 #[.string s] w fun e w' => e = .returned (.bool (paramB s)) ∧ w' = w := by
  have c1 := Name_any s hz w
  have c2 := isNumber_any s hz w
  have c3 := isSign_any s hz w
  unfold paramB
  generalize nameB s = a at c1 ⊢
  generalize numB s = b at c2 ⊢
  generalize signB s = c at c3 ⊢
  cases a
  · cases b
    · go_enter Tryz.func23, Tryz.ntmps23
      go_wp2_with fail
      refine c1.mono ?_
      rintro e w1 ⟨rfl, hw⟩
      obtain rfl := hw.symm
      clear c1
      go_wp2_with fail
      refine c2.mono ?_
      rintro e w1 ⟨rfl, hw⟩
      obtain rfl := hw.symm
      clear c2
      go_wp2_with fail
      refine c3.mono ?_
      rintro e w1 ⟨rfl, hw⟩
      obtain rfl := hw.symm
      clear c3
      go_wp2
      go_ret
      exact ⟨by simp, rfl⟩
    · clear c3
      go_enter Tryz.func23, Tryz.ntmps23
      go_wp2_with fail
      refine c1.mono ?_
      rintro e w1 ⟨rfl, hw⟩
      obtain rfl := hw.symm
      clear c1
      go_wp2_with fail
      refine c2.mono ?_
      rintro e w1 ⟨rfl, hw⟩
      obtain rfl := hw.symm
      clear c2
      go_wp2
      go_ret
      exact ⟨by simp, rfl⟩
  · clear c2 c3
    go_enter Tryz.func23, Tryz.ntmps23
    go_wp2_with fail
    refine c1.mono ?_
    rintro e w1 ⟨rfl, hw⟩
    obtain rfl := hw.symm
    clear c1
    go_wp2
    go_ret
    exact ⟨by simp, rfl⟩
/-- Whether a text begins with a name and an equals sign. -/
def setB (s : ByteArray) : Bool := decide (0 ≤ Lib.indexByte s.data.toList 61) && nameB (s.extract 0 (Lib.indexByte s.data.toList 61).toNat)
theorem ib_lt (c : UInt8) : ∀ l : List UInt8, Lib.indexByte l c = -1 ∨ ∃ k : Nat, Lib.indexByte l c = k ∧ k < l.length
  | [] => .inl rfl
  | b :: l => by
    have ih := ib_lt c l
    unfold Lib.indexByte
    by_cases h : (b == c) = true
    · rw [if_pos h]; exact .inr ⟨0, rfl, by simp⟩
    · rw [if_neg h]
      rcases ih with e | ⟨k, e, hk⟩
      · rw [e]; exact .inl rfl
      · rw [e, if_neg (by simp <;> omega)]
        exact .inr ⟨k + 1, by push_cast; rfl, by simp; omega⟩
set_option maxRecDepth 100000 in
set_option maxHeartbeats 4000000 in
theorem cut_one (s : ByteArray) (hz : s.size ≤ 1000000) (w : World) : Calls Tryz.prog 143 #[.string s, .string ⟨#[61]⟩] w fun e w' => ∃ b, e = .returned (.tuple #[.string (if 0 ≤ Lib.indexByte s.data.toList 61 then s.extract 0 (Lib.indexByte s.data.toList 61).toNat else s), .string b, .bool (decide (0 ≤ Lib.indexByte s.data.toList 61))]) ∧ Below w.heap.size w w' := by
  have hc := sl_stringslite_Index_one s 61 w
  rcases ib_lt 61 s.data.toList with e | ⟨k, e, hk⟩
  · rw [e] at hc ⊢
    rw [if_neg (by decide), show decide ((0 : Int) ≤ -1) = false from rfl]
    go_enter Tryz.func143, Tryz.ntmps143
    go_wp2_with fail
    refine hc.mono ?_
    rintro e w1 ⟨rfl, hw⟩
    obtain rfl := hw.symm
    clear hc
    go_wp2
    refine bodyPost_ret (v := .tuple #[.string s, .string ⟨#[]⟩, .bool false]) (by simp [results, Tryz.results143, go_sem]) rfl ?_
    exact ⟨_, rfl, Below.refl _ _⟩
  · rw [← Lib.size_eq] at hk
    rw [e] at hc ⊢
    rw [if_pos (by omega), show decide ((0 : Int) ≤ (k : Int)) = true from decide_eq_true (by omega), show (k : Int).toNat = k from rfl]
    have k1 : (0 : Int) ≤ (k : Int) := by omega
    have k2 : (k : Int) ≤ (s.size : Int) := by omega
    have k3 : (0 : Int) ≤ (k : Int) + 1 := by omega
    have k4 : (k : Int) + 1 ≤ (s.size : Int) := by omega
    have k5 : (k : Int) ≤ 1000000 := by omega
    go_enter Tryz.func143, Tryz.ntmps143
    go_wp2_with fail
    refine hc.mono ?_
    rintro e w1 ⟨rfl, hw⟩
    obtain rfl := hw.symm
    clear hc
    go_wp2
    go_quiet (fail)
    go_wp2
    refine bodyPost_ret (v := .tuple #[.string (s.extract 0 k), .string (s.extract (k + 1) s.size), .bool true]) (by simp [results, Tryz.results143, go_sem]) rfl ?_
    exact ⟨_, rfl, drewN_below _ _⟩
set_option maxRecDepth 100000 in
set_option maxHeartbeats 4000000 in
theorem strCut_any (s : ByteArray) (hz : s.size ≤ 1000000) (w : World) : Calls Tryz.prog 130 #[.string s, .string ⟨#[61]⟩] w fun e w' => ∃ b, e = .returned (.tuple #[.string (if 0 ≤ Lib.indexByte s.data.toList 61 then s.extract 0 (Lib.indexByte s.data.toList 61).toNat else s), .string b, .bool (decide (0 ≤ Lib.indexByte s.data.toList 61))]) ∧ Below w.heap.size w w' := by
  have hc := cut_one s hz w
  generalize (if 0 ≤ Lib.indexByte s.data.toList 61 then s.extract 0 (Lib.indexByte s.data.toList 61).toNat else s) = p at hc ⊢
  generalize decide (0 ≤ Lib.indexByte s.data.toList 61) = v at hc ⊢
  go_enter Tryz.func130, Tryz.ntmps130
  go_wp2_with fail
  refine hc.mono ?_
  rintro e w1 ⟨b, rfl, hb⟩
  replace hb := Lib.hid hb
  clear hc
  go_wp2
  refine bodyPost_ret (v := .tuple #[.string p, .string b, .bool v]) (by simp [results, Tryz.results130, go_sem]) rfl ?_
  exact ⟨_, rfl, hb.out⟩
section
variable {w0 w : World} {A : Option Addr} {c0 : Nat} {f g : F}
theorem begin_size (f : F) : (beginP f).size ≤ byF f := by
  cases f with
  | piece k t o c K B r =>
    have h : beginP (.piece k t o c K B r) = if k = 1 then t else ⟨#[]⟩ := rfl
    rw [h]
    by_cases hk : k = 1
    · rw [if_pos hk]; simp only [byF]; omega
    · rw [if_neg hk]; exact Nat.zero_le _
  | _ => exact Nat.zero_le _
def isSetP (f : F) : Bool := setB (beginP f)
set_option maxRecDepth 100000 in
set_option maxHeartbeats 4000000 in
theorem isSet_any (ht : Ty f 1) (hs : Slc w0 A c0 f) (hb : Below w0.heap.size w0 w) (hw : byF f ≤ 1000000) : Calls Tryz.prog 105 #[.slice A f.len c0] w fun e w' => e = .returned (.bool (isSetP f)) ∧ Below w.heap.size w w' := by
  have hm := hs.1
  have hcm := hs.2.1
  unfold maxLen at hcm
  have hc := beginning_any ht hs hb
  have hbs := begin_size f
  obtain ⟨t, ht9⟩ : ∃ t, beginP f = t := ⟨_, rfl⟩
  unfold isSetP
  rw [ht9] at hc hbs ⊢
  have hcut := fun W => strCut_any t (by omega) W
  have hname := fun (s : ByteArray) (h : s.size ≤ 1000000) W => Name_any s h W
  obtain ⟨v, hv⟩ : ∃ v, setB t = v := ⟨_, rfl⟩
  rw [hv]
  have hts : t.size ≤ 1000000 := by omega
  unfold setB at hv
  generalize f.len = N at hc hm ⊢
  clear ht hs hb hbs ht9 hw
  rcases ib_lt 61 t.data.toList with e | ⟨k, e, hk⟩
  · rw [e] at hv
    simp only [e] at hcut
    obtain rfl : false = v := by rw [← hv]; rfl
    rw [if_neg (by decide), show decide ((0 : Int) ≤ -1) = false from rfl] at hcut
    replace hcut := Lib.hid hcut
    clear hname hv e
    go_enter Tryz.func105, Tryz.ntmps105
    go_wp2_with fail
    refine hc.mono ?_
    rintro e w1 ⟨rfl, hw⟩
    obtain rfl := hw.symm
    have hc2 := hcut.out w
    clear hc hcut
    go_wp2_with fail
    refine hc2.mono ?_
    rintro e w1 ⟨b, rfl, hb⟩
    replace hb := Lib.hid hb
    clear hc2
    go_wp2
    go_ret
    exact ⟨rfl, hb.out⟩
  · rw [← Lib.size_eq] at hk
    rw [e] at hv
    simp only [e] at hcut
    rw [if_pos (by omega), show decide ((0 : Int) ≤ (k : Int)) = true from decide_eq_true (by omega), show (k : Int).toNat = k from rfl] at hcut
    rw [show decide ((0 : Int) ≤ (k : Int)) = true from decide_eq_true (by omega), show (k : Int).toNat = k from rfl, Bool.true_and] at hv
    have hes : (t.extract 0 k).size ≤ 1000000 := by rw [ByteArray.size_extract]; omega
    have hn := fun W => hname (t.extract 0 k) hes W
    rw [hv] at hn
    generalize t.extract 0 k = p at hcut hn
    replace hcut := Lib.hid hcut
    replace hn := Lib.hid hn
    clear hname hv e hes
    go_enter Tryz.func105, Tryz.ntmps105
    go_wp2_with fail
    refine hc.mono ?_
    rintro e w1 ⟨rfl, hw⟩
    obtain rfl := hw.symm
    have hc2 := hcut.out w
    clear hc hcut
    go_wp2_with fail
    refine hc2.mono ?_
    rintro e w1 ⟨b, rfl, hb⟩
    replace hb := Lib.hid hb
    have hc3 := hn.out w1
    clear hc2 hn
    go_wp2_with fail
    refine hc3.mono ?_
    rintro e w2 ⟨rfl, hw2⟩
    obtain rfl := hw2.symm
    clear hc3
    go_wp2
    go_ret
    exact ⟨rfl, hb.out⟩
end
end Go.Proofs.YtmchfoedjajbdaaGreat
/-
  trees: what is asked of a simple command's first word, and of a text in place.
-/
set_option linter.unusedSimpArgs false
set_option linter.unusedVariables false
namespace Go.Proofs.YtmchfoedjajbdaaGreat
open Go Go.RowKit Go.ChangeMaps

def simpP (mS mR : Nat) : F → Bool
  | .row x _ => !isSetP x && (decide (0 < mS) || !resP x)
  | _ => decide (0 < mS + mR)
/-- A word's last piece is bare, and ends a line. -/
def lastP : F → Bool
  | .piece k t _ _ _ _ r => if r.len = 0 then decide (k = 1) && endsL t else lastP r
  | _ => false
def textP : F → Bool
  | .piece k t _ _ K _ r => decide (r.len = 0) && (if k = 2 then t.toList.isEmpty || endsL t else if k = 3 then decide (K.len = 0) || lastP K else false)
  | _ => false
theorem last_drop : ∀ {f : F}, Ty f 1 → 0 < f.len → ∃ k t o c K B, f.drop (f.len - 1) = .piece k t o c K B .nil ∧ lastP f = (decide (k = 1) && endsL t) := fun {f} => by
  induction f with
  | piece k t o c K B r _ _ ih =>
    intro ht _
    obtain ⟨_, _, _, _, _, hr⟩ := ht
    by_cases h : r.len = 0
    · have e := len0 h
      subst e
      exact ⟨k, t, o, c, K, B, rfl, by simp [lastP, F.len]⟩
    · obtain ⟨k', t', o', c', K', B', h1, h2⟩ := ih hr (by omega)
      refine ⟨k', t', o', c', K', B', ?_, ?_⟩
      · rw [← h1]
        show F.drop _ (r.len + 1 - 1) = _
        rw [show r.len + 1 - 1 = (r.len - 1) + 1 by omega]
        rfl
      · show (if r.len = 0 then _ else lastP r) = _
        rw [if_neg h, h2]
  | nil => intro _ h; exact absurd h (Nat.lt_irrefl 0)
  | node => intro ht; exact absurd ht.1 (by decide)
  | set => intro ht; exact absurd ht.1 (by decide)
  | redir => intro ht; exact absurd ht.1 (by decide)
  | case => intro ht; exact absurd ht.1 (by decide)
  | row => intro ht; rcases ht with h | h <;> exact absurd h.1 (by decide)
theorem by_tl (f : F) : byF f.tl ≤ byF f := by cases f <;> (unfold F.tl; simp only [byF]; omega)
theorem by_drop : ∀ (j : Nat) (f : F), byF (f.drop j) ≤ byF f
  | 0, _ => Nat.le_refl _
  | j + 1, f => Nat.le_trans (by_drop j f.tl) (by_tl f)
section
variable {w0 w : World} {A : Option Addr} {c0 : Nat} {f g : F}
set_option maxRecDepth 100000 in
set_option maxHeartbeats 4000000 in
theorem maySimple_any {k : Int} {b gv : Bool} {n : ByteArray} {AS AR : Option Addr} {mS cS mR cR : Nat} {L C : Value} (h1 : mS ≤ 4194304) (h2 : mR ≤ 4194304) (ht : Ty f 5) (hs : Slc w0 A c0 f) (hb : Below w0.heap.size w0 w) (hw : byF f ≤ 1000000) : Calls Tryz.prog 62 #[ndV k b n gv (.slice AS mS cS) (.slice A f.len c0) (.slice AR mR cR) L C] w fun e w' => e = .returned (.bool (simpP mS mR f)) ∧ Below w.heap.size w w' := by
  have hm := hs.1
  have hcm := hs.2.1
  unfold maxLen at hcm
  have hW := fun o => (Below.refl w.heap.size w).alloc (Nat.le_refl _) o
  unfold ndV
  by_cases hp : 0 < f.len
  · obtain ⟨B, o, rfl, hBl, hrw⟩ := hs.2.2 hp
    obtain ⟨x, r, rfl, htx, _⟩ := at_word ht hp
    obtain ⟨⟨Ax, cx, ex, hsx⟩, _⟩ := rw_row.1 hrw
    obtain ⟨v, hv⟩ : ∃ v, simpP mS mR (.row x r) = v := ⟨_, rfl⟩
    rw [hv]
    have hv2 : (!isSetP x && (decide (0 < mS) || !resP x)) = v := hv
    simp only [byF] at hw
    have c1 := fun W (hb : Below w0.heap.size w0 W) => isSet_any htx hsx hb (by omega)
    have c2 := fun W (hb : Below w0.heap.size w0 W) => isReserved_any htx hsx hb
    have hcell := fun W (hb : Below w0.heap.size w0 W) => (⟨cell_below hb hBl ex, Nat.lt_of_lt_of_le hBl hb.size⟩ : W.cell? ⟨B, o, none⟩ = some (.slice Ax x.len cx) ∧ B < W.heap.size)
    obtain ⟨N, hN⟩ : ∃ N, (F.row x r).len = N := ⟨_, rfl⟩
    rw [hN] at hm hp ⊢
    have h5 : ((N : Int) == 0) = false := beq_eq_false_iff_ne.2 (by omega)
    have h6 : ¬ (N : Int) = 0 := by omega
    have h7 : (0 : Int) < (N : Int) := by omega
    generalize isSetP x = a at c1 hv2
    generalize resP x = b2 at c2 hv2
    generalize x.len = mx at c1 c2 hcell
    have hb9 := Lib.hid hb
    replace c1 := Lib.hid c1
    replace c2 := Lib.hid c2
    replace hcell := Lib.hid hcell
    replace hW := Lib.hid hW
    clear hs hrw ht hp hBl ex hsx htx hv hN hw hb
    go_enter Tryz.func62, Tryz.ntmps62
    go_upto_region 1 with fail
    have hW1 := hW.out (.cells #[.int .i64 k, .bool b, .string n, .bool gv, .slice AS mS cS, .slice (some ⟨B, o, none⟩) N c0, .slice AR mR cR, L, C] 43)
    have hb1 := hb9.out.trans (hW1.mono hb9.out.size)
    have hk1 := Blk.new w [.int .i64 k, .bool b, .string n, .bool gv, .slice AS mS cS, .slice (some ⟨B, o, none⟩) N c0, .slice AR mR cR, L, C] 43
    generalize w.alloc (.cells #[.int .i64 k, .bool b, .string n, .bool gv, .slice AS mS cS, .slice (some ⟨B, o, none⟩) N c0, .slice AR mR cR, L, C] 43) = w1 at hW1 hb1 hk1 ⊢
    replace hW1 := Lib.hid hW1
    generalize w.heap.size = y at hk1 ⊢
    obtain ⟨z1, z2⟩ := hcell.out _ hb1
    have d1 := c1.out _ hb1
    have y5 := hk1.cell (i := 5) rfl
    have yl := hk1.lt
    replace hk1 := Lib.hid hk1
    replace hb1 := Lib.hid hb1
    clear c1 hW hb9
    go_wp2_with fail
    refine d1.mono ?_
    rintro e w2 ⟨rfl, hb2⟩
    have hk2 : Blk w2 y _ _ := (hb2.block y yl).trans hk1.out
    have hW2 := Lib.hid (hW1.out.trans (hb2.mono hW1.out.size))
    have hB2 := hb1.out.trans (hb2.mono hb1.out.size)
    clear d1 y5 yl z1 z2 hk1 hW1 hb1 hb2
    have d2 := c2.out _ hB2
    have y4 := hk2.cell (i := 4) rfl
    have yl := hk2.lt
    replace hk2 := Lib.hid hk2
    clear hB2 c2 hcell
    cases a
    · by_cases hS : 0 < mS
      · obtain rfl : true = v := by rw [← hv2]; simp [hS]
        have g1 : (0 : Int) < (mS : Int) := by omega
        clear d2 hv2
        go_wp2
        go_ret
        exact ⟨rfl, hW2.out⟩
      · obtain rfl : (!b2) = v := by rw [← hv2]; simp [hS]
        have g1 : ¬ (0 : Int) < (mS : Int) := by omega
        clear hv2
        go_wp2_with fail
        refine d2.mono ?_
        rintro e w3 ⟨rfl, hw3⟩
        obtain rfl := hw3.symm
        clear d2
        go_wp2
        go_ret
        exact ⟨rfl, hW2.out⟩
    · obtain rfl : false = v := by rw [← hv2]; rfl
      clear d2 hv2
      go_wp2
      go_ret
      exact ⟨rfl, hW2.out⟩
  · obtain rfl := len0 (by omega : f.len = 0)
    rw [show simpP mS mR .nil = decide (0 < mS + mR) from rfl, show F.nil.len = 0 from rfl]
    have hsum : decide ((0 : Int) < (mS : Int) + (mR : Int)) = decide (0 < mS + mR) := by congr 1; exact propext ⟨fun h => by omega, fun h => by omega⟩
    obtain ⟨v, hv⟩ : ∃ v, decide (0 < mS + mR) = v := ⟨_, rfl⟩
    rw [hv] at hsum ⊢
    replace hW := Lib.hid hW
    clear hs ht hb hp hv hw
    go_enter Tryz.func62, Tryz.ntmps62
    go_wp2
    go_ret
    exact ⟨rfl, hW.out _⟩
set_option maxRecDepth 100000 in
set_option maxHeartbeats 4000000 in
theorem isText_any (ht : Ty f 1) (hs : Slc w0 A c0 f) (hb : Below w0.heap.size w0 w) (hw : wt f ≤ 4194304) (hy : byF f ≤ 1000000) : Calls Tryz.prog 120 #[.slice A f.len c0] w fun e w' => e = .returned (.bool (textP f)) ∧ Below w.heap.size w w' := by
  have hm := hs.1
  have hcm := hs.2.1
  unfold maxLen at hcm
  have hW0 := Lib.hid (Below.refl w.heap.size w)
  by_cases h1 : f.len = 1
  · obtain ⟨B, o, rfl, hBl, hrw⟩ := hs.2.2 (by omega)
    obtain ⟨k, t, p, c, K, Y, r, rfl, _, _, htK, htY, htr⟩ := at_piece ht (by omega)
    obtain rfl : r = .nil := len0 (by have : r.len + 1 = 1 := h1; omega)
    obtain ⟨e0', e1', e2', e3', ⟨AK, cK, e4', hsK⟩, ⟨AY, cY, e5', hsY⟩, _⟩ := rw_piece.1 hrw
    have e0 := cell_below hb hBl e0'
    have e1 := cell_below hb hBl e1'
    have e2 := cell_below hb hBl e2'
    have e3 := cell_below hb hBl e3'
    have e4 := cell_below hb hBl e4'
    have e5 := cell_below hb hBl e5'
    have hl := Nat.lt_of_lt_of_le hBl hb.size
    simp only [wt] at hw
    simp only [byF] at hy
    obtain ⟨v, hv⟩ : ∃ v, textP (.piece k t p c K Y .nil) = v := ⟨_, rfl⟩
    have hv2 : (if k = 2 then t.toList.isEmpty || endsL t else if k = 3 then decide (K.len = 0) || lastP K else false) = v := by
      rw [← hv]; simp [textP, F.len]
    rw [h1, hv]
    rw [h1] at hm
    have hcE := fun W => endsLine_any t W (by omega)
    have hbW := fun o => (Below.refl w.heap.size w).alloc (Nat.le_refl _) o
    have hb9 := Lib.hid hb
    obtain ⟨mK, hmK⟩ : ∃ m, K.len = m := ⟨_, rfl⟩
    obtain ⟨mY, hmY⟩ : ∃ m, Y.len = m := ⟨_, rfl⟩
    rw [hmK] at hv2 e4
    rw [hmY] at e5
    have hkb : mK ≤ 4194304 := by have := len_wt K; omega
    have htz : t.size ≤ 1000000 := by omega
    replace hsK := Lib.hid hsK
    replace htK := Lib.hid htK
    replace hmK := Lib.hid hmK
    have hwK := Lib.hid (show byF K ≤ 1000000 by omega)
    replace hbW := Lib.hid hbW
    replace hcE := Lib.hid hcE
    clear hs hrw ht h1 e0' e1' e2' e3' e4' e5' hBl hb hsY htY htr hv hw hy hmY
    go_enter Tryz.func120, Tryz.ntmps120
    go_upto_region 4 with fail
    have hW1 := hbW.out (.cells #[.int .i64 k, .string t, .int .i64 p, .bool c, .slice AK mK cK, .slice AY mY cY] 66)
    have hk1 := Blk.new w [.int .i64 k, .string t, .int .i64 p, .bool c, .slice AK mK cK, .slice AY mY cY] 66
    clear e0 e1 e2 e3 e4 e5 hl hbW
    generalize w.alloc (.cells #[.int .i64 k, .string t, .int .i64 p, .bool c, .slice AK mK cK, .slice AY mY cY] 66) = w1 at hW1 hk1 ⊢
    have hb1 := hb9.out.trans (hW1.mono hb9.out.size)
    replace hW1 := Lib.hid hW1
    replace hb1 := Lib.hid hb1
    clear hb9
    generalize w.heap.size = y at hk1 ⊢
    have y0 := hk1.cell (i := 0) rfl
    have y1 := hk1.cell (i := 1) rfl
    have y4 := hk1.cell (i := 4) rfl
    have yl := hk1.lt
    clear hk1
    by_cases hk2 : k = 2
    · subst hk2
      rw [if_pos rfl] at hv2
      by_cases hte : t.toList.isEmpty = true
      · obtain rfl : true = v := by rw [← hv2, hte]; rfl
        clear hv2 hcE y4
        go_wp2
        go_ret
        exact ⟨rfl, hW1.out⟩
      · have hte2 : t.toList.isEmpty = false := by simpa using hte
        have hv3 : endsL t = v := by rw [← hv2, hte2]; rfl
        have hc := hcE.out w1
        rw [hv3] at hc
        clear hv3
        clear hv2 hcE hte y4
        go_wp2_with fail
        refine hc.mono ?_
        rintro e w2 ⟨rfl, hw2⟩
        obtain rfl := hw2.symm
        clear hc
        go_wp2
        go_ret
        exact ⟨rfl, hW1.out⟩
    · have g2 : (k == 2) = false := by simp [hk2]
      rw [if_neg hk2] at hv2
      by_cases hk3 : k = 3
      · subst hk3
        rw [if_pos rfl] at hv2
        by_cases hK0 : mK = 0
        · subst hK0
          obtain rfl : true = v := by rw [← hv2]; rfl
          clear hv2 hcE y1 g2 hk2
          go_wp2
          go_ret
          exact ⟨rfl, hW1.out⟩
        · have g0 : ((mK : Int) == 0) = false := beq_eq_false_iff_ne.2 (by omega)
          rw [show decide (mK = 0) = false from decide_eq_false hK0, Bool.false_or] at hv2
          have hKp : 0 < K.len := by rw [hmK.out]; omega
          obtain ⟨B2, o2, rfl, hB2, hrw2⟩ := hsK.out.2.2 hKp
          obtain ⟨k2, t2, p2, c2, K2, Y2, hdr, hla⟩ := last_drop htK.out hKp
          have hrd := rw_drop (K.len - 1) htK.out (by omega) hrw2
          rw [hdr, hmK.out, show szT 1 = 6 from rfl] at hrd
          obtain ⟨f0', f1', f2', f3', ⟨AK2, cK2, f4', _⟩, ⟨AY2, cY2, f5', _⟩, _⟩ := rw_piece.1 hrd
          have hwt2 := by_drop (K.len - 1) K
          rw [hdr] at hwt2
          simp only [byF] at hwt2
          have hsz2 : t2.size ≤ 1000000 := by have := hwK.out; omega
          have f0 := cell_below hb1.out hB2 f0'
          have f1 := cell_below hb1.out hB2 f1'
          have f2 := cell_below hb1.out hB2 f2'
          have f3 := cell_below hb1.out hB2 f3'
          have f4 := cell_below hb1.out hB2 f4'
          have f5 := cell_below hb1.out hB2 f5'
          have hl2 := Nat.lt_of_lt_of_le hB2 hb1.out.size
          rw [hla] at hv2
          obtain ⟨j, rfl⟩ : ∃ j, mK = j + 1 := ⟨mK - 1, by omega⟩
          rw [Nat.add_sub_cancel] at f0 f1 f2 f3 f4 f5
          generalize K2.len = mK2 at f4
          generalize Y2.len = mY2 at f5
          have hc := fun W => endsLine_any t2 W (by omega)
          generalize endsL t2 = q at hc hv2
          have hbW := fun o => (Below.refl w1.heap.size w1).alloc (Nat.le_refl _) o
          replace hbW := Lib.hid hbW
          replace hc := Lib.hid hc
          have hj0 : (0 : Int) ≤ (j : Int) := by omega
          have hj7 : (j : Int) ≤ 4194304 := by omega
          have hj9 : ((j + 1 : Nat) : Int) - 1 = (j : Int) := by omega
          have hj8 : (j : Int) < ((j + 1 : Nat) : Int) := by omega
          clear hcE hkb htz hwK hsK htK hmK hKp hrw2 hdr hla hrd hwt2 f0' f1' f2' f3' f4' f5' hB2 hK0 hk2
          clear y1
          by_cases hkk : k2 = 1
          · subst hkk
            obtain rfl : q = v := by rw [← hv2]; simp
            clear hv2
            go_upto_region 11 with fail
            have hW3 := hbW.out (.cells #[.int .i64 1, .string t2, .int .i64 p2, .bool c2, .slice AK2 mK2 cK2, .slice AY2 mY2 cY2] 66)
            have hk3 := Blk.new w1 [.int .i64 1, .string t2, .int .i64 p2, .bool c2, .slice AK2 mK2 cK2, .slice AY2 mY2 cY2] 66
            clear f0 f1 f2 f3 f4 f5 hl2 hbW
            generalize w1.alloc (.cells #[.int .i64 1, .string t2, .int .i64 p2, .bool c2, .slice AK2 mK2 cK2, .slice AY2 mY2 cY2] 66) = w3 at hW3 hk3 ⊢
            have hW4 := Lib.hid (hW1.out.trans (hW3.mono hW1.out.size))
            clear hW3 y0 y4 yl
            generalize w1.heap.size = y at hk3 ⊢
            have y0 := hk3.cell (i := 0) rfl
            have y1 := hk3.cell (i := 1) rfl
            have yl := hk3.lt
            have hc1 := hc.out w3
            clear hk3 hc
            go_wp2_with fail
            refine hc1.mono ?_
            rintro e w4 ⟨rfl, hw4⟩
            obtain rfl := hw4.symm
            clear hc1
            go_wp2
            go_ret
            exact ⟨rfl, hW4.out⟩
          · obtain rfl : false = v := by rw [← hv2]; simp [hkk]
            have gk : (k2 == 1) = false := by simp [hkk]
            clear hv2 hc
            go_upto_region 11 with fail
            have hW3 := hbW.out (.cells #[.int .i64 k2, .string t2, .int .i64 p2, .bool c2, .slice AK2 mK2 cK2, .slice AY2 mY2 cY2] 66)
            have hk3 := Blk.new w1 [.int .i64 k2, .string t2, .int .i64 p2, .bool c2, .slice AK2 mK2 cK2, .slice AY2 mY2 cY2] 66
            clear f0 f1 f2 f3 f4 f5 hl2 hbW
            generalize w1.alloc (.cells #[.int .i64 k2, .string t2, .int .i64 p2, .bool c2, .slice AK2 mK2 cK2, .slice AY2 mY2 cY2] 66) = w3 at hW3 hk3 ⊢
            have hW4 := Lib.hid (hW1.out.trans (hW3.mono hW1.out.size))
            clear hW3 y0 y4 yl
            generalize w1.heap.size = y at hk3 ⊢
            have y0 := hk3.cell (i := 0) rfl
            have y1 := hk3.cell (i := 1) rfl
            have yl := hk3.lt
            clear hk3
            go_wp2
            go_ret
            exact ⟨rfl, hW4.out⟩
      · have g3 : (k == 3) = false := by simp [hk3]
        rw [if_neg hk3] at hv2
        obtain rfl : false = v := hv2
        clear hcE y1 y4
        go_wp2
        go_ret
        exact ⟨rfl, hW1.out⟩
  · have hv : textP f = false := by
      cases f with
      | piece k t o c K B r => simp only [textP, show decide (r.len = 0) = false from decide_eq_false (fun h => h1 (by simp [F.len, h])), Bool.false_and]
      | _ => rfl
    rw [hv]
    generalize f.len = N at hm h1 ⊢
    have h2 : ((N : Int) != 1) = true := by simp; omega
    have h3 : ¬ (N : Int) = 1 := by omega
    clear hs ht hb hw hy hv
    go_enter Tryz.func120, Tryz.ntmps120
    go_wp2
    go_ret
    exact ⟨rfl, hW0.out⟩
end
end Go.Proofs.YtmchfoedjajbdaaGreat
