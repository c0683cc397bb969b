/-
  Doc and Reserved, told plainly; strings.Builder in plain words. Conditions: texts of up to a million bytes.
-/
import Derived.Shelf.Strings.Builder1
import Derived.Shelf.Strings.BuilderK
import Derived.Test.YtjeleebgifajkaaDoorLxNext2
set_option linter.unusedSimpArgs false
set_option linter.unusedVariables false
namespace Go.Proofs.YtjeleebgifajkaaDoor
open Go Go.Shelf Go.RowKit

def shRen : Ren := ⟨fun | 166 => 35 | 169 => 34 | 240 => 54 | 276 => 67 | n => n, fun | 0 => 0 | 3 => 3 | 4 => 4 | 5 => 5 | 9 => 9 | 20 => 20 | 21 => 21 | 37 => 57 | 46 => 88 | 70 => 56 | 72 => 59 | 75 => 63 | 80 => 61 | 127 => 79 | 164 => 84 | n => n, fun | 3 => 1 | 4 => 2 | n => n⟩
theorem sh166 : Lays.n166 Tryd.prog shRen := {
  mixed := by kernel_rfl
  f166 := Tryd.func35.trans (congrArg some (by kernel_rfl))
  f240 := Tryd.func54.trans (congrArg some (by kernel_rfl))
  f276 := Tryd.func67.trans (congrArg some (by kernel_rfl))
  t0 := Tryd.underlying0
  a0 := Tryd.isAgg0
  z0 := Tryd.sizeOf0
  v0 := Tryd.zeroValue0
  t3 := Tryd.underlying3
  a3 := Tryd.isAgg3
  z3 := Tryd.sizeOf3
  v3 := Tryd.zeroValue3
  t4 := Tryd.underlying4
  a4 := Tryd.isAgg4
  z4 := Tryd.sizeOf4
  v4 := Tryd.zeroValue4
  t9 := Tryd.underlying9
  a9 := Tryd.isAgg9
  z9 := Tryd.sizeOf9
  v9 := Tryd.zeroValue9
  t20 := Tryd.underlying20
  a20 := Tryd.isAgg20
  z20 := Tryd.sizeOf20
  v20 := Tryd.zeroValue20
  t37 := Tryd.underlying57
  a37 := Tryd.isAgg57
  z37 := Tryd.sizeOf57
  v37 := Tryd.zeroValue57
  t70 := Tryd.underlying56
  a70 := Tryd.isAgg56
  z70 := Tryd.sizeOf56
  v70 := Tryd.zeroValue56
  t72 := Tryd.underlying59
  a72 := Tryd.isAgg59
  z72 := Tryd.sizeOf59
  v72 := Tryd.zeroValue59
  t75 := Tryd.underlying63
  a75 := Tryd.isAgg63
  z75 := Tryd.sizeOf63
  v75 := Tryd.zeroValue63
  t164 := Tryd.underlying84
  a164 := Tryd.isAgg84
  z164 := Tryd.sizeOf84
  v164 := Tryd.zeroValue84 }
theorem sh169 : Lays.n169 Tryd.prog shRen := {
  mixed := by kernel_rfl
  f169 := Tryd.func34.trans (congrArg some (by kernel_rfl))
  t0 := Tryd.underlying0
  a0 := Tryd.isAgg0
  z0 := Tryd.sizeOf0
  v0 := Tryd.zeroValue0
  t3 := Tryd.underlying3
  a3 := Tryd.isAgg3
  z3 := Tryd.sizeOf3
  v3 := Tryd.zeroValue3
  t9 := Tryd.underlying9
  a9 := Tryd.isAgg9
  z9 := Tryd.sizeOf9
  v9 := Tryd.zeroValue9
  t37 := Tryd.underlying57
  a37 := Tryd.isAgg57
  z37 := Tryd.sizeOf57
  v37 := Tryd.zeroValue57
  t70 := Tryd.underlying56
  a70 := Tryd.isAgg56
  z70 := Tryd.sizeOf56
  v70 := Tryd.zeroValue56
  t72 := Tryd.underlying59
  a72 := Tryd.isAgg59
  z72 := Tryd.sizeOf59
  v72 := Tryd.zeroValue59
  t127 := Tryd.underlying79
  a127 := Tryd.isAgg79
  z127 := Tryd.sizeOf79
  v127 := Tryd.zeroValue79 }
theorem shExtra : Builder.Extra Tryd.prog shRen := {
  sizeBuilder := by kernel_rfl
  liesBuilder := by kernel_rfl
  t5 := Tryd.underlying5
  a5 := Tryd.isAgg5
  z5 := Tryd.sizeOf5
  v5 := Tryd.zeroValue5
  infoByte := by kernel_rfl
  cellsByte := by kernel_rfl
  sizeByte := by kernel_rfl
  neB5 := by decide }

abbrev IsB (B b : Nat) (bs : List Value) (w : World) : Prop := Lib.IsBuilderF 59 5 B b bs w
abbrev AtB (B b : Nat) (p : Value) (bs : List Value) (w : World) : Prop := Lib.BuilderAtF 59 5 B b p bs w
/-- Blocks that are neither the builder's nor rows of bytes are as they were. -/
abbrev Kept (b : Nat) (w w' : World) : Prop := Lib.OthersKept 5 (some b) w w'

theorem fresh_isB (w : World) : IsB w.heap.size w.heap.size [] (w.alloc (.cells #[.pointer none, .slice none 0 0] 59)) := by
  rcases Lib.fresh_isBuilder 59 5 w with h | h
  · exact .inl (.of h)
  · exact .inr (.of h)

theorem bWriteString (B b : Nat) (bs : List Value) (s : ByteArray) (w : World) (h : IsB B b bs w) (hlen : bs.length + s.size ≤ 140737488355328) (hBw : B ≤ w.heap.size) :
    Calls Tryd.prog 35 #[.pointer (some ⟨b, 0, none⟩), .string s] w fun e w' => e = .returned (.tuple #[.int .i64 s.size, .nilIface]) ∧ (AtB B b (.pointer (some ⟨b, 0, none⟩)) (bs ++ Lib.strCells s) w' ∧ Below B w w' ∧ Kept b w w') :=
  Any.Builder_WriteString_k sh166 shExtra B b bs s w h hlen hBw
theorem bString (B b : Nat) (l : List UInt8) (w : World) (h : IsB B b (Lib.byteCells l) w) (hBw : B ≤ w.heap.size) :
    Calls Tryd.prog 34 #[.pointer (some ⟨b, 0, none⟩)] w fun e w' => e = .returned (.string ⟨l.toArray⟩) ∧ Below B w w' :=
  (Any.Builder_String_any_k sh169 shExtra B b l w h hBw).mono fun _ _ ⟨he, _, hb, _⟩ => ⟨he, hb⟩
end Go.Proofs.YtjeleebgifajkaaDoor

namespace Go.Proofs.YtjeleebgifajkaaDoor
open Go Go.RowKit

theorem byteCells_app (a b : List UInt8) : Lib.byteCells (a ++ b) = Lib.byteCells a ++ Lib.byteCells b := by simp [Lib.byteCells]
theorem byteCells_len (a : List UInt8) : (Lib.byteCells a).length = a.length := by simp [Lib.byteCells]
theorem strCells_tl (s : ByteArray) : Lib.strCells s = Lib.byteCells (bl s) := by simp [Lib.strCells, Lib.byteCells, bl]
/-- What a builder has in memory: the two cells. -/
theorem isB_cells {B b : Nat} {bs : List Value} {w : World} (h : IsB B b bs w) : ∃ (A : Option Addr) (c : Nat), w.cell? ⟨b, 1, none⟩ = some (.slice A bs.length c) := by
  have hh : ∃ p, AtB B b p bs w := by
    rcases h with h | h
    · exact ⟨_, h⟩
    · exact ⟨_, h⟩
  obtain ⟨p, hB, v, hb, hown, _⟩ := hh
  have hc : w.cell? ⟨b, 1, none⟩ = some v := by rw [cell_of_row w b 1 _ _ _ hb]; rfl
  rcases hown.2 with ⟨rfl, h0⟩ | ⟨g, cap, cur, fz, rfl, _⟩
  · exact ⟨none, 0, by rw [hc, h0]⟩
  · exact ⟨_, _, hc⟩
theorem isB_lt {B b : Nat} {bs : List Value} {w : World} (h : IsB B b bs w) : B ≤ b ∧ b < w.heap.size := by
  obtain ⟨A, c, hc⟩ := isB_cells h
  refine ⟨?_, World.block_lt_of_cell? w ⟨b, 1, none⟩ hc⟩
  rcases h with h | h <;> exact h.1


/-- The line that stands first, as it is told. -/
def lineP (x : List UInt8) (tabs : Bool) : List UInt8 := if tabs = true then Lib.trimLeftB (x.take (lineN x + 1)) 9 else x.take (lineN x + 1)
/-- The lines ahead of the one that is mark, and the place behind it. -/
def docF : Nat → List UInt8 → Nat → List UInt8 → Bool → List UInt8 → Option (List UInt8 × Nat)
  | 0, _, _, _, _, _ => none
  | n + 1, l, k, mark, tabs, out => if l.length ≤ k then none else
    if Lib.trimSuffix (lineP (l.drop k) tabs) [10] = mark then some (out, min (k + lineN (l.drop k) + 1) l.length)
    else docF n l (min (k + lineN (l.drop k) + 1) l.length) mark tabs (out ++ lineP (l.drop k) tabs)
def docV (s : ByteArray) (at_ : Int) (mark : ByteArray) (tabs : Bool) : List UInt8 × Int × Int :=
  if chk s at_ ≠ 0 then ([], 0, chk s at_) else match docF (s.size + 1) (bl s) at_.toNat (bl mark) tabs [] with
    | none => ([], 0, 30)
    | some (t, n) => (t, (n : Int), 0)
def docO (o : Option (List UInt8 × Nat)) : Value := .tuple (match o with | none => #[.string ⟨#[]⟩, .int .i64 0, .int .i64 30] | some (t, n) => #[.string ⟨t.toArray⟩, .int .i64 (n : Int), .int .i64 0])
theorem trimL_le (l : List UInt8) (c : UInt8) : (Lib.trimLeftB l c).length ≤ l.length := by
  unfold Lib.trimLeftB
  induction l with
  | nil => simp
  | cons a l ih => rw [List.dropWhile_cons]; split <;> simp <;> omega
theorem lineP_le (x : List UInt8) (tabs : Bool) : (lineP x tabs).length ≤ min (lineN x + 1) x.length := by
  unfold lineP
  split
  · refine Nat.le_trans (trimL_le _ _) ?_
    simp
  · simp
theorem trimS_le (l p : List UInt8) : (Lib.trimSuffix l p).length ≤ l.length := by
  unfold Lib.trimSuffix
  split
  · simp
  · exact Nat.le_refl _
theorem mk_size (l : List UInt8) : (⟨l.toArray⟩ : ByteArray).size = l.length := by simp [ByteArray.size]
theorem chk_0 {s : ByteArray} {at_ : Int} (h : chk s at_ = 0) : s.size ≤ 4096 ∧ ∃ k : Nat, at_ = (k : Int) ∧ k ≤ s.size := by
  unfold chk at h
  split at h
  · cases h
  · split at h
    · cases h
    · rename_i h1 h2
      exact ⟨by omega, at_.toNat, by omega, by omega⟩

section
set_option maxRecDepth 100000
set_option maxHeartbeats 4000000
theorem doc_false (s mark : ByteArray) (k0 : Nat) (hk0 : k0 ≤ s.size) (hs : s.size ≤ 4096) (hch : chk s (k0 : Int) = 0) (w : World) :
    Calls Tryd.prog 19 #[.string s, .int .i64 (k0 : Int), .string mark, .bool false] w fun e w' => e = .returned (docO (docF (s.size + 1) (bl s) k0 (bl mark) false [])) ∧ Below w.heap.size w w' := by
  obtain ⟨R, hR⟩ : ∃ R, docF (s.size + 1) (bl s) k0 (bl mark) false [] = R := ⟨_, rfl⟩
  rw [hR]
  have hc := check_any s (k0 : Int) w
  rw [hch] at hc
  replace hc := Lib.hid hc
  replace hR := Lib.hid hR
  obtain ⟨z, hz⟩ : ∃ z, w.heap.size = z := ⟨_, rfl⟩
  have hbN : Below z w (w.alloc (.cells #[.pointer none, .slice none 0 0] 59)) := by rw [← hz]; exact (Below.refl _ w).alloc (Nat.le_refl _) _
  have bN : IsB z z [] (w.alloc (.cells #[.pointer none, .slice none 0 0] 59)) := by rw [← hz]; exact fresh_isB w
  replace bN := Lib.hid bN
  replace hbN := Lib.hid hbN
  clear hch
  go_enter Tryd.func19, Tryd.ntmps19
  go_wp2_with fail
  refine hc.out.mono ?_
  rintro e w' ⟨rfl, hwq⟩
  obtain rfl := hwq.symm
  clear hc hwq
  go_upto_region 5 with fail
  try rw [hz]
  generalize (w.alloc (.cells #[.pointer none, .slice none 0 0] 59)) = w1 at hbN bN ⊢
  replace hz := Lib.hid hz
  go_loopw [1] (fun i wr => ∃ (k n : Nat) (out : List UInt8), k ≤ s.size ∧ i = .int .i64 (k : Int) ∧ Hid (s.size - k < n) ∧ Hid (out.length ≤ k) ∧ Hid (docF n (bl s) k (bl mark) false out = R) ∧ Hid (IsB z z (Lib.byteCells out) wr) ∧ Hid (Below z w wr)) (fun i _ => s.size - (intOf i).toNat)
  case atStart => exact ⟨k0, s.size + 1, [], hk0, rfl, Lib.hid (by omega), Lib.hid (Nat.zero_le _), hR, bN, hbN⟩
  case round =>
    obtain ⟨k, n, out, hk, rfl, hn, hol, hsay, hB, hbel⟩ := hrel
    clear hR bN hbN
    have hsay0 := hsay.out
    clear hsay
    obtain ⟨n, rfl⟩ : ∃ m, n = m + 1 := ⟨n - 1, by have := hn.out; omega⟩
    unfold docF at hsay0
    rw [bl_len] at hsay0
    have hzs : z ≤ wr.heap.size := by have := (isB_lt hB.out).2; omega
    replace hzs := Lib.hid hzs
    by_cases hlt : k < s.size
    · have hi1 : (k : Int) < (s.size : Int) := by omega
      rw [if_neg (by omega)] at hsay0
      have hl := lineStop_any s k hk (by omega) wr
      have hll := lineN_le ((bl s).drop k)
      have hLP := lineP_le ((bl s).drop k) false
      rw [List.length_drop, bl_len] at hll hLP
      have hcut : ∀ j, j = min (k + lineN ((bl s).drop k) + 1) s.size → (s.extract k j).data.toList = ((bl s).drop k).take (lineN ((bl s).drop k) + 1) := fun j hj => by
        rw [bl_extract, List.drop_take]
        by_cases hq : j = k + lineN ((bl s).drop k) + 1
        · rw [hq]; congr 1; omega
        · rw [List.take_of_length_le (by rw [List.length_drop, bl_len]; omega), List.take_of_length_le (by rw [List.length_drop, bl_len]; omega)]
      have hlp : lineP ((bl s).drop k) false = ((bl s).drop k).take (lineN ((bl s).drop k) + 1) := rfl
      generalize lineP ((bl s).drop k) false = L at hsay0 hLP hlp
      obtain ⟨q, hq⟩ : ∃ q, k + lineN ((bl s).drop k) = q := ⟨_, rfl⟩
      obtain ⟨j, hj⟩ : ∃ j, min (q + 1) s.size = j := ⟨_, rfl⟩
      have hcut := hcut j (by omega)
      rw [← hlp] at hcut
      rw [hq, hj] at hsay0
      rw [hq] at hl
      have hjm : min ((q : Int) + 1) (s.size : Int) = (j : Int) := by omega
      have hkj : (k : Int) ≤ (j : Int) := by omega
      have hjs : (j : Int) ≤ (s.size : Int) := by omega
      have hqi : (q : Int) ≤ 4096 := by omega
      have hLj : L.length ≤ j - k := by omega
      have hjk : k < j ∧ j ≤ s.size := by omega
      clear hll hLP hq hj
      have hts := Tryd.strings_TrimSuffix ⟨L.toArray⟩ ⟨#[10]⟩ wr (by rw [mk_size]; omega)
      simp only at hts
      have hLs : Lib.trimSuffix L [10] = (⟨(Lib.trimSuffix L [10]).toArray⟩ : ByteArray).data.toList := rfl
      generalize hyy : (⟨(Lib.trimSuffix L [10]).toArray⟩ : ByteArray) = y at hts hLs
      rw [hLs] at hsay0
      have hgs := bString z z out wr hB.out hzs.out
      have hws := bWriteString z z (Lib.byteCells out) ⟨L.toArray⟩ wr hB.out (by rw [byteCells_len, mk_size]; have := hol.out; omega) hzs.out
      have hsc : Lib.strCells ⟨L.toArray⟩ = Lib.byteCells L := by rw [strCells_tl]
      rw [hsc, ← byteCells_app] at hws
      have hLy : (⟨L.toArray⟩ : ByteArray) = s.extract k j → True := fun _ => trivial
      have hex : s.extract k j = ⟨L.toArray⟩ := by rw [← hcut]
      rw [← hex] at hts hws
      clear hex
      generalize (⟨L.toArray⟩ : ByteArray) = LB at *
      replace hts := Lib.hid hts
      replace hgs := Lib.hid hgs
      replace hws := Lib.hid hws
      replace hl := Lib.hid hl
      replace hjm := Lib.hid hjm
      replace hLj := Lib.hid hLj
      clear hlp hcut hLs hyy hsc hLy
      by_cases hm : bl y = bl mark
      · have hym : y = mark := ByteArray.ext (Array.toList_inj.1 hm)
        rw [if_pos hm] at hsay0
        replace hsay0 := Lib.hid hsay0
        subst hym
        clear hws hm
        go_wp2_with fail
        refine hl.out.mono ?_
        rintro e w' ⟨rfl, hwq⟩
        obtain rfl := hwq.symm
        clear hl hwq
        go_upto_region 7 with fail
        try rw [hjm.out]
        go_wp2_with fail
        refine hts.out.mono ?_
        rintro e w' ⟨rfl, hwq⟩
        obtain rfl := hwq.symm
        clear hts hwq
        go_wp2_with fail
        refine hgs.out.mono ?_
        rintro e w2 ⟨rfl, hb2⟩
        have hbE : Hid (Below w.heap.size w w2) := Lib.hid (by rw [hz.out]; exact hbel.out.trans hb2)
        clear hgs hb2
        go_wp2
        exact bodyPost_ret (v := .tuple #[.string ⟨out.toArray⟩, .int .i64 (j : Int), .int .i64 0]) (by simp [results, Tryd.results19, go_sem]) rfl ⟨by rw [← hsay0.out]; rfl, hbE.out⟩
      · have hne : (y.toList == mark.toList) = false := by
          rw [ByteArray.toList_eq, ByteArray.toList_eq]
          exact beq_eq_false_iff_ne.2 hm
        rw [if_neg hm] at hsay0
        replace hsay0 := Lib.hid hsay0
        clear hgs hm
        go_wp2_with fail
        refine hl.out.mono ?_
        rintro e w' ⟨rfl, hwq⟩
        obtain rfl := hwq.symm
        clear hl hwq
        go_upto_region 7 with fail
        try rw [hjm.out]
        go_wp2_with fail
        refine hts.out.mono ?_
        rintro e w' ⟨rfl, hwq⟩
        obtain rfl := hwq.symm
        clear hts hwq
        go_wp2_with fail
        refine hws.out.mono ?_
        rintro e w2 ⟨rfl, hat, hb2, _⟩
        have hB2 : Hid (IsB z z (Lib.byteCells (out ++ L)) w2) := Lib.hid (.inr hat)
        have hbE : Hid (Below z w w2) := Lib.hid (hbel.out.trans hb2)
        clear hws hb2 hat
        go_wp2
        go_roundw
        case rel => exact ⟨j, n, out ++ L, hjk.2, rfl, Lib.hid (by have := hn.out; omega), Lib.hid (by rw [List.length_append]; have := hol.out; have := hLj.out; omega), hsay0, hB2, hbE⟩
        case measure => simp [intOf]; omega
    · have hi1 : ¬ (k : Int) < (s.size : Int) := by omega
      rw [if_pos (by omega)] at hsay0
      have hbE : Hid (Below w.heap.size w wr) := Lib.hid (by rw [hz.out]; exact hbel.out)
      replace hsay0 := Lib.hid hsay0
      go_wp2
      exact bodyPost_ret (v := .tuple #[.string ⟨#[]⟩, .int .i64 0, .int .i64 30]) (by simp [results, Tryd.results19, go_sem]) rfl ⟨by rw [← hsay0.out]; rfl, hbE.out⟩
theorem doc_true (s mark : ByteArray) (k0 : Nat) (hk0 : k0 ≤ s.size) (hs : s.size ≤ 4096) (hch : chk s (k0 : Int) = 0) (w : World) :
    Calls Tryd.prog 19 #[.string s, .int .i64 (k0 : Int), .string mark, .bool true] w fun e w' => e = .returned (docO (docF (s.size + 1) (bl s) k0 (bl mark) true [])) ∧ Below w.heap.size w w' := by
  obtain ⟨R, hR⟩ : ∃ R, docF (s.size + 1) (bl s) k0 (bl mark) true [] = R := ⟨_, rfl⟩
  rw [hR]
  have hc := check_any s (k0 : Int) w
  rw [hch] at hc
  replace hc := Lib.hid hc
  replace hR := Lib.hid hR
  obtain ⟨z, hz⟩ : ∃ z, w.heap.size = z := ⟨_, rfl⟩
  have hbN : Below z w (w.alloc (.cells #[.pointer none, .slice none 0 0] 59)) := by rw [← hz]; exact (Below.refl _ w).alloc (Nat.le_refl _) _
  have bN : IsB z z [] (w.alloc (.cells #[.pointer none, .slice none 0 0] 59)) := by rw [← hz]; exact fresh_isB w
  replace bN := Lib.hid bN
  replace hbN := Lib.hid hbN
  clear hch
  go_enter Tryd.func19, Tryd.ntmps19
  go_wp2_with fail
  refine hc.out.mono ?_
  rintro e w' ⟨rfl, hwq⟩
  obtain rfl := hwq.symm
  clear hc hwq
  go_upto_region 5 with fail
  try rw [hz]
  generalize (w.alloc (.cells #[.pointer none, .slice none 0 0] 59)) = w1 at hbN bN ⊢
  replace hz := Lib.hid hz
  go_loopw [1] (fun i wr => ∃ (k n : Nat) (out : List UInt8), k ≤ s.size ∧ i = .int .i64 (k : Int) ∧ Hid (s.size - k < n) ∧ Hid (out.length ≤ k) ∧ Hid (docF n (bl s) k (bl mark) true out = R) ∧ Hid (IsB z z (Lib.byteCells out) wr) ∧ Hid (Below z w wr)) (fun i _ => s.size - (intOf i).toNat)
  case atStart => exact ⟨k0, s.size + 1, [], hk0, rfl, Lib.hid (by omega), Lib.hid (Nat.zero_le _), hR, bN, hbN⟩
  case round =>
    obtain ⟨k, n, out, hk, rfl, hn, hol, hsay, hB, hbel⟩ := hrel
    clear hR bN hbN
    have hsay0 := hsay.out
    clear hsay
    obtain ⟨n, rfl⟩ : ∃ m, n = m + 1 := ⟨n - 1, by have := hn.out; omega⟩
    unfold docF at hsay0
    rw [bl_len] at hsay0
    have hzs : z ≤ wr.heap.size := by have := (isB_lt hB.out).2; omega
    replace hzs := Lib.hid hzs
    by_cases hlt : k < s.size
    · have hi1 : (k : Int) < (s.size : Int) := by omega
      rw [if_neg (by omega)] at hsay0
      have hl := lineStop_any s k hk (by omega) wr
      have hll := lineN_le ((bl s).drop k)
      have hLP := lineP_le ((bl s).drop k) true
      rw [List.length_drop, bl_len] at hll hLP
      have hcut : ∀ j, j = min (k + lineN ((bl s).drop k) + 1) s.size → (s.extract k j).data.toList = ((bl s).drop k).take (lineN ((bl s).drop k) + 1) := fun j hj => by
        rw [bl_extract, List.drop_take]
        by_cases hq : j = k + lineN ((bl s).drop k) + 1
        · rw [hq]; congr 1; omega
        · rw [List.take_of_length_le (by rw [List.length_drop, bl_len]; omega), List.take_of_length_le (by rw [List.length_drop, bl_len]; omega)]
      have hlp : lineP ((bl s).drop k) true = Lib.trimLeftB (((bl s).drop k).take (lineN ((bl s).drop k) + 1)) 9 := rfl
      generalize lineP ((bl s).drop k) true = L at hsay0 hLP hlp
      obtain ⟨q, hq⟩ : ∃ q, k + lineN ((bl s).drop k) = q := ⟨_, rfl⟩
      obtain ⟨j, hj⟩ : ∃ j, min (q + 1) s.size = j := ⟨_, rfl⟩
      have hcut := hcut j (by omega)
      rw [← hcut] at hlp
      rw [hq, hj] at hsay0
      rw [hq] at hl
      have hjm : min ((q : Int) + 1) (s.size : Int) = (j : Int) := by omega
      have hkj : (k : Int) ≤ (j : Int) := by omega
      have hjs : (j : Int) ≤ (s.size : Int) := by omega
      have hqi : (q : Int) ≤ 4096 := by omega
      have hLj : L.length ≤ j - k := by omega
      have hjk : k < j ∧ j ≤ s.size := by omega
      clear hll hLP hq hj
      have ht := Tryd.strings_TrimLeft_one (s.extract k j) 9 (by decide) wr
      rw [← hlp] at ht
      replace ht := Lib.hid ht
      have hts := Tryd.strings_TrimSuffix ⟨L.toArray⟩ ⟨#[10]⟩ wr (by rw [mk_size]; omega)
      simp only at hts
      have hLs : Lib.trimSuffix L [10] = (⟨(Lib.trimSuffix L [10]).toArray⟩ : ByteArray).data.toList := rfl
      generalize hyy : (⟨(Lib.trimSuffix L [10]).toArray⟩ : ByteArray) = y at hts hLs
      rw [hLs] at hsay0
      have hgs := bString z z out wr hB.out hzs.out
      have hws := bWriteString z z (Lib.byteCells out) ⟨L.toArray⟩ wr hB.out (by rw [byteCells_len, mk_size]; have := hol.out; omega) hzs.out
      have hsc : Lib.strCells ⟨L.toArray⟩ = Lib.byteCells L := by rw [strCells_tl]
      rw [hsc, ← byteCells_app] at hws
      have hLy : (⟨L.toArray⟩ : ByteArray) = s.extract k j → True := fun _ => trivial
      generalize (⟨L.toArray⟩ : ByteArray) = LB at *
      replace hts := Lib.hid hts
      replace hgs := Lib.hid hgs
      replace hws := Lib.hid hws
      replace hl := Lib.hid hl
      replace hjm := Lib.hid hjm
      replace hLj := Lib.hid hLj
      clear hlp hcut hLs hyy hsc hLy
      by_cases hm : bl y = bl mark
      · have hym : y = mark := ByteArray.ext (Array.toList_inj.1 hm)
        rw [if_pos hm] at hsay0
        replace hsay0 := Lib.hid hsay0
        subst hym
        clear hws hm
        go_wp2_with fail
        refine hl.out.mono ?_
        rintro e w' ⟨rfl, hwq⟩
        obtain rfl := hwq.symm
        clear hl hwq
        go_upto_region 7 with fail
        try rw [hjm.out]
        go_wp2_with fail
        refine ht.out.mono ?_
        rintro e w' ⟨rfl, hwq⟩
        obtain rfl := hwq.symm
        clear ht hwq
        go_wp2_with fail
        refine hts.out.mono ?_
        rintro e w' ⟨rfl, hwq⟩
        obtain rfl := hwq.symm
        clear hts hwq
        go_wp2_with fail
        refine hgs.out.mono ?_
        rintro e w2 ⟨rfl, hb2⟩
        have hbE : Hid (Below w.heap.size w w2) := Lib.hid (by rw [hz.out]; exact hbel.out.trans hb2)
        clear hgs hb2
        go_wp2
        exact bodyPost_ret (v := .tuple #[.string ⟨out.toArray⟩, .int .i64 (j : Int), .int .i64 0]) (by simp [results, Tryd.results19, go_sem]) rfl ⟨by rw [← hsay0.out]; rfl, hbE.out⟩
      · have hne : (y.toList == mark.toList) = false := by
          rw [ByteArray.toList_eq, ByteArray.toList_eq]
          exact beq_eq_false_iff_ne.2 hm
        rw [if_neg hm] at hsay0
        replace hsay0 := Lib.hid hsay0
        clear hgs hm
        go_wp2_with fail
        refine hl.out.mono ?_
        rintro e w' ⟨rfl, hwq⟩
        obtain rfl := hwq.symm
        clear hl hwq
        go_upto_region 7 with fail
        try rw [hjm.out]
        go_wp2_with fail
        refine ht.out.mono ?_
        rintro e w' ⟨rfl, hwq⟩
        obtain rfl := hwq.symm
        clear ht hwq
        go_wp2_with fail
        refine hts.out.mono ?_
        rintro e w' ⟨rfl, hwq⟩
        obtain rfl := hwq.symm
        clear hts hwq
        go_wp2_with fail
        refine hws.out.mono ?_
        rintro e w2 ⟨rfl, hat, hb2, _⟩
        have hB2 : Hid (IsB z z (Lib.byteCells (out ++ L)) w2) := Lib.hid (.inr hat)
        have hbE : Hid (Below z w w2) := Lib.hid (hbel.out.trans hb2)
        clear hws hb2 hat
        go_wp2
        go_roundw
        case rel => exact ⟨j, n, out ++ L, hjk.2, rfl, Lib.hid (by have := hn.out; omega), Lib.hid (by rw [List.length_append]; have := hol.out; have := hLj.out; omega), hsay0, hB2, hbE⟩
        case measure => simp [intOf]; omega
    · have hi1 : ¬ (k : Int) < (s.size : Int) := by omega
      rw [if_pos (by omega)] at hsay0
      have hbE : Hid (Below w.heap.size w wr) := Lib.hid (by rw [hz.out]; exact hbel.out)
      replace hsay0 := Lib.hid hsay0
      go_wp2
      exact bodyPost_ret (v := .tuple #[.string ⟨#[]⟩, .int .i64 0, .int .i64 30]) (by simp [results, Tryd.results19, go_sem]) rfl ⟨by rw [← hsay0.out]; rfl, hbE.out⟩
theorem Doc_any (s mark : ByteArray) (at_ : Int) (tabs : Bool) (w : World) :
    Calls Tryd.prog 19 #[.string s, .int .i64 at_, .string mark, .bool tabs] w fun e w' => e = .returned (.tuple #[.string ⟨(docV s at_ mark tabs).1.toArray⟩, .int .i64 (docV s at_ mark tabs).2.1, .int .i64 (docV s at_ mark tabs).2.2]) ∧ Below w.heap.size w w' := by
  by_cases hc : chk s at_ = 0
  · obtain ⟨hs, k, rfl, hk⟩ := chk_0 hc
    have e1 : docV s (k : Int) mark tabs = match docF (s.size + 1) (bl s) k (bl mark) tabs [] with | none => ([], 0, 30) | some (t, n) => (t, (n : Int), 0) := by unfold docV; rw [if_neg (fun h => h hc)]; rfl
    rw [e1]
    cases tabs with
    | false =>
      have h := doc_false s mark k hk hs hc w
      cases hd : docF (s.size + 1) (bl s) k (bl mark) false [] with
      | none => rw [hd] at h; exact h
      | some p => rw [hd] at h; exact h
    | true =>
      have h := doc_true s mark k hk hs hc w
      cases hd : docF (s.size + 1) (bl s) k (bl mark) true [] with
      | none => rw [hd] at h; exact h
      | some p => rw [hd] at h; exact h
  · have e1 : docV s at_ mark tabs = ([], 0, chk s at_) := by unfold docV; rw [if_pos hc]
    rw [e1]
    have hh := check_any s at_ w
    generalize chk s at_ = c at hc hh ⊢
    replace hh := Lib.hid hh
    go_enter Tryd.func19, Tryd.ntmps19
    go_wp2_with fail
    refine hh.out.mono ?_
    rintro e w' ⟨rfl, hwq⟩
    obtain rfl := hwq.symm
    go_wp2
    exact bodyPost_ret (v := .tuple #[.string ⟨#[]⟩, .int .i64 0, .int .i64 c]) (by simp [results, Tryd.results19, go_sem]) rfl ⟨rfl, Below.refl _ _⟩
end
end Go.Proofs.YtjeleebgifajkaaDoor
