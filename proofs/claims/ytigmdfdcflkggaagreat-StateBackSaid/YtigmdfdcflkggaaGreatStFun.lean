/-
  The small functions of a state: what a name is, what is too great, whether there is a state. Conditions: none.
-/
import Derived.Shelf.Small.Strs
import Derived.Lib.IndexBytes
import Derived.BigQuiet
import Derived.Test.YtigmdfdcflkggaaGreatStSets
namespace Go.Proofs.YtigmdfdcflkggaaGreat
open Go Go.Shelf Go.RowKit Go.ChangeMaps

def shRen : Ren := ⟨fun | 137 => 94 | 217 => 125 | 266 => 138 | n => n, fun | 3 => 3 | 5 => 5 | 9 => 9 | n => n, fun n => n⟩
theorem sh137 : Lays.n137 Tryz.prog shRen := {
  mixed := by kernel_rfl
  f137 := Tryz.func94.trans (congrArg some (by kernel_rfl))
  f217 := Tryz.func125.trans (congrArg some (by kernel_rfl))
  f266 := Tryz.func138.trans (congrArg some (by kernel_rfl))
  t3 := Tryz.underlying3
  a3 := Tryz.isAgg3
  z3 := Tryz.sizeOf3
  v3 := Tryz.zeroValue3
  t5 := Tryz.underlying5
  a5 := Tryz.isAgg5
  z5 := Tryz.sizeOf5
  v5 := Tryz.zeroValue5
  t9 := Tryz.underlying9
  a9 := Tryz.isAgg9
  z9 := Tryz.sizeOf9
  v9 := Tryz.zeroValue9 }
theorem indexByte (s : ByteArray) (c : Int) (w : World) :
    Calls Tryz.prog 94 #[.string s, .int .u8 c] w fun e w' => e = .returned (.int .i64 (Lib.indexByte s.data.toList c.toNat.toUInt8)) ∧ w' = w :=
  Any.strings_IndexByte sh137 s c w

/-- A byte that is a letter, a digit or one of those others. -/
def allow (others : ByteArray) (b : UInt8) : Bool := (97 ≤ b.toNat && b.toNat ≤ 122) || (65 ≤ b.toNat && b.toNat ≤ 90) || (48 ≤ b.toNat && b.toNat ≤ 57) || decide (0 ≤ Lib.indexByte others.data.toList b)
def allB (s others : ByteArray) : Bool := s.data.toList.all (allow others)
def nameB (s : ByteArray) : Bool := if h : 0 < s.size then !(decide (48 ≤ s[0].toNat) && decide (s[0].toNat ≤ 57)) && allB s ⟨#[95]⟩ else false
theorem allB_iff (s others : ByteArray) : allB s others = true ↔ ∀ j (h : j < s.size), allow others s[j] = true := by
  unfold allB
  rw [List.all_eq_true]
  constructor
  · intro h j hj
    exact h _ (List.mem_of_getElem? (i := j) (by rw [List.getElem?_eq_getElem (by simpa using hj)]; rfl))
  · intro h x hx
    obtain ⟨j, hj, e⟩ := List.getElem_of_mem hx
    have := h j (by simpa using hj)
    rw [← e]; exact this
theorem allB_no {s others : ByteArray} {j : Nat} (h : j < s.size) (e : allow others s[j] = false) : allB s others = false := by
  cases hb : allB s others
  · rfl
  · have := (allB_iff s others).1 hb j h
    rw [e] at this; cases this
section
variable {w : World}
set_option maxRecDepth 100000 in
set_option maxHeartbeats 4000000 in
theorem allOf_any (s others : ByteArray) (hs : s.size ≤ 1000000) (w : World) :
    Calls Tryz.prog 86 #[.string s, .string others] w fun e w' => e = .returned (.bool (allB s others)) ∧ w' = w := by
  have hix := fun c => indexByte others c w
  obtain ⟨R, hR⟩ : ∃ R, allB s others = R := ⟨_, rfl⟩
  rw [hR]
  replace hR := Lib.hid hR
  replace hix := Lib.hid hix
  go_enter Tryz.func86, Tryz.ntmps86
  go_wp2
  go_loopw [10] (fun i wr => ∃ k : Nat, k ≤ s.size ∧ i = .int .i64 (k : Int) ∧ Hid (∀ j (h : j < s.size), j < k → allow others s[j] = true) ∧ Hid (wr = w)) (fun i _ => s.size - (intOf i).toNat)
  case atStart => exact ⟨0, Nat.zero_le _, rfl, Lib.hid (fun _ _ h => absurd h (Nat.not_lt_zero _)), Lib.hid rfl⟩
  case round =>
    obtain ⟨k, hk, rfl, hall, hw⟩ := hrel
    obtain rfl := hw.out
    clear hw
    by_cases hlt : k < s.size
    · have hi1 : (k : Int) < (s.size : Int) := by omega
      have hn : s[k].toNat < 256 := s[k].toNat_lt
      have hxx := hix.out (s[k].toNat : Int)
      have hbk : ((s[k].toNat : Int)).toNat.toUInt8 = s[k] := by simp
      rw [hbk] at hxx
      have hallow : allow others s[k] = ((97 ≤ s[k].toNat && s[k].toNat ≤ 122) || (65 ≤ s[k].toNat && s[k].toNat ≤ 90) || (48 ≤ s[k].toNat && s[k].toNat ≤ 57) || decide (0 ≤ Lib.indexByte others.data.toList s[k])) := rfl
      have hyes : allow others s[k] = true → Hid (∀ j (h : j < s.size), j < k + 1 → allow others s[j] = true) := fun e => Lib.hid (fun j h hj => by
        by_cases q : j = k
        · subst q; exact e
        · exact hall.out j h (by omega))
      have hno : allow others s[k] = false → Hid (R = false) := fun e => Lib.hid (by rw [← hR.out]; exact allB_no hlt e)
      generalize Lib.indexByte others.data.toList s[k] = ix at hxx hallow
      replace hyes := Lib.hid hyes
      replace hno := Lib.hid hno
      replace hxx := Lib.hid hxx
      replace hallow := Lib.hid hallow
      rcases (by omega : (0 ≤ s[k].toNat ∧ s[k].toNat ≤ 47) ∨ (48 ≤ s[k].toNat ∧ s[k].toNat ≤ 57) ∨ (58 ≤ s[k].toNat ∧ s[k].toNat ≤ 64) ∨ (65 ≤ s[k].toNat ∧ s[k].toNat ≤ 90) ∨ (91 ≤ s[k].toNat ∧ s[k].toNat ≤ 96) ∨ (97 ≤ s[k].toNat ∧ s[k].toNat ≤ 122) ∨ (123 ≤ s[k].toNat ∧ s[k].toNat ≤ 255)) with ⟨r1, r2⟩ | ⟨r1, r2⟩ | ⟨r1, r2⟩ | ⟨r1, r2⟩ | ⟨r1, r2⟩ | ⟨r1, r2⟩ | ⟨r1, r2⟩
      · skip
        have a1 : ¬ ((97 : Int) ≤ (s[k].toNat : Int)) := by omega
        have a2 : ((s[k].toNat : Int) ≤ 122) := by omega
        have a3 : ¬ ((65 : Int) ≤ (s[k].toNat : Int)) := by omega
        have a4 : ((s[k].toNat : Int) ≤ 90) := by omega
        have a5 : ((s[k].toNat : Int) < 48) := by omega
        have a6 : ¬ ((57 : Int) < (s[k].toNat : Int)) := by omega
        have ha : allow others s[k] = decide (0 ≤ ix) := by
          rw [hallow.out]
          have b1 : (decide (97 ≤ s[k].toNat) && decide (s[k].toNat ≤ 122)) = false := by simp; omega
          have b2 : (decide (65 ≤ s[k].toNat) && decide (s[k].toNat ≤ 90)) = false := by simp; omega
          have b3 : (decide (48 ≤ s[k].toNat) && decide (s[k].toNat ≤ 57)) = false := by simp; omega
          rw [b1, b2, b3]
          simp
        by_cases hneg : ix < 0
        · have hf := hno.out (by rw [ha]; simp; omega)
          clear hyes hno hallow ha hall r1 r2
          go_wp2_with fail
          refine hxx.out.mono ?_
          rintro e w' ⟨rfl, hw⟩
          obtain rfl := hw.symm
          go_wp2
          go_ret
          exact ⟨by rw [hf.out]; rfl, rfl⟩
        · have hy2 := hyes.out (by rw [ha]; simp; omega)
          clear hyes hno hallow ha hall r1 r2
          go_wp2_with fail
          refine hxx.out.mono ?_
          rintro e w' ⟨rfl, hw⟩
          obtain rfl := hw.symm
          go_wp2
          go_roundw
          case rel => exact ⟨k + 1, by omega, by go_num, hy2, Lib.hid (by trivial)⟩
          case measure => simp [intOf]; omega
      · skip
        have a1 : ¬ ((97 : Int) ≤ (s[k].toNat : Int)) := by omega
        have a2 : ((s[k].toNat : Int) ≤ 122) := by omega
        have a3 : ¬ ((65 : Int) ≤ (s[k].toNat : Int)) := by omega
        have a4 : ((s[k].toNat : Int) ≤ 90) := by omega
        have a5 : ¬ ((s[k].toNat : Int) < 48) := by omega
        have a6 : ¬ ((57 : Int) < (s[k].toNat : Int)) := by omega
        have ha : allow others s[k] = true := by rw [hallow.out]; simp [r1, r2]
        have hy2 := hyes.out ha
        clear hyes hno hxx hallow ha hall r1 r2
        go_wp2
        go_roundw
        case rel => exact ⟨k + 1, by omega, by go_num, hy2, Lib.hid (by trivial)⟩
        case measure => simp [intOf]; omega
      · skip
        have a1 : ¬ ((97 : Int) ≤ (s[k].toNat : Int)) := by omega
        have a2 : ((s[k].toNat : Int) ≤ 122) := by omega
        have a3 : ¬ ((65 : Int) ≤ (s[k].toNat : Int)) := by omega
        have a4 : ((s[k].toNat : Int) ≤ 90) := by omega
        have a5 : ¬ ((s[k].toNat : Int) < 48) := by omega
        have a6 : ((57 : Int) < (s[k].toNat : Int)) := by omega
        have ha : allow others s[k] = decide (0 ≤ ix) := by
          rw [hallow.out]
          have b1 : (decide (97 ≤ s[k].toNat) && decide (s[k].toNat ≤ 122)) = false := by simp; omega
          have b2 : (decide (65 ≤ s[k].toNat) && decide (s[k].toNat ≤ 90)) = false := by simp; omega
          have b3 : (decide (48 ≤ s[k].toNat) && decide (s[k].toNat ≤ 57)) = false := by simp; omega
          rw [b1, b2, b3]
          simp
        by_cases hneg : ix < 0
        · have hf := hno.out (by rw [ha]; simp; omega)
          clear hyes hno hallow ha hall r1 r2
          go_wp2_with fail
          refine hxx.out.mono ?_
          rintro e w' ⟨rfl, hw⟩
          obtain rfl := hw.symm
          go_wp2
          go_ret
          exact ⟨by rw [hf.out]; rfl, rfl⟩
        · have hy2 := hyes.out (by rw [ha]; simp; omega)
          clear hyes hno hallow ha hall r1 r2
          go_wp2_with fail
          refine hxx.out.mono ?_
          rintro e w' ⟨rfl, hw⟩
          obtain rfl := hw.symm
          go_wp2
          go_roundw
          case rel => exact ⟨k + 1, by omega, by go_num, hy2, Lib.hid (by trivial)⟩
          case measure => simp [intOf]; omega
      · skip
        have a1 : ¬ ((97 : Int) ≤ (s[k].toNat : Int)) := by omega
        have a2 : ((s[k].toNat : Int) ≤ 122) := by omega
        have a3 : ((65 : Int) ≤ (s[k].toNat : Int)) := by omega
        have a4 : ((s[k].toNat : Int) ≤ 90) := by omega
        have a5 : ¬ ((s[k].toNat : Int) < 48) := by omega
        have a6 : ((57 : Int) < (s[k].toNat : Int)) := by omega
        have ha : allow others s[k] = true := by rw [hallow.out]; simp [r1, r2]
        have hy2 := hyes.out ha
        clear hyes hno hxx hallow ha hall r1 r2
        go_wp2
        go_roundw
        case rel => exact ⟨k + 1, by omega, by go_num, hy2, Lib.hid (by trivial)⟩
        case measure => simp [intOf]; omega
      · skip
        have a1 : ¬ ((97 : Int) ≤ (s[k].toNat : Int)) := by omega
        have a2 : ((s[k].toNat : Int) ≤ 122) := by omega
        have a3 : ((65 : Int) ≤ (s[k].toNat : Int)) := by omega
        have a4 : ¬ ((s[k].toNat : Int) ≤ 90) := by omega
        have a5 : ¬ ((s[k].toNat : Int) < 48) := by omega
        have a6 : ((57 : Int) < (s[k].toNat : Int)) := by omega
        have ha : allow others s[k] = decide (0 ≤ ix) := by
          rw [hallow.out]
          have b1 : (decide (97 ≤ s[k].toNat) && decide (s[k].toNat ≤ 122)) = false := by simp; omega
          have b2 : (decide (65 ≤ s[k].toNat) && decide (s[k].toNat ≤ 90)) = false := by simp; omega
          have b3 : (decide (48 ≤ s[k].toNat) && decide (s[k].toNat ≤ 57)) = false := by simp; omega
          rw [b1, b2, b3]
          simp
        by_cases hneg : ix < 0
        · have hf := hno.out (by rw [ha]; simp; omega)
          clear hyes hno hallow ha hall r1 r2
          go_wp2_with fail
          refine hxx.out.mono ?_
          rintro e w' ⟨rfl, hw⟩
          obtain rfl := hw.symm
          go_wp2
          go_ret
          exact ⟨by rw [hf.out]; rfl, rfl⟩
        · have hy2 := hyes.out (by rw [ha]; simp; omega)
          clear hyes hno hallow ha hall r1 r2
          go_wp2_with fail
          refine hxx.out.mono ?_
          rintro e w' ⟨rfl, hw⟩
          obtain rfl := hw.symm
          go_wp2
          go_roundw
          case rel => exact ⟨k + 1, by omega, by go_num, hy2, Lib.hid (by trivial)⟩
          case measure => simp [intOf]; omega
      · skip
        have a1 : ((97 : Int) ≤ (s[k].toNat : Int)) := by omega
        have a2 : ((s[k].toNat : Int) ≤ 122) := by omega
        have a3 : ((65 : Int) ≤ (s[k].toNat : Int)) := by omega
        have a4 : ¬ ((s[k].toNat : Int) ≤ 90) := by omega
        have a5 : ¬ ((s[k].toNat : Int) < 48) := by omega
        have a6 : ((57 : Int) < (s[k].toNat : Int)) := by omega
        have ha : allow others s[k] = true := by rw [hallow.out]; simp [r1, r2]
        have hy2 := hyes.out ha
        clear hyes hno hxx hallow ha hall r1 r2
        go_wp2
        go_roundw
        case rel => exact ⟨k + 1, by omega, by go_num, hy2, Lib.hid (by trivial)⟩
        case measure => simp [intOf]; omega
      · skip
        have a1 : ((97 : Int) ≤ (s[k].toNat : Int)) := by omega
        have a2 : ¬ ((s[k].toNat : Int) ≤ 122) := by omega
        have a3 : ((65 : Int) ≤ (s[k].toNat : Int)) := by omega
        have a4 : ¬ ((s[k].toNat : Int) ≤ 90) := by omega
        have a5 : ¬ ((s[k].toNat : Int) < 48) := by omega
        have a6 : ((57 : Int) < (s[k].toNat : Int)) := by omega
        have ha : allow others s[k] = decide (0 ≤ ix) := by
          rw [hallow.out]
          have b1 : (decide (97 ≤ s[k].toNat) && decide (s[k].toNat ≤ 122)) = false := by simp; omega
          have b2 : (decide (65 ≤ s[k].toNat) && decide (s[k].toNat ≤ 90)) = false := by simp; omega
          have b3 : (decide (48 ≤ s[k].toNat) && decide (s[k].toNat ≤ 57)) = false := by simp; omega
          rw [b1, b2, b3]
          simp
        by_cases hneg : ix < 0
        · have hf := hno.out (by rw [ha]; simp; omega)
          clear hyes hno hallow ha hall r1 r2
          go_wp2_with fail
          refine hxx.out.mono ?_
          rintro e w' ⟨rfl, hw⟩
          obtain rfl := hw.symm
          go_wp2
          go_ret
          exact ⟨by rw [hf.out]; rfl, rfl⟩
        · have hy2 := hyes.out (by rw [ha]; simp; omega)
          clear hyes hno hallow ha hall r1 r2
          go_wp2_with fail
          refine hxx.out.mono ?_
          rintro e w' ⟨rfl, hw⟩
          obtain rfl := hw.symm
          go_wp2
          go_roundw
          case rel => exact ⟨k + 1, by omega, by go_num, hy2, Lib.hid (by trivial)⟩
          case measure => simp [intOf]; omega
    · obtain rfl : k = s.size := by omega
      have hi1 : ¬ (s.size : Int) < (s.size : Int) := by omega
      have hfin : Hid (R = true) := Lib.hid (by rw [← hR.out]; exact (allB_iff s others).2 (fun j h => hall.out j h h))
      clear hall
      go_wp2
      go_ret
      exact ⟨by rw [hfin.out]; rfl, rfl⟩
theorem noBytes {s : ByteArray} (h : ¬ 0 < s.size) : s = ⟨#[]⟩ := by
  have h1 : s.data = #[] := Array.eq_empty_of_size_eq_zero (by have : s.data.size = s.size := rfl; omega)
  cases s; simp_all
theorem bytesIs {s : ByteArray} (h : 0 < s.size) : s.toList.isEmpty = false := by
  rw [ByteArray.toList_eq]
  cases hd : s.data.toList with
  | nil => exfalso; have : s.data.toList.length = s.size := by simp
           rw [hd] at this; simp at this; omega
  | cons => rfl
set_option maxRecDepth 100000 in
theorem Name_any (s : ByteArray) (hs : s.size ≤ 1000000) (w : World) :
    Calls Tryz.prog 25 #[.string s] w fun e w' => e = .returned (.bool (nameB s)) ∧ w' = w := by
  by_cases h0 : 0 < s.size
  · have hie := bytesIs h0
    have hall := allOf_any s ⟨#[95]⟩ hs w
    have hR : nameB s = (!(decide (48 ≤ s[0].toNat) && decide (s[0].toNat ≤ 57)) && allB s ⟨#[95]⟩) := by unfold nameB; rw [dif_pos h0]
    rw [hR]
    clear hR
    generalize allB s ⟨#[95]⟩ = R at hall ⊢
    have hn : s[0].toNat < 256 := s[0].toNat_lt
    rcases (by omega : s[0].toNat < 48 ∨ (48 ≤ s[0].toNat ∧ s[0].toNat ≤ 57) ∨ 57 < s[0].toNat) with r | ⟨r1, r2⟩ | r
    · have a5 : (s[0].toNat : Int) < 48 := by omega
      have hE : (!(decide (48 ≤ s[0].toNat) && decide (s[0].toNat ≤ 57)) && R) = R := by simp; omega
      rw [hE]
      clear hE r hn
      go_enter Tryz.func25, Tryz.ntmps25
      go_wp2_with fail
      refine hall.mono ?_
      rintro e w' ⟨rfl, hw⟩
      obtain rfl := hw.symm
      go_wp2
      go_ret
      exact ⟨rfl, rfl⟩
    · have a5 : ¬ (s[0].toNat : Int) < 48 := by omega
      have a6 : ¬ (57 : Int) < (s[0].toNat : Int) := by omega
      have hE : (!(decide (48 ≤ s[0].toNat) && decide (s[0].toNat ≤ 57)) && R) = false := by simp [r1, r2]
      rw [hE]
      clear hE r1 r2 hn hall
      go_enter Tryz.func25, Tryz.ntmps25
      go_wp2
      go_ret
      exact ⟨rfl, rfl⟩
    · have a5 : ¬ (s[0].toNat : Int) < 48 := by omega
      have a6 : (57 : Int) < (s[0].toNat : Int) := by omega
      have hE : (!(decide (48 ≤ s[0].toNat) && decide (s[0].toNat ≤ 57)) && R) = R := by simp; omega
      rw [hE]
      clear hE r hn
      go_enter Tryz.func25, Tryz.ntmps25
      go_wp2_with fail
      refine hall.mono ?_
      rintro e w' ⟨rfl, hw⟩
      obtain rfl := hw.symm
      go_wp2
      go_ret
      exact ⟨rfl, rfl⟩
  · obtain rfl := noBytes h0
    have hR : nameB ⟨#[]⟩ = false := by unfold nameB; rw [dif_neg h0]
    rw [hR]
    clear hR h0
    go_enter Tryz.func25, Tryz.ntmps25
    go_wp2
    go_ret
    exact ⟨rfl, rfl⟩
/-- A state in memory, by what there is of its log, and its status. -/
def stC (a : Ad) (n : Int) : List Value := [ptrV a.v, ptrV a.f, ptrV a.a, ptrV a.t, ptrV a.o, ptrV a.g, .int .i64 n]
set_option maxRecDepth 100000 in
theorem sisNil_no {sb : Nat} {a : Ad} {n : Int} (h : Blk w sb (stC a n) 110) :
    Calls Tryz.prog 78 #[ptrV sb] w fun e w' => e = .returned (.bool false) ∧ w' = w := by
  have c0 : w.cell? ⟨sb, 0, none⟩ = some (.pointer (some ⟨a.v, 0, none⟩)) := h.cell (i := 0) rfl
  have hlt := h.lt
  unfold ptrV
  clear h
  go_enter Tryz.func78, Tryz.ntmps78
  go_wp2
  go_ret
  exact ⟨rfl, rfl⟩
set_option maxRecDepth 100000 in
theorem sisNil_yes (w : World) :
    Calls Tryz.prog 78 #[.pointer none] w fun e w' => e = .returned (.bool true) ∧ w' = w := by
  go_enter Tryz.func78, Tryz.ntmps78
  go_wp2
  go_ret
  exact ⟨rfl, rfl⟩
def checkE (s : ByteArray) : Int := if nameB s = true then 0 else 16
set_option maxRecDepth 100000 in
theorem checkName_any {sb : Nat} {a : Ad} {n : Int} (h : Blk w sb (stC a n) 110) (s : ByteArray) (hs : s.size ≤ 1000000) :
    Calls Tryz.prog 83 #[ptrV sb, .string s] w fun e w' => e = .returned (.int .i64 (checkE s)) ∧ w' = w := by
  have hi := sisNil_no h
  have hn := Name_any s hs w
  unfold ptrV at hi ⊢
  unfold checkE
  clear h
  cases hb : nameB s
  all_goals
    rw [hb] at hn
    go_enter Tryz.func83, Tryz.ntmps83
    go_wp2_with fail
    refine hi.mono ?_
    rintro e w' ⟨rfl, hw⟩
    obtain rfl := hw.symm
    go_wp2_with fail
    refine hn.mono ?_
    rintro e w' ⟨rfl, hw⟩
    obtain rfl := hw.symm
    go_wp2
    go_ret
    exact ⟨rfl, rfl⟩
set_option maxRecDepth 100000 in
theorem checkName_nil (s : ByteArray) (w : World) :
    Calls Tryz.prog 83 #[.pointer none, .string s] w fun e w' => e = .returned (.int .i64 2) ∧ w' = w := by
  have hi := sisNil_yes w
  go_enter Tryz.func83, Tryz.ntmps83
  go_wp2_with fail
  refine hi.mono ?_
  rintro e w' ⟨rfl, hw⟩
  obtain rfl := hw.symm
  go_wp2
  go_ret
  exact ⟨rfl, rfl⟩
set_option maxRecDepth 100000 in
theorem great1_any (s : ByteArray) (hs : s.size ≤ 1000000) (w : World) :
    Calls Tryz.prog 122 #[.string s] w fun e w' => e = .returned (.bool (decide (4096 < s.size))) ∧ w' = w := by
  have hd : decide ((4096 : Int) < (s.size : Int)) = decide (4096 < s.size) := by
    by_cases h : 4096 < s.size
    · rw [decide_eq_true h, decide_eq_true (by omega)]
    · rw [decide_eq_false h, decide_eq_false (by omega)]
  replace hd := Lib.hid hd
  go_enter Tryz.func122, Tryz.ntmps122
  go_wp2
  go_ret
  exact ⟨by rw [← hd.out]; rfl, rfl⟩
/-- Texts in a slice. -/
def Txs (w : World) (A : Option Addr) (n c : Nat) (l : List ByteArray) : Prop := l.length = n ∧ n ≤ c ∧ c ≤ maxLen ∧ (0 < n → ∃ b off : Nat, A = some ⟨b, off, none⟩ ∧ b < w.heap.size ∧ ∀ (j : Nat) x, l[j]? = some x → w.cell? ⟨b, off + j, none⟩ = some (.string x))
def greatL (l : List ByteArray) : Bool := l.any fun s => decide (4096 < s.size)
set_option maxRecDepth 100000 in
theorem IndexFunc_any {A : Option Addr} {n c : Nat} {l : List ByteArray} (h : Txs w A n c l) (hl : ∀ s ∈ l, s.size ≤ 1000000) (hn : n ≤ 1000000) :
    Calls Tryz.prog 136 #[.slice A n c, .func (.func 122) #[] #[]] w fun e w' => ∃ r : Int, e = .returned (.int .i64 r) ∧ (decide (0 ≤ r)) = greatL l ∧ w' = w := by
  obtain ⟨h1, h2, h3, h4⟩ := h
  obtain ⟨G, hG⟩ : ∃ G, greatL l = G := ⟨_, rfl⟩
  rw [hG]
  replace hG := Lib.hid hG
  replace h4 := Lib.hid h4
  replace h1 := Lib.hid h1
  unfold maxLen at h3
  go_enter Tryz.func136, Tryz.ntmps136
  go_wp2
  go_loopw [8] (fun i wr => ∃ k : Nat, k ≤ n ∧ i = .int .i64 (k : Int) ∧ Hid (∀ j (h : j < l.length), j < k → decide (4096 < l[j].size) = false) ∧ Hid (wr = w)) (fun i _ => n - (intOf i).toNat)
  case atStart => exact ⟨0, Nat.zero_le _, rfl, Lib.hid (fun _ _ h => absurd h (Nat.not_lt_zero _)), Lib.hid rfl⟩
  case round =>
    obtain ⟨k, hk, rfl, hall, hw⟩ := hrel
    obtain rfl := hw.out
    clear hw
    by_cases hlt : k < n
    · obtain ⟨b, off, rfl, hb, hc⟩ := h4.out (by omega)
      have hkl : k < l.length := by rw [h1.out]; exact hlt
      have ck := hc k _ (List.getElem?_eq_getElem hkl)
      have hg := great1_any l[k] (hl _ (List.getElem_mem hkl)) wr
      have hi0 : (0 : Int) ≤ (k : Int) := by omega
      have hi1 : (k : Int) < (n : Int) := by omega
      have hyes : decide (4096 < l[k].size) = true → Hid (G = true) := fun e => Lib.hid (by rw [← hG.out]; exact List.any_eq_true.2 ⟨l[k], List.getElem_mem hkl, e⟩)
      have hno : decide (4096 < l[k].size) = false → Hid (∀ j (h : j < l.length), j < k + 1 → decide (4096 < l[j].size) = false) := fun e => Lib.hid (fun j h hj => by
        by_cases q : j = k
        · subst q; exact e
        · exact hall.out j h (by omega))
      generalize l[k] = x at ck hg hyes hno
      generalize decide (4096 < x.size) = D at hg hyes hno
      cases D
      · have hy2 := hno rfl
        clear hyes hno hall hc
        go_wp2_with fail
        refine hg.mono ?_
        rintro e w' ⟨rfl, hw⟩
        obtain rfl := hw.symm
        go_wp2
        go_roundw
        case rel => exact ⟨k + 1, by omega, by go_num, hy2, Lib.hid (by trivial)⟩
        case measure => simp [intOf]; omega
      · have hy2 := hyes rfl
        clear hyes hno hall hc
        go_wp2_with fail
        refine hg.mono ?_
        rintro e w' ⟨rfl, hw⟩
        obtain rfl := hw.symm
        go_wp2
        go_ret
        exact ⟨(k : Int), rfl, by rw [hy2.out]; exact decide_eq_true (by omega), rfl⟩
    · obtain rfl : k = n := by omega
      have hi1 : ¬ (k : Int) < (k : Int) := by omega
      have hfin : Hid (G = false) := Lib.hid (by
        rw [← hG.out]
        refine List.any_eq_false.2 fun x hx => ?_
        obtain ⟨j, hj, e⟩ := List.getElem_of_mem hx
        rw [← e, hall.out j hj (by rw [← h1.out]; exact hj)]
        decide)
      clear hall
      go_wp2
      go_ret
      exact ⟨-1, rfl, by rw [hfin.out]; rfl, rfl⟩
set_option maxRecDepth 100000 in
theorem tooGreat_any {A : Option Addr} {n c : Nat} {l : List ByteArray} (h : Txs w A n c l) (hl : ∀ s ∈ l, s.size ≤ 1000000) (hn : n ≤ 1000000) :
    Calls Tryz.prog 84 #[.slice A n c] w fun e w' => e = .returned (.bool (greatL l)) ∧ w' = w := by
  have hi := IndexFunc_any h hl hn
  have hc : Calls Tryz.prog 121 #[.slice A n c, .func (.func 122) #[] #[]] w fun e w' => e = .returned (.bool (greatL l)) ∧ w' = w := by
    clear h
    go_enter Tryz.func121, Tryz.ntmps121
    go_wp2_with fail
    refine hi.mono ?_
    rintro e w' ⟨r, rfl, hr, hw⟩
    obtain rfl := hw.symm
    replace hr := Lib.hid hr
    go_wp2
    go_ret
    exact ⟨by rw [← hr.out]; rfl, rfl⟩
  clear h hi
  go_enter Tryz.func84, Tryz.ntmps84
  go_wp2_with fail
  refine hc.mono ?_
  rintro e w' ⟨rfl, hw⟩
  obtain rfl := hw.symm
  go_wp2
  go_ret
  exact ⟨rfl, rfl⟩
end
end Go.Proofs.YtigmdfdcflkggaaGreat
