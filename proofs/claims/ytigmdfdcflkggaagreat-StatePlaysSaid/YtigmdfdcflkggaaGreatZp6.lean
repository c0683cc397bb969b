/-
  The small functions of a state: what a name is, what is too great, whether there is a state. Conditions: none.
-/
import Derived.Shelf.Small.Strs
import Derived.Lib.IndexBytes
import Derived.BigQuiet
import Derived.Test.YtigmdfdcflkggaaGreatZp5
namespace Go.Proofs.YtigmdfdcflkggaaGreat
open Go Go.Shelf Go.RowKit Go.ChangeMaps

def shRen : Ren := ⟨fun | 137 => 94 | 217 => 125 | 266 => 138 | n => n, fun | 3 => 3 | 5 => 5 | 9 => 9 | n => n, fun n => n⟩
theorem sh137 : Lays.n137 Tryz.prog shRen := {
  mixed := by kernel_rfl
  f137 := Tryz.func94.trans (congrArg some (by kernel_rfl))
  f217 := Tryz.func125.trans (congrArg some (by kernel_rfl))
  f266 := Tryz.func138.trans (congrArg some (by kernel_rfl))
  t3 := Tryz.underlying3
  a3 := Tryz.isAgg3
  z3 := Tryz.sizeOf3
  v3 := Tryz.zeroValue3
  t5 := Tryz.underlying5
  a5 := Tryz.isAgg5
  z5 := Tryz.sizeOf5
  v5 := Tryz.zeroValue5
  t9 := Tryz.underlying9
  a9 := Tryz.isAgg9
  z9 := Tryz.sizeOf9
  v9 := Tryz.zeroValue9 }
theorem indexByte (s : ByteArray) (c : Int) (w : World) :
    Calls Tryz.prog 94 #[.string s, .int .u8 c] w fun e w' => e = .returned (.int .i64 (Lib.indexByte s.data.toList c.toNat.toUInt8)) ∧ w' = w :=
  Any.strings_IndexByte sh137 s c w

/-- A byte that is a letter, a digit or one of those others. -/
def allow (others : ByteArray) (b : UInt8) : Bool := (97 ≤ b.toNat && b.toNat ≤ 122) || (65 ≤ b.toNat && b.toNat ≤ 90) || (48 ≤ b.toNat && b.toNat ≤ 57) || decide (0 ≤ Lib.indexByte others.data.toList b)
def allB (s others : ByteArray) : Bool := s.data.toList.all (allow others)
def nameB (s : ByteArray) : Bool := if h : 0 < s.size then !(decide (48 ≤ s[0].toNat) && decide (s[0].toNat ≤ 57)) && allB s ⟨#[95]⟩ else false
theorem allB_iff (s others : ByteArray) : allB s others = true ↔ ∀ j (h : j < s.size), allow others s[j] = true := by
  unfold allB
  rw [List.all_eq_true]
  constructor
  · intro h j hj
    exact h _ (List.mem_of_getElem? (i := j) (by rw [List.getElem?_eq_getElem (by simpa using hj)]; rfl))
  · intro h x hx
    obtain ⟨j, hj, e⟩ := List.getElem_of_mem hx
    have := h j (by simpa using hj)
    rw [← e]; exact this
theorem allB_no {s others : ByteArray} {j : Nat} (h : j < s.size) (e : allow others s[j] = false) : allB s others = false := by
  cases hb : allB s others
  · rfl
  · have := (allB_iff s others).1 hb j h
    rw [e] at this; cases this
section
variable {w : World}
set_option maxRecDepth 100000 in
set_option maxHeartbeats 4000000 in
theorem allOf_any (s others : ByteArray) (hs : s.size ≤ 1000000) (w : World) :
    Calls Tryz.prog 86 #[.string s, .string others] w fun e w' => e = .returned (.bool (allB s others)) ∧ w' = w := by
  have hix := fun c => indexByte others c w
  obtain ⟨R, hR⟩ : ∃ R, allB s others = R := ⟨_, rfl⟩
  rw [hR]
  replace hR := Lib.hid hR
  replace hix := Lib.hid hix
  go_enter Tryz.func86, Tryz.ntmps86
  go_wp2
  go_loopw [10] (fun i wr => ∃ k : Nat, k ≤ s.size ∧ i = .int .i64 (k : Int) ∧ Hid (∀ j (h : j < s.size), j < k → allow others s[j] = true) ∧ Hid (wr = w)) (fun i _ => s.size - (intOf i).toNat)
  case atStart => exact ⟨0, Nat.zero_le _, rfl, Lib.hid (fun _ _ h => absurd h (Nat.not_lt_zero _)), Lib.hid rfl⟩
  case round =>
    obtain ⟨k, hk, rfl, hall, hw⟩ := hrel
    obtain rfl := hw.out
    clear hw
    by_cases hlt : k < s.size
    · have hi1 : (k : Int) < (s.size : Int) := by omega
      have hn : s[k].toNat < 256 := s[k].toNat_lt
      have hxx := hix.out (s[k].toNat : Int)
      have hbk : ((s[k].toNat : Int)).toNat.toUInt8 = s[k] := by simp
      rw [hbk] at hxx
      have hallow : allow others s[k] = ((97 ≤ s[k].toNat && s[k].toNat ≤ 122) || (65 ≤ s[k].toNat && s[k].toNat ≤ 90) || (48 ≤ s[k].toNat && s[k].toNat ≤ 57) || decide (0 ≤ Lib.indexByte others.data.toList s[k])) := rfl
      have hyes : allow others s[k] = true → Hid (∀ j (h : j < s.size), j < k + 1 → allow others s[j] = true) := fun e => Lib.hid (fun j h hj => by
        by_cases q : j = k
        · subst q; exact e
        · exact hall.out j h (by omega))
      have hno : allow others s[k] = false → Hid (R = false) := fun e => Lib.hid (by rw [← hR.out]; exact allB_no hlt e)
      generalize Lib.indexByte others.data.toList s[k] = ix at hxx hallow
      replace hyes := Lib.hid hyes
      replace hno := Lib.hid hno
      replace hxx := Lib.hid hxx
      replace hallow := Lib.hid hallow
      rcases (by omega : (0 ≤ s[k].toNat ∧ s[k].toNat ≤ 47) ∨ (48 ≤ s[k].toNat ∧ s[k].toNat ≤ 57) ∨ (58 ≤ s[k].toNat ∧ s[k].toNat ≤ 64) ∨ (65 ≤ s[k].toNat ∧ s[k].toNat ≤ 90) ∨ (91 ≤ s[k].toNat ∧ s[k].toNat ≤ 96) ∨ (97 ≤ s[k].toNat ∧ s[k].toNat ≤ 122) ∨ (123 ≤ s[k].toNat ∧ s[k].toNat ≤ 255)) with ⟨r1, r2⟩ | ⟨r1, r2⟩ | ⟨r1, r2⟩ | ⟨r1, r2⟩ | ⟨r1, r2⟩ | ⟨r1, r2⟩ | ⟨r1, r2⟩
      · skip
        have a1 : ¬ ((97 : Int) ≤ (s[k].toNat : Int)) := by omega
        have a2 : ((s[k].toNat : Int) ≤ 122) := by omega
        have a3 : ¬ ((65 : Int) ≤ (s[k].toNat : Int)) := by omega
        have a4 : ((s[k].toNat : Int) ≤ 90) := by omega
        have a5 : ((s[k].toNat : Int) < 48) := by omega
        have a6 : ¬ ((57 : Int) < (s[k].toNat : Int)) := by omega
        have ha : allow others s[k] = decide (0 ≤ ix) := by
          rw [hallow.out]
          have b1 : (decide (97 ≤ s[k].toNat) && decide (s[k].toNat ≤ 122)) = false := by simp; omega
          have b2 : (decide (65 ≤ s[k].toNat) && decide (s[k].toNat ≤ 90)) = false := by simp; omega
          have b3 : (decide (48 ≤ s[k].toNat) && decide (s[k].toNat ≤ 57)) = false := by simp; omega
          rw [b1, b2, b3]
          simp
        by_cases hneg : ix < 0
        · have hf := hno.out (by rw [ha]; simp; omega)
          clear hyes hno hallow ha hall r1 r2
          go_wp2_with fail
          refine hxx.out.mono ?_
          rintro e w' ⟨rfl, hw⟩
          obtain rfl := hw.symm
          go_wp2
          go_ret
          exact ⟨by rw [hf.out]; rfl, rfl⟩
        · have hy2 := hyes.out (by rw [ha]; simp; omega)
          clear hyes hno hallow ha hall r1 r2
          go_wp2_with fail
          refine hxx.out.mono ?_
          rintro e w' ⟨rfl, hw⟩
          obtain rfl := hw.symm
          go_wp2
          go_roundw
          case rel => exact ⟨k + 1, by omega, by go_num, hy2, Lib.hid (by trivial)⟩
          case measure => simp [intOf]; omega
      · skip
        have a1 : ¬ ((97 : Int) ≤ (s[k].toNat : Int)) := by omega
        have a2 : ((s[k].toNat : Int) ≤ 122) := by omega
        have a3 : ¬ ((65 : Int) ≤ (s[k].toNat : Int)) := by omega
        have a4 : ((s[k].toNat : Int) ≤ 90) := by omega
        have a5 : ¬ ((s[k].toNat : Int) < 48) := by omega
        have a6 : ¬ ((57 : Int) < (s[k].toNat : Int)) := by omega
        have ha : allow others s[k] = true := by rw [hallow.out]; simp [r1, r2]
        have hy2 := hyes.out ha
        clear hyes hno hxx hallow ha hall r1 r2
        go_wp2
        go_roundw
        case rel => exact ⟨k + 1, by omega, by go_num, hy2, Lib.hid (by trivial)⟩
        case measure => simp [intOf]; omega
      · skip
        have a1 : ¬ ((97 : Int) ≤ (s[k].toNat : Int)) := by omega
        have a2 : ((s[k].toNat : Int) ≤ 122) := by omega
        have a3 : ¬ ((65 : Int) ≤ (s[k].toNat : Int)) := by omega
        have a4 : ((s[k].toNat : Int) ≤ 90) := by omega
        have a5 : ¬ ((s[k].toNat : Int) < 48) := by omega
        have a6 : ((57 : Int) < (s[k].toNat : Int)) := by omega
        have ha : allow others s[k] = decide (0 ≤ ix) := by
          rw [hallow.out]
          have b1 : (decide (97 ≤ s[k].toNat) && decide (s[k].toNat ≤ 122)) = false := by simp; omega
          have b2 : (decide (65 ≤ s[k].toNat) && decide (s[k].toNat ≤ 90)) = false := by simp; omega
          have b3 : (decide (48 ≤ s[k].toNat) && decide (s[k].toNat ≤ 57)) = false := by simp; omega
          rw [b1, b2, b3]
          simp
        by_cases hneg : ix < 0
        · have hf := hno.out (by rw [ha]; simp; omega)
          clear hyes hno hallow ha hall r1 r2
          go_wp2_with fail
          refine hxx.out.mono ?_
          rintro e w' ⟨rfl, hw⟩
          obtain rfl := hw.symm
          go_wp2
          go_ret
          exact ⟨by rw [hf.out]; rfl, rfl⟩
        · have hy2 := hyes.out (by rw [ha]; simp; omega)
          clear hyes hno hallow ha hall r1 r2
          go_wp2_with fail
          refine hxx.out.mono ?_
          rintro e w' ⟨rfl, hw⟩
          obtain rfl := hw.symm
          go_wp2
          go_roundw
          case rel => exact ⟨k + 1, by omega, by go_num, hy2, Lib.hid (by trivial)⟩
          case measure => simp [intOf]; omega
      · skip
        have a1 : ¬ ((97 : Int) ≤ (s[k].toNat : Int)) := by omega
        have a2 : ((s[k].toNat : Int) ≤ 122) := by omega
        have a3 : ((65 : Int) ≤ (s[k].toNat : Int)) := by omega
        have a4 : ((s[k].toNat : Int) ≤ 90) := by omega
        have a5 : ¬ ((s[k].toNat : Int) < 48) := by omega
        have a6 : ((57 : Int) < (s[k].toNat : Int)) := by omega
        have ha : allow others s[k] = true := by rw [hallow.out]; simp [r1, r2]
        have hy2 := hyes.out ha
        clear hyes hno hxx hallow ha hall r1 r2
        go_wp2
        go_roundw
        case rel => exact ⟨k + 1, by omega, by go_num, hy2, Lib.hid (by trivial)⟩
        case measure => simp [intOf]; omega
      · skip
        have a1 : ¬ ((97 : Int) ≤ (s[k].toNat : Int)) := by omega
        have a2 : ((s[k].toNat : Int) ≤ 122) := by omega
        have a3 : ((65 : Int) ≤ (s[k].toNat : Int)) := by omega
        have a4 : ¬ ((s[k].toNat : Int) ≤ 90) := by omega
        have a5 : ¬ ((s[k].toNat : Int) < 48) := by omega
        have a6 : ((57 : Int) < (s[k].toNat : Int)) := by omega
        have ha : allow others s[k] = decide (0 ≤ ix) := by
          rw [hallow.out]
          have b1 : (decide (97 ≤ s[k].toNat) && decide (s[k].toNat ≤ 122)) = false := by simp; omega
          have b2 : (decide (65 ≤ s[k].toNat) && decide (s[k].toNat ≤ 90)) = false := by simp; omega
          have b3 : (decide (48 ≤ s[k].toNat) && decide (s[k].toNat ≤ 57)) = false := by simp; omega
          rw [b1, b2, b3]
          simp
        by_cases hneg : ix < 0
        · have hf := hno.out (by rw [ha]; simp; omega)
          clear hyes hno hallow ha hall r1 r2
          go_wp2_with fail
          refine hxx.out.mono ?_
          rintro e w' ⟨rfl, hw⟩
          obtain rfl := hw.symm
          go_wp2
          go_ret
          exact ⟨by rw [hf.out]; rfl, rfl⟩
        · have hy2 := hyes.out (by rw [ha]; simp; omega)
          clear hyes hno hallow ha hall r1 r2
          go_wp2_with fail
          refine hxx.out.mono ?_
          rintro e w' ⟨rfl, hw⟩
          obtain rfl := hw.symm
          go_wp2
          go_roundw
          case rel => exact ⟨k + 1, by omega, by go_num, hy2, Lib.hid (by trivial)⟩
          case measure => simp [intOf]; omega
      · skip
        have a1 : ((97 : Int) ≤ (s[k].toNat : Int)) := by omega
        have a2 : ((s[k].toNat : Int) ≤ 122) := by omega
        have a3 : ((65 : Int) ≤ (s[k].toNat : Int)) := by omega
        have a4 : ¬ ((s[k].toNat : Int) ≤ 90) := by omega
        have a5 : ¬ ((s[k].toNat : Int) < 48) := by omega
        have a6 : ((57 : Int) < (s[k].toNat : Int)) := by omega
        have ha : allow others s[k] = true := by rw [hallow.out]; simp [r1, r2]
        have hy2 := hyes.out ha
        clear hyes hno hxx hallow ha hall r1 r2
        go_wp2
        go_roundw
        case rel => exact ⟨k + 1, by omega, by go_num, hy2, Lib.hid (by trivial)⟩
        case measure => simp [intOf]; omega
      · skip
        have a1 : ((97 : Int) ≤ (s[k].toNat : Int)) := by omega
        have a2 : ¬ ((s[k].toNat : Int) ≤ 122) := by omega
        have a3 : ((65 : Int) ≤ (s[k].toNat : Int)) := by omega
        have a4 : ¬ ((s[k].toNat : Int) ≤ 90) := by omega
        have a5 : ¬ ((s[k].toNat : Int) < 48) := by omega
        have a6 : ((57 : Int) < (s[k].toNat : Int)) := by omega
        have ha : allow others s[k] = decide (0 ≤ ix) := by
          rw [hallow.out]
          have b1 : (decide (97 ≤ s[k].toNat) && decide (s[k].toNat ≤ 122)) = false := by simp; omega
          have b2 : (decide (65 ≤ s[k].toNat) && decide (s[k].toNat ≤ 90)) = false := by simp; omega
          have b3 : (decide (48 ≤ s[k].toNat) && decide (s[k].toNat ≤ 57)) = false := by simp; omega
          rw [b1, b2, b3]
          simp
        by_cases hneg : ix < 0
        · have hf := hno.out (by rw [ha]; simp; omega)
          clear hyes hno hallow ha hall r1 r2
          go_wp2_with fail
          refine hxx.out.mono ?_
          rintro e w' ⟨rfl, hw⟩
          obtain rfl := hw.symm
          go_wp2
          go_ret
          exact ⟨by rw [hf.out]; rfl, rfl⟩
        · have hy2 := hyes.out (by rw [ha]; simp; omega)
          clear hyes hno hallow ha hall r1 r2
          go_wp2_with fail
          refine hxx.out.mono ?_
          rintro e w' ⟨rfl, hw⟩
          obtain rfl := hw.symm
          go_wp2
          go_roundw
          case rel => exact ⟨k + 1, by omega, by go_num, hy2, Lib.hid (by trivial)⟩
          case measure => simp [intOf]; omega
    · obtain rfl : k = s.size := by omega
      have hi1 : ¬ (s.size : Int) < (s.size : Int) := by omega
      have hfin : Hid (R = true) := Lib.hid (by rw [← hR.out]; exact (allB_iff s others).2 (fun j h => hall.out j h h))
      clear hall
      go_wp2
      go_ret
      exact ⟨by rw [hfin.out]; rfl, rfl⟩
theorem noBytes {s : ByteArray} (h : ¬ 0 < s.size) : s = ⟨#[]⟩ := by
  have h1 : s.data = #[] := Array.eq_empty_of_size_eq_zero (by have : s.data.size = s.size := rfl; omega)
  cases s; simp_all
theorem bytesIs {s : ByteArray} (h : 0 < s.size) : s.toList.isEmpty = false := by
  rw [ByteArray.toList_eq]
  cases hd : s.data.toList with
  | nil => exfalso; have : s.data.toList.length = s.size := by simp
           rw [hd] at this; simp at this; omega
  | cons => rfl
set_option maxRecDepth 100000 in
theorem Name_any (s : ByteArray) (hs : s.size ≤ 1000000) (w : World) :
    Calls Tryz.prog 25 #[.string s] w fun e w' => e = .returned (.bool (nameB s)) ∧ w' = w := by
  by_cases h0 : 0 < s.size
  · have hie := bytesIs h0
    have hall := allOf_any s ⟨#[95]⟩ hs w
    have hR : nameB s = (!(decide (48 ≤ s[0].toNat) && decide (s[0].toNat ≤ 57)) && allB s ⟨#[95]⟩) := by unfold nameB; rw [dif_pos h0]
    rw [hR]
    clear hR
    generalize allB s ⟨#[95]⟩ = R at hall ⊢
    have hn : s[0].toNat < 256 := s[0].toNat_lt
    rcases (by omega : s[0].toNat < 48 ∨ (48 ≤ s[0].toNat ∧ s[0].toNat ≤ 57) ∨ 57 < s[0].toNat) with r | ⟨r1, r2⟩ | r
    · have a5 : (s[0].toNat : Int) < 48 := by omega
      have hE : (!(decide (48 ≤ s[0].toNat) && decide (s[0].toNat ≤ 57)) && R) = R := by simp; omega
      rw [hE]
      clear hE r hn
      go_enter Tryz.func25, Tryz.ntmps25
      go_wp2_with fail
      refine hall.mono ?_
      rintro e w' ⟨rfl, hw⟩
      obtain rfl := hw.symm
      go_wp2
      go_ret
      exact ⟨rfl, rfl⟩
    · have a5 : ¬ (s[0].toNat : Int) < 48 := by omega
      have a6 : ¬ (57 : Int) < (s[0].toNat : Int) := by omega
      have hE : (!(decide (48 ≤ s[0].toNat) && decide (s[0].toNat ≤ 57)) && R) = false := by simp [r1, r2]
      rw [hE]
      clear hE r1 r2 hn hall
      go_enter Tryz.func25, Tryz.ntmps25
      go_wp2
      go_ret
      exact ⟨rfl, rfl⟩
    · have a5 : ¬ (s[0].toNat : Int) < 48 := by omega
      have a6 : (57 : Int) < (s[0].toNat : Int) := by omega
      have hE : (!(decide (48 ≤ s[0].toNat) && decide (s[0].toNat ≤ 57)) && R) = R := by simp; omega
      rw [hE]
      clear hE r hn
      go_enter Tryz.func25, Tryz.ntmps25
      go_wp2_with fail
      refine hall.mono ?_
      rintro e w' ⟨rfl, hw⟩
      obtain rfl := hw.symm
      go_wp2
      go_ret
      exact ⟨rfl, rfl⟩
  · obtain rfl := noBytes h0
    have hR : nameB ⟨#[]⟩ = false := by unfold nameB; rw [dif_neg h0]
    rw [hR]
    clear hR h0
    go_enter Tryz.func25, Tryz.ntmps25
    go_wp2
    go_ret
    exact ⟨rfl, rfl⟩
/-- A state in memory, by what there is of its log, and its status. -/
def stC (a : Ad) (n : Int) : List Value := [ptrV a.v, ptrV a.f, ptrV a.a, ptrV a.t, ptrV a.o, ptrV a.g, .int .i64 n]
set_option maxRecDepth 100000 in
theorem sisNil_no {sb : Nat} {a : Ad} {n : Int} (h : Blk w sb (stC a n) 110) :
    Calls Tryz.prog 78 #[ptrV sb] w fun e w' => e = .returned (.bool false) ∧ w' = w := by
  have c0 : w.cell? ⟨sb, 0, none⟩ = some (.pointer (some ⟨a.v, 0, none⟩)) := h.cell (i := 0) rfl
  have hlt := h.lt
  unfold ptrV
  clear h
  go_enter Tryz.func78, Tryz.ntmps78
  go_wp2
  go_ret
  exact ⟨rfl, rfl⟩
def checkE (s : ByteArray) : Int := if nameB s = true then 0 else 16
set_option maxRecDepth 100000 in
theorem checkName_any {sb : Nat} {a : Ad} {n : Int} (h : Blk w sb (stC a n) 110) (s : ByteArray) (hs : s.size ≤ 1000000) :
    Calls Tryz.prog 83 #[ptrV sb, .string s] w fun e w' => e = .returned (.int .i64 (checkE s)) ∧ w' = w := by
  have hi := sisNil_no h
  have hn := Name_any s hs w
  unfold ptrV at hi ⊢
  unfold checkE
  clear h
  cases hb : nameB s
  all_goals
    rw [hb] at hn
    go_enter Tryz.func83, Tryz.ntmps83
    go_wp2_with fail
    refine hi.mono ?_
    rintro e w' ⟨rfl, hw⟩
    obtain rfl := hw.symm
    go_wp2_with fail
    refine hn.mono ?_
    rintro e w' ⟨rfl, hw⟩
    obtain rfl := hw.symm
    go_wp2
    go_ret
    exact ⟨rfl, rfl⟩
set_option maxRecDepth 100000 in
theorem great1_any (s : ByteArray) (hs : s.size ≤ 1000000) (w : World) :
    Calls Tryz.prog 122 #[.string s] w fun e w' => e = .returned (.bool (decide (4096 < s.size))) ∧ w' = w := by
  have hd : decide ((4096 : Int) < (s.size : Int)) = decide (4096 < s.size) := by
    by_cases h : 4096 < s.size
    · rw [decide_eq_true h, decide_eq_true (by omega)]
    · rw [decide_eq_false h, decide_eq_false (by omega)]
  replace hd := Lib.hid hd
  go_enter Tryz.func122, Tryz.ntmps122
  go_wp2
  go_ret
  exact ⟨by rw [← hd.out]; rfl, rfl⟩
/-- Texts in a slice. -/
def Txs (w : World) (A : Option Addr) (n c : Nat) (l : List ByteArray) : Prop := l.length = n ∧ n ≤ c ∧ c ≤ maxLen ∧ (0 < n → ∃ b off : Nat, A = some ⟨b, off, none⟩ ∧ b < w.heap.size ∧ ∀ (j : Nat) x, l[j]? = some x → w.cell? ⟨b, off + j, none⟩ = some (.string x))
def greatL (l : List ByteArray) : Bool := l.any fun s => decide (4096 < s.size)
set_option maxRecDepth 100000 in
theorem IndexFunc_any {A : Option Addr} {n c : Nat} {l : List ByteArray} (h : Txs w A n c l) (hl : ∀ s ∈ l, s.size ≤ 1000000) (hn : n ≤ 1000000) :
    Calls Tryz.prog 136 #[.slice A n c, .func (.func 122) #[] #[]] w fun e w' => ∃ r : Int, e = .returned (.int .i64 r) ∧ (decide (0 ≤ r)) = greatL l ∧ w' = w := by
  obtain ⟨h1, h2, h3, h4⟩ := h
  obtain ⟨G, hG⟩ : ∃ G, greatL l = G := ⟨_, rfl⟩
  rw [hG]
  replace hG := Lib.hid hG
  replace h4 := Lib.hid h4
  replace h1 := Lib.hid h1
  unfold maxLen at h3
  go_enter Tryz.func136, Tryz.ntmps136
  go_wp2
  go_loopw [8] (fun i wr => ∃ k : Nat, k ≤ n ∧ i = .int .i64 (k : Int) ∧ Hid (∀ j (h : j < l.length), j < k → decide (4096 < l[j].size) = false) ∧ Hid (wr = w)) (fun i _ => n - (intOf i).toNat)
  case atStart => exact ⟨0, Nat.zero_le _, rfl, Lib.hid (fun _ _ h => absurd h (Nat.not_lt_zero _)), Lib.hid rfl⟩
  case round =>
    obtain ⟨k, hk, rfl, hall, hw⟩ := hrel
    obtain rfl := hw.out
    clear hw
    by_cases hlt : k < n
    · obtain ⟨b, off, rfl, hb, hc⟩ := h4.out (by omega)
      have hkl : k < l.length := by rw [h1.out]; exact hlt
      have ck := hc k _ (List.getElem?_eq_getElem hkl)
      have hg := great1_any l[k] (hl _ (List.getElem_mem hkl)) wr
      have hi0 : (0 : Int) ≤ (k : Int) := by omega
      have hi1 : (k : Int) < (n : Int) := by omega
      have hyes : decide (4096 < l[k].size) = true → Hid (G = true) := fun e => Lib.hid (by rw [← hG.out]; exact List.any_eq_true.2 ⟨l[k], List.getElem_mem hkl, e⟩)
      have hno : decide (4096 < l[k].size) = false → Hid (∀ j (h : j < l.length), j < k + 1 → decide (4096 < l[j].size) = false) := fun e => Lib.hid (fun j h hj => by
        by_cases q : j = k
        · subst q; exact e
        · exact hall.out j h (by omega))
      generalize l[k] = x at ck hg hyes hno
      generalize decide (4096 < x.size) = D at hg hyes hno
      cases D
      · have hy2 := hno rfl
        clear hyes hno hall hc
        go_wp2_with fail
        refine hg.mono ?_
        rintro e w' ⟨rfl, hw⟩
        obtain rfl := hw.symm
        go_wp2
        go_roundw
        case rel => exact ⟨k + 1, by omega, by go_num, hy2, Lib.hid (by trivial)⟩
        case measure => simp [intOf]; omega
      · have hy2 := hyes rfl
        clear hyes hno hall hc
        go_wp2_with fail
        refine hg.mono ?_
        rintro e w' ⟨rfl, hw⟩
        obtain rfl := hw.symm
        go_wp2
        go_ret
        exact ⟨(k : Int), rfl, by rw [hy2.out]; exact decide_eq_true (by omega), rfl⟩
    · obtain rfl : k = n := by omega
      have hi1 : ¬ (k : Int) < (k : Int) := by omega
      have hfin : Hid (G = false) := Lib.hid (by
        rw [← hG.out]
        refine List.any_eq_false.2 fun x hx => ?_
        obtain ⟨j, hj, e⟩ := List.getElem_of_mem hx
        rw [← e, hall.out j hj (by rw [← h1.out]; exact hj)]
        decide)
      clear hall
      go_wp2
      go_ret
      exact ⟨-1, rfl, by rw [hfin.out]; rfl, rfl⟩
set_option maxRecDepth 100000 in
theorem tooGreat_any {A : Option Addr} {n c : Nat} {l : List ByteArray} (h : Txs w A n c l) (hl : ∀ s ∈ l, s.size ≤ 1000000) (hn : n ≤ 1000000) :
    Calls Tryz.prog 84 #[.slice A n c] w fun e w' => e = .returned (.bool (greatL l)) ∧ w' = w := by
  have hi := IndexFunc_any h hl hn
  have hc : Calls Tryz.prog 121 #[.slice A n c, .func (.func 122) #[] #[]] w fun e w' => e = .returned (.bool (greatL l)) ∧ w' = w := by
    clear h
    go_enter Tryz.func121, Tryz.ntmps121
    go_wp2_with fail
    refine hi.mono ?_
    rintro e w' ⟨r, rfl, hr, hw⟩
    obtain rfl := hw.symm
    replace hr := Lib.hid hr
    go_wp2
    go_ret
    exact ⟨by rw [← hr.out]; rfl, rfl⟩
  clear h hi
  go_enter Tryz.func84, Tryz.ntmps84
  go_wp2_with fail
  refine hc.mono ?_
  rintro e w' ⟨rfl, hw⟩
  obtain rfl := hw.symm
  go_wp2
  go_ret
  exact ⟨rfl, rfl⟩
end
end Go.Proofs.YtigmdfdcflkggaaGreat
/-
  The variables of a state: Var, Get, Put, Set, Mark, Unset; its options, read. Conditions: keys of at most 200 bytes.
-/
namespace Go.Proofs.YtigmdfdcflkggaaGreat
open Go Go.RowKit Go.ChangeMaps

structure StAt (w : World) (B sb : Nat) (a : Ad) (pot : Nat) (t : Tg) (n : Int) : Prop where
  blk : Blk w sb (stC a n) 110
  th : ThAt w B a pot t
  hB : B ≤ sb
section
variable {w w' : World} {B sb : Nat} {a : Ad} {pot : Nat} {t : Tg} {n : Int}
theorem StAt.below (h : StAt w B sb a pot t n) (k : Below w.heap.size w w') : StAt w' B sb a pot t n := ⟨(k.block _ h.blk.lt).trans h.blk, h.th.below k, h.hB⟩
theorem nPkSt : ¬ PkT 110 := nPk (by decide)
/-- Behind a call that sets. -/
theorem StAt.next (h : StAt w B sb a pot t n) {pot' : Nat} {t' : Tg} (k : ThAt w' B a pot' t') (f : FrT B a w w') : StAt w' B sb a pot' t' n := ⟨h.th.keepB f _ _ _ h.blk nPkSt, k, h.hB⟩
theorem StAt.mono (h : StAt w B sb a pot t n) {pot' : Nat} (hp : pot ≤ pot') : StAt w B sb a pot' t n := ⟨h.blk, h.th.mono hp, h.hB⟩
def valV (t : Tg) (k : ByteArray) : Vr := (t.cur.v k).getD noV
theorem StAt.vb (h : StAt w B sb a pot t n) (k : ByteArray) : (valV t k).v.size ≤ 5000 := by
  unfold valV
  cases hv : t.cur.v k with
  | none => decide
  | some x => exact (h.th.good.kb.v k x hv).2
set_option maxRecDepth 100000 in
theorem Var_any (h : StAt w B sb a pot t n) (k : ByteArray) :
    Calls Tryz.prog 28 #[ptrV sb, .string k] w fun e w' => e = .returned (encV (valV t k)) ∧ Below w.heap.size w w' := by
  obtain ⟨z, hz⟩ : ∃ z, w.heap.size = z := ⟨_, rfl⟩
  have hb0 : Below z w (w.alloc (.cells #[.string ⟨#[]⟩, .bool false, .bool false, .bool false] 59)) := by rw [← hz]; exact Below.of_alloc w _
  have b0 : Blk (w.alloc (.cells #[.string ⟨#[]⟩, .bool false, .bool false, .bool false] 59)) z [.string ⟨#[]⟩, .bool false, .bool false, .bool false] 59 := by rw [← hz]; exact Blk.new w _ _
  have h1 := h.below (by rw [hz]; exact hb0)
  have hi := sisNil_no h1.blk
  have hg := th_getv h1.th k
  have c0 := h1.blk.cell (i := 0) rfl
  have hlt := h1.blk.lt
  unfold valV
  generalize (t.cur.v k).getD noV = V at hg ⊢
  obtain ⟨x0, x1, x2, x3⟩ := V
  unfold encV at hg ⊢
  rw [hz]
  unfold ptrV at hi hg c0 ⊢
  dsimp only at hg ⊢
  clear h h1
  replace hb0 := Lib.hid hb0
  replace b0 := Lib.hid b0
  go_enter Tryz.func28, Tryz.ntmps28
  go_upto_region 1 with fail
  try rw [hz]
  generalize (w.alloc (.cells #[.string ⟨#[]⟩, .bool false, .bool false, .bool false] 59)) = w1 at hb0 b0 hi hg c0 hlt ⊢
  replace hz := Lib.hid hz
  go_wp2_with fail
  refine hi.mono ?_
  rintro e w' ⟨rfl, hw⟩
  obtain rfl := hw.symm
  clear hi hw
  go_wp2_with fail
  refine hg.mono ?_
  rintro e w2 ⟨rfl, hb2⟩
  have b2 : Blk w2 z _ _ := (hb2.block z b0.out.lt).trans b0.out
  have hbz : Below z w w2 := hb0.out.trans (hb2.mono (by have := b0.out.lt; omega))
  have e0 := b2.cell (i := 0) rfl
  have e1 := b2.cell (i := 1) rfl
  have e2 := b2.cell (i := 2) rfl
  have e3 := b2.cell (i := 3) rfl
  have f0 := b2.frozen 0
  have f1 := b2.frozen 1
  have f2 := b2.frozen 2
  have f3 := b2.frozen 3
  have l2 := b2.lt
  have hne : z ≠ w2.heap.size := by omega
  have bE : Blk (((((w2.setCell ⟨z, 0, none⟩ (.string x0)).setCell ⟨z, 1, none⟩ (.bool x1)).setCell ⟨z, 2, none⟩ (.bool x2)).setCell ⟨z, 3, none⟩ (.bool x3)).alloc (.cells #[.string x0, .bool x1, .bool x2, .bool x3] 59)) z [.string x0, .bool x1, .bool x2, .bool x3] 59 := ((((b2.set 0 (.string x0)).set 1 (.bool x1)).set 2 (.bool x2)).set 3 (.bool x3)).alloc _
  have hbE : Below z w (((((w2.setCell ⟨z, 0, none⟩ (.string x0)).setCell ⟨z, 1, none⟩ (.bool x1)).setCell ⟨z, 2, none⟩ (.bool x2)).setCell ⟨z, 3, none⟩ (.bool x3)).alloc (.cells #[.string x0, .bool x1, .bool x2, .bool x3] 59)) := ((((hbz.setCell (Nat.le_refl z) _).setCell (Nat.le_refl z) _).setCell (Nat.le_refl z) _).setCell (Nat.le_refl z) _).alloc (by simp; omega) _
  replace bE := Lib.hid bE
  replace hbE := Lib.hid hbE
  clear hg hb2 c0 hlt b0 hb0 b2 hbz
  go_wp2
  generalize (((((w2.setCell ⟨z, 0, none⟩ (.string x0)).setCell ⟨z, 1, none⟩ (.bool x1)).setCell ⟨z, 2, none⟩ (.bool x2)).setCell ⟨z, 3, none⟩ (.bool x3)).alloc (.cells #[.string x0, .bool x1, .bool x2, .bool x3] 59)) = wE at bE hbE ⊢
  have g0 := bE.out.cell (i := 0) rfl
  have g1 := bE.out.cell (i := 1) rfl
  have g2 := bE.out.cell (i := 2) rfl
  have g3 := bE.out.cell (i := 3) rfl
  exact bodyPost_ret (v := .agg #[.string x0, .bool x1, .bool x2, .bool x3]) (by simp [results, Tryz.results28, g0, g1, g2, g3, go_sem]) rfl ⟨rfl, hbE.out⟩
set_option maxRecDepth 100000 in
theorem Options_any (h : StAt w B sb a pot t n) :
    Calls Tryz.prog 67 #[ptrV sb] w fun e w' => e = .returned (.string t.cur.o) ∧ Below w.heap.size w w' := by
  have hi := sisNil_no h.blk
  have hg := th_geto h.th
  have c4 := h.blk.cell (i := 4) rfl
  have hlt := h.blk.lt
  unfold ptrV at hi hg c4 ⊢
  clear h
  go_enter Tryz.func67, Tryz.ntmps67
  go_wp2_with fail
  refine hi.mono ?_
  rintro e w' ⟨rfl, hw⟩
  obtain rfl := hw.symm
  go_wp2_with fail
  refine hg.mono ?_
  rintro e w2 ⟨rfl, hb⟩
  replace hb := Lib.hid hb
  go_wp2
  go_ret
  exact ⟨rfl, hb.out⟩
def optB (t : Tg) (c : UInt8) : Bool := decide (0 ≤ Lib.indexByte t.cur.o.data.toList c)
set_option maxRecDepth 100000 in
theorem Option_any (h : StAt w B sb a pot t n) (c : UInt8) :
    Calls Tryz.prog 85 #[ptrV sb, .int .u8 (c.toNat : Int)] w fun e w' => e = .returned (.bool (optB t c)) ∧ Below w.heap.size w w' := by
  have ho := Options_any h
  have hix := fun W => indexByte t.cur.o (c.toNat : Int) W
  have hbk : ((c.toNat : Int)).toNat.toUInt8 = c := by simp
  rw [hbk] at hix
  obtain ⟨R, hR⟩ : ∃ R, optB t c = R := ⟨_, rfl⟩
  rw [hR]
  unfold optB at hR
  generalize t.cur.o = o at ho hix hR
  generalize Lib.indexByte o.data.toList c = ix at hix hR
  unfold ptrV at ho ⊢
  replace hix := Lib.hid hix
  replace hR := Lib.hid hR
  clear h
  go_enter Tryz.func85, Tryz.ntmps85
  go_wp2_with fail
  refine ho.mono ?_
  rintro e w2 ⟨rfl, hb⟩
  replace hb := Lib.hid hb
  go_wp2_with fail
  refine (hix.out _).mono ?_
  rintro e w' ⟨rfl, hw⟩
  obtain rfl := hw.symm
  go_wp2
  go_ret
  exact ⟨by rw [← hR.out]; rfl, hb.out⟩
/-- What is put: without a value, if it is not set. -/
def bareV (x : Vr) : Vr := if x.s = true then x else { x with v := ⟨#[]⟩ }
def Tg.put (t : Tg) (k : ByteArray) (x : Vr) : Int × Tg := if nameB k = true then (if bareV x = noV then t.delv k else t.putv k (bareV x)) else (16, t)
theorem drewB {z : Nat} {w w' : World} (h : Below z w w') (n : Nat) : Below z w (w'.drewN n) := ⟨h.os, h.tape, h.output, h.size, h.block⟩
set_option maxRecDepth 100000 in
set_option maxHeartbeats 2000000 in
theorem Put_set (h : StAt w B sb a pot t n) (k : ByteArray) (hk : k.size ≤ 200) (hnm : nameB k = true) (x0 : ByteArray) (hx0 : x0.size ≤ 5000) (x2 x3 : Bool) :
    Calls Tryz.prog 39 #[ptrV sb, .string k, .agg #[.string x0, .bool true, .bool x2, .bool x3]] w fun e w' => e = .returned (.int .i64 (t.putv k ⟨x0, true, x2, x3⟩).1) ∧ StAt w' B sb a (pot + 2) (t.putv k ⟨x0, true, x2, x3⟩).2 n ∧ FrT B a w w' := by
  obtain ⟨z, hz⟩ : ∃ z, w.heap.size = z := ⟨_, rfl⟩
  have hb0 : Below z w (w.alloc (.cells #[.string x0, .bool true, .bool x2, .bool x3] 59)) := by rw [← hz]; exact Below.of_alloc w _
  have b0 : Blk (w.alloc (.cells #[.string x0, .bool true, .bool x2, .bool x3] 59)) z [.string x0, .bool true, .bool x2, .bool x3] 59 := by rw [← hz]; exact Blk.new w _ _
  have hW := h.below (by rw [hz]; exact hb0)
  have hi := checkName_any hW.blk k (by omega)
  unfold checkE at hi
  rw [if_pos hnm] at hi
  unfold ptrV at hi ⊢
  clear h hnm
  replace hb0 := Lib.hid hb0
  replace b0 := Lib.hid b0
  replace hW := Lib.hid hW
  go_enter Tryz.func39, Tryz.ntmps39
  go_upto_region 1 with fail
  try rw [hz]
  generalize (w.alloc (.cells #[.string x0, .bool true, .bool x2, .bool x3] 59)) = w1 at hb0 b0 hi hW ⊢
  replace hz := Lib.hid hz
  go_wp2_with fail
  refine hi.mono ?_
  rintro e w' ⟨rfl, hw⟩
  obtain rfl := hw.symm
  clear hi hw
  have e0 := b0.out.cell (i := 0) rfl
  have e1 := b0.out.cell (i := 1) rfl
  have f0 := b0.out.frozen 0
  have lz := b0.out.lt
  obtain ⟨wW, rfl⟩ : ∃ y, y = w1 := ⟨_, rfl⟩
  have bW := b0
  have hbW := hb0
  clear e0 e1 f0 lz b0 hb0
  have e0 := bW.out.cell (i := 0) rfl
  have e1 := bW.out.cell (i := 1) rfl
  have e2 := bW.out.cell (i := 2) rfl
  have e3 := bW.out.cell (i := 3) rfl
  have lz := bW.out.lt
  have hd := th_putv (hW.out.below (drewN_below wW 1)).th k ⟨x0, true, x2, x3⟩ hk hx0
  unfold ptrV encV at hd
  dsimp only at hd
  have c0 : wW.cell? ⟨sb, 0, none⟩ = some (.pointer (some ⟨a.v, 0, none⟩)) := hW.out.blk.cell (i := 0) rfl
  have hlt := hW.out.blk.lt
  have hk0 : wW.drew.cell? ⟨sb, 0, none⟩ = some (.pointer (some ⟨a.v, 0, none⟩)) ∧ wW.drew.cell? ⟨z, 0, none⟩ = some (.string x0) ∧ wW.drew.cell? ⟨z, 1, none⟩ = some (.bool true) ∧ wW.drew.cell? ⟨z, 2, none⟩ = some (.bool x2) ∧ wW.drew.cell? ⟨z, 3, none⟩ = some (.bool x3) := ⟨c0, e0, e1, e2, e3⟩
  replace hd := Lib.hid hd
  go_upto_region 8 with fail
  go_region_held3 (fun w' => w'.cell? ⟨sb, 0, none⟩ = some (.pointer (some ⟨a.v, 0, none⟩)) ∧ w'.cell? ⟨z, 0, none⟩ = some (.string x0) ∧ w'.cell? ⟨z, 1, none⟩ = some (.bool true) ∧ w'.cell? ⟨z, 2, none⟩ = some (.bool x2) ∧ w'.cell? ⟨z, 3, none⟩ = some (.bool x3))
    (first | go_keep | exact hk0 | exact hk1)
    ((go_at_call 103; refine hd.out.mono ?_; rintro e w5 ⟨rfl, q1, q2⟩; have hS5 := (hW.out.below (drewN_below wW 1)).next q1 q2; have k5 : Blk w5 z _ _ := (hW.out.below (drewN_below wW 1)).th.keepB q2 _ _ _ (show Blk wW.drew z _ _ from bW.out) (nPk (by decide)); have hk1 : w5.cell? ⟨sb, 0, none⟩ = some (.pointer (some ⟨a.v, 0, none⟩)) ∧ w5.cell? ⟨z, 0, none⟩ = some (.string x0) ∧ w5.cell? ⟨z, 1, none⟩ = some (.bool true) ∧ w5.cell? ⟨z, 2, none⟩ = some (.bool x2) ∧ w5.cell? ⟨z, 3, none⟩ = some (.bool x3) := ⟨hS5.blk.cell (i := 0) rfl, k5.cell (i := 0) rfl, k5.cell (i := 1) rfl, k5.cell (i := 2) rfl, k5.cell (i := 3) rfl⟩; clear k5; replace hS5 := Lib.hid hS5; replace q2 := Lib.hid q2; clear q1))
  have hfin : Hid (StAt w5 B sb a (pot + 2) (t.putv k ⟨x0, true, x2, x3⟩).2 n ∧ FrT B a w w5) := Lib.hid ⟨hS5.out, (FrT.of_below (by rw [hz.out]; exact drewB hbW.out 1)).trans q2.out⟩
  clear hd q2 c0 hk0 hk1 hlt e0 e1 e2 e3 lz hS5
  go_wp2
  go_ret
  exact ⟨rfl, hfin.out⟩
set_option maxRecDepth 100000 in
set_option maxHeartbeats 2000000 in
theorem Put_exp (h : StAt w B sb a pot t n) (k : ByteArray) (hk : k.size ≤ 200) (hnm : nameB k = true) (x0 : ByteArray) (x3 : Bool) :
    Calls Tryz.prog 39 #[ptrV sb, .string k, .agg #[.string x0, .bool false, .bool true, .bool x3]] w fun e w' => e = .returned (.int .i64 (t.putv k ⟨⟨#[]⟩, false, true, x3⟩).1) ∧ StAt w' B sb a (pot + 2) (t.putv k ⟨⟨#[]⟩, false, true, x3⟩).2 n ∧ FrT B a w w' := by
  obtain ⟨z, hz⟩ : ∃ z, w.heap.size = z := ⟨_, rfl⟩
  have hb0 : Below z w (w.alloc (.cells #[.string x0, .bool false, .bool true, .bool x3] 59)) := by rw [← hz]; exact Below.of_alloc w _
  have b0 : Blk (w.alloc (.cells #[.string x0, .bool false, .bool true, .bool x3] 59)) z [.string x0, .bool false, .bool true, .bool x3] 59 := by rw [← hz]; exact Blk.new w _ _
  have hW := h.below (by rw [hz]; exact hb0)
  have hi := checkName_any hW.blk k (by omega)
  unfold checkE at hi
  rw [if_pos hnm] at hi
  unfold ptrV at hi ⊢
  have hBOX := fun (W : World) (hb : Below w.heap.size w W) => h.below hb
  replace hBOX := Lib.hid hBOX
  clear h hnm
  replace hb0 := Lib.hid hb0
  replace b0 := Lib.hid b0
  replace hW := Lib.hid hW
  go_enter Tryz.func39, Tryz.ntmps39
  go_upto_region 1 with fail
  try rw [hz]
  generalize (w.alloc (.cells #[.string x0, .bool false, .bool true, .bool x3] 59)) = w1 at hb0 b0 hi hW ⊢
  replace hz := Lib.hid hz
  go_wp2_with fail
  refine hi.mono ?_
  rintro e w' ⟨rfl, hw⟩
  obtain rfl := hw.symm
  clear hi hw
  have e0 := b0.out.cell (i := 0) rfl
  have e1 := b0.out.cell (i := 1) rfl
  have f0 := b0.out.frozen 0
  have lz := b0.out.lt
  go_upto_region 6 with fail
  have hbW : Hid (Below z w (w1.setCell ⟨z, 0, none⟩ (.string ⟨#[]⟩))) := Lib.hid (hb0.out.setCell (Nat.le_refl z) _)
  have bW : Hid (Blk (w1.setCell ⟨z, 0, none⟩ (.string ⟨#[]⟩)) z [.string ⟨#[]⟩, .bool false, .bool true, .bool x3] 59) := Lib.hid (b0.out.set 0 (.string ⟨#[]⟩))
  have hW2 : Hid (StAt (w1.setCell ⟨z, 0, none⟩ (.string ⟨#[]⟩)) B sb a pot t n) := Lib.hid (hBOX.out _ (by rw [hz.out]; exact hbW.out))
  clear e0 e1 f0 lz b0 hb0 hW hBOX
  generalize w1.setCell ⟨z, 0, none⟩ (.string ⟨#[]⟩) = wW at hbW bW hW2 ⊢
  have hW := hW2
  clear hW2
  have e0 := bW.out.cell (i := 0) rfl
  have e1 := bW.out.cell (i := 1) rfl
  have e2 := bW.out.cell (i := 2) rfl
  have e3 := bW.out.cell (i := 3) rfl
  have lz := bW.out.lt
  have hd := th_putv (hW.out.below (drewN_below wW 1)).th k ⟨⟨#[]⟩, false, true, x3⟩ hk (show (⟨#[]⟩ : ByteArray).size ≤ 5000 by decide)
  unfold ptrV encV at hd
  dsimp only at hd
  have c0 : wW.cell? ⟨sb, 0, none⟩ = some (.pointer (some ⟨a.v, 0, none⟩)) := hW.out.blk.cell (i := 0) rfl
  have hlt := hW.out.blk.lt
  have hk0 : wW.drew.cell? ⟨sb, 0, none⟩ = some (.pointer (some ⟨a.v, 0, none⟩)) ∧ wW.drew.cell? ⟨z, 0, none⟩ = some (.string ⟨#[]⟩) ∧ wW.drew.cell? ⟨z, 1, none⟩ = some (.bool false) ∧ wW.drew.cell? ⟨z, 2, none⟩ = some (.bool true) ∧ wW.drew.cell? ⟨z, 3, none⟩ = some (.bool x3) := ⟨c0, e0, e1, e2, e3⟩
  replace hd := Lib.hid hd
  go_upto_region 8 with fail
  go_region_held3 (fun w' => w'.cell? ⟨sb, 0, none⟩ = some (.pointer (some ⟨a.v, 0, none⟩)) ∧ w'.cell? ⟨z, 0, none⟩ = some (.string ⟨#[]⟩) ∧ w'.cell? ⟨z, 1, none⟩ = some (.bool false) ∧ w'.cell? ⟨z, 2, none⟩ = some (.bool true) ∧ w'.cell? ⟨z, 3, none⟩ = some (.bool x3))
    (first | go_keep | exact hk0 | exact hk1)
    ((go_at_call 103; refine hd.out.mono ?_; rintro e w5 ⟨rfl, q1, q2⟩; have hS5 := (hW.out.below (drewN_below wW 1)).next q1 q2; have k5 : Blk w5 z _ _ := (hW.out.below (drewN_below wW 1)).th.keepB q2 _ _ _ (show Blk wW.drew z _ _ from bW.out) (nPk (by decide)); have hk1 : w5.cell? ⟨sb, 0, none⟩ = some (.pointer (some ⟨a.v, 0, none⟩)) ∧ w5.cell? ⟨z, 0, none⟩ = some (.string ⟨#[]⟩) ∧ w5.cell? ⟨z, 1, none⟩ = some (.bool false) ∧ w5.cell? ⟨z, 2, none⟩ = some (.bool true) ∧ w5.cell? ⟨z, 3, none⟩ = some (.bool x3) := ⟨hS5.blk.cell (i := 0) rfl, k5.cell (i := 0) rfl, k5.cell (i := 1) rfl, k5.cell (i := 2) rfl, k5.cell (i := 3) rfl⟩; clear k5; replace hS5 := Lib.hid hS5; replace q2 := Lib.hid q2; clear q1))
  have hfin : Hid (StAt w5 B sb a (pot + 2) (t.putv k ⟨⟨#[]⟩, false, true, x3⟩).2 n ∧ FrT B a w w5) := Lib.hid ⟨hS5.out, (FrT.of_below (by rw [hz.out]; exact drewB hbW.out 1)).trans q2.out⟩
  clear hd q2 c0 hk0 hk1 hlt e0 e1 e2 e3 lz hS5
  go_wp2
  go_ret
  exact ⟨rfl, hfin.out⟩
set_option maxRecDepth 100000 in
set_option maxHeartbeats 2000000 in
theorem Put_fix (h : StAt w B sb a pot t n) (k : ByteArray) (hk : k.size ≤ 200) (hnm : nameB k = true) (x0 : ByteArray) :
    Calls Tryz.prog 39 #[ptrV sb, .string k, .agg #[.string x0, .bool false, .bool false, .bool true]] w fun e w' => e = .returned (.int .i64 (t.putv k ⟨⟨#[]⟩, false, false, true⟩).1) ∧ StAt w' B sb a (pot + 2) (t.putv k ⟨⟨#[]⟩, false, false, true⟩).2 n ∧ FrT B a w w' := by
  obtain ⟨z, hz⟩ : ∃ z, w.heap.size = z := ⟨_, rfl⟩
  have hb0 : Below z w (w.alloc (.cells #[.string x0, .bool false, .bool false, .bool true] 59)) := by rw [← hz]; exact Below.of_alloc w _
  have b0 : Blk (w.alloc (.cells #[.string x0, .bool false, .bool false, .bool true] 59)) z [.string x0, .bool false, .bool false, .bool true] 59 := by rw [← hz]; exact Blk.new w _ _
  have hW := h.below (by rw [hz]; exact hb0)
  have hi := checkName_any hW.blk k (by omega)
  unfold checkE at hi
  rw [if_pos hnm] at hi
  unfold ptrV at hi ⊢
  have hBOX := fun (W : World) (hb : Below w.heap.size w W) => h.below hb
  replace hBOX := Lib.hid hBOX
  clear h hnm
  replace hb0 := Lib.hid hb0
  replace b0 := Lib.hid b0
  replace hW := Lib.hid hW
  go_enter Tryz.func39, Tryz.ntmps39
  go_upto_region 1 with fail
  try rw [hz]
  generalize (w.alloc (.cells #[.string x0, .bool false, .bool false, .bool true] 59)) = w1 at hb0 b0 hi hW ⊢
  replace hz := Lib.hid hz
  go_wp2_with fail
  refine hi.mono ?_
  rintro e w' ⟨rfl, hw⟩
  obtain rfl := hw.symm
  clear hi hw
  have e0 := b0.out.cell (i := 0) rfl
  have e1 := b0.out.cell (i := 1) rfl
  have f0 := b0.out.frozen 0
  have lz := b0.out.lt
  go_upto_region 6 with fail
  have hbW : Hid (Below z w (w1.setCell ⟨z, 0, none⟩ (.string ⟨#[]⟩))) := Lib.hid (hb0.out.setCell (Nat.le_refl z) _)
  have bW : Hid (Blk (w1.setCell ⟨z, 0, none⟩ (.string ⟨#[]⟩)) z [.string ⟨#[]⟩, .bool false, .bool false, .bool true] 59) := Lib.hid (b0.out.set 0 (.string ⟨#[]⟩))
  have hW2 : Hid (StAt (w1.setCell ⟨z, 0, none⟩ (.string ⟨#[]⟩)) B sb a pot t n) := Lib.hid (hBOX.out _ (by rw [hz.out]; exact hbW.out))
  clear e0 e1 f0 lz b0 hb0 hW hBOX
  generalize w1.setCell ⟨z, 0, none⟩ (.string ⟨#[]⟩) = wW at hbW bW hW2 ⊢
  have hW := hW2
  clear hW2
  have e0 := bW.out.cell (i := 0) rfl
  have e1 := bW.out.cell (i := 1) rfl
  have e2 := bW.out.cell (i := 2) rfl
  have e3 := bW.out.cell (i := 3) rfl
  have lz := bW.out.lt
  have hd := th_putv (hW.out.below (drewN_below wW 1)).th k ⟨⟨#[]⟩, false, false, true⟩ hk (by decide)
  unfold ptrV encV at hd
  dsimp only at hd
  have c0 : wW.cell? ⟨sb, 0, none⟩ = some (.pointer (some ⟨a.v, 0, none⟩)) := hW.out.blk.cell (i := 0) rfl
  have hlt := hW.out.blk.lt
  have hk0 : wW.drew.cell? ⟨sb, 0, none⟩ = some (.pointer (some ⟨a.v, 0, none⟩)) ∧ wW.drew.cell? ⟨z, 0, none⟩ = some (.string ⟨#[]⟩) ∧ wW.drew.cell? ⟨z, 1, none⟩ = some (.bool false) ∧ wW.drew.cell? ⟨z, 2, none⟩ = some (.bool false) ∧ wW.drew.cell? ⟨z, 3, none⟩ = some (.bool true) := ⟨c0, e0, e1, e2, e3⟩
  replace hd := Lib.hid hd
  go_upto_region 8 with fail
  go_region_held3 (fun w' => w'.cell? ⟨sb, 0, none⟩ = some (.pointer (some ⟨a.v, 0, none⟩)) ∧ w'.cell? ⟨z, 0, none⟩ = some (.string ⟨#[]⟩) ∧ w'.cell? ⟨z, 1, none⟩ = some (.bool false) ∧ w'.cell? ⟨z, 2, none⟩ = some (.bool false) ∧ w'.cell? ⟨z, 3, none⟩ = some (.bool true))
    (first | go_keep | exact hk0 | exact hk1)
    ((go_at_call 103; refine hd.out.mono ?_; rintro e w5 ⟨rfl, q1, q2⟩; have hS5 := (hW.out.below (drewN_below wW 1)).next q1 q2; have k5 : Blk w5 z _ _ := (hW.out.below (drewN_below wW 1)).th.keepB q2 _ _ _ (show Blk wW.drew z _ _ from bW.out) (nPk (by decide)); have hk1 : w5.cell? ⟨sb, 0, none⟩ = some (.pointer (some ⟨a.v, 0, none⟩)) ∧ w5.cell? ⟨z, 0, none⟩ = some (.string ⟨#[]⟩) ∧ w5.cell? ⟨z, 1, none⟩ = some (.bool false) ∧ w5.cell? ⟨z, 2, none⟩ = some (.bool false) ∧ w5.cell? ⟨z, 3, none⟩ = some (.bool true) := ⟨hS5.blk.cell (i := 0) rfl, k5.cell (i := 0) rfl, k5.cell (i := 1) rfl, k5.cell (i := 2) rfl, k5.cell (i := 3) rfl⟩; clear k5; replace hS5 := Lib.hid hS5; replace q2 := Lib.hid q2; clear q1))
  have hfin : Hid (StAt w5 B sb a (pot + 2) (t.putv k ⟨⟨#[]⟩, false, false, true⟩).2 n ∧ FrT B a w w5) := Lib.hid ⟨hS5.out, (FrT.of_below (by rw [hz.out]; exact drewB hbW.out 1)).trans q2.out⟩
  clear hd q2 c0 hk0 hk1 hlt e0 e1 e2 e3 lz hS5
  go_wp2
  go_ret
  exact ⟨rfl, hfin.out⟩
set_option maxRecDepth 100000 in
set_option maxHeartbeats 2000000 in
theorem Put_no (h : StAt w B sb a pot t n) (k : ByteArray) (hk : k.size ≤ 200) (hnm : nameB k = true) (x0 : ByteArray) :
    Calls Tryz.prog 39 #[ptrV sb, .string k, .agg #[.string x0, .bool false, .bool false, .bool false]] w fun e w' => e = .returned (.int .i64 (t.delv k).1) ∧ StAt w' B sb a (pot + 2) (t.delv k).2 n ∧ FrT B a w w' := by
  obtain ⟨z, hz⟩ : ∃ z, w.heap.size = z := ⟨_, rfl⟩
  have hb0 : Below z w (w.alloc (.cells #[.string x0, .bool false, .bool false, .bool false] 59)) := by rw [← hz]; exact Below.of_alloc w _
  have b0 : Blk (w.alloc (.cells #[.string x0, .bool false, .bool false, .bool false] 59)) z [.string x0, .bool false, .bool false, .bool false] 59 := by rw [← hz]; exact Blk.new w _ _
  have hW := h.below (by rw [hz]; exact hb0)
  have hi := checkName_any hW.blk k (by omega)
  unfold checkE at hi
  rw [if_pos hnm] at hi
  unfold ptrV at hi ⊢
  have hBOX := fun (W : World) (hb : Below w.heap.size w W) => h.below hb
  replace hBOX := Lib.hid hBOX
  clear h hnm
  replace hb0 := Lib.hid hb0
  replace b0 := Lib.hid b0
  replace hW := Lib.hid hW
  go_enter Tryz.func39, Tryz.ntmps39
  go_upto_region 1 with fail
  try rw [hz]
  generalize (w.alloc (.cells #[.string x0, .bool false, .bool false, .bool false] 59)) = w1 at hb0 b0 hi hW ⊢
  replace hz := Lib.hid hz
  go_wp2_with fail
  refine hi.mono ?_
  rintro e w' ⟨rfl, hw⟩
  obtain rfl := hw.symm
  clear hi hw
  have e0 := b0.out.cell (i := 0) rfl
  have e1 := b0.out.cell (i := 1) rfl
  have f0 := b0.out.frozen 0
  have lz := b0.out.lt
  go_upto_region 6 with fail
  have hbW : Hid (Below z w (w1.setCell ⟨z, 0, none⟩ (.string ⟨#[]⟩))) := Lib.hid (hb0.out.setCell (Nat.le_refl z) _)
  have bW : Hid (Blk (w1.setCell ⟨z, 0, none⟩ (.string ⟨#[]⟩)) z [.string ⟨#[]⟩, .bool false, .bool false, .bool false] 59) := Lib.hid (b0.out.set 0 (.string ⟨#[]⟩))
  have hW2 : Hid (StAt (w1.setCell ⟨z, 0, none⟩ (.string ⟨#[]⟩)) B sb a pot t n) := Lib.hid (hBOX.out _ (by rw [hz.out]; exact hbW.out))
  clear e0 e1 f0 lz b0 hb0 hW hBOX
  generalize w1.setCell ⟨z, 0, none⟩ (.string ⟨#[]⟩) = wW at hbW bW hW2 ⊢
  have hW := hW2
  clear hW2
  have e0 := bW.out.cell (i := 0) rfl
  have e1 := bW.out.cell (i := 1) rfl
  have e2 := bW.out.cell (i := 2) rfl
  have e3 := bW.out.cell (i := 3) rfl
  have lz := bW.out.lt
  have hd := th_delv hW.out.th k
  have c0 := hW.out.blk.cell (i := 0) rfl
  have hlt := hW.out.blk.lt
  unfold ptrV at hd c0
  go_wp2_with fail
  refine hd.mono ?_
  rintro e w5 ⟨rfl, q1, q2⟩
  have hfin : Hid (StAt w5 B sb a (pot + 2) (t.delv k).2 n ∧ FrT B a w w5) := Lib.hid ⟨hW.out.next q1 q2, (FrT.of_below (by rw [hz.out]; exact hbW.out)).trans q2⟩
  clear hd q1 q2 c0 hlt e0 e1 e2 e3 lz
  go_wp2
  go_ret
  exact ⟨rfl, hfin.out⟩
set_option maxRecDepth 100000 in
theorem Put_bad (h : StAt w B sb a pot t n) (k : ByteArray) (hk : k.size ≤ 1000000) (hnm : ¬ nameB k = true) (x0 : ByteArray) (x1 x2 x3 : Bool) :
    Calls Tryz.prog 39 #[ptrV sb, .string k, .agg #[.string x0, .bool x1, .bool x2, .bool x3]] w fun e w' => e = .returned (.int .i64 16) ∧ Below w.heap.size w w' := by
  have hb0 : Below w.heap.size w (w.alloc (.cells #[.string x0, .bool x1, .bool x2, .bool x3] 59)) := Below.of_alloc w _
  have hW := h.below hb0
  have hi := checkName_any hW.blk k hk
  unfold checkE at hi
  rw [if_neg hnm] at hi
  unfold ptrV at hi ⊢
  clear h hnm hW
  replace hb0 := Lib.hid hb0
  go_enter Tryz.func39, Tryz.ntmps39
  go_upto_region 1 with fail
  generalize (w.alloc (.cells #[.string x0, .bool x1, .bool x2, .bool x3] 59)) = w1 at hb0 hi ⊢
  go_wp2_with fail
  refine hi.mono ?_
  rintro e w' ⟨rfl, hw⟩
  obtain rfl := hw.symm
  go_wp2
  go_ret
  exact ⟨rfl, hb0.out⟩
theorem Put_any (h : StAt w B sb a pot t n) (k : ByteArray) (hk : k.size ≤ 200) (x : Vr) (hx : x.v.size ≤ 5000) :
    Calls Tryz.prog 39 #[ptrV sb, .string k, encV x] w fun e w' => e = .returned (.int .i64 (t.put k x).1) ∧ StAt w' B sb a (pot + 2) (t.put k x).2 n ∧ FrT B a w w' := by
  obtain ⟨x0, x1, x2, x3⟩ := x
  by_cases hnm : nameB k = true
  · have hT : ∀ y, t.put k y = if bareV y = noV then t.delv k else t.putv k (bareV y) := fun y => by unfold Tg.put; rw [if_pos hnm]
    cases x1
    · cases x2
      · cases x3
        · rw [show t.put k ⟨x0, false, false, false⟩ = t.delv k from (hT _).trans (if_pos rfl)]
          exact Put_no h k hk hnm x0
        · rw [show t.put k ⟨x0, false, false, true⟩ = t.putv k ⟨⟨#[]⟩, false, false, true⟩ from (hT _).trans (if_neg (fun e => by cases e))]
          exact Put_fix h k hk hnm x0
      · rw [show t.put k ⟨x0, false, true, x3⟩ = t.putv k ⟨⟨#[]⟩, false, true, x3⟩ from (hT _).trans (if_neg (fun e => by cases e))]
        exact Put_exp h k hk hnm x0 x3
    · rw [show t.put k ⟨x0, true, x2, x3⟩ = t.putv k ⟨x0, true, x2, x3⟩ from (hT _).trans (if_neg (fun e => by cases e))]
      exact Put_set h k hk hnm x0 hx x2 x3
  · rw [show t.put k ⟨x0, x1, x2, x3⟩ = (16, t) by unfold Tg.put; rw [if_neg hnm]]
    refine (Put_bad h k (by omega) hnm x0 x1 x2 x3).mono ?_
    rintro e w' ⟨rfl, hb⟩
    exact ⟨rfl, (h.below hb).mono (by omega), FrT.of_below hb⟩
end
end Go.Proofs.YtigmdfdcflkggaaGreat
/-
  Set, Unset and Mark of a state's variables. Conditions: keys of at most 200 bytes, values of at most a million.
-/
namespace Go.Proofs.YtigmdfdcflkggaaGreat
open Go Go.RowKit Go.ChangeMaps

section
variable {w w' : World} {B sb : Nat} {a : Ad} {pot : Nat} {t : Tg} {n : Int}
def Tg.setV (t : Tg) (k v : ByteArray) : Int × Tg :=
  if nameB k = true then (if 4096 < v.size then (21, t) else if (valV t k).f = true then (26, t) else t.putv k ⟨v, true, (valV t k).e || optB t 97, false⟩) else (16, t)
def Tg.unsetV (t : Tg) (k : ByteArray) : Int × Tg := if nameB k = true then (if (valV t k).f = true then (26, t) else t.delv k) else (16, t)
def Tg.markV (t : Tg) (k : ByteArray) (e f : Bool) : Int × Tg := t.put k ⟨(valV t k).v, (valV t k).s, (valV t k).e || e, (valV t k).f || f⟩
set_option maxRecDepth 100000 in
set_option maxHeartbeats 2000000 in
theorem Set_bad (h : StAt w B sb a pot t n) (k v : ByteArray) (hk : k.size ≤ 200) (hv1 : v.size ≤ 1000000) (hnm : ¬ nameB k = true) :
    Calls Tryz.prog 24 #[ptrV sb, .string k, .string v] w fun e w' => e = .returned (.int .i64 16) ∧ Below w.heap.size w w' := by
  have hc := checkName_any h.blk k (by omega)
  unfold checkE at hc
  rw [if_neg hnm] at hc
  have hvar := Var_any h k
  obtain ⟨V, hV⟩ : ∃ V, valV t k = V := ⟨_, rfl⟩
  rw [hV] at hvar
  obtain ⟨x0, x1, x2, x3⟩ := V
  unfold encV at hvar
  dsimp only at hvar
  unfold ptrV at hc hvar ⊢
  replace hV := Lib.hid hV
  clear h hnm
  go_enter Tryz.func24, Tryz.ntmps24
  go_wp2_with fail
  refine hc.mono ?_
  rintro e w' ⟨rfl, hw⟩
  obtain rfl := hw.symm
  clear hc hw
  go_wp2_with fail
  refine hvar.mono ?_
  rintro e w1 ⟨rfl, hb1⟩
  clear hvar
  go_upto_region 3 with fail
  have hbB : Below w.heap.size w (w1.alloc (.cells #[.string x0, .bool x1, .bool x2, .bool x3] 59)) := hb1.alloc hb1.size _
  have bB : Blk (w1.alloc (.cells #[.string x0, .bool x1, .bool x2, .bool x3] 59)) w1.heap.size [.string x0, .bool x1, .bool x2, .bool x3] 59 := Blk.new w1 _ _
  generalize (w1.alloc (.cells #[.string x0, .bool x1, .bool x2, .bool x3] 59)) = wB at hbB bB ⊢
  generalize w1.heap.size = z at bB ⊢
  replace hbB := Lib.hid hbB
  clear hb1
  clear bB
  go_wp2
  go_ret
  exact ⟨rfl, hbB.out⟩
set_option maxRecDepth 100000 in
set_option maxHeartbeats 2000000 in
theorem Set_big (h : StAt w B sb a pot t n) (k v : ByteArray) (hk : k.size ≤ 200) (hv1 : v.size ≤ 1000000) (hnm : nameB k = true) (hv : 4096 < v.size) :
    Calls Tryz.prog 24 #[ptrV sb, .string k, .string v] w fun e w' => e = .returned (.int .i64 21) ∧ Below w.heap.size w w' := by
  have hc := checkName_any h.blk k (by omega)
  unfold checkE at hc
  rw [if_pos hnm] at hc
  have hvar := Var_any h k
  obtain ⟨V, hV⟩ : ∃ V, valV t k = V := ⟨_, rfl⟩
  rw [hV] at hvar
  obtain ⟨x0, x1, x2, x3⟩ := V
  unfold encV at hvar
  dsimp only at hvar
  unfold ptrV at hc hvar ⊢
  replace hV := Lib.hid hV
  clear h hnm
  go_enter Tryz.func24, Tryz.ntmps24
  go_wp2_with fail
  refine hc.mono ?_
  rintro e w' ⟨rfl, hw⟩
  obtain rfl := hw.symm
  clear hc hw
  go_wp2_with fail
  refine hvar.mono ?_
  rintro e w1 ⟨rfl, hb1⟩
  clear hvar
  go_upto_region 3 with fail
  have hbB : Below w.heap.size w (w1.alloc (.cells #[.string x0, .bool x1, .bool x2, .bool x3] 59)) := hb1.alloc hb1.size _
  have bB : Blk (w1.alloc (.cells #[.string x0, .bool x1, .bool x2, .bool x3] 59)) w1.heap.size [.string x0, .bool x1, .bool x2, .bool x3] 59 := Blk.new w1 _ _
  generalize (w1.alloc (.cells #[.string x0, .bool x1, .bool x2, .bool x3] 59)) = wB at hbB bB ⊢
  generalize w1.heap.size = z at bB ⊢
  replace hbB := Lib.hid hbB
  clear hb1
  have hbC : Below w.heap.size w (wB.alloc (.cells #[.string v] 9)) := hbB.out.alloc hbB.out.size _
  have bC : Blk (wB.alloc (.cells #[.string v] 9)) wB.heap.size [.string v] 9 := Blk.new wB _ _
  have bB2 := bB.alloc (.cells #[.string v] 9)
  have htx : Txs (wB.alloc (.cells #[.string v] 9)) (some ⟨wB.heap.size, 0, none⟩) 1 1 [v] := ⟨rfl, Nat.le_refl _, by decide, fun _ => ⟨wB.heap.size, 0, rfl, bC.lt, fun j x hx => by
    cases j with
    | zero => cases hx; exact bC.cell (i := 0) rfl
    | succ j => cases hx⟩⟩
  have hg := tooGreat_any htx (fun s hs => by rw [List.mem_singleton] at hs; rw [hs]; exact hv1) (by decide)
  have hgr : greatL [v] = true := by unfold greatL; simp [hv]
  rw [hgr] at hg
  clear htx bC hgr
  have y3 := bB2.cell (i := 3) rfl
  have y2 := bB2.cell (i := 2) rfl
  have yl := bB2.lt
  have hbe3 := bB.cell (i := 3) rfl
  have hble := bB.lt
  unfold ptrV at *
  replace hbC := Lib.hid hbC
  go_wp2_with fail
  refine hg.mono ?_
  rintro e w' ⟨rfl, hw⟩
  obtain rfl := hw.symm
  generalize (wB.alloc (.cells #[.string v] 9)) = wC at hbC bB2 y3 y2 yl ⊢
  replace bB2 := Lib.hid bB2
  clear hg hw hbe3 hble bB
  go_wp2
  go_ret
  exact ⟨rfl, hbC.out⟩
set_option maxRecDepth 100000 in
set_option maxHeartbeats 2000000 in
theorem Set_fix (h : StAt w B sb a pot t n) (k v : ByteArray) (hk : k.size ≤ 200) (hv1 : v.size ≤ 1000000) (hnm : nameB k = true) (hv : ¬ 4096 < v.size) (hf : (valV t k).f = true) :
    Calls Tryz.prog 24 #[ptrV sb, .string k, .string v] w fun e w' => e = .returned (.int .i64 26) ∧ Below w.heap.size w w' := by
  have hc := checkName_any h.blk k (by omega)
  unfold checkE at hc
  rw [if_pos hnm] at hc
  have hvar := Var_any h k
  obtain ⟨V, hV⟩ : ∃ V, valV t k = V := ⟨_, rfl⟩
  rw [hV] at hf
  rw [hV] at hvar
  obtain ⟨x0, x1, x2, x3⟩ := V
  obtain rfl : x3 = _ := hf
  unfold encV at hvar
  dsimp only at hvar
  unfold ptrV at hc hvar ⊢
  replace hV := Lib.hid hV
  clear h hnm
  go_enter Tryz.func24, Tryz.ntmps24
  go_wp2_with fail
  refine hc.mono ?_
  rintro e w' ⟨rfl, hw⟩
  obtain rfl := hw.symm
  clear hc hw
  go_wp2_with fail
  refine hvar.mono ?_
  rintro e w1 ⟨rfl, hb1⟩
  clear hvar
  go_upto_region 3 with fail
  have hbB : Below w.heap.size w (w1.alloc (.cells #[.string x0, .bool x1, .bool x2, .bool true] 59)) := hb1.alloc hb1.size _
  have bB : Blk (w1.alloc (.cells #[.string x0, .bool x1, .bool x2, .bool true] 59)) w1.heap.size [.string x0, .bool x1, .bool x2, .bool true] 59 := Blk.new w1 _ _
  generalize (w1.alloc (.cells #[.string x0, .bool x1, .bool x2, .bool true] 59)) = wB at hbB bB ⊢
  generalize w1.heap.size = z at bB ⊢
  replace hbB := Lib.hid hbB
  clear hb1
  have hbC : Below w.heap.size w (wB.alloc (.cells #[.string v] 9)) := hbB.out.alloc hbB.out.size _
  have bC : Blk (wB.alloc (.cells #[.string v] 9)) wB.heap.size [.string v] 9 := Blk.new wB _ _
  have bB2 := bB.alloc (.cells #[.string v] 9)
  have htx : Txs (wB.alloc (.cells #[.string v] 9)) (some ⟨wB.heap.size, 0, none⟩) 1 1 [v] := ⟨rfl, Nat.le_refl _, by decide, fun _ => ⟨wB.heap.size, 0, rfl, bC.lt, fun j x hx => by
    cases j with
    | zero => cases hx; exact bC.cell (i := 0) rfl
    | succ j => cases hx⟩⟩
  have hg := tooGreat_any htx (fun s hs => by rw [List.mem_singleton] at hs; rw [hs]; exact hv1) (by decide)
  have hgr : greatL [v] = false := by unfold greatL; simp [hv]
  rw [hgr] at hg
  clear htx bC hgr
  have y3 := bB2.cell (i := 3) rfl
  have y2 := bB2.cell (i := 2) rfl
  have yl := bB2.lt
  have hbe3 := bB.cell (i := 3) rfl
  have hble := bB.lt
  unfold ptrV at *
  replace hbC := Lib.hid hbC
  go_wp2_with fail
  refine hg.mono ?_
  rintro e w' ⟨rfl, hw⟩
  obtain rfl := hw.symm
  generalize (wB.alloc (.cells #[.string v] 9)) = wC at hbC bB2 y3 y2 yl ⊢
  replace bB2 := Lib.hid bB2
  clear hg hw hbe3 hble bB
  go_wp2
  go_ret
  exact ⟨rfl, hbC.out⟩
set_option maxRecDepth 100000 in
set_option maxHeartbeats 2000000 in
theorem Set_exp (h : StAt w B sb a pot t n) (k v : ByteArray) (hk : k.size ≤ 200) (hv1 : v.size ≤ 1000000) (hnm : nameB k = true) (hv : ¬ 4096 < v.size) (hf : (valV t k).f = false) (he : (valV t k).e = true) :
    Calls Tryz.prog 24 #[ptrV sb, .string k, .string v] w fun e w' => e = .returned (.int .i64 (t.putv k ⟨v, true, true, false⟩).1) ∧ StAt w' B sb a (pot + 2) (t.putv k ⟨v, true, true, false⟩).2 n ∧ FrT B a w w' := by
  have hc := checkName_any h.blk k (by omega)
  unfold checkE at hc
  rw [if_pos hnm] at hc
  have hvar := Var_any h k
  have hput := fun (W : World) (hb : Below w.heap.size w W) (e : Bool) => Put_set (h.below hb) k hk hnm v (by omega) e false
  obtain ⟨V, hV⟩ : ∃ V, valV t k = V := ⟨_, rfl⟩
  rw [hV] at hf
  rw [hV] at he
  rw [hV] at hvar
  obtain ⟨x0, x1, x2, x3⟩ := V
  obtain rfl : x3 = _ := hf
  obtain rfl : x2 = _ := he
  unfold encV at hvar
  dsimp only at hvar
  unfold ptrV at hc hvar hput ⊢
  replace hput := Lib.hid hput
  replace hV := Lib.hid hV
  clear h hnm
  go_enter Tryz.func24, Tryz.ntmps24
  go_wp2_with fail
  refine hc.mono ?_
  rintro e w' ⟨rfl, hw⟩
  obtain rfl := hw.symm
  clear hc hw
  go_wp2_with fail
  refine hvar.mono ?_
  rintro e w1 ⟨rfl, hb1⟩
  clear hvar
  go_upto_region 3 with fail
  have hbB : Below w.heap.size w (w1.alloc (.cells #[.string x0, .bool x1, .bool true, .bool false] 59)) := hb1.alloc hb1.size _
  have bB : Blk (w1.alloc (.cells #[.string x0, .bool x1, .bool true, .bool false] 59)) w1.heap.size [.string x0, .bool x1, .bool true, .bool false] 59 := Blk.new w1 _ _
  generalize (w1.alloc (.cells #[.string x0, .bool x1, .bool true, .bool false] 59)) = wB at hbB bB ⊢
  generalize w1.heap.size = z at bB ⊢
  replace hbB := Lib.hid hbB
  clear hb1
  have hbC : Below w.heap.size w (wB.alloc (.cells #[.string v] 9)) := hbB.out.alloc hbB.out.size _
  have bC : Blk (wB.alloc (.cells #[.string v] 9)) wB.heap.size [.string v] 9 := Blk.new wB _ _
  have bB2 := bB.alloc (.cells #[.string v] 9)
  have htx : Txs (wB.alloc (.cells #[.string v] 9)) (some ⟨wB.heap.size, 0, none⟩) 1 1 [v] := ⟨rfl, Nat.le_refl _, by decide, fun _ => ⟨wB.heap.size, 0, rfl, bC.lt, fun j x hx => by
    cases j with
    | zero => cases hx; exact bC.cell (i := 0) rfl
    | succ j => cases hx⟩⟩
  have hg := tooGreat_any htx (fun s hs => by rw [List.mem_singleton] at hs; rw [hs]; exact hv1) (by decide)
  have hgr : greatL [v] = false := by unfold greatL; simp [hv]
  rw [hgr] at hg
  clear htx bC hgr
  have y3 := bB2.cell (i := 3) rfl
  have y2 := bB2.cell (i := 2) rfl
  have yl := bB2.lt
  have hbe3 := bB.cell (i := 3) rfl
  have hble := bB.lt
  unfold ptrV at *
  replace hbC := Lib.hid hbC
  go_wp2_with fail
  refine hg.mono ?_
  rintro e w' ⟨rfl, hw⟩
  obtain rfl := hw.symm
  generalize (wB.alloc (.cells #[.string v] 9)) = wC at hbC bB2 y3 y2 yl ⊢
  replace bB2 := Lib.hid bB2
  clear hg hw hbe3 hble bB
  have hp := hput.out wC hbC.out true
  go_wp2_with fail
  refine hp.mono ?_
  rintro e w5 ⟨rfl, q1, q2⟩
  have hfin := Lib.hid (And.intro q1 ((FrT.of_below hbC.out).trans q2))
  clear hp q1 q2
  go_wp2
  go_ret
  exact ⟨rfl, hfin.out⟩
set_option maxRecDepth 100000 in
set_option maxHeartbeats 2000000 in
theorem Set_opt (h : StAt w B sb a pot t n) (k v : ByteArray) (hk : k.size ≤ 200) (hv1 : v.size ≤ 1000000) (hnm : nameB k = true) (hv : ¬ 4096 < v.size) (hf : (valV t k).f = false) (he : (valV t k).e = false) :
    Calls Tryz.prog 24 #[ptrV sb, .string k, .string v] w fun e w' => e = .returned (.int .i64 (t.putv k ⟨v, true, optB t 97, false⟩).1) ∧ StAt w' B sb a (pot + 2) (t.putv k ⟨v, true, optB t 97, false⟩).2 n ∧ FrT B a w w' := by
  have hc := checkName_any h.blk k (by omega)
  unfold checkE at hc
  rw [if_pos hnm] at hc
  have hvar := Var_any h k
  have hput := fun (W : World) (hb : Below w.heap.size w W) (e : Bool) => Put_set (h.below hb) k hk hnm v (by omega) e false
  have hopt := fun (W : World) (hb : Below w.heap.size w W) => Option_any (h.below hb) 97
  obtain ⟨V, hV⟩ : ∃ V, valV t k = V := ⟨_, rfl⟩
  rw [hV] at hf
  rw [hV] at he
  rw [hV] at hvar
  obtain ⟨x0, x1, x2, x3⟩ := V
  obtain rfl : x3 = _ := hf
  obtain rfl : x2 = _ := he
  generalize optB t 97 = R at hopt hput ⊢
  unfold encV at hvar
  dsimp only at hvar
  unfold ptrV at hc hvar hput hopt ⊢
  replace hput := Lib.hid hput
  replace hopt := Lib.hid hopt
  replace hV := Lib.hid hV
  clear h hnm
  go_enter Tryz.func24, Tryz.ntmps24
  go_wp2_with fail
  refine hc.mono ?_
  rintro e w' ⟨rfl, hw⟩
  obtain rfl := hw.symm
  clear hc hw
  go_wp2_with fail
  refine hvar.mono ?_
  rintro e w1 ⟨rfl, hb1⟩
  clear hvar
  go_upto_region 3 with fail
  have hbB : Below w.heap.size w (w1.alloc (.cells #[.string x0, .bool x1, .bool false, .bool false] 59)) := hb1.alloc hb1.size _
  have bB : Blk (w1.alloc (.cells #[.string x0, .bool x1, .bool false, .bool false] 59)) w1.heap.size [.string x0, .bool x1, .bool false, .bool false] 59 := Blk.new w1 _ _
  generalize (w1.alloc (.cells #[.string x0, .bool x1, .bool false, .bool false] 59)) = wB at hbB bB ⊢
  generalize w1.heap.size = z at bB ⊢
  replace hbB := Lib.hid hbB
  clear hb1
  have hbC : Below w.heap.size w (wB.alloc (.cells #[.string v] 9)) := hbB.out.alloc hbB.out.size _
  have bC : Blk (wB.alloc (.cells #[.string v] 9)) wB.heap.size [.string v] 9 := Blk.new wB _ _
  have bB2 := bB.alloc (.cells #[.string v] 9)
  have htx : Txs (wB.alloc (.cells #[.string v] 9)) (some ⟨wB.heap.size, 0, none⟩) 1 1 [v] := ⟨rfl, Nat.le_refl _, by decide, fun _ => ⟨wB.heap.size, 0, rfl, bC.lt, fun j x hx => by
    cases j with
    | zero => cases hx; exact bC.cell (i := 0) rfl
    | succ j => cases hx⟩⟩
  have hg := tooGreat_any htx (fun s hs => by rw [List.mem_singleton] at hs; rw [hs]; exact hv1) (by decide)
  have hgr : greatL [v] = false := by unfold greatL; simp [hv]
  rw [hgr] at hg
  clear htx bC hgr
  have y3 := bB2.cell (i := 3) rfl
  have y2 := bB2.cell (i := 2) rfl
  have yl := bB2.lt
  have hbe3 := bB.cell (i := 3) rfl
  have hble := bB.lt
  unfold ptrV at *
  replace hbC := Lib.hid hbC
  go_wp2_with fail
  refine hg.mono ?_
  rintro e w' ⟨rfl, hw⟩
  obtain rfl := hw.symm
  generalize (wB.alloc (.cells #[.string v] 9)) = wC at hbC bB2 y3 y2 yl ⊢
  replace bB2 := Lib.hid bB2
  clear hg hw hbe3 hble bB
  have ho := hopt.out wC hbC.out
  go_wp2_with fail
  refine ho.mono ?_
  rintro e wD ⟨rfl, hbD⟩
  have hbE := Lib.hid (hbC.out.trans (hbD.mono hbC.out.size))
  have hp := hput.out wD hbE.out R
  clear ho hbD y3 y2 yl
  go_wp2_with fail
  refine hp.mono ?_
  rintro e w5 ⟨rfl, q1, q2⟩
  have hfin := Lib.hid (And.intro q1 ((FrT.of_below hbE.out).trans q2))
  clear hp q1 q2
  go_wp2
  go_ret
  exact ⟨rfl, hfin.out⟩
theorem Set_any (h : StAt w B sb a pot t n) (k v : ByteArray) (hk : k.size ≤ 200) (hv1 : v.size ≤ 1000000) :
    Calls Tryz.prog 24 #[ptrV sb, .string k, .string v] w fun e w' => e = .returned (.int .i64 (t.setV k v).1) ∧ StAt w' B sb a (pot + 2) (t.setV k v).2 n ∧ FrT B a w w' := by
  have no : ∀ er, t.setV k v = (er, t) → (Calls Tryz.prog 24 #[ptrV sb, .string k, .string v] w fun e w' => e = .returned (.int .i64 er) ∧ Below w.heap.size w w') → Calls Tryz.prog 24 #[ptrV sb, .string k, .string v] w fun e w' => e = .returned (.int .i64 (t.setV k v).1) ∧ StAt w' B sb a (pot + 2) (t.setV k v).2 n ∧ FrT B a w w' := fun er he hc => by
    rw [he]
    refine hc.mono ?_
    rintro e w' ⟨rfl, hb⟩
    exact ⟨rfl, (h.below hb).mono (by omega), FrT.of_below hb⟩
  by_cases hnm : nameB k = true
  · by_cases hv : 4096 < v.size
    · exact no 21 (by unfold Tg.setV; rw [if_pos hnm, if_pos hv]) (Set_big h k v hk hv1 hnm hv)
    · cases hf : (valV t k).f
      · have hT : t.setV k v = t.putv k ⟨v, true, (valV t k).e || optB t 97, false⟩ := by unfold Tg.setV; rw [if_pos hnm, if_neg hv, hf]; rfl
        rw [hT]
        cases he : (valV t k).e
        · rw [Bool.false_or]; exact Set_opt h k v hk hv1 hnm hv hf he
        · rw [Bool.true_or]; exact Set_exp h k v hk hv1 hnm hv hf he
      · exact no 26 (by unfold Tg.setV; rw [if_pos hnm, if_neg hv, hf]; rfl) (Set_fix h k v hk hv1 hnm hv hf)
  · exact no 16 (by unfold Tg.setV; rw [if_neg hnm]) (Set_bad h k v hk hv1 hnm)
set_option maxRecDepth 100000 in
set_option maxHeartbeats 2000000 in
theorem Mark_tt (h : StAt w B sb a pot t n) (k : ByteArray) (hk : k.size ≤ 200) (e f : Bool) (he : (valV t k).e = true) (hf : (valV t k).f = true) :
    Calls Tryz.prog 26 #[ptrV sb, .string k, .bool e, .bool f] w fun r w' => r = .returned (.int .i64 (t.markV k e f).1) ∧ StAt w' B sb a (pot + 2) (t.markV k e f).2 n ∧ FrT B a w w' := by
  have hvar := Var_any h k
  have hvb := h.vb k
  have hput := fun (W : World) (hb : Below w.heap.size w W) (x : Vr) (hx : x.v.size ≤ 5000) => Put_any (h.below hb) k hk x hx
  unfold Tg.markV
  obtain ⟨V, hV⟩ : ∃ V, valV t k = V := ⟨_, rfl⟩
  rw [hV] at hvar he hf hvb ⊢
  obtain ⟨x0, x1, x2, x3⟩ := V
  obtain rfl : x2 = _ := he
  obtain rfl : x3 = _ := hf
  unfold encV at hvar hput
  dsimp only at hvar hput ⊢
  unfold ptrV at hvar hput ⊢
  replace hput := Lib.hid hput
  replace hV := Lib.hid hV
  clear h
  obtain ⟨E, hE⟩ : ∃ E, (true || e) = E := ⟨_, rfl⟩
  obtain ⟨G, hG⟩ : ∃ G, (true || f) = G := ⟨_, rfl⟩
  rw [hE, hG]
  obtain rfl : E = true := hE.symm
  obtain rfl : G = true := hG.symm
  clear hE hG
  go_enter Tryz.func26, Tryz.ntmps26
  go_wp2_with fail
  refine hvar.mono ?_
  rintro r w1 ⟨rfl, hb1⟩
  clear hvar
  go_upto_region 2 with fail
  have hbB : Below w.heap.size w (w1.alloc (.cells #[.string x0, .bool x1, .bool true, .bool true] 59)) := hb1.alloc hb1.size _
  have bB : Blk (w1.alloc (.cells #[.string x0, .bool x1, .bool true, .bool true] 59)) w1.heap.size [.string x0, .bool x1, .bool true, .bool true] 59 := Blk.new w1 _ _
  have hsz := hb1.size
  generalize (w1.alloc (.cells #[.string x0, .bool x1, .bool true, .bool true] 59)) = wB at hbB bB ⊢
  generalize w1.heap.size = z at bB hsz ⊢
  have bC := bB.set 2 (.bool true)
  have hbC : Below w.heap.size w (wB.setCell ⟨z, 2, none⟩ (.bool true)) := hbB.setCell hsz _
  have bD := bC.set 3 (.bool true)
  have hbD : Hid (Below w.heap.size w ((wB.setCell ⟨z, 2, none⟩ (.bool true)).setCell ⟨z, 3, none⟩ (.bool true))) := Lib.hid (hbC.setCell hsz _)
  have y0 := bB.cell (i := 0) rfl
  have y1 := bB.cell (i := 1) rfl
  have y2 := bB.cell (i := 2) rfl
  have y3 := bB.cell (i := 3) rfl
  have f2 := bB.frozen 2
  have f3 := bB.frozen 3
  have yl := bB.lt
  replace bD := Lib.hid bD
  clear hb1 bB bC hbB hbC
  go_upto_region 4 with fail
  generalize ((wB.setCell ⟨z, 2, none⟩ (.bool true)).setCell ⟨z, 3, none⟩ (.bool true)) = wD at bD hbD ⊢
  clear y0 y1 y2 y3 f2 f3 yl
  have y0 := bD.out.cell (i := 0) rfl
  have y1 := bD.out.cell (i := 1) rfl
  have y2 := bD.out.cell (i := 2) rfl
  have y3 := bD.out.cell (i := 3) rfl
  have yl := bD.out.lt
  have hp := hput.out wD hbD.out ⟨x0, x1, true, true⟩ hvb
  go_wp2_with fail
  refine hp.mono ?_
  rintro r w5 ⟨rfl, q1, q2⟩
  have hfin := Lib.hid (And.intro q1 ((FrT.of_below hbD.out).trans q2))
  clear hp q1 q2 y0 y1 y2 y3 yl
  go_wp2
  go_ret
  exact ⟨rfl, hfin.out⟩
set_option maxRecDepth 100000 in
set_option maxHeartbeats 2000000 in
theorem Mark_tf (h : StAt w B sb a pot t n) (k : ByteArray) (hk : k.size ≤ 200) (e f : Bool) (he : (valV t k).e = true) (hf : (valV t k).f = false) :
    Calls Tryz.prog 26 #[ptrV sb, .string k, .bool e, .bool f] w fun r w' => r = .returned (.int .i64 (t.markV k e f).1) ∧ StAt w' B sb a (pot + 2) (t.markV k e f).2 n ∧ FrT B a w w' := by
  have hvar := Var_any h k
  have hvb := h.vb k
  have hput := fun (W : World) (hb : Below w.heap.size w W) (x : Vr) (hx : x.v.size ≤ 5000) => Put_any (h.below hb) k hk x hx
  unfold Tg.markV
  obtain ⟨V, hV⟩ : ∃ V, valV t k = V := ⟨_, rfl⟩
  rw [hV] at hvar he hf hvb ⊢
  obtain ⟨x0, x1, x2, x3⟩ := V
  obtain rfl : x2 = _ := he
  obtain rfl : x3 = _ := hf
  unfold encV at hvar hput
  dsimp only at hvar hput ⊢
  unfold ptrV at hvar hput ⊢
  replace hput := Lib.hid hput
  replace hV := Lib.hid hV
  clear h
  obtain ⟨E, hE⟩ : ∃ E, (true || e) = E := ⟨_, rfl⟩
  obtain ⟨G, hG⟩ : ∃ G, (false || f) = G := ⟨_, rfl⟩
  rw [hE, hG]
  obtain rfl : E = true := hE.symm
  obtain rfl : f = G := by rw [← hG]; rfl
  clear hE hG
  go_enter Tryz.func26, Tryz.ntmps26
  go_wp2_with fail
  refine hvar.mono ?_
  rintro r w1 ⟨rfl, hb1⟩
  clear hvar
  go_upto_region 2 with fail
  have hbB : Below w.heap.size w (w1.alloc (.cells #[.string x0, .bool x1, .bool true, .bool false] 59)) := hb1.alloc hb1.size _
  have bB : Blk (w1.alloc (.cells #[.string x0, .bool x1, .bool true, .bool false] 59)) w1.heap.size [.string x0, .bool x1, .bool true, .bool false] 59 := Blk.new w1 _ _
  have hsz := hb1.size
  generalize (w1.alloc (.cells #[.string x0, .bool x1, .bool true, .bool false] 59)) = wB at hbB bB ⊢
  generalize w1.heap.size = z at bB hsz ⊢
  have bC := bB.set 2 (.bool true)
  have hbC : Below w.heap.size w (wB.setCell ⟨z, 2, none⟩ (.bool true)) := hbB.setCell hsz _
  have bD := bC.set 3 (.bool f)
  have hbD : Hid (Below w.heap.size w ((wB.setCell ⟨z, 2, none⟩ (.bool true)).setCell ⟨z, 3, none⟩ (.bool f))) := Lib.hid (hbC.setCell hsz _)
  have y0 := bB.cell (i := 0) rfl
  have y1 := bB.cell (i := 1) rfl
  have y2 := bB.cell (i := 2) rfl
  have y3 := bB.cell (i := 3) rfl
  have f2 := bB.frozen 2
  have f3 := bB.frozen 3
  have yl := bB.lt
  replace bD := Lib.hid bD
  clear hb1 bB bC hbB hbC
  go_upto_region 4 with fail
  generalize ((wB.setCell ⟨z, 2, none⟩ (.bool true)).setCell ⟨z, 3, none⟩ (.bool f)) = wD at bD hbD ⊢
  clear y0 y1 y2 y3 f2 f3 yl
  have y0 := bD.out.cell (i := 0) rfl
  have y1 := bD.out.cell (i := 1) rfl
  have y2 := bD.out.cell (i := 2) rfl
  have y3 := bD.out.cell (i := 3) rfl
  have yl := bD.out.lt
  have hp := hput.out wD hbD.out ⟨x0, x1, true, f⟩ hvb
  go_wp2_with fail
  refine hp.mono ?_
  rintro r w5 ⟨rfl, q1, q2⟩
  have hfin := Lib.hid (And.intro q1 ((FrT.of_below hbD.out).trans q2))
  clear hp q1 q2 y0 y1 y2 y3 yl
  go_wp2
  go_ret
  exact ⟨rfl, hfin.out⟩
set_option maxRecDepth 100000 in
set_option maxHeartbeats 2000000 in
theorem Mark_ft (h : StAt w B sb a pot t n) (k : ByteArray) (hk : k.size ≤ 200) (e f : Bool) (he : (valV t k).e = false) (hf : (valV t k).f = true) :
    Calls Tryz.prog 26 #[ptrV sb, .string k, .bool e, .bool f] w fun r w' => r = .returned (.int .i64 (t.markV k e f).1) ∧ StAt w' B sb a (pot + 2) (t.markV k e f).2 n ∧ FrT B a w w' := by
  have hvar := Var_any h k
  have hvb := h.vb k
  have hput := fun (W : World) (hb : Below w.heap.size w W) (x : Vr) (hx : x.v.size ≤ 5000) => Put_any (h.below hb) k hk x hx
  unfold Tg.markV
  obtain ⟨V, hV⟩ : ∃ V, valV t k = V := ⟨_, rfl⟩
  rw [hV] at hvar he hf hvb ⊢
  obtain ⟨x0, x1, x2, x3⟩ := V
  obtain rfl : x2 = _ := he
  obtain rfl : x3 = _ := hf
  unfold encV at hvar hput
  dsimp only at hvar hput ⊢
  unfold ptrV at hvar hput ⊢
  replace hput := Lib.hid hput
  replace hV := Lib.hid hV
  clear h
  obtain ⟨E, hE⟩ : ∃ E, (false || e) = E := ⟨_, rfl⟩
  obtain ⟨G, hG⟩ : ∃ G, (true || f) = G := ⟨_, rfl⟩
  rw [hE, hG]
  obtain rfl : e = E := by rw [← hE]; rfl
  obtain rfl : G = true := hG.symm
  clear hE hG
  go_enter Tryz.func26, Tryz.ntmps26
  go_wp2_with fail
  refine hvar.mono ?_
  rintro r w1 ⟨rfl, hb1⟩
  clear hvar
  go_upto_region 2 with fail
  have hbB : Below w.heap.size w (w1.alloc (.cells #[.string x0, .bool x1, .bool false, .bool true] 59)) := hb1.alloc hb1.size _
  have bB : Blk (w1.alloc (.cells #[.string x0, .bool x1, .bool false, .bool true] 59)) w1.heap.size [.string x0, .bool x1, .bool false, .bool true] 59 := Blk.new w1 _ _
  have hsz := hb1.size
  generalize (w1.alloc (.cells #[.string x0, .bool x1, .bool false, .bool true] 59)) = wB at hbB bB ⊢
  generalize w1.heap.size = z at bB hsz ⊢
  have bC := bB.set 2 (.bool e)
  have hbC : Below w.heap.size w (wB.setCell ⟨z, 2, none⟩ (.bool e)) := hbB.setCell hsz _
  have bD := bC.set 3 (.bool true)
  have hbD : Hid (Below w.heap.size w ((wB.setCell ⟨z, 2, none⟩ (.bool e)).setCell ⟨z, 3, none⟩ (.bool true))) := Lib.hid (hbC.setCell hsz _)
  have y0 := bB.cell (i := 0) rfl
  have y1 := bB.cell (i := 1) rfl
  have y2 := bB.cell (i := 2) rfl
  have y3 := bB.cell (i := 3) rfl
  have f2 := bB.frozen 2
  have f3 := bB.frozen 3
  have yl := bB.lt
  replace bD := Lib.hid bD
  clear hb1 bB bC hbB hbC
  go_upto_region 4 with fail
  generalize ((wB.setCell ⟨z, 2, none⟩ (.bool e)).setCell ⟨z, 3, none⟩ (.bool true)) = wD at bD hbD ⊢
  clear y0 y1 y2 y3 f2 f3 yl
  have y0 := bD.out.cell (i := 0) rfl
  have y1 := bD.out.cell (i := 1) rfl
  have y2 := bD.out.cell (i := 2) rfl
  have y3 := bD.out.cell (i := 3) rfl
  have yl := bD.out.lt
  have hp := hput.out wD hbD.out ⟨x0, x1, e, true⟩ hvb
  go_wp2_with fail
  refine hp.mono ?_
  rintro r w5 ⟨rfl, q1, q2⟩
  have hfin := Lib.hid (And.intro q1 ((FrT.of_below hbD.out).trans q2))
  clear hp q1 q2 y0 y1 y2 y3 yl
  go_wp2
  go_ret
  exact ⟨rfl, hfin.out⟩
set_option maxRecDepth 100000 in
set_option maxHeartbeats 2000000 in
theorem Mark_ff (h : StAt w B sb a pot t n) (k : ByteArray) (hk : k.size ≤ 200) (e f : Bool) (he : (valV t k).e = false) (hf : (valV t k).f = false) :
    Calls Tryz.prog 26 #[ptrV sb, .string k, .bool e, .bool f] w fun r w' => r = .returned (.int .i64 (t.markV k e f).1) ∧ StAt w' B sb a (pot + 2) (t.markV k e f).2 n ∧ FrT B a w w' := by
  have hvar := Var_any h k
  have hvb := h.vb k
  have hput := fun (W : World) (hb : Below w.heap.size w W) (x : Vr) (hx : x.v.size ≤ 5000) => Put_any (h.below hb) k hk x hx
  unfold Tg.markV
  obtain ⟨V, hV⟩ : ∃ V, valV t k = V := ⟨_, rfl⟩
  rw [hV] at hvar he hf hvb ⊢
  obtain ⟨x0, x1, x2, x3⟩ := V
  obtain rfl : x2 = _ := he
  obtain rfl : x3 = _ := hf
  unfold encV at hvar hput
  dsimp only at hvar hput ⊢
  unfold ptrV at hvar hput ⊢
  replace hput := Lib.hid hput
  replace hV := Lib.hid hV
  clear h
  obtain ⟨E, hE⟩ : ∃ E, (false || e) = E := ⟨_, rfl⟩
  obtain ⟨G, hG⟩ : ∃ G, (false || f) = G := ⟨_, rfl⟩
  rw [hE, hG]
  obtain rfl : e = E := by rw [← hE]; rfl
  obtain rfl : f = G := by rw [← hG]; rfl
  clear hE hG
  go_enter Tryz.func26, Tryz.ntmps26
  go_wp2_with fail
  refine hvar.mono ?_
  rintro r w1 ⟨rfl, hb1⟩
  clear hvar
  go_upto_region 2 with fail
  have hbB : Below w.heap.size w (w1.alloc (.cells #[.string x0, .bool x1, .bool false, .bool false] 59)) := hb1.alloc hb1.size _
  have bB : Blk (w1.alloc (.cells #[.string x0, .bool x1, .bool false, .bool false] 59)) w1.heap.size [.string x0, .bool x1, .bool false, .bool false] 59 := Blk.new w1 _ _
  have hsz := hb1.size
  generalize (w1.alloc (.cells #[.string x0, .bool x1, .bool false, .bool false] 59)) = wB at hbB bB ⊢
  generalize w1.heap.size = z at bB hsz ⊢
  have bC := bB.set 2 (.bool e)
  have hbC : Below w.heap.size w (wB.setCell ⟨z, 2, none⟩ (.bool e)) := hbB.setCell hsz _
  have bD := bC.set 3 (.bool f)
  have hbD : Hid (Below w.heap.size w ((wB.setCell ⟨z, 2, none⟩ (.bool e)).setCell ⟨z, 3, none⟩ (.bool f))) := Lib.hid (hbC.setCell hsz _)
  have y0 := bB.cell (i := 0) rfl
  have y1 := bB.cell (i := 1) rfl
  have y2 := bB.cell (i := 2) rfl
  have y3 := bB.cell (i := 3) rfl
  have f2 := bB.frozen 2
  have f3 := bB.frozen 3
  have yl := bB.lt
  replace bD := Lib.hid bD
  clear hb1 bB bC hbB hbC
  go_upto_region 4 with fail
  generalize ((wB.setCell ⟨z, 2, none⟩ (.bool e)).setCell ⟨z, 3, none⟩ (.bool f)) = wD at bD hbD ⊢
  clear y0 y1 y2 y3 f2 f3 yl
  have y0 := bD.out.cell (i := 0) rfl
  have y1 := bD.out.cell (i := 1) rfl
  have y2 := bD.out.cell (i := 2) rfl
  have y3 := bD.out.cell (i := 3) rfl
  have yl := bD.out.lt
  have hp := hput.out wD hbD.out ⟨x0, x1, e, f⟩ hvb
  go_wp2_with fail
  refine hp.mono ?_
  rintro r w5 ⟨rfl, q1, q2⟩
  have hfin := Lib.hid (And.intro q1 ((FrT.of_below hbD.out).trans q2))
  clear hp q1 q2 y0 y1 y2 y3 yl
  go_wp2
  go_ret
  exact ⟨rfl, hfin.out⟩
theorem fieldF (x0 : ByteArray) (x1 x2 x3 : Bool) (W : World) : (Instr.field 59 (.agg #[.string x0, .bool x1, .bool x2, .bool x3]) 3).run Tryz.prog W = .ok (.bool x3) W := by kernel_rfl
theorem Mark_any (h : StAt w B sb a pot t n) (k : ByteArray) (hk : k.size ≤ 200) (e f : Bool) :
    Calls Tryz.prog 26 #[ptrV sb, .string k, .bool e, .bool f] w fun r w' => r = .returned (.int .i64 (t.markV k e f).1) ∧ StAt w' B sb a (pot + 2) (t.markV k e f).2 n ∧ FrT B a w w' := by
  cases he : (valV t k).e <;> cases hf : (valV t k).f
  · exact Mark_ff h k hk e f he hf
  · exact Mark_ft h k hk e f he hf
  · exact Mark_tf h k hk e f he hf
  · exact Mark_tt h k hk e f he hf
set_option maxRecDepth 100000 in
theorem Unset_any (h : StAt w B sb a pot t n) (k : ByteArray) (hk : k.size ≤ 200) :
    Calls Tryz.prog 27 #[ptrV sb, .string k] w fun e w' => e = .returned (.int .i64 (t.unsetV k).1) ∧ StAt w' B sb a (pot + 2) (t.unsetV k).2 n ∧ FrT B a w w' := by
  have hc := checkName_any h.blk k (by omega)
  unfold checkE at hc
  have hno := fun (W : World) (hb : Below w.heap.size w W) => (show StAt W B sb a (pot + 2) t n ∧ FrT B a w W from ⟨(h.below hb).mono (by omega), FrT.of_below hb⟩)
  replace hno := Lib.hid hno
  have hbw : Hid (Below w.heap.size w w) := Lib.hid (Below.refl _ w)
  by_cases hnm : nameB k = true
  · rw [if_pos hnm] at hc
    have hvar := Var_any h k
    have hdel := fun (W : World) (hb : Below w.heap.size w W) => th_delv (h.below hb).th k
    have hs := fun (W : World) (hb : Below w.heap.size w W) => h.below hb
    have hT : t.unsetV k = if (valV t k).f = true then (26, t) else t.delv k := by unfold Tg.unsetV; rw [if_pos hnm]
    rw [hT]
    obtain ⟨V, hV⟩ : ∃ V, valV t k = V := ⟨_, rfl⟩
    rw [hV] at hvar ⊢
    obtain ⟨x0, x1, x2, x3⟩ := V
    unfold encV at hvar
    dsimp only at hvar ⊢
    unfold ptrV at hc hvar hdel ⊢
    replace hdel := Lib.hid hdel
    replace hs := Lib.hid hs
    replace hV := Lib.hid hV
    clear h hnm hT
    have hfl := fieldF x0 x1 x2 x3
    cases x3
    · rw [if_neg (by decide)]
      go_enter Tryz.func27, Tryz.ntmps27
      go_wp2_with fail
      refine hc.mono ?_
      rintro e w' ⟨rfl, hw⟩
      obtain rfl := hw.symm
      clear hc hw
      go_wp2_with fail
      refine hvar.mono ?_
      rintro e w1 ⟨rfl, hb1⟩
      clear hvar
      have hS1 := hs.out w1 hb1
      have c0 := hS1.blk.cell (i := 0) rfl
      have cl := hS1.blk.lt
      have hd := hdel.out w1 hb1
      unfold ptrV at c0
      replace hb1 := Lib.hid hb1
      replace hS1 := Lib.hid hS1
      go_wp2_with fail
      refine hd.mono ?_
      rintro e w5 ⟨rfl, q1, q2⟩
      have hfin := Lib.hid (And.intro (hS1.out.next q1 q2) ((FrT.of_below hb1.out).trans q2))
      clear hd q1 q2 c0 cl
      go_wp2
      go_ret
      exact ⟨rfl, hfin.out⟩
    · rw [if_pos rfl]
      go_enter Tryz.func27, Tryz.ntmps27
      go_wp2_with fail
      refine hc.mono ?_
      rintro e w' ⟨rfl, hw⟩
      obtain rfl := hw.symm
      clear hc hw
      go_wp2_with fail
      refine hvar.mono ?_
      rintro e w1 ⟨rfl, hb1⟩
      have hfin := Lib.hid (hno.out w1 hb1)
      clear hvar hb1
      go_wp2
      go_ret
      exact ⟨rfl, hfin.out⟩
  · rw [if_neg hnm] at hc
    have hT : t.unsetV k = (16, t) := by unfold Tg.unsetV; rw [if_neg hnm]
    rw [hT]
    unfold ptrV at hc ⊢
    clear h hnm hT
    go_enter Tryz.func27, Tryz.ntmps27
    go_wp2_with fail
    refine hc.mono ?_
    rintro e w' ⟨rfl, hw⟩
    obtain rfl := hw.symm
    clear hc hw
    have hfin := Lib.hid (hno.out _ hbw.out)
    go_wp2
    go_ret
    exact ⟨rfl, hfin.out⟩
end
end Go.Proofs.YtigmdfdcflkggaaGreat
