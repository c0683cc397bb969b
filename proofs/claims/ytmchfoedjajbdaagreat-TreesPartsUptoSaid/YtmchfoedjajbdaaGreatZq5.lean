/-
  trees: the small questions that Check asks: kinds of lists, fields.
-/
import Derived.Shelf.Small.Strs
import Derived.Lib.IndexBytes
import Derived.BigQuiet
import Derived.Test.YtmchfoedjajbdaaGreatZq4
set_option linter.unusedSimpArgs false
set_option linter.unusedVariables false
namespace Go.Proofs.YtmchfoedjajbdaaGreat
open Go Go.RowKit Go.ChangeMaps

/-- The kind of a list of one command. -/
def kindP : F → Int
  | .node k _ _ _ _ _ _ _ _ .nil => k
  | _ => 0
/-- A bit, or none. -/
def bitP (h : Bool) (b : Int) : Int := if h then b else 0
def pipedP (f : F) : Bool := !(kindP f == 0 || kindP f == 3 || kindP f == 4 || kindP f == 5)
section
variable {w0 w : World} {A : Option Addr} {c0 : Nat} {f g : F}
set_option maxRecDepth 100000 in
theorem bit_any (h : Bool) (b : Int) : Calls Tryz.prog 117 #[.bool h, .int .i64 b] w fun e w' => e = .returned (.int .i64 (bitP h b)) ∧ w' = w := by
  cases h
  · rw [show bitP false b = 0 from rfl]
    go_enter Tryz.func117, Tryz.ntmps117
    go_wp2
    exact bodyPost_ret (v := .int .i64 0) (by simp [results, Tryz.results117, go_sem]) rfl ⟨rfl, rfl⟩
  · rw [show bitP true b = b from rfl]
    go_enter Tryz.func117, Tryz.ntmps117
    go_wp2
    exact bodyPost_ret (v := .int .i64 b) (by simp [results, Tryz.results117, go_sem]) rfl ⟨rfl, rfl⟩
set_option maxRecDepth 100000 in
theorem isFull_any (hs : Slc w0 A c0 f) : Calls Tryz.prog 110 #[.slice A f.len c0] w fun e w' => e = .returned (.bool (decide (0 < f.len))) ∧ w' = w := by
  have hm := hs.1
  have hcm := hs.2.1
  unfold maxLen at hcm
  obtain ⟨N, hN⟩ : ∃ N, f.len = N := ⟨_, rfl⟩
  rw [hN] at hm ⊢
  clear hs hN
  go_enter Tryz.func110, Tryz.ntmps110
  go_wp2
  exact bodyPost_ret (v := .bool (decide (0 < N))) (by simp [results, Tryz.results110, go_sem]) rfl ⟨rfl, rfl⟩
set_option maxRecDepth 100000 in
set_option maxHeartbeats 4000000 in
theorem kindOf_any (ht : Ty f 0) (hs : Slc w0 A c0 f) (hb : Below w0.heap.size w0 w) : Calls Tryz.prog 108 #[.slice A f.len c0] w fun e w' => e = .returned (.int .i64 (kindP f)) ∧ w' = w := by
  have hm := hs.1
  have hcm := hs.2.1
  unfold maxLen at hcm
  by_cases h1 : f.len = 1
  · obtain ⟨B, o, rfl, hBl, hrw⟩ := hs.2.2 (by omega)
    obtain ⟨k, b, n1, g1, S, W, R, L, C, r, rfl, _, htS, htW, htR, htL, htC, htr⟩ := at_node ht (by omega)
    obtain ⟨e0', _⟩ := rw_node.1 hrw
    have e0 := cell_below hb hBl e0'
    have hl := Nat.lt_of_lt_of_le hBl hb.size
    have hr : r = .nil := len0 (by have : r.len + 1 = 1 := h1; omega)
    subst hr
    rw [h1] at hm ⊢
    rw [show kindP (.node k b n1 g1 S W R L C .nil) = k from rfl]
    clear hs hrw htS htW htR htL htC htr ht h1 e0' hBl hb
    go_enter Tryz.func108, Tryz.ntmps108
    go_wp2
    exact bodyPost_ret (v := .int .i64 k) (by simp [results, Tryz.results108, go_sem]) rfl ⟨rfl, rfl⟩
  · have hk : kindP f = 0 := by
      cases f with
      | node k b n1 g1 S W R L C r =>
        cases r with
        | nil => exact absurd rfl h1
        | _ => rfl
      | _ => rfl
    rw [hk]
    obtain ⟨N, hN⟩ : ∃ N, f.len = N := ⟨_, rfl⟩
    rw [hN] at hm h1 ⊢
    have h2 : ((N : Int) == 1) = false := beq_eq_false_iff_ne.2 (by omega)
    have h3 : ¬ (N : Int) = 1 := by omega
    clear hs hN hk ht hb
    go_enter Tryz.func108, Tryz.ntmps108
    go_wp2
    exact bodyPost_ret (v := .int .i64 0) (by simp [results, Tryz.results108, go_sem]) rfl ⟨rfl, rfl⟩
set_option maxRecDepth 100000 in
set_option maxHeartbeats 4000000 in
theorem isPiped_any (ht : Ty f 0) (hs : Slc w0 A c0 f) (hb : Below w0.heap.size w0 w) : Calls Tryz.prog 109 #[.slice A f.len c0] w fun e w' => e = .returned (.bool (pipedP f)) ∧ w' = w := by
  have hc := kindOf_any ht hs hb
  unfold pipedP
  generalize f.len = N at hc ⊢
  generalize kindP f = k at hc ⊢
  clear ht hs hb
  obtain ⟨v, hv⟩ : ∃ v, (!(k == 0 || k == 3 || k == 4 || k == 5)) = v := ⟨_, rfl⟩
  rw [hv]
  go_enter Tryz.func109, Tryz.ntmps109
  go_wp2_with fail
  refine hc.mono ?_
  rintro e w5 ⟨rfl, rfl⟩
  clear hc
  by_cases h0 : k = 0
  · subst h0
    obtain rfl : v = false := hv.symm
    go_wp2
    exact bodyPost_ret (v := .bool false) (by simp [results, Tryz.results109, go_sem]) rfl ⟨rfl, rfl⟩
  by_cases h3 : k = 3
  · subst h3
    obtain rfl : v = false := hv.symm
    go_wp2
    exact bodyPost_ret (v := .bool false) (by simp [results, Tryz.results109, go_sem]) rfl ⟨rfl, rfl⟩
  by_cases h4 : k = 4
  · subst h4
    obtain rfl : v = false := hv.symm
    go_wp2
    exact bodyPost_ret (v := .bool false) (by simp [results, Tryz.results109, go_sem]) rfl ⟨rfl, rfl⟩
  by_cases h5 : k = 5
  · subst h5
    obtain rfl : v = false := hv.symm
    go_wp2
    exact bodyPost_ret (v := .bool false) (by simp [results, Tryz.results109, go_sem]) rfl ⟨rfl, rfl⟩
  obtain rfl : v = true := by rw [← hv]; simp [h0, h3, h4, h5]
  have g0 : (k == 0) = false := by simp [h0]
  have g3 : (k == 3) = false := by simp [h3]
  have g4 : (k == 4) = false := by simp [h4]
  have g5 : (k == 5) = false := by simp [h5]
  clear hv
  go_wp2
  exact bodyPost_ret (v := .bool true) (by simp [results, Tryz.results109, go_sem]) rfl ⟨rfl, rfl⟩
set_option maxRecDepth 100000 in
set_option maxHeartbeats 4000000 in
theorem isStage_any (ht : Ty f 0) (hs : Slc w0 A c0 f) (hb : Below w0.heap.size w0 w) : Calls Tryz.prog 107 #[.slice A f.len c0] w fun e w' => e = .returned (.bool (pipedP f && !(kindP f == 2))) ∧ w' = w := by
  have hc1 := isPiped_any ht hs hb
  have hc2 := kindOf_any ht hs hb
  generalize f.len = N at hc1 hc2 ⊢
  generalize kindP f = k at hc2 ⊢
  generalize pipedP f = b at hc1 ⊢
  clear ht hs hb
  obtain ⟨v, hv⟩ : ∃ v, (b && !(k == 2)) = v := ⟨_, rfl⟩
  rw [hv]
  go_enter Tryz.func107, Tryz.ntmps107
  go_wp2_with fail
  refine hc1.mono ?_
  rintro e w5 ⟨rfl, rfl⟩
  clear hc1
  cases b
  · obtain rfl : v = false := hv.symm
    clear hc2
    go_wp2
    exact bodyPost_ret (v := .bool false) (by simp [results, Tryz.results107, go_sem]) rfl ⟨rfl, rfl⟩
  · go_wp2_with fail
    refine hc2.mono ?_
    rintro e w6 ⟨rfl, rfl⟩
    clear hc2
    have hk : (k != 2) = v := by rw [← hv]; rfl
    clear hv
    go_wp2
    exact bodyPost_ret (v := .bool v) (by simp [results, Tryz.results107, go_sem, hk]) rfl ⟨rfl, rfl⟩
end
end Go.Proofs.YtmchfoedjajbdaaGreat
/-
  trees: which fields a piece, and a command, has.
-/
set_option linter.unusedSimpArgs false
set_option linter.unusedVariables false
namespace Go.Proofs.YtmchfoedjajbdaaGreat
open Go Go.RowKit Go.ChangeMaps
/-- Which fields a piece has, one bit each. -/
def pfP (t : ByteArray) (p : Int) (c : Bool) (mK mY : Nat) : Int := bits BinOp.or IntKind.i64 (bits BinOp.or IntKind.i64 (bits BinOp.or IntKind.i64 (bits BinOp.or IntKind.i64 (bitP (!t.toList.isEmpty) 1) (bitP (p != 0) 2)) (bitP c 4)) (bitP (decide (0 < mK)) 8)) (bitP (decide (0 < mY)) 16)
/-- Which fields a command has. -/
def cfP (b : Bool) (n : ByteArray) (g : Bool) (mS mW mR mL mC : Nat) : Int := bits BinOp.or IntKind.i64 (bits BinOp.or IntKind.i64 (bits BinOp.or IntKind.i64 (bits BinOp.or IntKind.i64 (bits BinOp.or IntKind.i64 (bits BinOp.or IntKind.i64 (bits BinOp.or IntKind.i64 (bitP b 32) (bitP (!n.toList.isEmpty) 64)) (bitP g 128)) (bitP (decide (0 < mS)) 256)) (bitP (decide (0 < mW)) 512)) (bitP (decide (0 < mR)) 1024)) (bitP (decide (0 < mL)) 2048)) (bitP (decide (0 < mC)) 4096)
section
variable {w0 w : World} {A : Option Addr} {c0 : Nat} {f g : F}
set_option maxRecDepth 100000 in
set_option maxHeartbeats 4000000 in
theorem pieceFields_any {k p : Int} {t : ByteArray} {c : Bool} {AK AY : Option Addr} {mK cK mY cY : Nat} (h1 : mK ≤ 4194304) (h2 : mY ≤ 4194304) : Calls Tryz.prog 148 #[.agg #[.int .i64 k, .string t, .int .i64 p, .bool c, .slice AK mK cK, .slice AY mY cY]] w fun e w' => e = .returned (.int .i64 (pfP t p c mK mY)) ∧ Below w.heap.size w w' := by
  obtain ⟨v, hv⟩ : ∃ v, pfP t p c mK mY = v := ⟨_, rfl⟩
  rw [hv]
  go_enter Tryz.func148, Tryz.ntmps148
  go_upto_region 1 with fail
  go_quiet ((go_at_call 117; refine Calls.quiet_of_same (bit_any _ _)))
  unfold pfP at hv
  go_wp2
  refine bodyPost_ret (v := .int .i64 (v)) (by simp [results, Tryz.results148, go_sem, hv]) rfl ⟨rfl, ?_⟩
  exact ((Below.refl _ w).alloc (Nat.le_refl _) _).trans ((drewN_below _ nq).mono (by rw [World.size_alloc]; omega))
set_option maxRecDepth 100000 in
set_option maxHeartbeats 4000000 in
theorem commandFields_any {k : Int} {b g : Bool} {n : ByteArray} {AS AW AR AL AC : Option Addr} {mS cS mW cW mR cR mL cL mC cC : Nat} : Calls Tryz.prog 78 #[.agg #[.int .i64 k, .bool b, .string n, .bool g, .slice AS mS cS, .slice AW mW cW, .slice AR mR cR, .slice AL mL cL, .slice AC mC cC]] w fun e w' => e = .returned (.int .i64 (cfP b n g mS mW mR mL mC)) ∧ Below w.heap.size w w' := by
  obtain ⟨v, hv⟩ : ∃ v, cfP b n g mS mW mR mL mC = v := ⟨_, rfl⟩
  rw [hv]
  go_enter Tryz.func78, Tryz.ntmps78
  go_upto_region 1 with fail
  go_quiet ((go_at_call 117; refine Calls.quiet_of_same (bit_any _ _)))
  unfold cfP at hv
  go_wp2
  refine bodyPost_ret (v := .int .i64 (v)) (by simp [results, Tryz.results78, go_sem, hv]) rfl ⟨rfl, ?_⟩
  exact ((Below.refl _ w).alloc (Nat.le_refl _) _).trans ((drewN_below _ nq).mono (by rw [World.size_alloc]; omega))
end
end Go.Proofs.YtmchfoedjajbdaaGreat
/-
  trees: what a name is, and what is reserved.
-/
namespace Go.Proofs.YtmchfoedjajbdaaGreat
open Go Go.Shelf Go.RowKit Go.ChangeMaps

def shRen : Ren := ⟨fun | 137 => 101 | 217 => 126 | 266 => 139 | n => n, fun | 3 => 3 | 5 => 5 | 9 => 9 | n => n, fun n => n⟩
theorem sh137 : Lays.n137 Tryz.prog shRen := {
  mixed := by kernel_rfl
  f137 := Tryz.func101.trans (congrArg some (by kernel_rfl))
  f217 := Tryz.func126.trans (congrArg some (by kernel_rfl))
  f266 := Tryz.func139.trans (congrArg some (by kernel_rfl))
  t3 := Tryz.underlying3
  a3 := Tryz.isAgg3
  z3 := Tryz.sizeOf3
  v3 := Tryz.zeroValue3
  t5 := Tryz.underlying5
  a5 := Tryz.isAgg5
  z5 := Tryz.sizeOf5
  v5 := Tryz.zeroValue5
  t9 := Tryz.underlying9
  a9 := Tryz.isAgg9
  z9 := Tryz.sizeOf9
  v9 := Tryz.zeroValue9 }
theorem indexByte (s : ByteArray) (c : Int) (w : World) :
    Calls Tryz.prog 101 #[.string s, .int .u8 c] w fun e w' => e = .returned (.int .i64 (Lib.indexByte s.data.toList c.toNat.toUInt8)) ∧ w' = w :=
  Any.strings_IndexByte sh137 s c w

/-- A byte that is a letter, a digit or one of those others. -/
def allow (others : ByteArray) (b : UInt8) : Bool := (97 ≤ b.toNat && b.toNat ≤ 122) || (65 ≤ b.toNat && b.toNat ≤ 90) || (48 ≤ b.toNat && b.toNat ≤ 57) || decide (0 ≤ Lib.indexByte others.data.toList b)
def allB (s others : ByteArray) : Bool := s.data.toList.all (allow others)
def nameB (s : ByteArray) : Bool := if h : 0 < s.size then !(decide (48 ≤ s[0].toNat) && decide (s[0].toNat ≤ 57)) && allB s ⟨#[95]⟩ else false
theorem allB_iff (s others : ByteArray) : allB s others = true ↔ ∀ j (h : j < s.size), allow others s[j] = true := by
  unfold allB
  rw [List.all_eq_true]
  constructor
  · intro h j hj
    exact h _ (List.mem_of_getElem? (i := j) (by rw [List.getElem?_eq_getElem (by simpa using hj)]; rfl))
  · intro h x hx
    obtain ⟨j, hj, e⟩ := List.getElem_of_mem hx
    have := h j (by simpa using hj)
    rw [← e]; exact this
theorem allB_no {s others : ByteArray} {j : Nat} (h : j < s.size) (e : allow others s[j] = false) : allB s others = false := by
  cases hb : allB s others
  · rfl
  · have := (allB_iff s others).1 hb j h
    rw [e] at this; cases this
section
variable {w : World}
set_option maxRecDepth 100000 in
set_option maxHeartbeats 4000000 in
theorem allOf_any (s others : ByteArray) (hs : s.size ≤ 1000000) (w : World) :
    Calls Tryz.prog 58 #[.string s, .string others] w fun e w' => e = .returned (.bool (allB s others)) ∧ w' = w := by
  have hix := fun c => indexByte others c w
  obtain ⟨R, hR⟩ : ∃ R, allB s others = R := ⟨_, rfl⟩
  rw [hR]
  replace hR := Lib.hid hR
  replace hix := Lib.hid hix
  go_enter Tryz.func58, Tryz.ntmps58
  go_wp2
  go_loopw [10] (fun i wr => ∃ k : Nat, k ≤ s.size ∧ i = .int .i64 (k : Int) ∧ Hid (∀ j (h : j < s.size), j < k → allow others s[j] = true) ∧ Hid (wr = w)) (fun i _ => s.size - (intOf i).toNat)
  case atStart => exact ⟨0, Nat.zero_le _, rfl, Lib.hid (fun _ _ h => absurd h (Nat.not_lt_zero _)), Lib.hid rfl⟩
  case round =>
    obtain ⟨k, hk, rfl, hall, hw⟩ := hrel
    obtain rfl := hw.out
    clear hw
    by_cases hlt : k < s.size
    · have hi1 : (k : Int) < (s.size : Int) := by omega
      have hn : s[k].toNat < 256 := s[k].toNat_lt
      have hxx := hix.out (s[k].toNat : Int)
      have hbk : ((s[k].toNat : Int)).toNat.toUInt8 = s[k] := by simp
      rw [hbk] at hxx
      have hallow : allow others s[k] = ((97 ≤ s[k].toNat && s[k].toNat ≤ 122) || (65 ≤ s[k].toNat && s[k].toNat ≤ 90) || (48 ≤ s[k].toNat && s[k].toNat ≤ 57) || decide (0 ≤ Lib.indexByte others.data.toList s[k])) := rfl
      have hyes : allow others s[k] = true → Hid (∀ j (h : j < s.size), j < k + 1 → allow others s[j] = true) := fun e => Lib.hid (fun j h hj => by
        by_cases q : j = k
        · subst q; exact e
        · exact hall.out j h (by omega))
      have hno : allow others s[k] = false → Hid (R = false) := fun e => Lib.hid (by rw [← hR.out]; exact allB_no hlt e)
      generalize Lib.indexByte others.data.toList s[k] = ix at hxx hallow
      replace hyes := Lib.hid hyes
      replace hno := Lib.hid hno
      replace hxx := Lib.hid hxx
      replace hallow := Lib.hid hallow
      rcases (by omega : (0 ≤ s[k].toNat ∧ s[k].toNat ≤ 47) ∨ (48 ≤ s[k].toNat ∧ s[k].toNat ≤ 57) ∨ (58 ≤ s[k].toNat ∧ s[k].toNat ≤ 64) ∨ (65 ≤ s[k].toNat ∧ s[k].toNat ≤ 90) ∨ (91 ≤ s[k].toNat ∧ s[k].toNat ≤ 96) ∨ (97 ≤ s[k].toNat ∧ s[k].toNat ≤ 122) ∨ (123 ≤ s[k].toNat ∧ s[k].toNat ≤ 255)) with ⟨r1, r2⟩ | ⟨r1, r2⟩ | ⟨r1, r2⟩ | ⟨r1, r2⟩ | ⟨r1, r2⟩ | ⟨r1, r2⟩ | ⟨r1, r2⟩
      · skip
        have a1 : ¬ ((97 : Int) ≤ (s[k].toNat : Int)) := by omega
        have a2 : ((s[k].toNat : Int) ≤ 122) := by omega
        have a3 : ¬ ((65 : Int) ≤ (s[k].toNat : Int)) := by omega
        have a4 : ((s[k].toNat : Int) ≤ 90) := by omega
        have a5 : ((s[k].toNat : Int) < 48) := by omega
        have a6 : ¬ ((57 : Int) < (s[k].toNat : Int)) := by omega
        have ha : allow others s[k] = decide (0 ≤ ix) := by
          rw [hallow.out]
          have b1 : (decide (97 ≤ s[k].toNat) && decide (s[k].toNat ≤ 122)) = false := by simp; omega
          have b2 : (decide (65 ≤ s[k].toNat) && decide (s[k].toNat ≤ 90)) = false := by simp; omega
          have b3 : (decide (48 ≤ s[k].toNat) && decide (s[k].toNat ≤ 57)) = false := by simp; omega
          rw [b1, b2, b3]
          simp
        by_cases hneg : ix < 0
        · have hf := hno.out (by rw [ha]; simp; omega)
          clear hyes hno hallow ha hall r1 r2
          go_wp2_with fail
          refine hxx.out.mono ?_
          rintro e w' ⟨rfl, hw⟩
          obtain rfl := hw.symm
          go_wp2
          go_ret
          exact ⟨by rw [hf.out]; rfl, rfl⟩
        · have hy2 := hyes.out (by rw [ha]; simp; omega)
          clear hyes hno hallow ha hall r1 r2
          go_wp2_with fail
          refine hxx.out.mono ?_
          rintro e w' ⟨rfl, hw⟩
          obtain rfl := hw.symm
          go_wp2
          go_roundw
          case rel => exact ⟨k + 1, by omega, by go_num, hy2, Lib.hid (by trivial)⟩
          case measure => simp [intOf]; omega
      · skip
        have a1 : ¬ ((97 : Int) ≤ (s[k].toNat : Int)) := by omega
        have a2 : ((s[k].toNat : Int) ≤ 122) := by omega
        have a3 : ¬ ((65 : Int) ≤ (s[k].toNat : Int)) := by omega
        have a4 : ((s[k].toNat : Int) ≤ 90) := by omega
        have a5 : ¬ ((s[k].toNat : Int) < 48) := by omega
        have a6 : ¬ ((57 : Int) < (s[k].toNat : Int)) := by omega
        have ha : allow others s[k] = true := by rw [hallow.out]; simp [r1, r2]
        have hy2 := hyes.out ha
        clear hyes hno hxx hallow ha hall r1 r2
        go_wp2
        go_roundw
        case rel => exact ⟨k + 1, by omega, by go_num, hy2, Lib.hid (by trivial)⟩
        case measure => simp [intOf]; omega
      · skip
        have a1 : ¬ ((97 : Int) ≤ (s[k].toNat : Int)) := by omega
        have a2 : ((s[k].toNat : Int) ≤ 122) := by omega
        have a3 : ¬ ((65 : Int) ≤ (s[k].toNat : Int)) := by omega
        have a4 : ((s[k].toNat : Int) ≤ 90) := by omega
        have a5 : ¬ ((s[k].toNat : Int) < 48) := by omega
        have a6 : ((57 : Int) < (s[k].toNat : Int)) := by omega
        have ha : allow others s[k] = decide (0 ≤ ix) := by
          rw [hallow.out]
          have b1 : (decide (97 ≤ s[k].toNat) && decide (s[k].toNat ≤ 122)) = false := by simp; omega
          have b2 : (decide (65 ≤ s[k].toNat) && decide (s[k].toNat ≤ 90)) = false := by simp; omega
          have b3 : (decide (48 ≤ s[k].toNat) && decide (s[k].toNat ≤ 57)) = false := by simp; omega
          rw [b1, b2, b3]
          simp
        by_cases hneg : ix < 0
        · have hf := hno.out (by rw [ha]; simp; omega)
          clear hyes hno hallow ha hall r1 r2
          go_wp2_with fail
          refine hxx.out.mono ?_
          rintro e w' ⟨rfl, hw⟩
          obtain rfl := hw.symm
          go_wp2
          go_ret
          exact ⟨by rw [hf.out]; rfl, rfl⟩
        · have hy2 := hyes.out (by rw [ha]; simp; omega)
          clear hyes hno hallow ha hall r1 r2
          go_wp2_with fail
          refine hxx.out.mono ?_
          rintro e w' ⟨rfl, hw⟩
          obtain rfl := hw.symm
          go_wp2
          go_roundw
          case rel => exact ⟨k + 1, by omega, by go_num, hy2, Lib.hid (by trivial)⟩
          case measure => simp [intOf]; omega
      · skip
        have a1 : ¬ ((97 : Int) ≤ (s[k].toNat : Int)) := by omega
        have a2 : ((s[k].toNat : Int) ≤ 122) := by omega
        have a3 : ((65 : Int) ≤ (s[k].toNat : Int)) := by omega
        have a4 : ((s[k].toNat : Int) ≤ 90) := by omega
        have a5 : ¬ ((s[k].toNat : Int) < 48) := by omega
        have a6 : ((57 : Int) < (s[k].toNat : Int)) := by omega
        have ha : allow others s[k] = true := by rw [hallow.out]; simp [r1, r2]
        have hy2 := hyes.out ha
        clear hyes hno hxx hallow ha hall r1 r2
        go_wp2
        go_roundw
        case rel => exact ⟨k + 1, by omega, by go_num, hy2, Lib.hid (by trivial)⟩
        case measure => simp [intOf]; omega
      · skip
        have a1 : ¬ ((97 : Int) ≤ (s[k].toNat : Int)) := by omega
        have a2 : ((s[k].toNat : Int) ≤ 122) := by omega
        have a3 : ((65 : Int) ≤ (s[k].toNat : Int)) := by omega
        have a4 : ¬ ((s[k].toNat : Int) ≤ 90) := by omega
        have a5 : ¬ ((s[k].toNat : Int) < 48) := by omega
        have a6 : ((57 : Int) < (s[k].toNat : Int)) := by omega
        have ha : allow others s[k] = decide (0 ≤ ix) := by
          rw [hallow.out]
          have b1 : (decide (97 ≤ s[k].toNat) && decide (s[k].toNat ≤ 122)) = false := by simp; omega
          have b2 : (decide (65 ≤ s[k].toNat) && decide (s[k].toNat ≤ 90)) = false := by simp; omega
          have b3 : (decide (48 ≤ s[k].toNat) && decide (s[k].toNat ≤ 57)) = false := by simp; omega
          rw [b1, b2, b3]
          simp
        by_cases hneg : ix < 0
        · have hf := hno.out (by rw [ha]; simp; omega)
          clear hyes hno hallow ha hall r1 r2
          go_wp2_with fail
          refine hxx.out.mono ?_
          rintro e w' ⟨rfl, hw⟩
          obtain rfl := hw.symm
          go_wp2
          go_ret
          exact ⟨by rw [hf.out]; rfl, rfl⟩
        · have hy2 := hyes.out (by rw [ha]; simp; omega)
          clear hyes hno hallow ha hall r1 r2
          go_wp2_with fail
          refine hxx.out.mono ?_
          rintro e w' ⟨rfl, hw⟩
          obtain rfl := hw.symm
          go_wp2
          go_roundw
          case rel => exact ⟨k + 1, by omega, by go_num, hy2, Lib.hid (by trivial)⟩
          case measure => simp [intOf]; omega
      · skip
        have a1 : ((97 : Int) ≤ (s[k].toNat : Int)) := by omega
        have a2 : ((s[k].toNat : Int) ≤ 122) := by omega
        have a3 : ((65 : Int) ≤ (s[k].toNat : Int)) := by omega
        have a4 : ¬ ((s[k].toNat : Int) ≤ 90) := by omega
        have a5 : ¬ ((s[k].toNat : Int) < 48) := by omega
        have a6 : ((57 : Int) < (s[k].toNat : Int)) := by omega
        have ha : allow others s[k] = true := by rw [hallow.out]; simp [r1, r2]
        have hy2 := hyes.out ha
        clear hyes hno hxx hallow ha hall r1 r2
        go_wp2
        go_roundw
        case rel => exact ⟨k + 1, by omega, by go_num, hy2, Lib.hid (by trivial)⟩
        case measure => simp [intOf]; omega
      · skip
        have a1 : ((97 : Int) ≤ (s[k].toNat : Int)) := by omega
        have a2 : ¬ ((s[k].toNat : Int) ≤ 122) := by omega
        have a3 : ((65 : Int) ≤ (s[k].toNat : Int)) := by omega
        have a4 : ¬ ((s[k].toNat : Int) ≤ 90) := by omega
        have a5 : ¬ ((s[k].toNat : Int) < 48) := by omega
        have a6 : ((57 : Int) < (s[k].toNat : Int)) := by omega
        have ha : allow others s[k] = decide (0 ≤ ix) := by
          rw [hallow.out]
          have b1 : (decide (97 ≤ s[k].toNat) && decide (s[k].toNat ≤ 122)) = false := by simp; omega
          have b2 : (decide (65 ≤ s[k].toNat) && decide (s[k].toNat ≤ 90)) = false := by simp; omega
          have b3 : (decide (48 ≤ s[k].toNat) && decide (s[k].toNat ≤ 57)) = false := by simp; omega
          rw [b1, b2, b3]
          simp
        by_cases hneg : ix < 0
        · have hf := hno.out (by rw [ha]; simp; omega)
          clear hyes hno hallow ha hall r1 r2
          go_wp2_with fail
          refine hxx.out.mono ?_
          rintro e w' ⟨rfl, hw⟩
          obtain rfl := hw.symm
          go_wp2
          go_ret
          exact ⟨by rw [hf.out]; rfl, rfl⟩
        · have hy2 := hyes.out (by rw [ha]; simp; omega)
          clear hyes hno hallow ha hall r1 r2
          go_wp2_with fail
          refine hxx.out.mono ?_
          rintro e w' ⟨rfl, hw⟩
          obtain rfl := hw.symm
          go_wp2
          go_roundw
          case rel => exact ⟨k + 1, by omega, by go_num, hy2, Lib.hid (by trivial)⟩
          case measure => simp [intOf]; omega
    · obtain rfl : k = s.size := by omega
      have hi1 : ¬ (s.size : Int) < (s.size : Int) := by omega
      have hfin : Hid (R = true) := Lib.hid (by rw [← hR.out]; exact (allB_iff s others).2 (fun j h => hall.out j h h))
      clear hall
      go_wp2
      go_ret
      exact ⟨by rw [hfin.out]; rfl, rfl⟩
theorem noBytes {s : ByteArray} (h : ¬ 0 < s.size) : s = ⟨#[]⟩ := by
  have h1 : s.data = #[] := Array.eq_empty_of_size_eq_zero (by have : s.data.size = s.size := rfl; omega)
  cases s; simp_all
theorem bytesIs {s : ByteArray} (h : 0 < s.size) : s.toList.isEmpty = false := by
  rw [ByteArray.toList_eq]
  cases hd : s.data.toList with
  | nil => exfalso; have : s.data.toList.length = s.size := by simp
           rw [hd] at this; simp at this; omega
  | cons => rfl
set_option maxRecDepth 100000 in
theorem Name_any (s : ByteArray) (hs : s.size ≤ 1000000) (w : World) :
    Calls Tryz.prog 38 #[.string s] w fun e w' => e = .returned (.bool (nameB s)) ∧ w' = w := by
  by_cases h0 : 0 < s.size
  · have hie := bytesIs h0
    have hall := allOf_any s ⟨#[95]⟩ hs w
    have hR : nameB s = (!(decide (48 ≤ s[0].toNat) && decide (s[0].toNat ≤ 57)) && allB s ⟨#[95]⟩) := by unfold nameB; rw [dif_pos h0]
    rw [hR]
    clear hR
    generalize allB s ⟨#[95]⟩ = R at hall ⊢
    have hn : s[0].toNat < 256 := s[0].toNat_lt
    rcases (by omega : s[0].toNat < 48 ∨ (48 ≤ s[0].toNat ∧ s[0].toNat ≤ 57) ∨ 57 < s[0].toNat) with r | ⟨r1, r2⟩ | r
    · have a5 : (s[0].toNat : Int) < 48 := by omega
      have hE : (!(decide (48 ≤ s[0].toNat) && decide (s[0].toNat ≤ 57)) && R) = R := by simp; omega
      rw [hE]
      clear hE r hn
      go_enter Tryz.func38, Tryz.ntmps38
      go_wp2_with fail
      refine hall.mono ?_
      rintro e w' ⟨rfl, hw⟩
      obtain rfl := hw.symm
      go_wp2
      go_ret
      exact ⟨rfl, rfl⟩
    · have a5 : ¬ (s[0].toNat : Int) < 48 := by omega
      have a6 : ¬ (57 : Int) < (s[0].toNat : Int) := by omega
      have hE : (!(decide (48 ≤ s[0].toNat) && decide (s[0].toNat ≤ 57)) && R) = false := by simp [r1, r2]
      rw [hE]
      clear hE r1 r2 hn hall
      go_enter Tryz.func38, Tryz.ntmps38
      go_wp2
      go_ret
      exact ⟨rfl, rfl⟩
    · have a5 : ¬ (s[0].toNat : Int) < 48 := by omega
      have a6 : (57 : Int) < (s[0].toNat : Int) := by omega
      have hE : (!(decide (48 ≤ s[0].toNat) && decide (s[0].toNat ≤ 57)) && R) = R := by simp; omega
      rw [hE]
      clear hE r hn
      go_enter Tryz.func38, Tryz.ntmps38
      go_wp2_with fail
      refine hall.mono ?_
      rintro e w' ⟨rfl, hw⟩
      obtain rfl := hw.symm
      go_wp2
      go_ret
      exact ⟨rfl, rfl⟩
  · obtain rfl := noBytes h0
    have hR : nameB ⟨#[]⟩ = false := by unfold nameB; rw [dif_neg h0]
    rw [hR]
    clear hR h0
    go_enter Tryz.func38, Tryz.ntmps38
    go_wp2
    go_ret
    exact ⟨rfl, rfl⟩
def reservedL : List (List UInt8) := [[105, 102], [116, 104, 101, 110], [101, 108, 115, 101], [101, 108, 105, 102], [102, 105], [100, 111], [100, 111, 110, 101], [119, 104, 105, 108, 101], [117, 110, 116, 105, 108], [102, 111, 114], [99, 97, 115, 101], [101, 115, 97, 99], [105, 110], [123], [125], [33]]
def reservedB (s : ByteArray) : Bool := reservedL.contains s.toList
theorem ne_toList {s : ByteArray} {l : List UInt8} (h : ¬ s = ⟨l.toArray⟩) : (s.toList == l) = false := beq_eq_false_iff_ne.2 fun e => h (by
  rw [ByteArray.toList_eq] at e
  cases s with
  | mk d => cases d with
    | mk l' => simp at e; subst e; rfl)
set_option maxRecDepth 100000 in
set_option maxHeartbeats 8000000 in
theorem Reserved_any (s : ByteArray) (w : World) : Calls Tryz.prog 111 #[.string s] w fun e w' => e = .returned (.bool (reservedB s)) ∧ w' = w := by
  by_cases h0 : s = ⟨#[105, 102]⟩
  · subst h0
    rw [show reservedB ⟨#[105, 102]⟩ = true by unfold reservedB; rw [ByteArray.toList_eq]; decide]
    skip
    go_enter Tryz.func111, Tryz.ntmps111
    go_wp2
    go_ret
    exact ⟨rfl, rfl⟩
  by_cases h1 : s = ⟨#[116, 104, 101, 110]⟩
  · subst h1
    rw [show reservedB ⟨#[116, 104, 101, 110]⟩ = true by unfold reservedB; rw [ByteArray.toList_eq]; decide]
    clear h0
    go_enter Tryz.func111, Tryz.ntmps111
    go_wp2
    go_ret
    exact ⟨rfl, rfl⟩
  by_cases h2 : s = ⟨#[101, 108, 115, 101]⟩
  · subst h2
    rw [show reservedB ⟨#[101, 108, 115, 101]⟩ = true by unfold reservedB; rw [ByteArray.toList_eq]; decide]
    clear h0 h1
    go_enter Tryz.func111, Tryz.ntmps111
    go_wp2
    go_ret
    exact ⟨rfl, rfl⟩
  by_cases h3 : s = ⟨#[101, 108, 105, 102]⟩
  · subst h3
    rw [show reservedB ⟨#[101, 108, 105, 102]⟩ = true by unfold reservedB; rw [ByteArray.toList_eq]; decide]
    clear h0 h1 h2
    go_enter Tryz.func111, Tryz.ntmps111
    go_wp2
    go_ret
    exact ⟨rfl, rfl⟩
  by_cases h4 : s = ⟨#[102, 105]⟩
  · subst h4
    rw [show reservedB ⟨#[102, 105]⟩ = true by unfold reservedB; rw [ByteArray.toList_eq]; decide]
    clear h0 h1 h2 h3
    go_enter Tryz.func111, Tryz.ntmps111
    go_wp2
    go_ret
    exact ⟨rfl, rfl⟩
  by_cases h5 : s = ⟨#[100, 111]⟩
  · subst h5
    rw [show reservedB ⟨#[100, 111]⟩ = true by unfold reservedB; rw [ByteArray.toList_eq]; decide]
    clear h0 h1 h2 h3 h4
    go_enter Tryz.func111, Tryz.ntmps111
    go_wp2
    go_ret
    exact ⟨rfl, rfl⟩
  by_cases h6 : s = ⟨#[100, 111, 110, 101]⟩
  · subst h6
    rw [show reservedB ⟨#[100, 111, 110, 101]⟩ = true by unfold reservedB; rw [ByteArray.toList_eq]; decide]
    clear h0 h1 h2 h3 h4 h5
    go_enter Tryz.func111, Tryz.ntmps111
    go_wp2
    go_ret
    exact ⟨rfl, rfl⟩
  by_cases h7 : s = ⟨#[119, 104, 105, 108, 101]⟩
  · subst h7
    rw [show reservedB ⟨#[119, 104, 105, 108, 101]⟩ = true by unfold reservedB; rw [ByteArray.toList_eq]; decide]
    clear h0 h1 h2 h3 h4 h5 h6
    go_enter Tryz.func111, Tryz.ntmps111
    go_wp2
    go_ret
    exact ⟨rfl, rfl⟩
  by_cases h8 : s = ⟨#[117, 110, 116, 105, 108]⟩
  · subst h8
    rw [show reservedB ⟨#[117, 110, 116, 105, 108]⟩ = true by unfold reservedB; rw [ByteArray.toList_eq]; decide]
    clear h0 h1 h2 h3 h4 h5 h6 h7
    go_enter Tryz.func111, Tryz.ntmps111
    go_wp2
    go_ret
    exact ⟨rfl, rfl⟩
  by_cases h9 : s = ⟨#[102, 111, 114]⟩
  · subst h9
    rw [show reservedB ⟨#[102, 111, 114]⟩ = true by unfold reservedB; rw [ByteArray.toList_eq]; decide]
    clear h0 h1 h2 h3 h4 h5 h6 h7 h8
    go_enter Tryz.func111, Tryz.ntmps111
    go_wp2
    go_ret
    exact ⟨rfl, rfl⟩
  by_cases h10 : s = ⟨#[99, 97, 115, 101]⟩
  · subst h10
    rw [show reservedB ⟨#[99, 97, 115, 101]⟩ = true by unfold reservedB; rw [ByteArray.toList_eq]; decide]
    clear h0 h1 h2 h3 h4 h5 h6 h7 h8 h9
    go_enter Tryz.func111, Tryz.ntmps111
    go_wp2
    go_ret
    exact ⟨rfl, rfl⟩
  by_cases h11 : s = ⟨#[101, 115, 97, 99]⟩
  · subst h11
    rw [show reservedB ⟨#[101, 115, 97, 99]⟩ = true by unfold reservedB; rw [ByteArray.toList_eq]; decide]
    clear h0 h1 h2 h3 h4 h5 h6 h7 h8 h9 h10
    go_enter Tryz.func111, Tryz.ntmps111
    go_wp2
    go_ret
    exact ⟨rfl, rfl⟩
  by_cases h12 : s = ⟨#[105, 110]⟩
  · subst h12
    rw [show reservedB ⟨#[105, 110]⟩ = true by unfold reservedB; rw [ByteArray.toList_eq]; decide]
    clear h0 h1 h2 h3 h4 h5 h6 h7 h8 h9 h10 h11
    go_enter Tryz.func111, Tryz.ntmps111
    go_wp2
    go_ret
    exact ⟨rfl, rfl⟩
  by_cases h13 : s = ⟨#[123]⟩
  · subst h13
    rw [show reservedB ⟨#[123]⟩ = true by unfold reservedB; rw [ByteArray.toList_eq]; decide]
    clear h0 h1 h2 h3 h4 h5 h6 h7 h8 h9 h10 h11 h12
    go_enter Tryz.func111, Tryz.ntmps111
    go_wp2
    go_ret
    exact ⟨rfl, rfl⟩
  by_cases h14 : s = ⟨#[125]⟩
  · subst h14
    rw [show reservedB ⟨#[125]⟩ = true by unfold reservedB; rw [ByteArray.toList_eq]; decide]
    clear h0 h1 h2 h3 h4 h5 h6 h7 h8 h9 h10 h11 h12 h13
    go_enter Tryz.func111, Tryz.ntmps111
    go_wp2
    go_ret
    exact ⟨rfl, rfl⟩
  by_cases h15 : s = ⟨#[33]⟩
  · subst h15
    rw [show reservedB ⟨#[33]⟩ = true by unfold reservedB; rw [ByteArray.toList_eq]; decide]
    clear h0 h1 h2 h3 h4 h5 h6 h7 h8 h9 h10 h11 h12 h13 h14
    go_enter Tryz.func111, Tryz.ntmps111
    go_wp2
    go_ret
    exact ⟨rfl, rfl⟩
  have g0 : (s.toList == [105, 102]) = false := ne_toList h0
  have g1 : (s.toList == [116, 104, 101, 110]) = false := ne_toList h1
  have g2 : (s.toList == [101, 108, 115, 101]) = false := ne_toList h2
  have g3 : (s.toList == [101, 108, 105, 102]) = false := ne_toList h3
  have g4 : (s.toList == [102, 105]) = false := ne_toList h4
  have g5 : (s.toList == [100, 111]) = false := ne_toList h5
  have g6 : (s.toList == [100, 111, 110, 101]) = false := ne_toList h6
  have g7 : (s.toList == [119, 104, 105, 108, 101]) = false := ne_toList h7
  have g8 : (s.toList == [117, 110, 116, 105, 108]) = false := ne_toList h8
  have g9 : (s.toList == [102, 111, 114]) = false := ne_toList h9
  have g10 : (s.toList == [99, 97, 115, 101]) = false := ne_toList h10
  have g11 : (s.toList == [101, 115, 97, 99]) = false := ne_toList h11
  have g12 : (s.toList == [105, 110]) = false := ne_toList h12
  have g13 : (s.toList == [123]) = false := ne_toList h13
  have g14 : (s.toList == [125]) = false := ne_toList h14
  have g15 : (s.toList == [33]) = false := ne_toList h15
  rw [show reservedB s = false by unfold reservedB reservedL; simp only [List.contains_cons, List.contains_nil, g0, g1, g2, g3, g4, g5, g6, g7, g8, g9, g10, g11, g12, g13, g14, g15, Bool.or_self]]
  clear h0 h1 h2 h3 h4 h5 h6 h7 h8 h9 h10 h11 h12 h13 h14 h15
  go_enter Tryz.func111, Tryz.ntmps111
  go_wp2
  go_ret
  exact ⟨rfl, rfl⟩
end
end Go.Proofs.YtmchfoedjajbdaaGreat
/-
  trees: which texts are numbers.
-/
set_option linter.unusedSimpArgs false
set_option linter.unusedVariables false
namespace Go.Proofs.YtmchfoedjajbdaaGreat
open Go Go.Shelf Go.RowKit Go.ChangeMaps

def digit (b : UInt8) : Bool := 48 ≤ b.toNat && b.toNat ≤ 57
def digB (s : ByteArray) : Bool := s.data.toList.all digit
def numB (s : ByteArray) : Bool := if h : 0 < s.size then !(decide (s[0].toNat = 48) && !(s.toList == [48])) && digB s else false
theorem digB_iff (s : ByteArray) : digB s = true ↔ ∀ j (h : j < s.size), digit s[j] = true := by
  unfold digB
  rw [List.all_eq_true]
  constructor
  · intro h j hj
    exact h _ (List.mem_of_getElem? (i := j) (by rw [List.getElem?_eq_getElem (by simpa using hj)]; rfl))
  · intro h x hx
    obtain ⟨j, hj, e⟩ := List.getElem_of_mem hx
    have := h j (by simpa using hj)
    rw [← e]; exact this
theorem digB_no {s : ByteArray} {j : Nat} (h : j < s.size) (e : digit s[j] = false) : digB s = false := by
  cases hb : digB s
  · rfl
  · have := (digB_iff s).1 hb j h
    rw [e] at this; cases this
set_option maxRecDepth 100000 in
set_option maxHeartbeats 4000000 in
theorem isNumber_any (s : ByteArray) (hs : s.size ≤ 1000000) (w : World) :
    Calls Tryz.prog 39 #[.string s] w fun e w' => e = .returned (.bool (numB s)) ∧ w' = w := by
  by_cases h0 : 0 < s.size
  · have hie := bytesIs h0
    have hN : numB s = (!(decide (s[0].toNat = 48) && !(s.toList == [48])) && digB s) := by unfold numB; rw [dif_pos h0]
    obtain ⟨R, hR⟩ : ∃ R, digB s = R := ⟨_, rfl⟩
    rw [hN, hR]
    replace hR := Lib.hid hR
    clear hN
    by_cases h48 : s[0].toNat = 48
    · have b1 : decide (s[0].toNat = 48) = true := by simp [h48]
      have b2 : (s[0].toNat : Int) = 48 := by omega
      cases hg : (s.toList == [48])
      · rw [b1]
        have hE : (!(true && !false) && R) = false := rfl
        rw [hE]
        have hg2 : ¬ s.toList = [48] := by simpa using hg
        clear hE hR b1 h48
        go_enter Tryz.func39, Tryz.ntmps39
        go_wp2
        go_ret
        exact ⟨rfl, rfl⟩
      · rw [b1]
        have hE : (!(true && !true) && R) = R := by simp
        rw [hE]
        have hg2 : s.toList = [48] := by simpa using hg
        clear hE b1 h48
        go_enter Tryz.func39, Tryz.ntmps39
        go_wp2
        go_loopw [17] (fun i wr => ∃ k : Nat, k ≤ s.size ∧ i = .int .i64 (k : Int) ∧ Hid (∀ j (h : j < s.size), j < k → digit s[j] = true) ∧ Hid (wr = w)) (fun i _ => s.size - (intOf i).toNat)
        case atStart => exact ⟨0, Nat.zero_le _, rfl, Lib.hid (fun _ _ h => absurd h (Nat.not_lt_zero _)), Lib.hid rfl⟩
        case round =>
          obtain ⟨k, hk, rfl, hall, hw⟩ := hrel
          obtain rfl := hw.out
          clear hw hg hg2 b2 hie
          by_cases hlt : k < s.size
          · have hi1 : (k : Int) < (s.size : Int) := by omega
            have hn : s[k].toNat < 256 := s[k].toNat_lt
            rcases (by omega : s[k].toNat < 48 ∨ (48 ≤ s[k].toNat ∧ s[k].toNat ≤ 57) ∨ 57 < s[k].toNat) with r | ⟨r1, r2⟩ | r
            · have a5 : (s[k].toNat : Int) < 48 := by omega
              have hf : Hid (R = false) := Lib.hid (by rw [← hR.out]; exact digB_no hlt (by unfold digit; simp; omega))
              clear r hn hall
              go_wp2
              go_ret
              exact ⟨by rw [hf.out]; rfl, rfl⟩
            · have a5 : ¬ (s[k].toNat : Int) < 48 := by omega
              have a6 : ¬ (57 : Int) < (s[k].toNat : Int) := by omega
              have hy : Hid (∀ j (h : j < s.size), j < k + 1 → digit s[j] = true) := Lib.hid (fun j h hj => by
                by_cases q : j = k
                · subst q; unfold digit; simp; omega
                · exact hall.out j h (by omega))
              clear r1 r2 hn hall
              go_wp2
              go_roundw
              case rel => exact ⟨k + 1, by omega, by go_num, hy, Lib.hid trivial⟩
              case measure => simp [intOf]; omega
            · have a5 : ¬ (s[k].toNat : Int) < 48 := by omega
              have a6 : (57 : Int) < (s[k].toNat : Int) := by omega
              have hf : Hid (R = false) := Lib.hid (by rw [← hR.out]; exact digB_no hlt (by unfold digit; simp; omega))
              clear r hn hall
              go_wp2
              go_ret
              exact ⟨by rw [hf.out]; rfl, rfl⟩
          · obtain rfl : k = s.size := by omega
            have hq3 : ¬ (s.size : Int) < (s.size : Int) := by omega
            have hf : Hid (R = true) := Lib.hid (by rw [← hR.out]; exact (digB_iff s).2 fun j h => hall.out j h h)
            clear hall
            go_wp2
            go_ret
            exact ⟨by rw [hf.out]; rfl, rfl⟩
    · have b1 : decide (s[0].toNat = 48) = false := by simp [h48]
      have b2 : ¬ (s[0].toNat : Int) = 48 := by omega
      rw [b1]
      have hE : (!(false && !(s.toList == [48])) && R) = R := by simp
      rw [hE]
      clear hE b1 h48
      go_enter Tryz.func39, Tryz.ntmps39
      go_wp2
      go_loopw [17] (fun i wr => ∃ k : Nat, k ≤ s.size ∧ i = .int .i64 (k : Int) ∧ Hid (∀ j (h : j < s.size), j < k → digit s[j] = true) ∧ Hid (wr = w)) (fun i _ => s.size - (intOf i).toNat)
      case atStart => exact ⟨0, Nat.zero_le _, rfl, Lib.hid (fun _ _ h => absurd h (Nat.not_lt_zero _)), Lib.hid rfl⟩
      case round =>
        obtain ⟨k, hk, rfl, hall, hw⟩ := hrel
        obtain rfl := hw.out
        clear hw b2 hie
        by_cases hlt : k < s.size
        · have hi1 : (k : Int) < (s.size : Int) := by omega
          have hn : s[k].toNat < 256 := s[k].toNat_lt
          rcases (by omega : s[k].toNat < 48 ∨ (48 ≤ s[k].toNat ∧ s[k].toNat ≤ 57) ∨ 57 < s[k].toNat) with r | ⟨r1, r2⟩ | r
          · have a5 : (s[k].toNat : Int) < 48 := by omega
            have hf : Hid (R = false) := Lib.hid (by rw [← hR.out]; exact digB_no hlt (by unfold digit; simp; omega))
            clear r hn hall
            go_wp2
            go_ret
            exact ⟨by rw [hf.out]; rfl, rfl⟩
          · have a5 : ¬ (s[k].toNat : Int) < 48 := by omega
            have a6 : ¬ (57 : Int) < (s[k].toNat : Int) := by omega
            have hy : Hid (∀ j (h : j < s.size), j < k + 1 → digit s[j] = true) := Lib.hid (fun j h hj => by
              by_cases q : j = k
              · subst q; unfold digit; simp; omega
              · exact hall.out j h (by omega))
            clear r1 r2 hn hall
            go_wp2
            go_roundw
            case rel => exact ⟨k + 1, by omega, by go_num, hy, Lib.hid trivial⟩
            case measure => simp [intOf]; omega
          · have a5 : ¬ (s[k].toNat : Int) < 48 := by omega
            have a6 : (57 : Int) < (s[k].toNat : Int) := by omega
            have hf : Hid (R = false) := Lib.hid (by rw [← hR.out]; exact digB_no hlt (by unfold digit; simp; omega))
            clear r hn hall
            go_wp2
            go_ret
            exact ⟨by rw [hf.out]; rfl, rfl⟩
        · obtain rfl : k = s.size := by omega
          have hq3 : ¬ (s.size : Int) < (s.size : Int) := by omega
          have hf : Hid (R = true) := Lib.hid (by rw [← hR.out]; exact (digB_iff s).2 fun j h => hall.out j h h)
          clear hall
          go_wp2
          go_ret
          exact ⟨by rw [hf.out]; rfl, rfl⟩
  · obtain rfl := noBytes h0
    have hR : numB ⟨#[]⟩ = false := by unfold numB; rw [dif_neg h0]
    rw [hR]
    clear hR h0
    go_enter Tryz.func39, Tryz.ntmps39
    go_wp2
    go_ret
    exact ⟨rfl, rfl⟩
end Go.Proofs.YtmchfoedjajbdaaGreat
/-
  trees: how a word begins, and which pieces are joined.
-/
set_option linter.unusedSimpArgs false
set_option linter.unusedVariables false
namespace Go.Proofs.YtmchfoedjajbdaaGreat
open Go Go.RowKit Go.ChangeMaps

/-- The bytes with which a word begins, if they are not quoted. -/
def beginP : F → ByteArray
  | .piece k t _ _ _ _ _ => if k = 1 then t else ⟨#[]⟩
  | _ => ⟨#[]⟩
def joinP (k l : Int) : Bool := decide (k = l ∧ (k = 1 ∨ k = 2))
section
variable {w0 w : World} {A : Option Addr} {c0 : Nat} {f g : F}
set_option maxRecDepth 100000 in
set_option maxHeartbeats 4000000 in
theorem beginning_any (ht : Ty f 1) (hs : Slc w0 A c0 f) (hb : Below w0.heap.size w0 w) : Calls Tryz.prog 119 #[.slice A f.len c0] w fun e w' => e = .returned (.string (beginP f)) ∧ w' = w := by
  have hm := hs.1
  have hcm := hs.2.1
  unfold maxLen at hcm
  by_cases h1 : 0 < f.len
  · obtain ⟨B, o, rfl, hBl, hrw⟩ := hs.2.2 h1
    obtain ⟨k, t, p, c, K, Y, r, rfl, _, _, htK, htY, htr⟩ := at_piece ht h1
    obtain ⟨e0', e1', _⟩ := rw_piece.1 hrw
    have e0 := cell_below hb hBl e0'
    have e1 := cell_below hb hBl e1'
    have hl := Nat.lt_of_lt_of_le hBl hb.size
    obtain ⟨N, hN⟩ : ∃ N, (F.piece k t p c K Y r).len = N := ⟨_, rfl⟩
    rw [hN] at hm h1 ⊢
    have h2 : (0 : Int) < (N : Int) := by omega
    have h3 : ((N : Int) == 0) = false := beq_eq_false_iff_ne.2 (by omega)
    have h4 : ¬ (N : Int) = 0 := by omega
    have hN0 : ¬ N = 0 := by omega
    by_cases hk : k = 1
    · subst hk
      rw [show beginP (.piece 1 t p c K Y r) = t from rfl]
      clear hs hrw htK htY htr ht h1 e0' e1' hBl hb hN
      go_enter Tryz.func119, Tryz.ntmps119
      go_wp2
      go_ret
      exact ⟨rfl, rfl⟩
    · rw [show beginP (.piece k t p c K Y r) = ⟨#[]⟩ from by simp [beginP, hk]]
      clear hs hrw htK htY htr ht h1 e0' e1' hBl hb hN
      go_enter Tryz.func119, Tryz.ntmps119
      go_wp2
      go_ret
      exact ⟨rfl, rfl⟩
  · obtain rfl := len0 (by omega : f.len = 0)
    rw [show beginP .nil = ⟨#[]⟩ from rfl]
    rw [show F.nil.len = 0 from rfl] at hm ⊢
    clear hs ht hb h1
    go_enter Tryz.func119, Tryz.ntmps119
    go_wp2
    go_ret
    exact ⟨rfl, rfl⟩
set_option maxRecDepth 100000 in
set_option maxHeartbeats 4000000 in
theorem areJoined_any {k p k2 p2 : Int} {t t2 : ByteArray} {c c2 : Bool} {AK AY AK2 AY2 : Value} : Calls Tryz.prog 132 #[.agg #[.int .i64 k, .string t, .int .i64 p, .bool c, AK, AY], .agg #[.int .i64 k2, .string t2, .int .i64 p2, .bool c2, AK2, AY2]] w fun e w' => e = .returned (.bool (joinP k k2)) ∧ Below w.heap.size w w' := by
  have hBW : ∀ o1 o2, Below w.heap.size w ((w.alloc o1).alloc o2) := fun o1 o2 => ((Below.refl _ w).alloc (Nat.le_refl _) o1).alloc (by rw [World.size_alloc]; omega) o2
  obtain ⟨v, hv⟩ : ∃ v, joinP k k2 = v := ⟨_, rfl⟩
  rw [hv]
  unfold joinP at hv
  replace hBW := Lib.hid hBW
  by_cases h12 : k = k2
  · subst h12
    by_cases h1 : k = 1
    · subst h1
      obtain rfl : true = v := by rw [← hv]; rfl
      clear hv
      go_enter Tryz.func132, Tryz.ntmps132
      go_wp2
      go_ret
      exact ⟨rfl, hBW.out _ _⟩
    · by_cases h2 : k = 2
      · subst h2
        obtain rfl : true = v := by rw [← hv]; rfl
        clear hv
        go_enter Tryz.func132, Tryz.ntmps132
        go_wp2
        go_ret
        exact ⟨rfl, hBW.out _ _⟩
      · obtain rfl : false = v := by rw [← hv]; simp [h1, h2]
        have g1 : (k == 1) = false := by simp [h1]
        have g2 : (k == 2) = false := by simp [h2]
        clear hv
        go_enter Tryz.func132, Tryz.ntmps132
        go_wp2
        go_ret
        exact ⟨rfl, hBW.out _ _⟩
  · obtain rfl : false = v := by rw [← hv]; simp [h12]
    have g1 : (k == k2) = false := by simp [h12]
    clear hv
    go_enter Tryz.func132, Tryz.ntmps132
    go_wp2
    go_ret
    exact ⟨rfl, hBW.out _ _⟩
end
end Go.Proofs.YtmchfoedjajbdaaGreat
/-
  trees: which words are reserved; which lists are all full.
-/
set_option linter.unusedSimpArgs false
set_option linter.unusedVariables false
namespace Go.Proofs.YtmchfoedjajbdaaGreat
open Go Go.RowKit Go.ChangeMaps

def resP (f : F) : Bool := decide (f.len = 1) && reservedB (beginP f)
section
variable {w0 w : World} {A : Option Addr} {c0 : Nat} {f g : F}
set_option maxRecDepth 100000 in
set_option maxHeartbeats 4000000 in
theorem isReserved_any (ht : Ty f 1) (hs : Slc w0 A c0 f) (hb : Below w0.heap.size w0 w) : Calls Tryz.prog 106 #[.slice A f.len c0] w fun e w' => e = .returned (.bool (resP f)) ∧ w' = w := by
  have hm := hs.1
  have hcm := hs.2.1
  unfold maxLen at hcm
  have hc := beginning_any ht hs hb
  have hr := fun W => Reserved_any (beginP f) W
  obtain ⟨v, hv⟩ : ∃ v, resP f = v := ⟨_, rfl⟩
  rw [hv]
  unfold resP at hv
  generalize beginP f = t at hc hr hv
  generalize reservedB t = b at hr hv
  generalize f.len = N at hc hm hv ⊢
  clear ht hs hb
  by_cases h1 : N = 1
  · subst h1
    obtain rfl : b = v := by rw [← hv]; simp
    clear hv
    replace hr := Lib.hid hr
    go_enter Tryz.func106, Tryz.ntmps106
    go_wp2_with fail
    refine hc.mono ?_
    rintro e w5 ⟨rfl, rfl⟩
    clear hc
    have hr2 := hr.out w5
    clear hr
    go_wp2_with fail
    refine hr2.mono ?_
    rintro e w6 ⟨rfl, rfl⟩
    clear hr2
    go_wp2
    go_ret
    exact ⟨rfl, rfl⟩
  · obtain rfl : false = v := by rw [← hv]; simp [h1]
    have h2 : ((N : Int) == 1) = false := beq_eq_false_iff_ne.2 (by omega)
    have h3 : ¬ (N : Int) = 1 := by omega
    clear hv hc hr
    go_enter Tryz.func106, Tryz.ntmps106
    go_wp2
    go_ret
    exact ⟨rfl, rfl⟩
end
end Go.Proofs.YtmchfoedjajbdaaGreat
/-
  trees.all of lists, with a question that changes nothing.
-/
set_option linter.unusedSimpArgs false
set_option linter.unusedVariables false
namespace Go.Proofs.YtmchfoedjajbdaaGreat
open Go Go.RowKit Go.ChangeMaps

/-- Do all in a row of lists (or words) keep p? -/
def allL (p : F → Bool) : F → Bool
  | .row x r => p x && allL p r
  | _ => true
def fullP (f : F) : Bool := decide (0 < f.len)
def stageP (f : F) : Bool := pipedP f && !(kindP f == 2)
section
variable {w0 w : World} {A : Option Addr} {c0 : Nat} {f g : F}
set_option maxRecDepth 100000 in
set_option maxHeartbeats 4000000 in
theorem all_full (ht : Ty f 6) (hs : Slc w0 A c0 f) (hb : Below w0.heap.size w0 w) : Calls Tryz.prog 85 #[.slice A f.len c0, .func (.func 110) #[] #[]] w fun e w' => e = .returned (.bool (allL fullP f)) ∧ w' = w := by
  have hm := hs.1
  have hcm := hs.2.1
  unfold maxLen at hcm
  obtain ⟨N, hN⟩ : ∃ N, f.len = N := ⟨_, rfl⟩
  obtain ⟨v, hv⟩ : ∃ v, allL fullP f = v := ⟨_, rfl⟩
  rw [hN] at hm ⊢
  rw [hv]
  have hI0 : Hid (allL fullP (f.drop 0) = v) := Lib.hid hv
  replace hs := Lib.hid hs
  replace ht := Lib.hid ht
  replace hN := Lib.hid hN
  replace hb := Lib.hid hb
  clear hv
  go_enter Tryz.func85, Tryz.ntmps85
  go_wp2
  go_loopw [9] (fun iv wr => ∃ q : Nat, q ≤ N ∧ iv = .int .i64 (q : Int) ∧ Hid (allL fullP (f.drop q) = v) ∧ Hid (wr = w)) (fun iv _ => N - (intOf iv).toNat)
  case atStart => exact ⟨0, Nat.zero_le _, rfl, hI0, Lib.hid rfl⟩
  case round =>
    clear hI0
    obtain ⟨q, hq, rfl, hI, hw⟩ := hrel
    obtain rfl := hw.out
    clear hw
    replace hb := hb.out
    by_cases hlt : q < N
    · have hq1 : (0 : Int) ≤ (q : Int) := by omega
      have hq2 : (q : Int) < (N : Int) := by omega
      obtain ⟨B, o, rfl, hBl, hrw⟩ := hs.out.2.2 (by rw [hN.out]; omega)
      have hrd := rw_drop q ht.out (by rw [hN.out]; omega) hrw
      have htd := ty_drop q ht.out
      have hpd : 0 < (f.drop q).len := by rw [drop_len, hN.out]; omega
      have hnx := drop_tl q f
      have hI2 := hI.out
      rw [show szT 6 = 1 from rfl, Nat.mul_one] at hrd
      obtain ⟨x1, r1, hfd, htx, _⟩ := at_list htd hpd
      rw [hfd] at hrd hnx hI2
      have hnx2 : r1 = f.drop (q + 1) := hnx
      rw [hnx2] at hI2
      have hI3 : (fullP x1 && allL fullP (f.drop (q + 1))) = v := hI2
      obtain ⟨⟨Ax, cx, ex, hsx⟩, _⟩ := rw_row.1 hrd
      have hc := isFull_any (w := wr) hsx
      rw [show (decide (0 < x1.len)) = fullP x1 from rfl] at hc
      have ex2 := cell_below hb hBl ex
      have hl := Nat.lt_of_lt_of_le hBl hb.size
      generalize x1.len = mx at hc ex2
      generalize fullP x1 = px at hc hI3
      replace hI3 := Lib.hid hI3
      clear hrw hrd htd hpd hnx hfd hnx2 hI2 hsx htx ex hI hb hBl
      go_wp2_with fail
      refine hc.mono ?_
      rintro e w5 ⟨rfl, rfl⟩
      clear hc ex2 hl
      cases px
      · obtain rfl : false = v := hI3.out
        clear hI3
        go_wp2
        go_ret
        exact ⟨rfl, rfl⟩
      · have hI4 : Hid (allL fullP (f.drop (q + 1)) = v) := Lib.hid (by have := hI3.out; rwa [Bool.true_and] at this)
        clear hI3
        go_wp2
        go_roundw
        case rel => exact ⟨q + 1, by omega, by go_num, hI4, Lib.hid trivial⟩
        case measure => simp [intOf]; omega
    · obtain rfl : q = N := by omega
      have hq3 : ¬ (q : Int) < (q : Int) := by omega
      have hI2 := hI.out
      rw [drop_end f hN.out.symm] at hI2
      obtain rfl : true = v := hI2
      clear hI hb
      go_wp2
      go_ret
      exact ⟨rfl, rfl⟩
set_option maxRecDepth 100000 in
set_option maxHeartbeats 4000000 in
theorem all_stage (ht : Ty f 6) (hs : Slc w0 A c0 f) (hb : Below w0.heap.size w0 w) : Calls Tryz.prog 85 #[.slice A f.len c0, .func (.func 107) #[] #[]] w fun e w' => e = .returned (.bool (allL stageP f)) ∧ w' = w := by
  have hm := hs.1
  have hcm := hs.2.1
  unfold maxLen at hcm
  obtain ⟨N, hN⟩ : ∃ N, f.len = N := ⟨_, rfl⟩
  obtain ⟨v, hv⟩ : ∃ v, allL stageP f = v := ⟨_, rfl⟩
  rw [hN] at hm ⊢
  rw [hv]
  have hI0 : Hid (allL stageP (f.drop 0) = v) := Lib.hid hv
  replace hs := Lib.hid hs
  replace ht := Lib.hid ht
  replace hN := Lib.hid hN
  replace hb := Lib.hid hb
  clear hv
  go_enter Tryz.func85, Tryz.ntmps85
  go_wp2
  go_loopw [9] (fun iv wr => ∃ q : Nat, q ≤ N ∧ iv = .int .i64 (q : Int) ∧ Hid (allL stageP (f.drop q) = v) ∧ Hid (wr = w)) (fun iv _ => N - (intOf iv).toNat)
  case atStart => exact ⟨0, Nat.zero_le _, rfl, hI0, Lib.hid rfl⟩
  case round =>
    clear hI0
    obtain ⟨q, hq, rfl, hI, hw⟩ := hrel
    obtain rfl := hw.out
    clear hw
    replace hb := hb.out
    by_cases hlt : q < N
    · have hq1 : (0 : Int) ≤ (q : Int) := by omega
      have hq2 : (q : Int) < (N : Int) := by omega
      obtain ⟨B, o, rfl, hBl, hrw⟩ := hs.out.2.2 (by rw [hN.out]; omega)
      have hrd := rw_drop q ht.out (by rw [hN.out]; omega) hrw
      have htd := ty_drop q ht.out
      have hpd : 0 < (f.drop q).len := by rw [drop_len, hN.out]; omega
      have hnx := drop_tl q f
      have hI2 := hI.out
      rw [show szT 6 = 1 from rfl, Nat.mul_one] at hrd
      obtain ⟨x1, r1, hfd, htx, _⟩ := at_list htd hpd
      rw [hfd] at hrd hnx hI2
      have hnx2 : r1 = f.drop (q + 1) := hnx
      rw [hnx2] at hI2
      have hI3 : (stageP x1 && allL stageP (f.drop (q + 1))) = v := hI2
      obtain ⟨⟨Ax, cx, ex, hsx⟩, _⟩ := rw_row.1 hrd
      have hc := isStage_any htx hsx hb
      rw [show (pipedP x1 && !(kindP x1 == 2)) = stageP x1 from rfl] at hc
      have ex2 := cell_below hb hBl ex
      have hl := Nat.lt_of_lt_of_le hBl hb.size
      generalize x1.len = mx at hc ex2
      generalize stageP x1 = px at hc hI3
      replace hI3 := Lib.hid hI3
      clear hrw hrd htd hpd hnx hfd hnx2 hI2 hsx htx ex hI hb hBl
      go_wp2_with fail
      refine hc.mono ?_
      rintro e w5 ⟨rfl, rfl⟩
      clear hc ex2 hl
      cases px
      · obtain rfl : false = v := hI3.out
        clear hI3
        go_wp2
        go_ret
        exact ⟨rfl, rfl⟩
      · have hI4 : Hid (allL stageP (f.drop (q + 1)) = v) := Lib.hid (by have := hI3.out; rwa [Bool.true_and] at this)
        clear hI3
        go_wp2
        go_roundw
        case rel => exact ⟨q + 1, by omega, by go_num, hI4, Lib.hid trivial⟩
        case measure => simp [intOf]; omega
    · obtain rfl : q = N := by omega
      have hq3 : ¬ (q : Int) < (q : Int) := by omega
      have hI2 := hI.out
      rw [drop_end f hN.out.symm] at hI2
      obtain rfl : true = v := hI2
      clear hI hb
      go_wp2
      go_ret
      exact ⟨rfl, rfl⟩
end
end Go.Proofs.YtmchfoedjajbdaaGreat
/-
  trees: what is asked of how many lists a command has.
-/
set_option linter.unusedSimpArgs false
set_option linter.unusedVariables false
namespace Go.Proofs.YtmchfoedjajbdaaGreat
open Go Go.RowKit Go.ChangeMaps

/-- A command as a value, of whose fields but the lists nothing is asked. -/
def ndV (k : Int) (b : Bool) (n : ByteArray) (g : Bool) (S W R L C : Value) : Value := .agg #[.int .i64 k, .bool b, .string n, .bool g, S, W, R, L, C]
def groupP (L : F) : Bool := decide (L.len = 1) && allL fullP L
section
variable {w0 w : World} {A : Option Addr} {c0 : Nat} {f g : F}
set_option maxRecDepth 100000 in
set_option maxHeartbeats 4000000 in
theorem mayGroup_any {k : Int} {b gv : Bool} {n : ByteArray} {S W R C : Value} (ht : Ty f 6) (hs : Slc w0 A c0 f) (hb : Below w0.heap.size w0 w) : Calls Tryz.prog 66 #[ndV k b n gv S W R (.slice A f.len c0) C] w fun e w' => e = .returned (.bool (groupP f)) ∧ Below w.heap.size w w' := by
  have hm := hs.1
  have hcm := hs.2.1
  unfold maxLen at hcm
  have hc := fun o => all_full ht hs (hb.alloc hb.size o)
  have hW := fun o => (Below.refl w.heap.size w).alloc (Nat.le_refl _) o
  obtain ⟨v, hv⟩ : ∃ v, groupP f = v := ⟨_, rfl⟩
  rw [hv]
  unfold groupP at hv
  generalize allL fullP f = a at hc hv
  generalize f.len = N at hc hm hv ⊢
  replace hc := Lib.hid hc
  replace hW := Lib.hid hW
  clear ht hs hb
  unfold ndV
  by_cases h1 : N = 1
  · subst h1
    obtain rfl : a = v := by rw [← hv]; simp
    clear hv
    go_enter Tryz.func66, Tryz.ntmps66
    go_upto_region 1 with fail
    have hc1 := hc.out (.cells #[.int .i64 k, .bool b, .string n, .bool gv, S, W, R, .slice A 1 c0, C] 43)
    clear hc
    go_wp2_with fail
    refine hc1.mono ?_
    rintro e w5 ⟨rfl, rfl⟩
    clear hc1
    go_wp2
    go_ret
    exact ⟨rfl, hW.out _⟩
  · obtain rfl : false = v := by rw [← hv]; simp [h1]
    have h2 : ((N : Int) == 1) = false := beq_eq_false_iff_ne.2 (by omega)
    have h3 : ¬ (N : Int) = 1 := by omega
    clear hv hc
    go_enter Tryz.func66, Tryz.ntmps66
    go_wp2
    go_ret
    exact ⟨rfl, hW.out _⟩
end
end Go.Proofs.YtmchfoedjajbdaaGreat
/-
  trees: what is asked of how many lists a command has: if, loops, back, switch.
-/
set_option linter.unusedSimpArgs false
set_option linter.unusedVariables false
namespace Go.Proofs.YtmchfoedjajbdaaGreat
open Go Go.RowKit Go.ChangeMaps

def ifP (L : F) : Bool := decide (2 ≤ L.len) && allL fullP L
def loopP (L : F) : Bool := decide (L.len = 2) && allL fullP L
section
variable {w0 w : World} {A : Option Addr} {c0 : Nat} {f g : F}
set_option maxRecDepth 100000 in
set_option maxHeartbeats 4000000 in
theorem mayIf_any {k : Int} {b gv : Bool} {n : ByteArray} {S W R C : Value} (ht : Ty f 6) (hs : Slc w0 A c0 f) (hb : Below w0.heap.size w0 w) : Calls Tryz.prog 67 #[ndV k b n gv S W R (.slice A f.len c0) C] w fun e w' => e = .returned (.bool (ifP f)) ∧ Below w.heap.size w w' := by
  have hm := hs.1
  have hcm := hs.2.1
  unfold maxLen at hcm
  have hc := fun o => all_full ht hs (hb.alloc hb.size o)
  have hW := fun o => (Below.refl w.heap.size w).alloc (Nat.le_refl _) o
  obtain ⟨v, hv⟩ : ∃ v, ifP f = v := ⟨_, rfl⟩
  rw [hv]
  unfold ifP at hv
  generalize allL fullP f = a at hc hv
  generalize f.len = N at hc hm hv ⊢
  replace hc := Lib.hid hc
  replace hW := Lib.hid hW
  clear ht hs hb
  unfold ndV
  by_cases h1 : 2 ≤ N
  · obtain rfl : a = v := by rw [← hv]; simp [h1]
    clear hv
    have g1 : (2 : Int) ≤ (N : Int) := by omega
    have g2 : ¬ (N : Int) < 2 := by omega
    go_enter Tryz.func67, Tryz.ntmps67
    go_upto_region 1 with fail
    have hc1 := hc.out (.cells #[.int .i64 k, .bool b, .string n, .bool gv, S, W, R, .slice A N c0, C] 43)
    clear hc
    go_wp2_with fail
    refine hc1.mono ?_
    rintro e w5 ⟨rfl, rfl⟩
    clear hc1
    go_wp2
    go_ret
    exact ⟨rfl, hW.out _⟩
  · obtain rfl : false = v := by rw [← hv]; simp [h1]
    have g1 : ¬ (2 : Int) ≤ (N : Int) := by omega
    have g2 : (N : Int) < 2 := by omega
    clear hv hc
    go_enter Tryz.func67, Tryz.ntmps67
    go_wp2
    go_ret
    exact ⟨rfl, hW.out _⟩
set_option maxRecDepth 100000 in
set_option maxHeartbeats 4000000 in
theorem mayLoop_any {k : Int} {b gv : Bool} {n : ByteArray} {S W R C : Value} (ht : Ty f 6) (hs : Slc w0 A c0 f) (hb : Below w0.heap.size w0 w) : Calls Tryz.prog 68 #[ndV k b n gv S W R (.slice A f.len c0) C] w fun e w' => e = .returned (.bool (loopP f)) ∧ Below w.heap.size w w' := by
  have hm := hs.1
  have hcm := hs.2.1
  unfold maxLen at hcm
  have hc := fun o => all_full ht hs (hb.alloc hb.size o)
  have hW := fun o => (Below.refl w.heap.size w).alloc (Nat.le_refl _) o
  obtain ⟨v, hv⟩ : ∃ v, loopP f = v := ⟨_, rfl⟩
  rw [hv]
  unfold loopP at hv
  generalize allL fullP f = a at hc hv
  generalize f.len = N at hc hm hv ⊢
  replace hc := Lib.hid hc
  replace hW := Lib.hid hW
  clear ht hs hb
  unfold ndV
  by_cases h1 : N = 2
  · obtain rfl : a = v := by rw [← hv]; simp [h1]
    clear hv
    subst h1
    go_enter Tryz.func68, Tryz.ntmps68
    go_upto_region 1 with fail
    have hc1 := hc.out (.cells #[.int .i64 k, .bool b, .string n, .bool gv, S, W, R, .slice A 2 c0, C] 43)
    clear hc
    go_wp2_with fail
    refine hc1.mono ?_
    rintro e w5 ⟨rfl, rfl⟩
    clear hc1
    go_wp2
    go_ret
    exact ⟨rfl, hW.out _⟩
  · obtain rfl : false = v := by rw [← hv]; simp [h1]
    have g1 : ((N : Int) == 2) = false := beq_eq_false_iff_ne.2 (by omega)
    have g2 : ¬ (N : Int) = 2 := by omega
    clear hv hc
    go_enter Tryz.func68, Tryz.ntmps68
    go_wp2
    go_ret
    exact ⟨rfl, hW.out _⟩
set_option maxRecDepth 100000 in
set_option maxHeartbeats 4000000 in
theorem maySwitch_any {k : Int} {b gv : Bool} {n : ByteArray} {S R L C : Value} (hs : Slc w0 A c0 f) : Calls Tryz.prog 70 #[ndV k b n gv S (.slice A f.len c0) R L C] w fun e w' => e = .returned (.bool (decide (f.len = 1))) ∧ Below w.heap.size w w' := by
  have hm := hs.1
  have hcm := hs.2.1
  unfold maxLen at hcm
  have hW := fun o => (Below.refl w.heap.size w).alloc (Nat.le_refl _) o
  generalize f.len = N at hm ⊢
  replace hW := Lib.hid hW
  clear hs
  unfold ndV
  by_cases h1 : N = 1
  · subst h1
    rw [show decide (1 = 1) = true from rfl]
    go_enter Tryz.func70, Tryz.ntmps70
    go_wp2
    go_ret
    exact ⟨rfl, hW.out _⟩
  · rw [show decide (N = 1) = false by simp [h1]]
    have g1 : ((N : Int) == 1) = false := beq_eq_false_iff_ne.2 (by omega)
    have g2 : ¬ (N : Int) = 1 := by omega
    go_enter Tryz.func70, Tryz.ntmps70
    go_wp2
    go_ret
    exact ⟨rfl, hW.out _⟩
end
end Go.Proofs.YtmchfoedjajbdaaGreat
/-
  trees: what is asked of a command behind which one is done beside.
-/
set_option linter.unusedSimpArgs false
set_option linter.unusedVariables false
namespace Go.Proofs.YtmchfoedjajbdaaGreat
open Go Go.RowKit Go.ChangeMaps

def backP : F → Bool
  | .row x .nil => !(kindP x == 0) && !(kindP x == 5)
  | _ => false
section
variable {w0 w : World} {A : Option Addr} {c0 : Nat} {f g : F}
set_option maxRecDepth 100000 in
set_option maxHeartbeats 4000000 in
theorem mayBack_any {k : Int} {b gv : Bool} {n : ByteArray} {S W R C : Value} (ht : Ty f 6) (hs : Slc w0 A c0 f) (hb : Below w0.heap.size w0 w) : Calls Tryz.prog 65 #[ndV k b n gv S W R (.slice A f.len c0) C] w fun e w' => e = .returned (.bool (backP f)) ∧ Below w.heap.size w w' := by
  have hm := hs.1
  have hcm := hs.2.1
  unfold maxLen at hcm
  have hW := fun o => (Below.refl w.heap.size w).alloc (Nat.le_refl _) o
  replace hW := Lib.hid hW
  by_cases h1 : f.len = 1
  · obtain ⟨B, o, rfl, hBl, hrw⟩ := hs.2.2 (by omega)
    obtain ⟨x, r, rfl, htx, _⟩ := at_list ht (by omega)
    obtain rfl : r = .nil := len0 (by have : r.len + 1 = 1 := h1; omega)
    obtain ⟨⟨Ax, cx, ex, hsx⟩, _⟩ := rw_row.1 hrw
    rw [h1] at hm ⊢
    rw [show backP (.row x .nil) = (!(kindP x == 0) && !(kindP x == 5)) from rfl]
    have hc := fun o => kindOf_any htx hsx (hb.alloc hb.size o)
    have ex2 := fun o => cell_below (hb.alloc hb.size o) hBl ex
    have hl := fun o => Nat.lt_of_lt_of_le hBl (hb.alloc hb.size o).size
    obtain ⟨v, hv⟩ : ∃ v, (!(kindP x == 0) && !(kindP x == 5)) = v := ⟨_, rfl⟩
    rw [hv]
    generalize kindP x = kx at hc hv
    generalize x.len = mx at hc ex2
    replace hc := Lib.hid hc
    replace ex2 := Lib.hid ex2
    replace hl := Lib.hid hl
    clear ht hs hb hBl hrw htx hsx ex h1
    unfold ndV
    go_enter Tryz.func65, Tryz.ntmps65
    go_upto_region 1 with fail
    have hc1 := hc.out (.cells #[.int .i64 k, .bool b, .string n, .bool gv, S, W, R, .slice (some ⟨B, o, none⟩) 1 c0, C] 43)
    have hx1 := ex2.out (.cells #[.int .i64 k, .bool b, .string n, .bool gv, S, W, R, .slice (some ⟨B, o, none⟩) 1 c0, C] 43)
    have hl1 := hl.out (.cells #[.int .i64 k, .bool b, .string n, .bool gv, S, W, R, .slice (some ⟨B, o, none⟩) 1 c0, C] 43)
    clear hc ex2 hl
    have h7 : (w.alloc (.cells #[.int .i64 k, .bool b, .string n, .bool gv, S, W, R, .slice (some ⟨B, o, none⟩) 1 c0, C] 43)).cell? ⟨w.heap.size, 7, none⟩ = some (.slice (some ⟨B, o, none⟩) 1 c0) := (Blk.new w [_, _, _, _, _, _, _, _, _] _).cell (i := 7) rfl
    have hlt : w.heap.size < (w.alloc (.cells #[.int .i64 k, .bool b, .string n, .bool gv, S, W, R, .slice (some ⟨B, o, none⟩) 1 c0, C] 43)).heap.size := by rw [World.size_alloc]; omega
    have hW1 := Lib.hid (hW.out (.cells #[.int .i64 k, .bool b, .string n, .bool gv, S, W, R, .slice (some ⟨B, o, none⟩) 1 c0, C] 43))
    clear hW
    generalize w.alloc (.cells #[.int .i64 k, .bool b, .string n, .bool gv, S, W, R, .slice (some ⟨B, o, none⟩) 1 c0, C] 43) = w1 at hc1 hx1 hl1 h7 hlt hW1 ⊢
    generalize w.heap.size = y at h7 hlt ⊢
    go_wp2_with fail
    refine hc1.mono ?_
    rintro e w5 ⟨rfl, rfl⟩
    by_cases k0 : kx = 0
    · subst k0
      obtain rfl : false = v := by rw [← hv]; rfl
      clear hv hc1
      go_wp2
      go_ret
      exact ⟨rfl, hW1.out⟩
    · have g0 : (kx == 0) = false := by simp [k0]
      go_wp2_with fail
      refine hc1.mono ?_
      rintro e w6 ⟨rfl, rfl⟩
      clear hc1
      by_cases k5 : kx = 5
      · subst k5
        obtain rfl : false = v := by rw [← hv]; rfl
        clear hv
        go_wp2
        go_ret
        exact ⟨rfl, hW1.out⟩
      · have g5 : (kx == 5) = false := by simp [k5]
        obtain rfl : true = v := by rw [← hv, g0, g5]; rfl
        have n0 : (kx != 0) = true := by simp [k0]
        have n5 : (kx != 5) = true := by simp [k5]
        clear hv g0 g5
        go_wp2
        go_ret
        exact ⟨rfl, hW1.out⟩
  · have hk : backP f = false := by
      cases f with
      | row x r => cases r with
        | nil => exact absurd rfl h1
        | _ => rfl
      | _ => rfl
    rw [hk]
    generalize f.len = N at hm h1 ⊢
    have g1 : ((N : Int) == 1) = false := beq_eq_false_iff_ne.2 (by omega)
    have g2 : ¬ (N : Int) = 1 := by omega
    clear ht hs hb hk
    unfold ndV
    go_enter Tryz.func65, Tryz.ntmps65
    go_wp2
    go_ret
    exact ⟨rfl, hW.out _⟩
end
end Go.Proofs.YtmchfoedjajbdaaGreat
/-
  trees: what is asked of two commands, one behind the other.
-/
set_option linter.unusedSimpArgs false
set_option linter.unusedVariables false
namespace Go.Proofs.YtmchfoedjajbdaaGreat
open Go Go.RowKit Go.ChangeMaps

def pairP : F → Bool
  | .row x (.row y .nil) => !(kindP x == 0) && !(kindP x == 5) && pipedP y
  | _ => false
section
variable {w0 w : World} {A : Option Addr} {c0 : Nat} {f g : F}
set_option maxRecDepth 100000 in
set_option maxHeartbeats 4000000 in
theorem mayPair_any {k : Int} {b gv : Bool} {n : ByteArray} {S W R C : Value} (ht : Ty f 6) (hs : Slc w0 A c0 f) (hb : Below w0.heap.size w0 w) : Calls Tryz.prog 64 #[ndV k b n gv S W R (.slice A f.len c0) C] w fun e w' => e = .returned (.bool (pairP f)) ∧ Below w.heap.size w w' := by
  have hm := hs.1
  have hcm := hs.2.1
  unfold maxLen at hcm
  have hW := fun o => (Below.refl w.heap.size w).alloc (Nat.le_refl _) o
  replace hW := Lib.hid hW
  by_cases h1 : f.len = 2
  · obtain ⟨B, o, rfl, hBl, hrw⟩ := hs.2.2 (by omega)
    obtain ⟨x, r0, rfl, htx, htr⟩ := at_list ht (by omega)
    obtain ⟨y0, r, rfl, hty, _⟩ := at_list htr (by have : r0.len + 1 = 2 := h1; omega)
    obtain rfl : r = .nil := len0 (by have : r.len + 1 + 1 = 2 := h1; omega)
    obtain ⟨⟨Ax, cx, ex, hsx⟩, hrw2⟩ := rw_row.1 hrw
    obtain ⟨⟨Ay, cy, ey, hsy⟩, _⟩ := rw_row.1 hrw2
    have hcy := fun o => isPiped_any hty hsy (hb.alloc hb.size o)
    have ey2 := fun o => cell_below (hb.alloc hb.size o) hBl ey
    rw [h1] at hm ⊢
    rw [show pairP (.row x (.row y0 .nil)) = (!(kindP x == 0) && !(kindP x == 5) && pipedP y0) from rfl]
    have hc := fun o => kindOf_any htx hsx (hb.alloc hb.size o)
    have ex2 := fun o => cell_below (hb.alloc hb.size o) hBl ex
    have hl := fun o => Nat.lt_of_lt_of_le hBl (hb.alloc hb.size o).size
    obtain ⟨v, hv⟩ : ∃ v, (!(kindP x == 0) && !(kindP x == 5) && pipedP y0) = v := ⟨_, rfl⟩
    rw [hv]
    generalize kindP x = kx at hc hv
    generalize x.len = mx at hc ex2
    generalize pipedP y0 = py at hcy hv
    generalize y0.len = my at hcy ey2
    replace hcy := Lib.hid hcy
    replace ey2 := Lib.hid ey2
    replace hc := Lib.hid hc
    replace ex2 := Lib.hid ex2
    replace hl := Lib.hid hl
    clear ht hs hb hBl hrw htx hsx ex h1 hrw2 hty hsy ey htr
    unfold ndV
    go_enter Tryz.func64, Tryz.ntmps64
    go_upto_region 1 with fail
    have hc1 := hc.out (.cells #[.int .i64 k, .bool b, .string n, .bool gv, S, W, R, .slice (some ⟨B, o, none⟩) 2 c0, C] 43)
    have hx1 := ex2.out (.cells #[.int .i64 k, .bool b, .string n, .bool gv, S, W, R, .slice (some ⟨B, o, none⟩) 2 c0, C] 43)
    have hl1 := hl.out (.cells #[.int .i64 k, .bool b, .string n, .bool gv, S, W, R, .slice (some ⟨B, o, none⟩) 2 c0, C] 43)
    have hcy1 := hcy.out (.cells #[.int .i64 k, .bool b, .string n, .bool gv, S, W, R, .slice (some ⟨B, o, none⟩) 2 c0, C] 43)
    have hy1 := ey2.out (.cells #[.int .i64 k, .bool b, .string n, .bool gv, S, W, R, .slice (some ⟨B, o, none⟩) 2 c0, C] 43)
    clear hc ex2 hl hcy ey2
    have h7 : (w.alloc (.cells #[.int .i64 k, .bool b, .string n, .bool gv, S, W, R, .slice (some ⟨B, o, none⟩) 2 c0, C] 43)).cell? ⟨w.heap.size, 7, none⟩ = some (.slice (some ⟨B, o, none⟩) 2 c0) := (Blk.new w [_, _, _, _, _, _, _, _, _] _).cell (i := 7) rfl
    have hlt : w.heap.size < (w.alloc (.cells #[.int .i64 k, .bool b, .string n, .bool gv, S, W, R, .slice (some ⟨B, o, none⟩) 2 c0, C] 43)).heap.size := by rw [World.size_alloc]; omega
    have hW1 := Lib.hid (hW.out (.cells #[.int .i64 k, .bool b, .string n, .bool gv, S, W, R, .slice (some ⟨B, o, none⟩) 2 c0, C] 43))
    clear hW
    generalize w.alloc (.cells #[.int .i64 k, .bool b, .string n, .bool gv, S, W, R, .slice (some ⟨B, o, none⟩) 2 c0, C] 43) = w1 at hc1 hx1 hl1 h7 hlt hW1 hcy1 hy1 ⊢
    generalize w.heap.size = y at h7 hlt ⊢
    go_wp2_with fail
    refine hc1.mono ?_
    rintro e w5 ⟨rfl, rfl⟩
    by_cases k0 : kx = 0
    · subst k0
      obtain rfl : false = v := by rw [← hv]; rfl
      clear hv hc1 hcy1
      go_wp2
      go_ret
      exact ⟨rfl, hW1.out⟩
    · have g0 : (kx == 0) = false := by simp [k0]
      go_wp2_with fail
      refine hc1.mono ?_
      rintro e w6 ⟨rfl, rfl⟩
      clear hc1
      by_cases k5 : kx = 5
      · subst k5
        obtain rfl : false = v := by rw [← hv]; rfl
        clear hv hcy1
        go_wp2
        go_ret
        exact ⟨rfl, hW1.out⟩
      · have g5 : (kx == 5) = false := by simp [k5]
        obtain rfl : py = v := by rw [← hv, g0, g5]; simp
        have n0 : (kx != 0) = true := by simp [k0]
        have n5 : (kx != 5) = true := by simp [k5]
        clear hv g0 g5
        go_wp2_with fail
        refine hcy1.mono ?_
        rintro e w7 ⟨rfl, rfl⟩
        clear hcy1
        go_wp2
        go_ret
        exact ⟨rfl, hW1.out⟩
  · have hk : pairP f = false := by
      cases f with
      | row x r => cases r with
        | row y r => cases r with
          | nil => exact absurd rfl h1
          | _ => rfl
        | _ => rfl
      | _ => rfl
    rw [hk]
    generalize f.len = N at hm h1 ⊢
    have g1 : ((N : Int) == 2) = false := beq_eq_false_iff_ne.2 (by omega)
    have g2 : ¬ (N : Int) = 2 := by omega
    clear ht hs hb hk
    unfold ndV
    go_enter Tryz.func64, Tryz.ntmps64
    go_wp2
    go_ret
    exact ⟨rfl, hW.out _⟩
end
end Go.Proofs.YtmchfoedjajbdaaGreat
/-
  trees: what is asked of a pipe's lists, and of a loop over words.
-/
set_option linter.unusedSimpArgs false
set_option linter.unusedVariables false
namespace Go.Proofs.YtmchfoedjajbdaaGreat
open Go Go.RowKit Go.ChangeMaps

def pipeP (b : Bool) (L : F) : Bool := decide ((if b then 1 else 2) ≤ L.len) && allL stageP L
section
variable {w0 w : World} {A : Option Addr} {c0 : Nat} {f g : F}
set_option maxRecDepth 100000 in
set_option maxHeartbeats 4000000 in
theorem mayPipe_any {k : Int} {b gv : Bool} {n : ByteArray} {S W R C : Value} (ht : Ty f 6) (hs : Slc w0 A c0 f) (hb : Below w0.heap.size w0 w) : Calls Tryz.prog 63 #[ndV k b n gv S W R (.slice A f.len c0) C] w fun e w' => e = .returned (.bool (pipeP b f)) ∧ Below w.heap.size w w' := by
  have hm := hs.1
  have hcm := hs.2.1
  unfold maxLen at hcm
  have hc := fun o => all_stage ht hs (hb.alloc hb.size o)
  have hW := fun o => (Below.refl w.heap.size w).alloc (Nat.le_refl _) o
  obtain ⟨v, hv⟩ : ∃ v, pipeP b f = v := ⟨_, rfl⟩
  rw [hv]
  unfold pipeP at hv
  generalize allL stageP f = a at hc hv
  generalize f.len = N at hc hm hv ⊢
  replace hc := Lib.hid hc
  replace hW := Lib.hid hW
  clear ht hs hb
  unfold ndV
  cases b
  · by_cases h1 : 2 ≤ N
    · obtain rfl : a = v := by rw [← hv]; simp [h1]
      clear hv
      have g1 : (2 : Int) ≤ (N : Int) := by omega
      have g2 : ¬ (N : Int) < 2 := by omega
      go_enter Tryz.func63, Tryz.ntmps63
      go_wp2_with fail
      refine (hc.out _).mono ?_
      rintro e w5 ⟨rfl, rfl⟩
      clear hc
      go_wp2
      go_ret
      exact ⟨rfl, hW.out _⟩
    · obtain rfl : false = v := by rw [← hv]; simp [h1]
      clear hv hc
      have g1 : ¬ (2 : Int) ≤ (N : Int) := by omega
      have g2 : (N : Int) < 2 := by omega
      go_enter Tryz.func63, Tryz.ntmps63
      go_wp2
      go_ret
      exact ⟨rfl, hW.out _⟩
  · by_cases h1 : 1 ≤ N
    · obtain rfl : a = v := by rw [← hv]; simp [h1]
      clear hv
      have g1 : (1 : Int) ≤ (N : Int) := by omega
      have g2 : ¬ (N : Int) < 1 := by omega
      go_enter Tryz.func63, Tryz.ntmps63
      go_wp2_with fail
      refine (hc.out _).mono ?_
      rintro e w5 ⟨rfl, rfl⟩
      clear hc
      go_wp2
      go_ret
      exact ⟨rfl, hW.out _⟩
    · obtain rfl : false = v := by rw [← hv]; simp [h1]
      clear hv hc
      have g1 : ¬ (1 : Int) ≤ (N : Int) := by omega
      have g2 : (N : Int) < 1 := by omega
      go_enter Tryz.func63, Tryz.ntmps63
      go_wp2
      go_ret
      exact ⟨rfl, hW.out _⟩
end
end Go.Proofs.YtmchfoedjajbdaaGreat
/-
  trees: what is asked of a function's command.
-/
set_option linter.unusedSimpArgs false
set_option linter.unusedVariables false
namespace Go.Proofs.YtmchfoedjajbdaaGreat
open Go Go.RowKit Go.ChangeMaps

def funcP (n : ByteArray) : F → Bool
  | .row x .nil => nameB n && !reservedB n && (decide (6 ≤ kindP x) && decide (kindP x ≤ 12))
  | _ => false
theorem funcP_no {n : ByteArray} {f : F} (h : nameB n = false ∨ reservedB n = true ∨ f.len ≠ 1) : funcP n f = false := by
  cases f with
  | row x r => cases r with
    | nil => rcases h with h | h | h
             · simp [funcP, h]
             · simp [funcP, h]
             · exact absurd rfl h
    | _ => rfl
  | _ => rfl
section
variable {w0 w : World} {A : Option Addr} {c0 : Nat} {f g : F}
set_option maxRecDepth 100000 in
set_option maxHeartbeats 4000000 in
theorem mayFunc_any {k : Int} {b gv : Bool} {n : ByteArray} {S W R C : Value} (hn : n.size ≤ 1000000) (ht : Ty f 6) (hs : Slc w0 A c0 f) (hb : Below w0.heap.size w0 w) : Calls Tryz.prog 71 #[ndV k b n gv S W R (.slice A f.len c0) C] w fun e w' => e = .returned (.bool (funcP n f)) ∧ Below w.heap.size w w' := by
  have hm := hs.1
  have hcm := hs.2.1
  unfold maxLen at hcm
  have hW := fun o => (Below.refl w.heap.size w).alloc (Nat.le_refl _) o
  replace hW := Lib.hid hW
  have hnm := fun W9 => Name_any n hn W9
  have hre := fun W9 => Reserved_any n W9
  have hno := fun h => funcP_no (n := n) (f := f) h
  by_cases h1 : f.len = 1
  · obtain ⟨B, o, rfl, hBl, hrw⟩ := hs.2.2 (by omega)
    obtain ⟨x, r, rfl, htx, _⟩ := at_list ht (by omega)
    obtain rfl : r = .nil := len0 (by have : r.len + 1 = 1 := h1; omega)
    obtain ⟨⟨Ax, cx, ex, hsx⟩, _⟩ := rw_row.1 hrw
    rw [h1] at hm ⊢
    rw [show funcP n (.row x .nil) = (nameB n && !reservedB n && (decide (6 ≤ kindP x) && decide (kindP x ≤ 12))) from rfl]
    have hc := fun o => kindOf_any htx hsx (hb.alloc hb.size o)
    have ex2 := fun o => cell_below (hb.alloc hb.size o) hBl ex
    have hl := fun o => Nat.lt_of_lt_of_le hBl (hb.alloc hb.size o).size
    obtain ⟨v, hv⟩ : ∃ v, (nameB n && !reservedB n && (decide (6 ≤ kindP x) && decide (kindP x ≤ 12))) = v := ⟨_, rfl⟩
    rw [hv]
    generalize kindP x = kx at hc hv
    generalize x.len = mx at hc ex2
    generalize nameB n = nb at hnm hv
    generalize reservedB n = rb at hre hv
    replace hc := Lib.hid hc
    replace ex2 := Lib.hid ex2
    replace hl := Lib.hid hl
    replace hnm := Lib.hid hnm
    replace hre := Lib.hid hre
    clear ht hs hb hBl hrw htx hsx ex h1 hno hn
    unfold ndV
    go_enter Tryz.func71, Tryz.ntmps71
    go_upto_region 1 with fail
    have hc1 := hc.out (.cells #[.int .i64 k, .bool b, .string n, .bool gv, S, W, R, .slice (some ⟨B, o, none⟩) 1 c0, C] 43)
    have hx1 := ex2.out (.cells #[.int .i64 k, .bool b, .string n, .bool gv, S, W, R, .slice (some ⟨B, o, none⟩) 1 c0, C] 43)
    have hl1 := hl.out (.cells #[.int .i64 k, .bool b, .string n, .bool gv, S, W, R, .slice (some ⟨B, o, none⟩) 1 c0, C] 43)
    clear hc ex2 hl
    have h2 : (w.alloc (.cells #[.int .i64 k, .bool b, .string n, .bool gv, S, W, R, .slice (some ⟨B, o, none⟩) 1 c0, C] 43)).cell? ⟨w.heap.size, 2, none⟩ = some (.string n) := (Blk.new w [_, _, _, _, _, _, _, _, _] _).cell (i := 2) rfl
    have h7 : (w.alloc (.cells #[.int .i64 k, .bool b, .string n, .bool gv, S, W, R, .slice (some ⟨B, o, none⟩) 1 c0, C] 43)).cell? ⟨w.heap.size, 7, none⟩ = some (.slice (some ⟨B, o, none⟩) 1 c0) := (Blk.new w [_, _, _, _, _, _, _, _, _] _).cell (i := 7) rfl
    have hlt : w.heap.size < (w.alloc (.cells #[.int .i64 k, .bool b, .string n, .bool gv, S, W, R, .slice (some ⟨B, o, none⟩) 1 c0, C] 43)).heap.size := by rw [World.size_alloc]; omega
    have hW1 := Lib.hid (hW.out (.cells #[.int .i64 k, .bool b, .string n, .bool gv, S, W, R, .slice (some ⟨B, o, none⟩) 1 c0, C] 43))
    clear hW
    generalize w.alloc (.cells #[.int .i64 k, .bool b, .string n, .bool gv, S, W, R, .slice (some ⟨B, o, none⟩) 1 c0, C] 43) = w1 at hc1 hx1 hl1 h2 h7 hlt hW1 ⊢
    generalize w.heap.size = y at h2 h7 hlt ⊢
    go_wp2_with fail
    refine (hnm.out _).mono ?_
    rintro e w5 ⟨rfl, rfl⟩
    clear hnm
    cases nb
    · obtain rfl : false = v := by rw [← hv]; rfl
      clear hv hc1 hre
      go_wp2
      go_ret
      exact ⟨rfl, hW1.out⟩
    · go_wp2_with fail
      refine (hre.out _).mono ?_
      rintro e w6 ⟨rfl, rfl⟩
      clear hre
      cases rb
      · go_wp2_with fail
        refine hc1.mono ?_
        rintro e w7 ⟨rfl, rfl⟩
        clear hc1
        replace hv : (decide (6 ≤ kx) && decide (kx ≤ 12)) = v := by rw [← hv]; simp
        by_cases k6 : 6 ≤ kx
        · by_cases k12 : kx ≤ 12
          · obtain rfl : true = v := by rw [← hv]; simp [k6, k12]
            clear hv
            go_wp2
            go_ret
            exact ⟨rfl, hW1.out⟩
          · obtain rfl : false = v := by rw [← hv]; simp [k12]
            clear hv
            have d12 : 12 < kx := by omega
            go_wp2
            go_ret
            exact ⟨by simp [d12], hW1.out⟩
        · obtain rfl : false = v := by rw [← hv]; simp [k6]
          clear hv
          go_wp2
          go_ret
          exact ⟨rfl, hW1.out⟩
      · obtain rfl : false = v := by rw [← hv]; rfl
        clear hv hc1
        go_wp2
        go_ret
        exact ⟨rfl, hW1.out⟩
  · have hk : funcP n f = false := hno (.inr (.inr h1))
    rw [hk]
    generalize f.len = N at hm h1 ⊢
    have g1 : ((N : Int) == 1) = false := beq_eq_false_iff_ne.2 (by omega)
    have g2 : ¬ (N : Int) = 1 := by omega
    have g3 : ((N : Int) != 1) = true := by rw [bne, g1]; rfl
    generalize nameB n = nb at hnm
    generalize reservedB n = rb at hre
    replace hnm := Lib.hid hnm
    replace hre := Lib.hid hre
    clear ht hs hb hk hno hn
    unfold ndV
    go_enter Tryz.func71, Tryz.ntmps71
    go_wp2_with fail
    refine (hnm.out _).mono ?_
    rintro e w5 ⟨rfl, rfl⟩
    clear hnm
    cases nb
    · clear hre
      go_wp2
      go_ret
      exact ⟨rfl, hW.out _⟩
    · go_wp2_with fail
      refine (hre.out _).mono ?_
      rintro e w6 ⟨rfl, rfl⟩
      clear hre
      cases rb
      · go_wp2
        go_ret
        exact ⟨rfl, hW.out _⟩
      · go_wp2
        go_ret
        exact ⟨rfl, hW.out _⟩
end
end Go.Proofs.YtmchfoedjajbdaaGreat
