/-
  whole tells whether rows, with any bytes between them, fit all of a text; Match. Conditions: at most a million rows and bytes.
-/
import Derived.Test.YtnioneknlgbhoaaGbHead
namespace Go.Proofs.Ytnioneknlgbhoaa
open Go Go.RowKit

theorem elemRows : Try.prog.underlying 74 = some (.slice (Try.prog.elem 74)) := by kernel_rfl
theorem sizeRows (W : World) : (sizeOf (Try.prog.elem 74)).run Try.prog W = .ok 1 W := by kernel_rfl
theorem cut_rows_h {w : World} {B : Nat} {A : Option Addr} {c hi n : Nat} {l : List (List St)} (h : Rws w B (.slice A n c) l) (hn : n = l.length) (hh : hi ≤ n) :
    ∃ v', (∀ (W : World) (kh : IntKind), (Instr.slice 74 (.slice A n c) none (some (.int kh (hi : Int))) none).run Try.prog W = .ok v' W) ∧ Rws w B v' (l.take hi) := by
  subst hn
  obtain ⟨vs, hsl, hr⟩ := h
  have hc : l.length ≤ c := by obtain ⟨A', c', hv, hc, _⟩ := hsl; injection hv with e1 e2 e3; subst e3; exact hc
  refine ⟨sliced A 0 hi c 1, fun W kh => ?_, vs.take hi, ?_, fun i x hx => ?_⟩
  · rw [run_slice_h W 74 A l.length c elemRows kh hi (by omega) (by omega), sizeRows W]
    simp only [Result.andThen, Int.toNat_natCast]
  · have hcut := Sl.cut (lo := 0) (hi := hi) hsl (Nat.zero_le _) hh
    rw [Nat.zero_mul, List.drop_zero, Nat.sub_zero, Nat.mul_one] at hcut
    rw [List.length_take, Nat.min_eq_left hh]
    exact hcut
  · rw [List.getElem?_take] at hx ⊢
    split at hx
    · rename_i hj; rw [if_pos hj]; exact hr i x hx
    · cases hx

set_option maxHeartbeats 2000000 in
set_option maxRecDepth 100000 in
theorem whole_any (ls : List (List St)) (hok : ∀ l ∈ ls, ∀ n ∈ l, okSt n) (hne : ls ≠ []) (v : Value) (s : ByteArray) (B : Nat) (w : World) (ht : Rws w B v ls) (hl : ls.length ≤ 1000000) (hl2 : ∀ l ∈ ls, l.length ≤ 1000000) (hs : s.size ≤ 1000000) :
    Calls Try.prog 37 #[v, .string s] w fun e w' => e = .returned (.bool (wholeP (rw_ ls) (bl s))) ∧ ∃ m, w' = w.drewN m := by
  obtain ⟨A, c, rfl, hc, hcm⟩ := ht.form
  unfold maxLen at hcm
  rcases List.eq_nil_or_concat ls with rfl | ⟨ini, last, hc2⟩
  · exact absurd rfl hne
  rw [List.concat_eq_append] at hc2
  subst hc2
  rw [List.length_append] at ht hc hl ⊢
  simp only [List.length_singleton] at ht hc hl ⊢
  have hwp : wholeP (rw_ (ini ++ [last])) (bl s) = (decide (last.length ≤ s.size) && fitsAt (last.map hasS) ((bl s).drop (s.size - last.length)) && (if ini.length + 1 = 1 then decide (s.size = last.length) else (headP (rw_ ini) ((bl s).take (s.size - last.length)) false).isSome)) := by
    simp only [wholeP, rw_, List.map_append, List.map_cons, List.map_nil, List.getLast?_append, List.getLast?_singleton, Option.some_or, List.dropLast_concat, List.length_append, List.length_singleton, List.length_map, bl_len]
  obtain ⟨blk, off, u, rfl, hblk, g0, hu⟩ := ht.at_ (k := ini.length) (by simp)
  have hget : (ini ++ [last])[ini.length]'(by simp) = last := by simp
  rw [hget] at hu
  clear hget
  obtain ⟨A0, c0, rfl, hc0, hcm0⟩ := hu.form
  unfold maxLen at hcm0
  have h0len := hl2 last (by simp)
  have hokl := hok last (by simp)
  obtain ⟨v2, hr2, ht2⟩ := cut_rows_h ht (by simp) (hi := ini.length) (by omega)
  rw [List.take_left'  rfl] at ht2
  have hW := Lib.hid hwp
  clear hwp
  by_cases hn : last.length ≤ s.size
  · have hlow := bl_from s (s.size - last.length)
    have hz := placeP_zero (r := last.map hasS) (s := (bl s).drop (s.size - last.length)) (by rw [List.length_map, List.length_drop, bl_len]; omega)
    rw [List.length_map, List.take_of_length_le (by rw [List.length_drop, bl_len]; omega), ← hlow] at hz
    rw [← hlow] at hW
    have hpl := fun W hW => place_any last hokl (.slice A0 last.length c0) (s.extract (s.size - last.length) s.size) false B W hW h0len (by simp; omega)
    rw [hz] at hpl
    clear hz hlow
    go_enter Try.func37, Try.ntmps37
    by_cases hf : fitsAt (last.map hasS) (bl (s.extract (s.size - last.length) s.size)) = true
    · rw [if_pos hf] at hpl
      rw [hf] at hW
      simp only [optI] at hpl
      clear hf
      go_wp2_with fail
      refine (hpl _ hu).mono ?_
      rintro e w1 ⟨rfl, hd⟩
      clear hpl
      by_cases h1 : ini.length = 0
      · have hW2 := hW.out
        rw [h1, decide_eq_true hn, if_pos rfl] at hW2
        simp only [Bool.true_and] at hW2
        have hW3 := Lib.hid hW2
        clear hW hW2
        by_cases he : s.size = last.length
        · go_wp2
          go_ret
          exact ⟨ret_bool (by have h9 := hW3.out; rw [decide_eq_true he] at h9; rw [h9]; try (first | rfl | simp | (simp; omega))), hd⟩
        · go_wp2
          go_ret
          exact ⟨ret_bool (by have h9 := hW3.out; rw [decide_eq_false he] at h9; rw [h9]; (try simp); try omega), hd⟩
      · have hup := bl_upto s (s.size - last.length)
        have hini : ini ≠ [] := fun h => h1 (by rw [h]; rfl)
        have hhd := fun W hW => head_any ini (fun l hl => hok l (List.mem_append_left _ hl)) hini v2 (s.extract 0 (s.size - last.length)) false B W hW (by omega) (fun l hl => hl2 l (List.mem_append_left _ hl)) (by simp; omega)
        rw [hup] at hhd
        clear hup
        have hW2 := hW.out
        rw [decide_eq_true hn, if_neg (by omega)] at hW2
        simp only [Bool.true_and] at hW2
        generalize headP (rw_ ini) ((bl s).take (s.size - last.length)) false = o at hhd hW2
        have hW3 := Lib.hid hW2
        clear hW hW2 hok hini
        have ht3 : Rws w1 B v2 ini := by obtain ⟨d, rfl⟩ := hd; exact ht2
        obtain ⟨A4, c4, rfl, _, _⟩ := ht3.form
        have k5 : IntKind.i64.wrap (ini.length : Int) = (ini.length : Int) := IntWalk.i64_in _ (by omega)
        cases o with
        | none =>
          simp only [optI] at hhd
          go_wp2
          go_quiet ((go_at_call 44; refine Calls.quiet_of (hhd _ ht3)))
          clear hhd k5 hr2
          go_wp2
          go_ret
          exact ⟨ret_bool (by rw [hW3.out]; rfl), drew_more hd _⟩
        | some m =>
          simp only [optI] at hhd
          go_wp2
          go_quiet ((go_at_call 44; refine Calls.quiet_of (hhd _ ht3)))
          clear hhd k5 hr2
          go_wp2
          go_ret
          exact ⟨ret_bool (by rw [hW3.out]; simp), drew_more hd _⟩
    · rw [if_neg hf] at hpl
      rw [Bool.not_eq_true] at hf
      rw [hf] at hW
      simp only [optI] at hpl
      clear hf
      go_wp2_with fail
      refine (hpl _ hu).mono ?_
      rintro e w1 ⟨rfl, hd⟩
      clear hpl
      go_wp2
      go_ret
      exact ⟨ret_bool (by rw [hW.out]; simp), hd⟩
  · go_enter Try.func37, Try.ntmps37
    go_wp2
    go_ret
    exact ⟨ret_bool (by rw [hW.out]; simp [hn]), 0, rfl⟩
theorem says_ne {ls : List (List St)} {p : List It} (h : SaysRows ls (rowsP p)) : ls ≠ [] := by
  intro e
  have := h.2
  rw [e] at this
  exact rowsP_ne p this.symm
theorem says_short {ls : List (List St)} {p : List It} (h : SaysRows ls (rowsP p)) (hl : p.length ≤ 999999) : ls.length ≤ 1000000 ∧ ∀ l ∈ ls, l.length ≤ 1000000 := by
  have h1 := rowsP_len p
  refine ⟨by have := says_len h; omega, fun l hl => ?_⟩
  have : l.map hasS ∈ rowsP p := by rw [← h.2]; exact List.mem_map_of_mem hl
  have := h1.2 _ this
  rw [List.length_map] at this
  omega

set_option maxHeartbeats 400000 in
set_option maxRecDepth 100000 in
theorem match_any (p : List It) (v : Value) (s : ByteArray) (B : Nat) (w : World) (ht : Its w B v p) (hB : B ≤ w.heap.size) (hl : p.length ≤ 999999) (hs : s.size ≤ 1000000) :
    Calls Try.prog 21 #[v, .string s] w fun e w' => e = .returned (.bool (mt p (bl s))) ∧ Below w.heap.size w w' := by
  go_enter Try.func21, Try.ntmps21
  go_wp2_with fail
  refine (rows_any p v B w ht hB (by omega)).mono ?_
  rintro e w1 ⟨v1, ls, rfl, hr, hsay, hb1⟩
  have hsh := says_short hsay hl
  have hm : wholeP (rw_ ls) (bl s) = mt p (bl s) := by rw [← wholeP_mt, ← hsay.2]
  have hwh := whole_any ls hsay.1 (says_ne hsay) v1 s _ w1 hr hsh.1 hsh.2 hs
  rw [hm] at hwh
  clear hm hsh hsay hr
  go_wp2_with fail
  refine hwh.mono ?_
  rintro e w2 ⟨rfl, d, rfl⟩
  go_wp2
  go_ret
  exact ⟨rfl, below_drewN hb1 _⟩
end Go.Proofs.Ytnioneknlgbhoaa
