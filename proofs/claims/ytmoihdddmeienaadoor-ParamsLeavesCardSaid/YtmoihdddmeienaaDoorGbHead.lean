/-
  head tells how long the shortest, or longest, beginning is that rows fit. Conditions: at most a million rows and bytes.
-/
import Derived.Test.YtmoihdddmeienaaDoorGbPlace
namespace Go.Proofs.YtmoihdddmeienaaDoor
open Go Go.RowKit

theorem placeP_zero {r : Rw} {s : List UInt8} (h : r.length ≤ s.length) : placeP r (s.take r.length) false = if fitsAt r s = true then some 0 else none := by
  split
  · rename_i hf
    refine placeP_is (by simp; omega) (by rw [List.drop_zero, fitsAt_take]; exact hf) (fun j _ hlt => ?_)
    simp at hlt
  · rename_i hf
    refine placeP_no (fun j hj => ?_)
    have : j = 0 := by simp at hj; omega
    subst this
    rw [List.drop_zero, fitsAt_take]
    simpa using hf
theorem bl_upto (s : ByteArray) (k : Nat) : bl (s.extract 0 k) = (bl s).take k := by simp [bl, ByteArray.data_extract]
theorem bl_from (s : ByteArray) (k : Nat) : bl (s.extract k s.size) = (bl s).drop k := Lib.extract_to_end s k
theorem greed_step {r : Rw} {rs : List Rw} {s : List UInt8} {n : Nat} {lg : Bool} {o : Option Nat} (h : placeP r (s.drop n) (lg && rs.isEmpty) = o) :
    (greed (r :: rs) (s.drop n) lg).map (· + n) = o.bind fun m => (greed rs (s.drop (n + (m + r.length))) lg).map (· + (n + (m + r.length))) := by
  simp only [greed, h]
  cases o with
  | none => rfl
  | some m =>
    simp only [List.drop_drop, Option.map_map, Option.bind_some]
    congr 1
    funext x
    simp only [Function.comp]
    omega
abbrev rw_ (ls : List (List St)) : List Rw := ls.map (fun l => l.map hasS)

set_option maxHeartbeats 2000000 in
set_option maxRecDepth 100000 in
theorem head_any (ls : List (List St)) (hok : ∀ l ∈ ls, ∀ n ∈ l, okSt n) (hne : ls ≠ []) (v : Value) (s : ByteArray) (lg : Bool) (B : Nat) (w : World) (ht : Rws w B v ls) (hl : ls.length ≤ 1000000) (hl2 : ∀ l ∈ ls, l.length ≤ 1000000) (hs : s.size ≤ 1000000) :
    Calls Tryd.prog 55 #[v, .string s, .bool lg] w fun e w' => e = .returned (.int .i64 (optI (headP (rw_ ls) (bl s) lg))) ∧ ∃ m, w' = w.drewN m := by
  obtain ⟨A, c, rfl, hc, hcm⟩ := ht.form
  unfold maxLen at hcm
  obtain ⟨r0, rs, rfl⟩ : ∃ a b, ls = a :: b := by cases ls with
    | nil => exact absurd rfl hne
    | cons a b => exact ⟨a, b, rfl⟩
  obtain ⟨blk, off, u, rfl, hblk, g0, hu⟩ := ht.at_ (k := 0) (by simp)
  simp only [List.getElem_cons_zero, Nat.add_zero] at hu g0
  obtain ⟨A0, c0, rfl, hc0, hcm0⟩ := hu.form
  unfold maxLen at hcm0
  have h0len := hl2 r0 (by simp)
  have hrl : rs.length ≤ 1000000 := by simp at hl; omega
  go_enter Tryd.func55, Tryd.ntmps55
  by_cases hn : r0.length ≤ s.size
  · have hng : decide ((s.size : Int) < (r0.length : Int)) = false := decide_eq_false (by omega)
    have hcut := bl_upto s r0.length
    have hz := placeP_zero (r := r0.map hasS) (s := bl s) (by rw [List.length_map, bl_len]; exact hn)
    rw [List.length_map, ← hcut] at hz
    have hpl := fun W hW => place_any r0 (hok r0 (by simp)) (.slice A0 r0.length c0) (s.extract 0 r0.length) false B W hW h0len (by simp; omega)
    rw [hz] at hpl
    clear hz hcut
    by_cases hf : fitsAt (r0.map hasS) (bl s) = true
    · rw [if_pos hf] at hpl
      simp only [optI] at hpl
      have hI : Hid (headP (rw_ (r0 :: rs)) (bl s) lg = (greed ((rw_ rs).drop (1 - 1)) ((bl s).drop r0.length) lg).map (· + r0.length)) := by
        simp only [Hid, rw_, List.map_cons, headP, List.length_map, Nat.sub_self, List.drop_zero]
        rw [if_pos ⟨by rw [bl_len]; exact hn, hf⟩]
      clear hf
      go_wp2
      go_quiet ((go_at_call 75; refine Calls.quiet_of (hpl _ hu)))
      clear hpl g0 hng
      go_wp2
      have hngN : decide (s.size < r0.length) = false := decide_eq_false (by omega)
      try simp only [hngN]
      clear hngN
      go_loopw [7, 8] (fun n i wr => ∃ (j k : Nat), 1 ≤ j ∧ j ≤ rs.length + 1 ∧ k ≤ s.size ∧ i = .int .i64 j ∧ n = .int .i64 k ∧ (∃ d, wr = w.drewN d) ∧ Hid (headP (rw_ (r0 :: rs)) (bl s) lg = (greed ((rw_ rs).drop (j - 1)) ((bl s).drop k) lg).map (· + k))) (fun _ i _ => rs.length + 1 - (intOf i).toNat)
      case atStart => exact ⟨1, r0.length, by omega, by omega, hn, rfl, rfl, ⟨_, rfl⟩, hI⟩
      case round =>
        clear hI hu
        obtain ⟨j, k, hj1, hj, hk, rfl, rfl, hd, hI⟩ := hrel
        by_cases hlt : j < rs.length + 1
        · obtain ⟨blk2, off2, u2, hA2, hblk2, g2, hu2⟩ := ht.at_ (k := j) (by simp; omega)
          injection hA2 with hA2
          injection hA2 with e1 e2 _
          subst e1 e2
          obtain ⟨A2, c2, rfl, hc2, hcm2⟩ := hu2.form
          unfold maxLen at hcm2
          have h2len := hl2 (r0 :: rs)[j] (List.getElem_mem _)
          have hok2 := hok (r0 :: rs)[j] (List.getElem_mem _)
          have hdrop : (rw_ rs).drop (j - 1) = ((r0 :: rs)[j].map hasS) :: (rw_ rs).drop j := by
            rw [List.drop_eq_getElem_cons (by simp [rw_]; omega)]
            congr 1
            · simp only [rw_, List.getElem_map]
              congr 1
              rw [List.getElem_cons, dif_neg (by omega)]
            · congr 1; omega
          rw [hdrop] at hI
          clear hdrop
          have hemp : ((rw_ rs).drop j).isEmpty = decide (j = rs.length) := by
            rw [Bool.eq_iff_iff, List.isEmpty_iff, decide_eq_true_eq]
            simp [rw_]; omega
          generalize (r0 :: rs)[j] = row at g2 hu2 h2len hok2 hI hc2
          have hdr : ∀ W, (∃ d, W = w.drewN d) → Ro W B (.slice A2 row.length c2) row ∧ W.cell? ⟨blk, off + j, none⟩ = some (.slice A2 row.length c2) := by
            rintro W ⟨d, rfl⟩; exact ⟨hu2, g2⟩
          obtain ⟨hu3, g3⟩ := hdr wr hd
          obtain ⟨X, hX⟩ : ∃ X, X = (lg && decide (j = rs.length)) := ⟨_, rfl⟩
          obtain ⟨o, ho⟩ : ∃ o, placeP (row.map hasS) ((bl s).drop k) X = o := ⟨_, rfl⟩
          have hI2 := Lib.hid (hI.out.trans (greed_step (rs := (rw_ rs).drop j) (o := o) (by rw [hemp, ← hX]; exact ho)))
          have hroom : ∀ m, o = some m → m + row.length ≤ s.size - k := by
            intro m hm
            rw [hm] at ho
            have := (placeP_some ho).1
            rw [List.length_map, List.length_drop, bl_len] at this
            exact this
          have hpl : ∀ (last : Bool), last = X → ∀ W, Ro W B (.slice A2 row.length c2) row → Calls Tryd.prog 75 #[.slice A2 row.length c2, .string (s.extract k s.size), .bool last] W fun e w' => e = .returned (.int .i64 (optI o)) ∧ ∃ m, w' = W.drewN m := fun last h W hW => by
            subst h
            have := place_any row hok2 (.slice A2 row.length c2) (s.extract k s.size) last B W hW h2len (by simp; omega)
            rw [bl_from, ho] at this
            exact this
          have k5 : IntKind.i64.wrap (rs.length : Int) = (rs.length : Int) := IntWalk.i64_in _ (by omega)
          have hjI : (j : Int) < ((rs.length : Int) + 1) := by omega
          clear hI hemp ho hu2 g2 hdr hok2
          have hcase : (lg = false ∧ X = false) ∨ (lg = true ∧ j = rs.length ∧ X = true) ∨ (lg = true ∧ ¬ j = rs.length ∧ X = false) := by
            rw [hX]
            cases lg
            · exact .inl ⟨rfl, rfl⟩
            · by_cases hjl : j = rs.length
              · exact .inr (.inl ⟨rfl, hjl, by simp [hjl]⟩)
              · exact .inr (.inr ⟨rfl, hjl, by simp [hjl]⟩)
          clear hX
          rcases hcase with ⟨rfl, rfl⟩ | ⟨rfl, rfl, rfl⟩ | ⟨rfl, hjl, rfl⟩
          all_goals
            cases o with
            | none =>
              simp only [optI] at hpl
              have hI3 := hI2.out
              simp only [Option.bind_none] at hI3
              have hI3 := Lib.hid hI3
              clear hI2
              go_wp2
              go_quiet ((go_at_call 75; refine Calls.quiet_of (hpl _ (by first | rfl | (simp; omega)) _ hu3)))
              clear hpl k5
              go_wp2
              go_ret
              exact ⟨by rw [hI3.out]; rfl, drew_more hd _⟩
            | some m =>
              simp only [optI] at hpl
              have hm := hroom m rfl
              have hI3 := hI2.out
              simp only [Option.bind_some, List.length_map] at hI3
              have hI3 := Lib.hid hI3
              clear hI2 hroom
              go_wp2
              go_quiet ((go_at_call 75; refine Calls.quiet_of (hpl _ (by first | rfl | (simp; omega)) _ hu3)))
              clear hpl k5
              go_wp2
              go_roundw
              case rel =>
                first
                  | exact ⟨j + 1, k + (m + row.length), by omega, by omega, by omega, by go_num, by go_num, drew_more hd _, hI3⟩
                  | exact ⟨rs.length + 1, k + (m + row.length), by omega, by omega, by omega, by go_num, by go_num, drew_more hd _, hI3⟩
              case measure => (simp [intOf]; try omega)
        · have hfin : Hid (headP (rw_ (r0 :: rs)) (bl s) lg = some k) := by
            have := hI.out
            rw [List.drop_of_length_le (by simp [rw_]; omega)] at this
            rw [Hid, this]
            simp [greed]
          clear hI
          go_wp2
          go_ret
          exact ⟨by rw [hfin.out]; rfl, hd⟩
    · rw [if_neg hf] at hpl
      simp only [optI] at hpl
      have hI : Hid (headP (rw_ (r0 :: rs)) (bl s) lg = none) := by
        simp only [Hid, rw_, List.map_cons, headP, List.length_map]
        rw [if_neg (fun h => hf h.2)]
      clear hf
      go_wp2
      go_quiet ((go_at_call 75; refine Calls.quiet_of (hpl _ hu)))
      clear hpl g0 hng
      go_wp2
      go_ret
      exact ⟨by rw [hI.out]; rfl, _, rfl⟩
  · have hng : decide ((s.size : Int) < (r0.length : Int)) = true := decide_eq_true (by omega)
    have hI : Hid (headP (rw_ (r0 :: rs)) (bl s) lg = none) := by
      simp only [Hid, rw_, List.map_cons, headP, List.length_map]
      rw [if_neg (fun h => by rw [bl_len] at h; exact hn h.1)]
    go_wp2
    go_quiet (fail)
    clear g0 hng
    go_wp2
    go_ret
    exact ⟨by rw [hI.out]; rfl, _, rfl⟩
end Go.Proofs.YtmoihdddmeienaaDoor
