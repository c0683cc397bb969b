/-
  The document's answer for Doc tells what Doc tells. Conditions: none.
-/
import Derived.Laws.Concat
import Derived.Test.YtjeleebgifajkaaDoorLxDoc
set_option linter.unusedSimpArgs false
set_option linter.unusedVariables false
namespace Go.Proofs.YtjeleebgifajkaaDoor
open Go Go.Shelf Go.RowKit

theorem bl_append (s t : ByteArray) : bl (s ++ t) = bl s ++ bl t := by
  simp [bl, ByteArray.data_append]
def tabN : List UInt8 → Nat
  | [] => 0
  | c :: r => if c = 9 then tabN r + 1 else 0
theorem tabN_line (x : List UInt8) : tabN x ≤ lineN x := by
  induction x with
  | nil => simp [tabN]
  | cons c r ih =>
    unfold tabN lineN
    by_cases h : c = 9
    · subst h; rw [if_pos rfl, if_neg (by decide)]; omega
    · rw [if_neg h]; omega
theorem trimL_tab (x : List UInt8) : Lib.trimLeftB (x.take (lineN x + 1)) 9 = (x.take (lineN x + 1)).drop (tabN x) := by
  unfold Lib.trimLeftB
  induction x with
  | nil => simp [tabN]
  | cons c r ih =>
    by_cases h : c = 9
    · subst h
      have e1 : lineN (9 :: r) = lineN r + 1 := by rw [lineN.eq_def]; simp
      have e2 : tabN (9 :: r) = tabN r + 1 := by rw [tabN.eq_def]; simp
      rw [e1, e2, List.take_succ_cons, List.drop_succ_cons, List.dropWhile_cons_of_pos (by simp)]
      exact ih
    · have e2 : tabN (c :: r) = 0 := by rw [tabN.eq_def]; simp [h]
      rw [e2, List.drop_zero, List.take_succ_cons, List.dropWhile_cons_of_neg (by simpa using h)]
theorem tabN_at (x : List UInt8) (i : Nat) (h : i < tabN x) : x[i]? = some 9 := by
  induction x generalizing i with
  | nil => simp [tabN] at h
  | cons c r ih =>
    unfold tabN at h
    by_cases h9 : c = 9
    · subst h9
      rw [if_pos rfl] at h
      cases i with
      | zero => rfl
      | succ i => exact ih i (by omega)
    · rw [if_neg h9] at h; omega
theorem tabN_no (x : List UInt8) : x[tabN x]? ≠ some 9 := by
  induction x with
  | nil => simp
  | cons c r ih =>
    unfold tabN
    by_cases h9 : c = 9
    · rw [if_pos h9]; exact ih
    · rw [if_neg h9]; simpa using h9
def dN (x : List UInt8) (tabs : Bool) : Nat := if tabs = true then tabN x else 0
theorem dN_le (x : List UInt8) (tabs : Bool) : dN x tabs ≤ lineN x := by
  unfold dN
  split
  · exact tabN_line x
  · omega
theorem lineP_drop (x : List UInt8) (tabs : Bool) : lineP x tabs = (x.take (lineN x + 1)).drop (dN x tabs) := by
  unfold lineP dN
  split
  · exact trimL_tab x
  · rfl
theorem suf_none {l : List UInt8} (h : ∀ c ∈ l, c ≠ 10) : Lib.trimSuffix l [10] = l := by
  unfold Lib.trimSuffix
  rw [if_neg]
  intro hs
  unfold Lib.hasSuffix at hs
  rw [List.isSuffixOf_iff_suffix] at hs
  obtain ⟨t, ht⟩ := hs
  exact h 10 (by rw [← ht]; simp) rfl
theorem suf_some (l : List UInt8) : Lib.trimSuffix (l ++ [10]) [10] = l := by
  unfold Lib.trimSuffix
  rw [if_pos]
  · simp
  · unfold Lib.hasSuffix
    rw [List.isSuffixOf_iff_suffix]
    exact ⟨l, rfl⟩
theorem line_none (x : List UInt8) : ∀ c ∈ x.take (lineN x), c ≠ 10 := by
  induction x with
  | nil => simp
  | cons a r ih =>
    intro c hc
    unfold lineN at hc
    by_cases h : a = 10
    · rw [if_pos h] at hc; simp at hc
    · rw [if_neg h, List.take_succ_cons] at hc
      rcases List.mem_cons.1 hc with rfl | hc
      · exact h
      · exact ih c hc
theorem lineP_suf (x : List UInt8) (tabs : Bool) : Lib.trimSuffix (lineP x tabs) [10] = (x.take (lineN x)).drop (dN x tabs) := by
  rw [lineP_drop]
  have hd := dN_le x tabs
  have hno : ∀ c ∈ (x.take (lineN x)).drop (dN x tabs), c ≠ 10 := fun c hc => line_none x c (List.mem_of_mem_drop hc)
  by_cases h : lineN x < x.length
  · have e : x.take (lineN x + 1) = x.take (lineN x) ++ [10] := by
      rw [List.take_add_one, lineN_at x h]; rfl
    rw [e, List.drop_append_of_le_length (by rw [List.length_take]; omega)]
    exact suf_some _
  · have hl := lineN_le x
    rw [List.take_of_length_le (by omega)]
    rw [List.take_of_length_le (by omega)] at hno ⊢
    exact suf_none hno
theorem lineN_tab (x : List UInt8) (i : Nat) (h : i ≤ tabN x) : lineN (x.drop i) + i = lineN x ∧ tabN (x.drop i) + i = tabN x := by
  induction x generalizing i with
  | nil => simp [tabN] at h; subst h; exact ⟨rfl, rfl⟩
  | cons c r ih =>
    cases i with
    | zero => exact ⟨rfl, rfl⟩
    | succ i =>
      unfold tabN at h
      by_cases h9 : c = 9
      · subst h9
        rw [if_pos rfl] at h
        have := ih i (by omega)
        have e1 : lineN (9 :: r) = lineN r + 1 := by rw [lineN.eq_def]; simp
        have e2 : tabN (9 :: r) = tabN r + 1 := by rw [tabN.eq_def]; simp
        rw [List.drop_succ_cons, e1, e2]
        omega
      · rw [if_neg h9] at h; omega
theorem ba_eta (o : ByteArray) : (⟨(bl o).toArray⟩ : ByteArray) = o := by cases o; rfl

section
set_option maxRecDepth 100000
set_option maxHeartbeats 4000000
theorem may_any (s : ByteArray) (at_ : Int) (w : World) :
    Calls Tryd.prog 24 #[.string s, .int .i64 at_] w fun e w' => e = .returned (.int .i64 (chk s at_)) ∧ w' = w := by
  unfold chk
  by_cases h1 : 4096 < s.size
  · rw [if_pos h1]
    have hi : (4096 : Int) < (s.size : Int) := by omega
    go_enter Tryd.func24, Tryd.ntmps24
    go_wp2
    go_ret
    exact ⟨rfl, rfl⟩
  · rw [if_neg h1]
    have hi : ¬ (4096 : Int) < (s.size : Int) := by omega
    by_cases h2 : at_ < 0
    · rw [if_pos (.inl h2)]
      go_enter Tryd.func24, Tryd.ntmps24
      go_wp2
      go_ret
      exact ⟨rfl, rfl⟩
    · by_cases h3 : (s.size : Int) < at_
      · rw [if_pos (.inr h3)]
        go_enter Tryd.func24, Tryd.ntmps24
        go_wp2
        go_ret
        exact ⟨rfl, rfl⟩
      · rw [if_neg (fun h => h.elim h2 h3)]
        go_enter Tryd.func24, Tryd.ntmps24
        go_wp2
        go_ret
        exact ⟨rfl, rfl⟩
theorem rdoc_false (s mark : ByteArray) (k0 : Nat) (hk0 : k0 ≤ s.size) (hs : s.size ≤ 4096) (hch : chk s (k0 : Int) = 0) (w : World) :
    Calls Tryd.prog 20 #[.string s, .int .i64 (k0 : Int), .string mark, .bool false] w fun e w' => e = .returned (docO (docF (s.size + 1) (bl s) k0 (bl mark) false [])) ∧ w' = w := by
  obtain ⟨R, hR⟩ : ∃ R, docF (s.size + 1) (bl s) k0 (bl mark) false [] = R := ⟨_, rfl⟩
  rw [hR]
  have hc := may_any s (k0 : Int) w
  rw [hch] at hc
  replace hc := Lib.hid hc
  replace hR := Lib.hid hR
  clear hch
  go_enter Tryd.func20, Tryd.ntmps20
  go_wp2_with fail
  refine hc.out.mono ?_
  rintro e w' ⟨rfl, hwq⟩
  obtain rfl := hwq.symm
  clear hc hwq
  go_wp2
  go_loopw [1, 12] (fun i ov wr => ∃ (k n : Nat) (o : ByteArray), k ≤ s.size ∧ i = .int .i64 (k : Int) ∧ ov = .string o ∧ Hid (s.size - k < n) ∧ Hid (o.size ≤ k) ∧ Hid (docF n (bl s) k (bl mark) false (bl o) = R) ∧ Hid (wr = w)) (fun i _ _ => s.size - (intOf i).toNat)
  case atStart => exact ⟨k0, s.size + 1, ⟨#[]⟩, hk0, rfl, rfl, Lib.hid (by omega), Lib.hid (Nat.zero_le _), hR, Lib.hid rfl⟩
  case round =>
    obtain ⟨k, n, o, hk, rfl, rfl, hn, hol, hsay, hwr⟩ := hrel
    obtain rfl := hwr.out
    clear hR hwr
    have hsay0 := hsay.out
    clear hsay
    obtain ⟨n, rfl⟩ : ∃ m, n = m + 1 := ⟨n - 1, by have := hn.out; omega⟩
    unfold docF at hsay0
    rw [bl_len] at hsay0
    by_cases hlt : k < s.size
    · have hi1 : (k : Int) < (s.size : Int) := by omega
      rw [if_neg (by omega), lineP_suf, lineP_drop] at hsay0
      have hdn := dN_le ((bl s).drop k) false
      have hll := lineN_le ((bl s).drop k)
      have hlat := lineN_at ((bl s).drop k)
      have hlno := line_none ((bl s).drop k)
      have hlt2 := fun i h => (lineN_tab ((bl s).drop k) i h)
      rw [List.length_drop, bl_len] at hll hlat
      obtain ⟨d, hd⟩ : ∃ d, dN ((bl s).drop k) false = d := ⟨_, rfl⟩
      obtain ⟨ln, hln⟩ : ∃ ln, lineN ((bl s).drop k) = ln := ⟨_, rfl⟩
      rw [hd, hln] at hsay0
      rw [hd, hln] at hdn
      rw [hln] at hll hlat hlno
      have hmin : min (k + ln + 1) s.size = if k + ln < s.size then k + ln + 1 else k + ln := by split <;> omega
      rw [hmin] at hsay0
      have hx1 : (s.extract (k + d) (k + ln)).data.toList = (((bl s).drop k).take ln).drop d := by rw [bl_extract, List.take_drop, List.drop_drop]
      have hx2 : k + ln < s.size → (s.extract (k + d) (k + ln + 1)).data.toList = (((bl s).drop k).take (ln + 1)).drop d := fun _ => by rw [bl_extract, List.take_drop, List.drop_drop, Nat.add_assoc]
      have hx3 : ¬ k + ln < s.size → (s.extract (k + d) (k + ln)).data.toList = (((bl s).drop k).take (ln + 1)).drop d := fun h => by rw [hx1, List.take_of_length_le (by rw [List.length_drop, bl_len]; omega), List.take_of_length_le (by rw [List.length_drop, bl_len]; omega)]
      have h9 : ∀ i, i < d → ∃ h : k + i < s.size, s[k + i] = 9 := by
        intro i hi
        exfalso; unfold dN at hd; simp at hd; omega
      have h9n : ∀ h : k + d < s.size, True := by
        intro _; trivial
      have hq : ∀ i, i < ln → ∃ h : k + i < s.size, s[k + i] ≠ 10 := by
        intro i hi
        refine ⟨by omega, ?_⟩
        refine hlno _ (List.mem_of_getElem? (i := i) ?_)
        rw [List.getElem?_take, if_pos hi, List.getElem?_drop, List.getElem?_eq_getElem (by rw [bl_len]; omega)]
        rfl
      have hqn : ∀ h : k + ln < s.size, s[k + ln] = 10 := by
        intro h
        have := hlat (by omega)
        rw [List.getElem?_drop, List.getElem?_eq_getElem (by rw [bl_len]; omega)] at this
        exact Option.some.inj this
      replace hsay0 := Lib.hid hsay0
      replace h9 := Lib.hid h9
      replace h9n := Lib.hid h9n
      replace hq := Lib.hid hq
      replace hqn := Lib.hid hqn
      replace hx1 := Lib.hid hx1
      replace hx2 := Lib.hid hx2
      replace hx3 := Lib.hid hx3
      replace hd := Lib.hid hd
      replace hln := Lib.hid hln
      clear hlat hlno hlt2 hmin
      go_wp2
      go_loopw [1] (fun iv wx => ∃ i : Nat, i ≤ d ∧ iv = .int .i64 ((k + i : Nat) : Int) ∧ Hid (wx = wr)) (fun iv _ => s.size - (intOf iv).toNat)
      case atStart => exact ⟨0, Nat.zero_le _, rfl, Lib.hid rfl⟩
      case round =>
        obtain ⟨i, hid, rfl, hwx⟩ := hrel
        obtain rfl := hwx.out
        clear hwx
        obtain ⟨c, hc⟩ : ∃ c, k + i = c := ⟨_, rfl⟩
        have hd0 : d = 0 := by have := hd.out; unfold dN at this; simpa using this.symm
        obtain rfl : d = i := by omega
        clear hd0
        rw [hc]
        replace hc := Lib.hid hc
        have hdl : k + d ≤ s.size := by omega
        have hc0 := hc.out
        rw [hc0] at hx1 hx2 hx3 hdl
        clear hc0
        go_upto_region 9 with fail
        go_loopw [13] (fun jv wy => ∃ j : Nat, d ≤ j ∧ j ≤ ln ∧ jv = .int .i64 ((k + j : Nat) : Int) ∧ Hid (wy = wr)) (fun jv _ => s.size - (intOf jv).toNat)
        case atStart => exact ⟨d, Nat.le_refl _, hdn, by rw [hc.out], Lib.hid rfl⟩
        case round =>
          obtain ⟨j, hdj, hjl, rfl, hwy⟩ := hrel
          obtain rfl := hwy.out
          clear hwy
          obtain ⟨e, heq⟩ : ∃ e, k + j = e := ⟨_, rfl⟩
          have hn9 : ∀ h : e < s.size, s[e].toNat < 256 := fun h => s[e].toNat_lt
          by_cases hjlt : j < ln
          · obtain ⟨hel, hne⟩ := hq.out j hjlt
            have hel2 : e < s.size := by omega
            have hei : (e : Int) < (s.size : Int) := by omega
            have hcn : ¬ (s[e].toNat : Int) = 10 := fun h => by subst heq; exact hne (UInt8.toNat_inj.1 (by rw [show (10 : UInt8).toNat = 10 from rfl]; omega))
            have hn10 := hn9 hel2
            rw [heq]
            replace heq := Lib.hid heq
            clear hn9 hne hq hqn hsay0
            go_wp2
            go_roundw
            case rel => exact ⟨j + 1, by omega, by omega, by have := heq.out; go_num, Lib.hid (by trivial)⟩
            case measure => have := heq.out; simp [intOf]; omega
          · obtain rfl : ln = j := by omega
            by_cases hel : e < s.size
            · have hei : (e : Int) < (s.size : Int) := by omega
              have hci : (s[e].toNat : Int) = 10 := by have := hqn.out (by omega); subst heq; rw [this]; rfl
              have hn10 := hn9 hel
              clear hn9
              have hae : (c : Int) ≤ (e : Int) := by have := hc.out; omega
              have hae2 : (c : Int) ≤ ((e : Int) + 1) := by have := hc.out; omega
              have hes : ((e : Int) + 1) ≤ (s.size : Int) := by omega
              have hes2 : (e : Int) ≤ (s.size : Int) := by omega
              have hy1 := hx1.out
              have hy2 := hx2.out (by omega)
              rw [heq] at hy1 hy2
              have hs0 := hsay0.out
              rw [if_pos (show k + ln < s.size by omega), heq, ← hy1, ← hy2] at hs0
              have hak := hc.out
              have hcat : ∀ W, (Op.stringOp .add o (s.extract c (e + 1))).run Tryd.prog W = .ok (.string (o ++ s.extract c (e + 1))) W := fun W => run_string_add_sum W _ _ (by have := hol.out; rw [ByteArray.size_extract]; omega)
              have hso : (o ++ s.extract c (e + 1)).size ≤ e + 1 := by rw [ByteArray.size_append, ByteArray.size_extract]; have := hol.out; omega
              rw [heq]
              replace hy1 := Lib.hid hy1
              replace hy2 := Lib.hid hy2
              replace hak := Lib.hid hak
              replace hso := Lib.hid hso
              clear hq hqn
              by_cases hm : bl (s.extract c e) = bl mark
              · have hcmp : ((s.extract c e).toList == mark.toList) = true := by rw [ByteArray.toList_eq, ByteArray.toList_eq]; exact beq_iff_eq.2 hm
                rw [if_pos hm] at hs0
                replace hs0 := Lib.hid hs0
                clear hm hcat hsay0
                go_wp2
                exact bodyPost_ret (v := .tuple #[.string o, .int .i64 ((e : Int) + 1), .int .i64 0]) (by simp [results, Tryd.results20, go_sem]) rfl ⟨by rw [← hs0.out]; rfl, rfl⟩
              · have hcmp : ((s.extract c e).toList == mark.toList) = false := by rw [ByteArray.toList_eq, ByteArray.toList_eq]; exact beq_eq_false_iff_ne.2 hm
                rw [if_neg hm, ← bl_append] at hs0
                replace hs0 := Lib.hid hs0
                clear hm hsay0
                go_wp2
                go_roundw
                case rel => exact ⟨e + 1, n, _, by omega, by go_num, rfl, Lib.hid (by have := hn.out; omega), hso, hs0, Lib.hid (by trivial)⟩
                case measure => simp [intOf]; omega
            · have hei : ¬ (e : Int) < (s.size : Int) := by omega
              clear hn9
              have hae : (c : Int) ≤ (e : Int) := by have := hc.out; omega
              have hae2 : (c : Int) ≤ (e : Int) := by have := hc.out; omega
              have hes : (e : Int) ≤ (s.size : Int) := by omega
              have hes2 : (e : Int) ≤ (s.size : Int) := by omega
              have hy1 := hx1.out
              have hy2 := hx3.out (by omega)
              rw [heq] at hy1 hy2
              have hs0 := hsay0.out
              rw [if_neg (show ¬ k + ln < s.size by omega), heq, ← hy1, ← hy2] at hs0
              have hak := hc.out
              have hcat : ∀ W, (Op.stringOp .add o (s.extract c (e))).run Tryd.prog W = .ok (.string (o ++ s.extract c (e))) W := fun W => run_string_add_sum W _ _ (by have := hol.out; rw [ByteArray.size_extract]; omega)
              have hso : (o ++ s.extract c (e)).size ≤ e := by rw [ByteArray.size_append, ByteArray.size_extract]; have := hol.out; omega
              rw [heq]
              replace hy1 := Lib.hid hy1
              replace hy2 := Lib.hid hy2
              replace hak := Lib.hid hak
              replace hso := Lib.hid hso
              clear hq hqn
              by_cases hm : bl (s.extract c e) = bl mark
              · have hcmp : ((s.extract c e).toList == mark.toList) = true := by rw [ByteArray.toList_eq, ByteArray.toList_eq]; exact beq_iff_eq.2 hm
                rw [if_pos hm] at hs0
                replace hs0 := Lib.hid hs0
                clear hm hcat hsay0
                go_wp2
                exact bodyPost_ret (v := .tuple #[.string o, .int .i64 (e : Int), .int .i64 0]) (by simp [results, Tryd.results20, go_sem]) rfl ⟨by rw [← hs0.out]; rfl, rfl⟩
              · have hcmp : ((s.extract c e).toList == mark.toList) = false := by rw [ByteArray.toList_eq, ByteArray.toList_eq]; exact beq_eq_false_iff_ne.2 hm
                rw [if_neg hm, ← bl_append] at hs0
                replace hs0 := Lib.hid hs0
                clear hm hsay0
                go_wp2
                go_roundw
                case rel => exact ⟨e, n, _, by omega, by go_num, rfl, Lib.hid (by have := hn.out; omega), hso, hs0, Lib.hid (by trivial)⟩
                case measure => simp [intOf]; omega
    · have hi1 : ¬ (k : Int) < (s.size : Int) := by omega
      rw [if_pos (by omega)] at hsay0
      replace hsay0 := Lib.hid hsay0
      go_wp2
      exact bodyPost_ret (v := .tuple #[.string ⟨#[]⟩, .int .i64 0, .int .i64 30]) (by simp [results, Tryd.results20, go_sem]) rfl ⟨by rw [← hsay0.out]; rfl, rfl⟩
theorem rdoc_true (s mark : ByteArray) (k0 : Nat) (hk0 : k0 ≤ s.size) (hs : s.size ≤ 4096) (hch : chk s (k0 : Int) = 0) (w : World) :
    Calls Tryd.prog 20 #[.string s, .int .i64 (k0 : Int), .string mark, .bool true] w fun e w' => e = .returned (docO (docF (s.size + 1) (bl s) k0 (bl mark) true [])) ∧ w' = w := by
  obtain ⟨R, hR⟩ : ∃ R, docF (s.size + 1) (bl s) k0 (bl mark) true [] = R := ⟨_, rfl⟩
  rw [hR]
  have hc := may_any s (k0 : Int) w
  rw [hch] at hc
  replace hc := Lib.hid hc
  replace hR := Lib.hid hR
  clear hch
  go_enter Tryd.func20, Tryd.ntmps20
  go_wp2_with fail
  refine hc.out.mono ?_
  rintro e w' ⟨rfl, hwq⟩
  obtain rfl := hwq.symm
  clear hc hwq
  go_wp2
  go_loopw [1, 12] (fun i ov wr => ∃ (k n : Nat) (o : ByteArray), k ≤ s.size ∧ i = .int .i64 (k : Int) ∧ ov = .string o ∧ Hid (s.size - k < n) ∧ Hid (o.size ≤ k) ∧ Hid (docF n (bl s) k (bl mark) true (bl o) = R) ∧ Hid (wr = w)) (fun i _ _ => s.size - (intOf i).toNat)
  case atStart => exact ⟨k0, s.size + 1, ⟨#[]⟩, hk0, rfl, rfl, Lib.hid (by omega), Lib.hid (Nat.zero_le _), hR, Lib.hid rfl⟩
  case round =>
    obtain ⟨k, n, o, hk, rfl, rfl, hn, hol, hsay, hwr⟩ := hrel
    obtain rfl := hwr.out
    clear hR hwr
    have hsay0 := hsay.out
    clear hsay
    obtain ⟨n, rfl⟩ : ∃ m, n = m + 1 := ⟨n - 1, by have := hn.out; omega⟩
    unfold docF at hsay0
    rw [bl_len] at hsay0
    by_cases hlt : k < s.size
    · have hi1 : (k : Int) < (s.size : Int) := by omega
      rw [if_neg (by omega), lineP_suf, lineP_drop] at hsay0
      have hdn := dN_le ((bl s).drop k) true
      have hll := lineN_le ((bl s).drop k)
      have hlat := lineN_at ((bl s).drop k)
      have hlno := line_none ((bl s).drop k)
      have hlt2 := fun i h => (lineN_tab ((bl s).drop k) i h)
      rw [List.length_drop, bl_len] at hll hlat
      obtain ⟨d, hd⟩ : ∃ d, dN ((bl s).drop k) true = d := ⟨_, rfl⟩
      obtain ⟨ln, hln⟩ : ∃ ln, lineN ((bl s).drop k) = ln := ⟨_, rfl⟩
      rw [hd, hln] at hsay0
      rw [hd, hln] at hdn
      rw [hln] at hll hlat hlno
      have hmin : min (k + ln + 1) s.size = if k + ln < s.size then k + ln + 1 else k + ln := by split <;> omega
      rw [hmin] at hsay0
      have hx1 : (s.extract (k + d) (k + ln)).data.toList = (((bl s).drop k).take ln).drop d := by rw [bl_extract, List.take_drop, List.drop_drop]
      have hx2 : k + ln < s.size → (s.extract (k + d) (k + ln + 1)).data.toList = (((bl s).drop k).take (ln + 1)).drop d := fun _ => by rw [bl_extract, List.take_drop, List.drop_drop, Nat.add_assoc]
      have hx3 : ¬ k + ln < s.size → (s.extract (k + d) (k + ln)).data.toList = (((bl s).drop k).take (ln + 1)).drop d := fun h => by rw [hx1, List.take_of_length_le (by rw [List.length_drop, bl_len]; omega), List.take_of_length_le (by rw [List.length_drop, bl_len]; omega)]
      have h9 : ∀ i, i < d → ∃ h : k + i < s.size, s[k + i] = 9 := by
        intro i hi
        have h1 := tabN_at ((bl s).drop k) i (by unfold dN at hd; rw [if_pos rfl] at hd; omega)
        rw [List.getElem?_drop, List.getElem?_eq_getElem (by rw [bl_len]; omega)] at h1
        exact ⟨by omega, Option.some.inj h1⟩
      have h9n : ∀ h : k + d < s.size, s[k + d] ≠ 9 := by
        intro h e
        have hd2 : tabN ((bl s).drop k) = d := by unfold dN at hd; rw [if_pos rfl] at hd; exact hd
        refine tabN_no ((bl s).drop k) ?_
        rw [hd2, List.getElem?_drop, List.getElem?_eq_getElem (by rw [bl_len]; omega)]
        exact congrArg some e
      have hq : ∀ i, i < ln → ∃ h : k + i < s.size, s[k + i] ≠ 10 := by
        intro i hi
        refine ⟨by omega, ?_⟩
        refine hlno _ (List.mem_of_getElem? (i := i) ?_)
        rw [List.getElem?_take, if_pos hi, List.getElem?_drop, List.getElem?_eq_getElem (by rw [bl_len]; omega)]
        rfl
      have hqn : ∀ h : k + ln < s.size, s[k + ln] = 10 := by
        intro h
        have := hlat (by omega)
        rw [List.getElem?_drop, List.getElem?_eq_getElem (by rw [bl_len]; omega)] at this
        exact Option.some.inj this
      replace hsay0 := Lib.hid hsay0
      replace h9 := Lib.hid h9
      replace h9n := Lib.hid h9n
      replace hq := Lib.hid hq
      replace hqn := Lib.hid hqn
      replace hx1 := Lib.hid hx1
      replace hx2 := Lib.hid hx2
      replace hx3 := Lib.hid hx3
      replace hd := Lib.hid hd
      replace hln := Lib.hid hln
      clear hlat hlno hlt2 hmin
      go_wp2
      go_loopw [1] (fun iv wx => ∃ i : Nat, i ≤ d ∧ iv = .int .i64 ((k + i : Nat) : Int) ∧ Hid (wx = wr)) (fun iv _ => s.size - (intOf iv).toNat)
      case atStart => exact ⟨0, Nat.zero_le _, rfl, Lib.hid rfl⟩
      case round =>
        obtain ⟨i, hid, rfl, hwx⟩ := hrel
        obtain rfl := hwx.out
        clear hwx
        obtain ⟨c, hc⟩ : ∃ c, k + i = c := ⟨_, rfl⟩
        by_cases hdi : i < d
        · obtain ⟨hcl, hc9⟩ := h9.out i hdi
          have hcl2 : c < s.size := by omega
          have hci : (s[c].toNat : Int) = 9 := by subst hc; rw [hc9]; rfl
          have hcli : (c : Int) < (s.size : Int) := by omega
          have hn8 := s[c].toNat_lt
          rw [hc]
          replace hc := Lib.hid hc
          clear hc9
          go_wp2
          go_roundw
          case rel => exact ⟨i + 1, by omega, by have := hc.out; go_num, Lib.hid (by trivial)⟩
          case measure => have := hc.out; simp [intOf]; omega
        · obtain rfl : d = i := by omega
          by_cases hcl : c < s.size
          · have hcn : ¬ (s[c].toNat : Int) = 9 := fun e => by subst hc; exact h9n.out hcl (UInt8.toNat_inj.1 (by rw [show (9 : UInt8).toNat = 9 from rfl]; omega))
            have hcli : (c : Int) < (s.size : Int) := by omega
            have hn8 := s[c].toNat_lt
            rw [hc]
            replace hc := Lib.hid hc
            have hdl : k + d ≤ s.size := by omega
            have hc0 := hc.out
            rw [hc0] at hx1 hx2 hx3 hdl
            clear hc0
            go_upto_region 9 with fail
            go_loopw [13] (fun jv wy => ∃ j : Nat, d ≤ j ∧ j ≤ ln ∧ jv = .int .i64 ((k + j : Nat) : Int) ∧ Hid (wy = wr)) (fun jv _ => s.size - (intOf jv).toNat)
            case atStart => exact ⟨d, Nat.le_refl _, hdn, by rw [hc.out], Lib.hid rfl⟩
            case round =>
              obtain ⟨j, hdj, hjl, rfl, hwy⟩ := hrel
              obtain rfl := hwy.out
              clear hwy
              obtain ⟨e, heq⟩ : ∃ e, k + j = e := ⟨_, rfl⟩
              have hn9 : ∀ h : e < s.size, s[e].toNat < 256 := fun h => s[e].toNat_lt
              by_cases hjlt : j < ln
              · obtain ⟨hel, hne⟩ := hq.out j hjlt
                have hel2 : e < s.size := by omega
                have hei : (e : Int) < (s.size : Int) := by omega
                have hcn : ¬ (s[e].toNat : Int) = 10 := fun h => by subst heq; exact hne (UInt8.toNat_inj.1 (by rw [show (10 : UInt8).toNat = 10 from rfl]; omega))
                have hn10 := hn9 hel2
                rw [heq]
                replace heq := Lib.hid heq
                clear hn9 hne hq hqn hsay0
                go_wp2
                go_roundw
                case rel => exact ⟨j + 1, by omega, by omega, by have := heq.out; go_num, Lib.hid (by trivial)⟩
                case measure => have := heq.out; simp [intOf]; omega
              · obtain rfl : ln = j := by omega
                by_cases hel : e < s.size
                · have hei : (e : Int) < (s.size : Int) := by omega
                  have hci : (s[e].toNat : Int) = 10 := by have := hqn.out (by omega); subst heq; rw [this]; rfl
                  have hn10 := hn9 hel
                  clear hn9
                  have hae : (c : Int) ≤ (e : Int) := by have := hc.out; omega
                  have hae2 : (c : Int) ≤ ((e : Int) + 1) := by have := hc.out; omega
                  have hes : ((e : Int) + 1) ≤ (s.size : Int) := by omega
                  have hes2 : (e : Int) ≤ (s.size : Int) := by omega
                  have hy1 := hx1.out
                  have hy2 := hx2.out (by omega)
                  rw [heq] at hy1 hy2
                  have hs0 := hsay0.out
                  rw [if_pos (show k + ln < s.size by omega), heq, ← hy1, ← hy2] at hs0
                  have hak := hc.out
                  have hcat : ∀ W, (Op.stringOp .add o (s.extract c (e + 1))).run Tryd.prog W = .ok (.string (o ++ s.extract c (e + 1))) W := fun W => run_string_add_sum W _ _ (by have := hol.out; rw [ByteArray.size_extract]; omega)
                  have hso : (o ++ s.extract c (e + 1)).size ≤ e + 1 := by rw [ByteArray.size_append, ByteArray.size_extract]; have := hol.out; omega
                  rw [heq]
                  replace hy1 := Lib.hid hy1
                  replace hy2 := Lib.hid hy2
                  replace hak := Lib.hid hak
                  replace hso := Lib.hid hso
                  clear hq hqn
                  by_cases hm : bl (s.extract c e) = bl mark
                  · have hcmp : ((s.extract c e).toList == mark.toList) = true := by rw [ByteArray.toList_eq, ByteArray.toList_eq]; exact beq_iff_eq.2 hm
                    rw [if_pos hm] at hs0
                    replace hs0 := Lib.hid hs0
                    clear hm hcat hsay0
                    go_wp2
                    exact bodyPost_ret (v := .tuple #[.string o, .int .i64 ((e : Int) + 1), .int .i64 0]) (by simp [results, Tryd.results20, go_sem]) rfl ⟨by rw [← hs0.out]; rfl, rfl⟩
                  · have hcmp : ((s.extract c e).toList == mark.toList) = false := by rw [ByteArray.toList_eq, ByteArray.toList_eq]; exact beq_eq_false_iff_ne.2 hm
                    rw [if_neg hm, ← bl_append] at hs0
                    replace hs0 := Lib.hid hs0
                    clear hm hsay0
                    go_wp2
                    go_roundw
                    case rel => exact ⟨e + 1, n, _, by omega, by go_num, rfl, Lib.hid (by have := hn.out; omega), hso, hs0, Lib.hid (by trivial)⟩
                    case measure => simp [intOf]; omega
                · have hei : ¬ (e : Int) < (s.size : Int) := by omega
                  clear hn9
                  have hae : (c : Int) ≤ (e : Int) := by have := hc.out; omega
                  have hae2 : (c : Int) ≤ (e : Int) := by have := hc.out; omega
                  have hes : (e : Int) ≤ (s.size : Int) := by omega
                  have hes2 : (e : Int) ≤ (s.size : Int) := by omega
                  have hy1 := hx1.out
                  have hy2 := hx3.out (by omega)
                  rw [heq] at hy1 hy2
                  have hs0 := hsay0.out
                  rw [if_neg (show ¬ k + ln < s.size by omega), heq, ← hy1, ← hy2] at hs0
                  have hak := hc.out
                  have hcat : ∀ W, (Op.stringOp .add o (s.extract c (e))).run Tryd.prog W = .ok (.string (o ++ s.extract c (e))) W := fun W => run_string_add_sum W _ _ (by have := hol.out; rw [ByteArray.size_extract]; omega)
                  have hso : (o ++ s.extract c (e)).size ≤ e := by rw [ByteArray.size_append, ByteArray.size_extract]; have := hol.out; omega
                  rw [heq]
                  replace hy1 := Lib.hid hy1
                  replace hy2 := Lib.hid hy2
                  replace hak := Lib.hid hak
                  replace hso := Lib.hid hso
                  clear hq hqn
                  by_cases hm : bl (s.extract c e) = bl mark
                  · have hcmp : ((s.extract c e).toList == mark.toList) = true := by rw [ByteArray.toList_eq, ByteArray.toList_eq]; exact beq_iff_eq.2 hm
                    rw [if_pos hm] at hs0
                    replace hs0 := Lib.hid hs0
                    clear hm hcat hsay0
                    go_wp2
                    exact bodyPost_ret (v := .tuple #[.string o, .int .i64 (e : Int), .int .i64 0]) (by simp [results, Tryd.results20, go_sem]) rfl ⟨by rw [← hs0.out]; rfl, rfl⟩
                  · have hcmp : ((s.extract c e).toList == mark.toList) = false := by rw [ByteArray.toList_eq, ByteArray.toList_eq]; exact beq_eq_false_iff_ne.2 hm
                    rw [if_neg hm, ← bl_append] at hs0
                    replace hs0 := Lib.hid hs0
                    clear hm hsay0
                    go_wp2
                    go_roundw
                    case rel => exact ⟨e, n, _, by omega, by go_num, rfl, Lib.hid (by have := hn.out; omega), hso, hs0, Lib.hid (by trivial)⟩
                    case measure => simp [intOf]; omega
          · have hcli : ¬ (c : Int) < (s.size : Int) := by omega
            rw [hc]
            replace hc := Lib.hid hc
            have hdl : k + d ≤ s.size := by omega
            have hc0 := hc.out
            rw [hc0] at hx1 hx2 hx3 hdl
            clear hc0
            go_upto_region 9 with fail
            go_loopw [13] (fun jv wy => ∃ j : Nat, d ≤ j ∧ j ≤ ln ∧ jv = .int .i64 ((k + j : Nat) : Int) ∧ Hid (wy = wr)) (fun jv _ => s.size - (intOf jv).toNat)
            case atStart => exact ⟨d, Nat.le_refl _, hdn, by rw [hc.out], Lib.hid rfl⟩
            case round =>
              obtain ⟨j, hdj, hjl, rfl, hwy⟩ := hrel
              obtain rfl := hwy.out
              clear hwy
              obtain ⟨e, heq⟩ : ∃ e, k + j = e := ⟨_, rfl⟩
              have hn9 : ∀ h : e < s.size, s[e].toNat < 256 := fun h => s[e].toNat_lt
              by_cases hjlt : j < ln
              · obtain ⟨hel, hne⟩ := hq.out j hjlt
                have hel2 : e < s.size := by omega
                have hei : (e : Int) < (s.size : Int) := by omega
                have hcn : ¬ (s[e].toNat : Int) = 10 := fun h => by subst heq; exact hne (UInt8.toNat_inj.1 (by rw [show (10 : UInt8).toNat = 10 from rfl]; omega))
                have hn10 := hn9 hel2
                rw [heq]
                replace heq := Lib.hid heq
                clear hn9 hne hq hqn hsay0
                go_wp2
                go_roundw
                case rel => exact ⟨j + 1, by omega, by omega, by have := heq.out; go_num, Lib.hid (by trivial)⟩
                case measure => have := heq.out; simp [intOf]; omega
              · obtain rfl : ln = j := by omega
                by_cases hel : e < s.size
                · have hei : (e : Int) < (s.size : Int) := by omega
                  have hci : (s[e].toNat : Int) = 10 := by have := hqn.out (by omega); subst heq; rw [this]; rfl
                  have hn10 := hn9 hel
                  clear hn9
                  have hae : (c : Int) ≤ (e : Int) := by have := hc.out; omega
                  have hae2 : (c : Int) ≤ ((e : Int) + 1) := by have := hc.out; omega
                  have hes : ((e : Int) + 1) ≤ (s.size : Int) := by omega
                  have hes2 : (e : Int) ≤ (s.size : Int) := by omega
                  have hy1 := hx1.out
                  have hy2 := hx2.out (by omega)
                  rw [heq] at hy1 hy2
                  have hs0 := hsay0.out
                  rw [if_pos (show k + ln < s.size by omega), heq, ← hy1, ← hy2] at hs0
                  have hak := hc.out
                  have hcat : ∀ W, (Op.stringOp .add o (s.extract c (e + 1))).run Tryd.prog W = .ok (.string (o ++ s.extract c (e + 1))) W := fun W => run_string_add_sum W _ _ (by have := hol.out; rw [ByteArray.size_extract]; omega)
                  have hso : (o ++ s.extract c (e + 1)).size ≤ e + 1 := by rw [ByteArray.size_append, ByteArray.size_extract]; have := hol.out; omega
                  rw [heq]
                  replace hy1 := Lib.hid hy1
                  replace hy2 := Lib.hid hy2
                  replace hak := Lib.hid hak
                  replace hso := Lib.hid hso
                  clear hq hqn
                  by_cases hm : bl (s.extract c e) = bl mark
                  · have hcmp : ((s.extract c e).toList == mark.toList) = true := by rw [ByteArray.toList_eq, ByteArray.toList_eq]; exact beq_iff_eq.2 hm
                    rw [if_pos hm] at hs0
                    replace hs0 := Lib.hid hs0
                    clear hm hcat hsay0
                    go_wp2
                    exact bodyPost_ret (v := .tuple #[.string o, .int .i64 ((e : Int) + 1), .int .i64 0]) (by simp [results, Tryd.results20, go_sem]) rfl ⟨by rw [← hs0.out]; rfl, rfl⟩
                  · have hcmp : ((s.extract c e).toList == mark.toList) = false := by rw [ByteArray.toList_eq, ByteArray.toList_eq]; exact beq_eq_false_iff_ne.2 hm
                    rw [if_neg hm, ← bl_append] at hs0
                    replace hs0 := Lib.hid hs0
                    clear hm hsay0
                    go_wp2
                    go_roundw
                    case rel => exact ⟨e + 1, n, _, by omega, by go_num, rfl, Lib.hid (by have := hn.out; omega), hso, hs0, Lib.hid (by trivial)⟩
                    case measure => simp [intOf]; omega
                · have hei : ¬ (e : Int) < (s.size : Int) := by omega
                  clear hn9
                  have hae : (c : Int) ≤ (e : Int) := by have := hc.out; omega
                  have hae2 : (c : Int) ≤ (e : Int) := by have := hc.out; omega
                  have hes : (e : Int) ≤ (s.size : Int) := by omega
                  have hes2 : (e : Int) ≤ (s.size : Int) := by omega
                  have hy1 := hx1.out
                  have hy2 := hx3.out (by omega)
                  rw [heq] at hy1 hy2
                  have hs0 := hsay0.out
                  rw [if_neg (show ¬ k + ln < s.size by omega), heq, ← hy1, ← hy2] at hs0
                  have hak := hc.out
                  have hcat : ∀ W, (Op.stringOp .add o (s.extract c (e))).run Tryd.prog W = .ok (.string (o ++ s.extract c (e))) W := fun W => run_string_add_sum W _ _ (by have := hol.out; rw [ByteArray.size_extract]; omega)
                  have hso : (o ++ s.extract c (e)).size ≤ e := by rw [ByteArray.size_append, ByteArray.size_extract]; have := hol.out; omega
                  rw [heq]
                  replace hy1 := Lib.hid hy1
                  replace hy2 := Lib.hid hy2
                  replace hak := Lib.hid hak
                  replace hso := Lib.hid hso
                  clear hq hqn
                  by_cases hm : bl (s.extract c e) = bl mark
                  · have hcmp : ((s.extract c e).toList == mark.toList) = true := by rw [ByteArray.toList_eq, ByteArray.toList_eq]; exact beq_iff_eq.2 hm
                    rw [if_pos hm] at hs0
                    replace hs0 := Lib.hid hs0
                    clear hm hcat hsay0
                    go_wp2
                    exact bodyPost_ret (v := .tuple #[.string o, .int .i64 (e : Int), .int .i64 0]) (by simp [results, Tryd.results20, go_sem]) rfl ⟨by rw [← hs0.out]; rfl, rfl⟩
                  · have hcmp : ((s.extract c e).toList == mark.toList) = false := by rw [ByteArray.toList_eq, ByteArray.toList_eq]; exact beq_eq_false_iff_ne.2 hm
                    rw [if_neg hm, ← bl_append] at hs0
                    replace hs0 := Lib.hid hs0
                    clear hm hsay0
                    go_wp2
                    go_roundw
                    case rel => exact ⟨e, n, _, by omega, by go_num, rfl, Lib.hid (by have := hn.out; omega), hso, hs0, Lib.hid (by trivial)⟩
                    case measure => simp [intOf]; omega
    · have hi1 : ¬ (k : Int) < (s.size : Int) := by omega
      rw [if_pos (by omega)] at hsay0
      replace hsay0 := Lib.hid hsay0
      go_wp2
      exact bodyPost_ret (v := .tuple #[.string ⟨#[]⟩, .int .i64 0, .int .i64 30]) (by simp [results, Tryd.results20, go_sem]) rfl ⟨by rw [← hsay0.out]; rfl, rfl⟩
end
end Go.Proofs.YtjeleebgifajkaaDoor
