/-
  The document's Next tells what Next tells. Conditions: none.
-/
import Derived.Test.YtjeleebgifajkaaDoorLxRefNext
set_option linter.unusedSimpArgs false
set_option linter.unusedVariables false
namespace Go.Proofs.YtjeleebgifajkaaDoor
open Go Go.Shelf Go.RowKit Go.ChangeMaps

theorem digit_range (c : UInt8) : digitB c = (decide (48 ≤ c.toNat) && decide (c.toNat ≤ 57)) := by
  have h : ∀ n : Fin 256, digitB (UInt8.ofNat n.val) = (decide (48 ≤ (UInt8.ofNat n.val).toNat) && decide ((UInt8.ofNat n.val).toNat ≤ 57)) := by decide +kernel
  have := h ⟨c.toNat, c.toNat_lt⟩
  simpa using this
theorem extract_nil (s : ByteArray) (b : Nat) : s.extract b b = ⟨#[]⟩ := by
  apply ByteArray.ext
  apply Array.toList_inj.1
  rw [bl_extract]
  simp
theorem extract_one {s : ByteArray} {b : Nat} (h : b < s.size) : s.extract b (b + 1) = ⟨#[s[b]]⟩ := by
  apply ByteArray.ext
  apply Array.toList_inj.1
  rw [bl_extract, ← List.take_drop, bl_cons s b h]
  simp
theorem lineN_no (x : List UInt8) (i : Nat) (h : i < lineN x) : x[i]? ≠ some 10 := by
  induction x generalizing i with
  | nil => simp [lineN] at h
  | cons a r ih =>
    unfold lineN at h
    by_cases ha : a = 10
    · rw [if_pos ha] at h; omega
    · rw [if_neg ha] at h
      cases i with
      | zero => simpa using ha
      | succ i => simpa using ih i (by omega)
section
set_option maxRecDepth 100000
set_option maxHeartbeats 8000000
theorem rnext_any (s : ByteArray) (k : Nat) (hk : k ≤ s.size) (hs : s.size ≤ 4096) (hch : chk s (k : Int) = 0) (w : World) :
    Calls Tryd.prog 11 #[.string s, .int .i64 (k : Int)] w fun e w' => e = .returned (.tuple #[tokE s (nextP (bl s) k), .int .i64 (errE (nextP (bl s) k))]) ∧ Below w.heap.size w w' := by
  obtain ⟨T, hT⟩ : ∃ T, nextP (bl s) k = T := ⟨_, rfl⟩
  rw [hT]
  unfold nextP at hT
  have hb1 : k + skip ((bl s).drop k) ≤ s.size := by have := skip_le ((bl s).drop k); rw [List.length_drop, bl_len] at this; omega
  obtain ⟨b, hb⟩ : ∃ b, k + skip ((bl s).drop k) = b := ⟨_, rfl⟩
  rw [hb] at hT hb1
  have hh := fun W => may_any s (k : Int) W
  rw [hch] at hh
  dsimp only at hT
  have hop := fun W => operator_any s b hb1 (by omega) W
  have hsc := fun W => rscan_any s b 119 (by simp [TopB]) hb1 (by omega) W
  have ho := opN_le ((bl s).drop b)
  have hscl := fun n (h : scan ((bl s).drop b) [119] = some n) => scan_le h
  rw [List.length_drop, bl_len] at ho hscl
  replace hh := Lib.hid hh
  replace hop := Lib.hid hop
  replace hsc := Lib.hid hsc
  replace hb := Lib.hid hb
  replace hT := Lib.hid hT
  replace ho := Lib.hid ho
  replace hscl := Lib.hid hscl
  obtain ⟨z, hz⟩ : ∃ z, w.heap.size = z := ⟨_, rfl⟩
  have hb0 : Below z w (w.alloc (.cells #[.int .i64 0, .string ⟨#[]⟩, .int .i64 0, .int .i64 0] 28)) := by rw [← hz]; exact (Below.refl _ w).alloc (Nat.le_refl _) _
  have b0 : Blk (w.alloc (.cells #[.int .i64 0, .string ⟨#[]⟩, .int .i64 0, .int .i64 0] 28)) z [.int .i64 0, .string ⟨#[]⟩, .int .i64 0, .int .i64 0] 28 := by rw [← hz]; exact Blk.new w _ _
  replace hb0 := Lib.hid hb0
  replace b0 := Lib.hid b0
  clear hch
  go_enter Tryd.func11, Tryd.ntmps11
  go_upto_region 1 with fail
  try rw [hz]
  generalize (w.alloc (.cells #[.int .i64 0, .string ⟨#[]⟩, .int .i64 0, .int .i64 0] 28)) = w1 at hb0 b0 ⊢
  replace hz := Lib.hid hz
  go_wp2_with fail
  refine (hh.out _).mono ?_
  rintro e w' ⟨rfl, hwq⟩
  obtain rfl := hwq.symm
  clear hh hwq
  go_wp2
  go_loopw [7] (fun iv wr => ∃ q : Nat, q ≤ s.size ∧ iv = .int .i64 (q : Int) ∧ Hid (q + skip ((bl s).drop q) = b) ∧ Hid (wr = w1)) (fun iv _ => s.size - (intOf iv).toNat)
  case atStart => exact ⟨k, hk, rfl, hb, Lib.hid rfl⟩
  case round =>
    obtain ⟨q, hq, rfl, hsay, hw⟩ := hrel
    obtain rfl := hw.out
    clear hw hb
    by_cases hlt : q < s.size
    · have hi1 : (q : Int) < (s.size : Int) := by omega
      have hn : s[q].toNat < 256 := s[q].toNat_lt
      have hsay0 := hsay.out
      have hx := bl_cons s q hlt
      have his := is_any s q ⟨#[92, 10]⟩ hq (by omega) (by decide) wr
      simp only [bl] at his
      rw [show s.data.toList = bl s from rfl] at his
      by_cases h32 : s[q] = 32
      · have i32 : (s[q].toNat : Int) = 32 := by rw [h32]; rfl
        rw [hx, h32, skip_blank _ (.inl rfl)] at hsay0
        have hsay1 : Hid (q + 1 + skip ((bl s).drop (q + 1)) = b) := Lib.hid (by omega)
        clear hsay0 hsay hx h32 his
        go_wp2
        go_roundw
        case rel => exact ⟨q + 1, by omega, by go_num, hsay1, Lib.hid (by trivial)⟩
        case measure => simp [intOf]; omega
      · have i32 : ¬ (s[q].toNat : Int) = 32 := fun e => h32 (UInt8.toNat_inj.1 (by rw [show (32 : UInt8).toNat = 32 from rfl]; omega))
        by_cases h9 : s[q] = 9
        · have i9 : (s[q].toNat : Int) = 9 := by rw [h9]; rfl
          rw [hx, h9, skip_blank _ (.inr rfl)] at hsay0
          have hsay1 : Hid (q + 1 + skip ((bl s).drop (q + 1)) = b) := Lib.hid (by omega)
          clear hsay0 hsay hx h32 h9 his
          go_wp2
          go_roundw
          case rel => exact ⟨q + 1, by omega, by go_num, hsay1, Lib.hid (by trivial)⟩
          case measure => simp [intOf]; omega
        · have i9 : ¬ (s[q].toNat : Int) = 9 := fun e => h9 (UInt8.toNat_inj.1 (by rw [show (9 : UInt8).toNat = 9 from rfl]; omega))
          have j32 : ((s[q].toNat : Int) == 32) = false := beq_eq_false_iff_ne.2 i32
          have j9 : ((s[q].toNat : Int) == 9) = false := beq_eq_false_iff_ne.2 i9
          by_cases hj : s[q] = 92 ∧ ((bl s).drop (q + 1)).headD 0 = 10
          · obtain ⟨h92, h10⟩ := hj
            have hq1 : q + 1 < s.size := by
              by_cases h : q + 1 < s.size
              · exact h
              · rw [bl_end s (q + 1) (by omega)] at h10; exact absurd h10 (by decide)
            have hx2 := bl_cons s (q + 1) hq1
            rw [hx2, List.headD_cons] at h10
            rw [hx, hx2, h92, h10, skip_join] at hsay0
            have hsay1 : Hid (q + 2 + skip ((bl s).drop (q + 2)) = b) := Lib.hid (by
              have e : q + 1 + 1 = q + 2 := rfl
              rw [e] at hsay0; omega)
            have e1 : isB ((bl s).drop q) [92, 10] = true := by rw [hx, hx2, h92, h10, isB_two]; simp
            rw [e1] at his
            replace his := Lib.hid his
            clear hsay0 hsay hx hx2 h32 h9 h92 h10 e1
            go_wp2_with fail
            refine his.out.mono ?_
            rintro e w' ⟨rfl, hwq⟩
            obtain rfl := hwq.symm
            clear his hwq
            go_wp2
            go_roundw
            case rel => exact ⟨q + 2, by omega, by go_num, hsay1, Lib.hid (by trivial)⟩
            case measure => simp [intOf]; omega
          · have e1 : isB ((bl s).drop q) [92, 10] = false := by
              rw [hx, isB_two]
              cases hh : (bl s).drop (q + 1) with
              | nil => rfl
              | cons d r =>
                rw [hh, List.headD_cons] at hj
                by_cases h1 : s[q] = 92
                · by_cases h2 : d = 10
                  · exact absurd ⟨h1, h2⟩ hj
                  · simp [h2]
                · simp [h1]
            rw [e1] at his
            replace his := Lib.hid his
            by_cases h35 : s[q] = 35
            · have i35 : (s[q].toNat : Int) = 35 := by rw [h35]; rfl
              have hls : skip ((bl s).drop q) = lineN ((bl s).drop q) := by rw [hx, h35, skip_hash]
              have hl3 := skip_line ((bl s).drop q)
              have hll := lineN_le ((bl s).drop q)
              have hlat := lineN_at ((bl s).drop q)
              have hlno := lineN_no ((bl s).drop q)
              have hl2 : 0 < lineN ((bl s).drop q) := by rw [hx, h35]; simp [lineN]
              rw [hls] at hsay0
              rw [List.drop_drop] at hl3
              rw [List.length_drop, bl_len] at hll hlat
              generalize lineN ((bl s).drop q) = ln at hsay0 hl3 hll hlat hlno hl2
              have hqq : ∀ i, i < ln → ∃ h : q + i < s.size, s[q + i] ≠ 10 := by
                intro i hi
                refine ⟨by omega, fun e => hlno i hi ?_⟩
                rw [List.getElem?_drop, List.getElem?_eq_getElem (by rw [bl_len]; omega)]
                exact congrArg some e
              have hqn : ∀ h : q + ln < s.size, s[q + ln] = 10 := by
                intro h
                have := hlat (by omega)
                rw [List.getElem?_drop, List.getElem?_eq_getElem (by rw [bl_len]; omega)] at this
                exact Option.some.inj this
              have hsay1 : Hid (q + ln + skip ((bl s).drop (q + ln)) = b) := Lib.hid (by rw [hl3]; omega)
              replace hqq := Lib.hid hqq
              replace hqn := Lib.hid hqn
              clear hsay0 hsay hx h32 h9 hj h35 e1 hls hl3 hlat hlno
              go_wp2_with fail
              refine his.out.mono ?_
              rintro e w' ⟨rfl, hwq⟩
              obtain rfl := hwq.symm
              clear his hwq
              go_wp2
              go_loopw [7] (fun jv wx => ∃ j : Nat, j ≤ ln ∧ jv = .int .i64 ((q + j : Nat) : Int) ∧ Hid (wx = wr)) (fun jv _ => s.size - (intOf jv).toNat)
              case atStart => exact ⟨0, Nat.zero_le _, rfl, Lib.hid rfl⟩
              case round =>
                obtain ⟨j, hj, rfl, hwx⟩ := hrel
                obtain rfl := hwx.out
                clear hwx
                obtain ⟨e, he⟩ : ∃ e, q + j = e := ⟨_, rfl⟩
                by_cases hjl : j < ln
                · obtain ⟨h1, h2⟩ := hqq.out j hjl
                  have hel : e < s.size := by omega
                  have hei : (e : Int) < (s.size : Int) := by omega
                  have hn9 : s[e].toNat < 256 := s[e].toNat_lt
                  have hc : ¬ (s[e].toNat : Int) = 10 := fun h => by subst he; exact h2 (UInt8.toNat_inj.1 (by rw [show (10 : UInt8).toNat = 10 from rfl]; omega))
                  rw [he]
                  replace he := Lib.hid he
                  clear h2
                  go_wp2
                  go_roundw
                  case rel => exact ⟨j + 1, by omega, by have := he.out; go_num, Lib.hid (by trivial)⟩
                  case measure => have := he.out; simp [intOf]; omega
                · obtain rfl : ln = j := by omega
                  by_cases hel : e < s.size
                  · have hei : (e : Int) < (s.size : Int) := by omega
                    have hn9 : s[e].toNat < 256 := s[e].toNat_lt
                    have hc : (s[e].toNat : Int) = 10 := by have := hqn.out (by omega); subst he; rw [this]; rfl
                    rw [he] at hsay1 ⊢
                    replace he := Lib.hid he
                    go_wp2
                    go_roundw
                    case rel => exact ⟨e, by omega, rfl, hsay1, Lib.hid (by trivial)⟩
                    case measure => have := he.out; simp [intOf]; omega
                  · have hei : ¬ (e : Int) < (s.size : Int) := by omega
                    rw [he] at hsay1 ⊢
                    replace he := Lib.hid he
                    go_wp2
                    go_roundw
                    case rel => exact ⟨e, by have := he.out; omega, rfl, hsay1, Lib.hid (by trivial)⟩
                    case measure => have := he.out; simp [intOf]; omega
            · have i35 : ¬ (s[q].toNat : Int) = 35 := fun e => h35 (UInt8.toNat_inj.1 (by rw [show (35 : UInt8).toNat = 35 from rfl]; omega))
              rw [hx, skip_none _ (fun h => h.elim h32 h9) h35 hj] at hsay0
              obtain rfl : b = q := by omega
              have hT0 := hT.out
              have hne : (bl s).drop b ≠ [] := by rw [hx]; simp
              have hhd : ((bl s).drop b).headD 0 = s[b] := by rw [hx]; rfl
              rw [if_neg hne, hhd] at hT0
              have hei : ¬ (b : Int) = (s.size : Int) := by omega
              have hex := extract_one hlt
              clear hsay hsay0 h32 h9 hj h35 e1 hne hhd hx hT
              go_wp2_with fail
              refine his.out.mono ?_
              rintro e w' ⟨rfl, hwq⟩
              obtain rfl := hwq.symm
              clear his hwq
              by_cases h10 : s[b] = 10
              · have i10 : (s[b].toNat : Int) = 10 := by rw [h10]; rfl
                rw [if_pos h10] at hT0
                obtain rfl := hT0
                rw [h10] at hex
                clear hop hsc ho hscl h10
                have hb2 := Below.refl wr.heap.size wr
                replace hex := Lib.hid hex
                have b2 : Blk wr z _ _ := (hb2.block z b0.out.lt).trans b0.out
                have hbz : Below z w wr := hb0.out.trans (hb2.mono (by have := b0.out.lt; omega))
                have f0 := b2.frozen 0
                have f1 := b2.frozen 1
                have f2 := b2.frozen 2
                have f3 := b2.frozen 3
                have l2 := b2.lt
                have e0 := b2.cell (i := 0) rfl
                have e1 := b2.cell (i := 1) rfl
                have e2 := b2.cell (i := 2) rfl
                have e3 := b2.cell (i := 3) rfl
                have bE : Blk ((((wr.setCell ⟨z, 0, none⟩ (.int .i64 1)).setCell ⟨z, 1, none⟩ (.string ⟨#[10]⟩)).setCell ⟨z, 2, none⟩ (.int .i64 (b : Int))).setCell ⟨z, 3, none⟩ (.int .i64 ((b : Int) + 1))) z [(.int .i64 1), (.string ⟨#[10]⟩), (.int .i64 (b : Int)), (.int .i64 ((b : Int) + 1))] 28 := (((b2.set 0 (.int .i64 1)).set 1 (.string ⟨#[10]⟩)).set 2 (.int .i64 (b : Int))).set 3 (.int .i64 ((b : Int) + 1))
                have hbE : Below z w ((((wr.setCell ⟨z, 0, none⟩ (.int .i64 1)).setCell ⟨z, 1, none⟩ (.string ⟨#[10]⟩)).setCell ⟨z, 2, none⟩ (.int .i64 (b : Int))).setCell ⟨z, 3, none⟩ (.int .i64 ((b : Int) + 1))) := (((hbz.setCell (Nat.le_refl z) _).setCell (Nat.le_refl z) _).setCell (Nat.le_refl z) _).setCell (Nat.le_refl z) _
                replace bE := Lib.hid bE
                replace hbE := Lib.hid hbE
                clear hb2 b2 hbz 
                go_wp2
                generalize ((((wr.setCell ⟨z, 0, none⟩ (.int .i64 1)).setCell ⟨z, 1, none⟩ (.string ⟨#[10]⟩)).setCell ⟨z, 2, none⟩ (.int .i64 (b : Int))).setCell ⟨z, 3, none⟩ (.int .i64 ((b : Int) + 1))) = wE at bE hbE ⊢
                have g0 := bE.out.cell (i := 0) rfl
                have g1 := bE.out.cell (i := 1) rfl
                have g2 := bE.out.cell (i := 2) rfl
                have g3 := bE.out.cell (i := 3) rfl
                exact bodyPost_ret (v := .tuple #[.agg #[(.int .i64 1), (.string ⟨#[10]⟩), (.int .i64 (b : Int)), (.int .i64 ((b : Int) + 1))], .int .i64 0]) (by simp [results, Tryd.results11, g0, g1, g2, g3, go_sem]) rfl ⟨by rw [tokE_ne _ (by simp)]; unfold tokV; rw [hex.out]; try rfl, by rw [hz.out]; exact hbE.out⟩
              · have i10 : ¬ (s[b].toNat : Int) = 10 := fun e => h10 (UInt8.toNat_inj.1 (by rw [show (10 : UInt8).toNat = 10 from rfl]; omega))
                rw [if_neg h10] at hT0
                have hle := ho.out
                have hscl := hscl.out
                have hop := hop.out wr
                have hsc := hsc.out
                clear ho hex
                generalize opN ((bl s).drop b) = on at hop hT0 hle
                by_cases h0 : on ≠ 0
                · have h0i : (0 : Int) < (on : Int) := by omega
                  have n1 : (b : Int) ≤ (b : Int) + (on : Int) := by omega
                  have n2 : (b : Int) + (on : Int) ≤ (s.size : Int) := by omega
                  rw [if_pos h0] at hT0
                  obtain rfl := hT0
                  replace hop := Lib.hid hop
                  have hext : Hid (s.extract b (((b : Int) + (on : Int)).toNat) = s.extract b (b + on)) := Lib.hid (by congr 1)
                  clear hsc hscl h10 h0
                  go_wp2_with fail
                  refine hop.out.mono ?_
                  rintro e w2 ⟨rfl, hb2⟩
                  clear hop
                  have b2 : Blk w2 z _ _ := (hb2.block z b0.out.lt).trans b0.out
                  have hbz : Below z w w2 := hb0.out.trans (hb2.mono (by have := b0.out.lt; omega))
                  have f0 := b2.frozen 0
                  have f1 := b2.frozen 1
                  have f2 := b2.frozen 2
                  have f3 := b2.frozen 3
                  have l2 := b2.lt
                  have e0 := b2.cell (i := 0) rfl
                  have e1 := b2.cell (i := 1) rfl
                  have e2 := b2.cell (i := 2) rfl
                  have e3 := b2.cell (i := 3) rfl
                  have bE : Blk ((((w2.setCell ⟨z, 0, none⟩ (.int .i64 2)).setCell ⟨z, 1, none⟩ (.string (s.extract b (b + on)))).setCell ⟨z, 2, none⟩ (.int .i64 (b : Int))).setCell ⟨z, 3, none⟩ (.int .i64 ((b : Int) + (on : Int)))) z [(.int .i64 2), (.string (s.extract b (b + on))), (.int .i64 (b : Int)), (.int .i64 ((b : Int) + (on : Int)))] 28 := (((b2.set 0 (.int .i64 2)).set 1 (.string (s.extract b (b + on)))).set 2 (.int .i64 (b : Int))).set 3 (.int .i64 ((b : Int) + (on : Int)))
                  have hbE : Below z w ((((w2.setCell ⟨z, 0, none⟩ (.int .i64 2)).setCell ⟨z, 1, none⟩ (.string (s.extract b (b + on)))).setCell ⟨z, 2, none⟩ (.int .i64 (b : Int))).setCell ⟨z, 3, none⟩ (.int .i64 ((b : Int) + (on : Int)))) := (((hbz.setCell (Nat.le_refl z) _).setCell (Nat.le_refl z) _).setCell (Nat.le_refl z) _).setCell (Nat.le_refl z) _
                  replace bE := Lib.hid bE
                  replace hbE := Lib.hid hbE
                  clear hb2 b2 hbz 
                  go_wp2
                  generalize ((((w2.setCell ⟨z, 0, none⟩ (.int .i64 2)).setCell ⟨z, 1, none⟩ (.string (s.extract b (b + on)))).setCell ⟨z, 2, none⟩ (.int .i64 (b : Int))).setCell ⟨z, 3, none⟩ (.int .i64 ((b : Int) + (on : Int)))) = wE at bE hbE ⊢
                  have g0 := bE.out.cell (i := 0) rfl
                  have g1 := bE.out.cell (i := 1) rfl
                  have g2 := bE.out.cell (i := 2) rfl
                  have g3 := bE.out.cell (i := 3) rfl
                  exact bodyPost_ret (v := .tuple #[.agg #[(.int .i64 2), (.string (s.extract b (b + on))), (.int .i64 (b : Int)), (.int .i64 ((b : Int) + (on : Int)))], .int .i64 0]) (by simp [results, Tryd.results11, g0, g1, g2, g3, go_sem]) rfl ⟨rfl, by rw [hz.out]; exact hbE.out⟩
                · obtain rfl : on = 0 := by omega
                  rw [if_neg h0] at hT0
                  replace hop := Lib.hid hop
                  clear h0 h10
                  go_wp2_with fail
                  refine hop.out.mono ?_
                  rintro e w3 ⟨rfl, hb3⟩
                  have b3 : Hid (Blk w3 z _ _) := Lib.hid ((hb3.block z b0.out.lt).trans b0.out)
                  have hb4 : Hid (Below z w w3) := Lib.hid (hb0.out.trans (hb3.mono (by have := b0.out.lt; omega)))
                  clear hop hb3 b0 hb0
                  have hsc := hsc w3
                  rw [show ((119 : UInt8).toNat : Int) = 119 by rfl] at hsc
                  cases hq2 : scan ((bl s).drop b) [119] with
                  | none =>
                    rw [hq2] at hT0 hsc
                    obtain rfl := hT0
                    rw [enc_none] at hsc
                    replace hsc := Lib.hid hsc
                    clear hq2 hscl
                    go_wp2_with fail
                    refine hsc.out.mono ?_
                    rintro e w2 ⟨rfl, hb2⟩
                    clear hsc
                    have b2 : Blk w2 z _ _ := (hb2.block z b3.out.lt).trans b3.out
                    have hbz : Below z w w2 := hb4.out.trans (hb2.mono (by have := b3.out.lt; omega))
                    have f0 := b2.frozen 0
                    have f1 := b2.frozen 1
                    have f2 := b2.frozen 2
                    have f3 := b2.frozen 3
                    have l2 := b2.lt
                    have e0 := b2.cell (i := 0) rfl
                    have e1 := b2.cell (i := 1) rfl
                    have e2 := b2.cell (i := 2) rfl
                    have e3 := b2.cell (i := 3) rfl
                    have bE : Blk ((((w2.setCell ⟨z, 0, none⟩ (.int .i64 0)).setCell ⟨z, 1, none⟩ (.string ⟨#[]⟩)).setCell ⟨z, 2, none⟩ (.int .i64 (b : Int))).setCell ⟨z, 3, none⟩ (.int .i64 0)) z [(.int .i64 0), (.string ⟨#[]⟩), (.int .i64 (b : Int)), (.int .i64 0)] 28 := (((b2.set 0 (.int .i64 0)).set 1 (.string ⟨#[]⟩)).set 2 (.int .i64 (b : Int))).set 3 (.int .i64 0)
                    have hbE : Below z w ((((w2.setCell ⟨z, 0, none⟩ (.int .i64 0)).setCell ⟨z, 1, none⟩ (.string ⟨#[]⟩)).setCell ⟨z, 2, none⟩ (.int .i64 (b : Int))).setCell ⟨z, 3, none⟩ (.int .i64 0)) := (((hbz.setCell (Nat.le_refl z) _).setCell (Nat.le_refl z) _).setCell (Nat.le_refl z) _).setCell (Nat.le_refl z) _
                    replace bE := Lib.hid bE
                    replace hbE := Lib.hid hbE
                    clear hb2 b2 hbz 
                    go_wp2
                    generalize ((((w2.setCell ⟨z, 0, none⟩ (.int .i64 0)).setCell ⟨z, 1, none⟩ (.string ⟨#[]⟩)).setCell ⟨z, 2, none⟩ (.int .i64 (b : Int))).setCell ⟨z, 3, none⟩ (.int .i64 0)) = wE at bE hbE ⊢
                    have g0 := bE.out.cell (i := 0) rfl
                    have g1 := bE.out.cell (i := 1) rfl
                    have g2 := bE.out.cell (i := 2) rfl
                    have g3 := bE.out.cell (i := 3) rfl
                    exact bodyPost_ret (v := .tuple #[.agg #[(.int .i64 0), (.string ⟨#[]⟩), (.int .i64 (b : Int)), (.int .i64 0)], .int .i64 30]) (by simp [results, Tryd.results11, g0, g1, g2, g3, go_sem]) rfl ⟨rfl, by rw [hz.out]; exact hbE.out⟩
                  | some n =>
                    have hn1 := hscl n hq2
                    rw [hq2] at hT0 hsc
                    rw [enc_some] at hsc
                    simp only at hT0
                    clear hq2 hscl
                    obtain ⟨v, hv⟩ : ∃ v, b + n = v := ⟨_, rfl⟩
                    rw [hv] at hsc
                    have m1 : ¬ (v : Int) < 0 := by omega
                    have m2 : (b : Int) ≤ (v : Int) := by omega
                    have m3 : (v : Int) ≤ (s.size : Int) := by omega
                    have hvs : v ≤ s.size := by omega
                    replace hsc := Lib.hid hsc
                    go_wp2_with fail
                    refine hsc.out.mono ?_
                    rintro e w4 ⟨rfl, hb2⟩
                    have b4 : Hid (Blk w4 z _ _) := Lib.hid ((hb2.block z b3.out.lt).trans b3.out)
                    have hb5 : Hid (Below z w w4) := Lib.hid (hb4.out.trans (hb2.mono (by have := b3.out.lt; omega)))
                    clear hsc hb2 b3 hb4
                    have hdig : ∀ i, i ≤ n → (((bl s).drop b).take i).all digitB = (((bl s).drop b).take i).all digitB := fun _ _ => rfl
                    replace hT0 := Lib.hid hT0
                    replace hv := Lib.hid hv
                    clear hdig
                    go_wp2
                    go_loopw [10, 11] (fun dv jv wx => ∃ (i : Nat) (d : Bool), i ≤ n ∧ jv = .int .i64 ((b + i : Nat) : Int) ∧ dv = .bool d ∧ Hid (d = (((bl s).drop b).take i).all digitB) ∧ Hid (wx = w4)) (fun _ jv _ => v - (intOf jv).toNat)
                    case atStart => exact ⟨0, true, Nat.zero_le _, rfl, rfl, Lib.hid rfl, Lib.hid rfl⟩
                    case round =>
                      obtain ⟨i, d, hi, rfl, rfl, hd, hwx⟩ := hrel
                      obtain rfl := hwx.out
                      clear hwx
                      obtain ⟨e, he⟩ : ∃ e, b + i = e := ⟨_, rfl⟩
                      rw [he]
                      have hvv := hv.out
                      by_cases hin : i < n
                      · have hel : e < s.size := by omega
                        have hev : (e : Int) < (v : Int) := by omega
                        have hei2 : (e : Int) < (s.size : Int) := by omega
                        have hn9 := s[e].toNat_lt
                        have hd2 : (((bl s).drop b).take (i + 1)).all digitB = (d && digitB s[e]) := by
                          rw [List.take_add_one, List.getElem?_drop, he, List.getElem?_eq_getElem (by rw [bl_len]; exact hel), List.all_append, ← hd.out]
                          simp [bl_get]
                          rfl
                        have hdb : digitB s[e] = (decide (48 ≤ s[e].toNat) && decide (s[e].toNat ≤ 57)) := digit_range _
                        rw [hdb] at hd2
                        replace hd2 := Lib.hid hd2
                        replace he := Lib.hid he
                        clear hd hdb hvv
                        have j1 : ((48 : Int) ≤ (s[e].toNat : Int)) ∨ ¬ ((48 : Int) ≤ (s[e].toNat : Int)) := by omega
                        have j2 : ((s[e].toNat : Int) ≤ 57) ∨ ¬ ((s[e].toNat : Int) ≤ 57) := by omega
                        cases d <;> rcases j1 with j1 | j1 <;> rcases j2 with j2 | j2
                        all_goals (
                          go_wp2
                          go_roundw
                          case rel => exact ⟨i + 1, _, by omega, by have := he.out; go_num, rfl, Lib.hid (by rw [hd2.out]; simp <;> omega), Lib.hid (by trivial)⟩
                          case measure => have := he.out; simp [intOf]; omega)
                      · obtain rfl : n = i := by omega
                        obtain rfl : v = e := by omega
                        have hvi : ¬ (v : Int) < (v : Int) := by omega
                        have hT1 := hT0.out
                        rw [← hd.out, hvv] at hT1
                        clear hd hT0 he
                        by_cases hr : d = true ∧ redir ((bl s).drop v) = true
                        · obtain ⟨rfl, hr⟩ := hr
                          rw [if_pos ⟨rfl, hr⟩] at hT1
                          obtain rfl := hT1
                          have hvl : v < s.size := by
                            by_cases h : v < s.size
                            · exact h
                            · rw [bl_end s v (by omega)] at hr; exact absurd hr (by decide)
                          have hvli : (v : Int) < (s.size : Int) := by omega
                          have hnv := s[v].toNat_lt
                          rw [bl_cons s v hvl] at hr
                          have hr2 : s[v] = 60 ∨ s[v] = 62 := by simpa [redir] using hr
                          clear hr hvv hv
                          have hb2 := Below.refl wr.heap.size wr
                          rcases hr2 with h60 | h60
                          · have i60 : (s[v].toNat : Int) = 60 := by rw [h60]; rfl
                            clear h60
                            have b2 : Blk wr z _ _ := (hb2.block z b4.out.lt).trans b4.out
                            have hbz : Below z w wr := hb5.out.trans (hb2.mono (by have := b4.out.lt; omega))
                            have f0 := b2.frozen 0
                            have f1 := b2.frozen 1
                            have f2 := b2.frozen 2
                            have f3 := b2.frozen 3
                            have l2 := b2.lt
                            have e0 := b2.cell (i := 0) rfl
                            have e1 := b2.cell (i := 1) rfl
                            have e2 := b2.cell (i := 2) rfl
                            have e3 := b2.cell (i := 3) rfl
                            have bE : Blk ((((wr.setCell ⟨z, 0, none⟩ (.int .i64 3)).setCell ⟨z, 1, none⟩ (.string (s.extract b v))).setCell ⟨z, 2, none⟩ (.int .i64 (b : Int))).setCell ⟨z, 3, none⟩ (.int .i64 (v : Int))) z [(.int .i64 3), (.string (s.extract b v)), (.int .i64 (b : Int)), (.int .i64 (v : Int))] 28 := (((b2.set 0 (.int .i64 3)).set 1 (.string (s.extract b v))).set 2 (.int .i64 (b : Int))).set 3 (.int .i64 (v : Int))
                            have hbE : Below z w ((((wr.setCell ⟨z, 0, none⟩ (.int .i64 3)).setCell ⟨z, 1, none⟩ (.string (s.extract b v))).setCell ⟨z, 2, none⟩ (.int .i64 (b : Int))).setCell ⟨z, 3, none⟩ (.int .i64 (v : Int))) := (((hbz.setCell (Nat.le_refl z) _).setCell (Nat.le_refl z) _).setCell (Nat.le_refl z) _).setCell (Nat.le_refl z) _
                            replace bE := Lib.hid bE
                            replace hbE := Lib.hid hbE
                            clear hb2 b2 hbz 
                            go_wp2
                            generalize ((((wr.setCell ⟨z, 0, none⟩ (.int .i64 3)).setCell ⟨z, 1, none⟩ (.string (s.extract b v))).setCell ⟨z, 2, none⟩ (.int .i64 (b : Int))).setCell ⟨z, 3, none⟩ (.int .i64 (v : Int))) = wE at bE hbE ⊢
                            have g0 := bE.out.cell (i := 0) rfl
                            have g1 := bE.out.cell (i := 1) rfl
                            have g2 := bE.out.cell (i := 2) rfl
                            have g3 := bE.out.cell (i := 3) rfl
                            exact bodyPost_ret (v := .tuple #[.agg #[(.int .i64 3), (.string (s.extract b v)), (.int .i64 (b : Int)), (.int .i64 (v : Int))], .int .i64 0]) (by simp [results, Tryd.results11, g0, g1, g2, g3, go_sem]) rfl ⟨rfl, by rw [hz.out]; exact hbE.out⟩
                          · have i62 : (s[v].toNat : Int) = 62 := by rw [h60]; rfl
                            clear h60
                            have b2 : Blk wr z _ _ := (hb2.block z b4.out.lt).trans b4.out
                            have hbz : Below z w wr := hb5.out.trans (hb2.mono (by have := b4.out.lt; omega))
                            have f0 := b2.frozen 0
                            have f1 := b2.frozen 1
                            have f2 := b2.frozen 2
                            have f3 := b2.frozen 3
                            have l2 := b2.lt
                            have e0 := b2.cell (i := 0) rfl
                            have e1 := b2.cell (i := 1) rfl
                            have e2 := b2.cell (i := 2) rfl
                            have e3 := b2.cell (i := 3) rfl
                            have bE : Blk ((((wr.setCell ⟨z, 0, none⟩ (.int .i64 3)).setCell ⟨z, 1, none⟩ (.string (s.extract b v))).setCell ⟨z, 2, none⟩ (.int .i64 (b : Int))).setCell ⟨z, 3, none⟩ (.int .i64 (v : Int))) z [(.int .i64 3), (.string (s.extract b v)), (.int .i64 (b : Int)), (.int .i64 (v : Int))] 28 := (((b2.set 0 (.int .i64 3)).set 1 (.string (s.extract b v))).set 2 (.int .i64 (b : Int))).set 3 (.int .i64 (v : Int))
                            have hbE : Below z w ((((wr.setCell ⟨z, 0, none⟩ (.int .i64 3)).setCell ⟨z, 1, none⟩ (.string (s.extract b v))).setCell ⟨z, 2, none⟩ (.int .i64 (b : Int))).setCell ⟨z, 3, none⟩ (.int .i64 (v : Int))) := (((hbz.setCell (Nat.le_refl z) _).setCell (Nat.le_refl z) _).setCell (Nat.le_refl z) _).setCell (Nat.le_refl z) _
                            replace bE := Lib.hid bE
                            replace hbE := Lib.hid hbE
                            clear hb2 b2 hbz 
                            go_wp2
                            generalize ((((wr.setCell ⟨z, 0, none⟩ (.int .i64 3)).setCell ⟨z, 1, none⟩ (.string (s.extract b v))).setCell ⟨z, 2, none⟩ (.int .i64 (b : Int))).setCell ⟨z, 3, none⟩ (.int .i64 (v : Int))) = wE at bE hbE ⊢
                            have g0 := bE.out.cell (i := 0) rfl
                            have g1 := bE.out.cell (i := 1) rfl
                            have g2 := bE.out.cell (i := 2) rfl
                            have g3 := bE.out.cell (i := 3) rfl
                            exact bodyPost_ret (v := .tuple #[.agg #[(.int .i64 3), (.string (s.extract b v)), (.int .i64 (b : Int)), (.int .i64 (v : Int))], .int .i64 0]) (by simp [results, Tryd.results11, g0, g1, g2, g3, go_sem]) rfl ⟨rfl, by rw [hz.out]; exact hbE.out⟩
                        · rw [if_neg (fun h => hr h)] at hT1
                          obtain rfl := hT1
                          have hb2 := Below.refl wr.heap.size wr
                          clear hvv hv
                          cases d with
                          | false =>
                            clear hr
                            have b2 : Blk wr z _ _ := (hb2.block z b4.out.lt).trans b4.out
                            have hbz : Below z w wr := hb5.out.trans (hb2.mono (by have := b4.out.lt; omega))
                            have f0 := b2.frozen 0
                            have f1 := b2.frozen 1
                            have f2 := b2.frozen 2
                            have f3 := b2.frozen 3
                            have l2 := b2.lt
                            have e0 := b2.cell (i := 0) rfl
                            have e1 := b2.cell (i := 1) rfl
                            have e2 := b2.cell (i := 2) rfl
                            have e3 := b2.cell (i := 3) rfl
                            have bE : Blk ((((wr.setCell ⟨z, 0, none⟩ (.int .i64 4)).setCell ⟨z, 1, none⟩ (.string (s.extract b v))).setCell ⟨z, 2, none⟩ (.int .i64 (b : Int))).setCell ⟨z, 3, none⟩ (.int .i64 (v : Int))) z [(.int .i64 4), (.string (s.extract b v)), (.int .i64 (b : Int)), (.int .i64 (v : Int))] 28 := (((b2.set 0 (.int .i64 4)).set 1 (.string (s.extract b v))).set 2 (.int .i64 (b : Int))).set 3 (.int .i64 (v : Int))
                            have hbE : Below z w ((((wr.setCell ⟨z, 0, none⟩ (.int .i64 4)).setCell ⟨z, 1, none⟩ (.string (s.extract b v))).setCell ⟨z, 2, none⟩ (.int .i64 (b : Int))).setCell ⟨z, 3, none⟩ (.int .i64 (v : Int))) := (((hbz.setCell (Nat.le_refl z) _).setCell (Nat.le_refl z) _).setCell (Nat.le_refl z) _).setCell (Nat.le_refl z) _
                            replace bE := Lib.hid bE
                            replace hbE := Lib.hid hbE
                            clear hb2 b2 hbz 
                            go_wp2
                            generalize ((((wr.setCell ⟨z, 0, none⟩ (.int .i64 4)).setCell ⟨z, 1, none⟩ (.string (s.extract b v))).setCell ⟨z, 2, none⟩ (.int .i64 (b : Int))).setCell ⟨z, 3, none⟩ (.int .i64 (v : Int))) = wE at bE hbE ⊢
                            have g0 := bE.out.cell (i := 0) rfl
                            have g1 := bE.out.cell (i := 1) rfl
                            have g2 := bE.out.cell (i := 2) rfl
                            have g3 := bE.out.cell (i := 3) rfl
                            exact bodyPost_ret (v := .tuple #[.agg #[(.int .i64 4), (.string (s.extract b v)), (.int .i64 (b : Int)), (.int .i64 (v : Int))], .int .i64 0]) (by simp [results, Tryd.results11, g0, g1, g2, g3, go_sem]) rfl ⟨rfl, by rw [hz.out]; exact hbE.out⟩
                          | true =>
                            by_cases hvl : v < s.size
                            · have hvli : (v : Int) < (s.size : Int) := by omega
                              have hnv := s[v].toNat_lt
                              have hr2 : s[v] ≠ 60 ∧ s[v] ≠ 62 := by
                                rw [bl_cons s v hvl] at hr
                                constructor
                                · intro h; exact hr ⟨rfl, by simp [redir, h]⟩
                                · intro h; exact hr ⟨rfl, by simp [redir, h]⟩
                              obtain ⟨h60, h62⟩ := hr2
                              have i60 : ¬ (s[v].toNat : Int) = 60 := fun e => h60 (UInt8.toNat_inj.1 (by rw [show (60 : UInt8).toNat = 60 from rfl]; omega))
                              have i62 : ¬ (s[v].toNat : Int) = 62 := fun e => h62 (UInt8.toNat_inj.1 (by rw [show (62 : UInt8).toNat = 62 from rfl]; omega))
                              have j60 : ((s[v].toNat : Int) == 60) = false := beq_eq_false_iff_ne.2 i60
                              have j62 : ((s[v].toNat : Int) == 62) = false := beq_eq_false_iff_ne.2 i62
                              clear hr h60 h62
                              have b2 : Blk wr z _ _ := (hb2.block z b4.out.lt).trans b4.out
                              have hbz : Below z w wr := hb5.out.trans (hb2.mono (by have := b4.out.lt; omega))
                              have f0 := b2.frozen 0
                              have f1 := b2.frozen 1
                              have f2 := b2.frozen 2
                              have f3 := b2.frozen 3
                              have l2 := b2.lt
                              have e0 := b2.cell (i := 0) rfl
                              have e1 := b2.cell (i := 1) rfl
                              have e2 := b2.cell (i := 2) rfl
                              have e3 := b2.cell (i := 3) rfl
                              have bE : Blk ((((wr.setCell ⟨z, 0, none⟩ (.int .i64 4)).setCell ⟨z, 1, none⟩ (.string (s.extract b v))).setCell ⟨z, 2, none⟩ (.int .i64 (b : Int))).setCell ⟨z, 3, none⟩ (.int .i64 (v : Int))) z [(.int .i64 4), (.string (s.extract b v)), (.int .i64 (b : Int)), (.int .i64 (v : Int))] 28 := (((b2.set 0 (.int .i64 4)).set 1 (.string (s.extract b v))).set 2 (.int .i64 (b : Int))).set 3 (.int .i64 (v : Int))
                              have hbE : Below z w ((((wr.setCell ⟨z, 0, none⟩ (.int .i64 4)).setCell ⟨z, 1, none⟩ (.string (s.extract b v))).setCell ⟨z, 2, none⟩ (.int .i64 (b : Int))).setCell ⟨z, 3, none⟩ (.int .i64 (v : Int))) := (((hbz.setCell (Nat.le_refl z) _).setCell (Nat.le_refl z) _).setCell (Nat.le_refl z) _).setCell (Nat.le_refl z) _
                              replace bE := Lib.hid bE
                              replace hbE := Lib.hid hbE
                              clear hb2 b2 hbz 
                              go_wp2
                              generalize ((((wr.setCell ⟨z, 0, none⟩ (.int .i64 4)).setCell ⟨z, 1, none⟩ (.string (s.extract b v))).setCell ⟨z, 2, none⟩ (.int .i64 (b : Int))).setCell ⟨z, 3, none⟩ (.int .i64 (v : Int))) = wE at bE hbE ⊢
                              have g0 := bE.out.cell (i := 0) rfl
                              have g1 := bE.out.cell (i := 1) rfl
                              have g2 := bE.out.cell (i := 2) rfl
                              have g3 := bE.out.cell (i := 3) rfl
                              exact bodyPost_ret (v := .tuple #[.agg #[(.int .i64 4), (.string (s.extract b v)), (.int .i64 (b : Int)), (.int .i64 (v : Int))], .int .i64 0]) (by simp [results, Tryd.results11, g0, g1, g2, g3, go_sem]) rfl ⟨rfl, by rw [hz.out]; exact hbE.out⟩
                            · have hvli : ¬ (v : Int) < (s.size : Int) := by omega
                              clear hr
                              have b2 : Blk wr z _ _ := (hb2.block z b4.out.lt).trans b4.out
                              have hbz : Below z w wr := hb5.out.trans (hb2.mono (by have := b4.out.lt; omega))
                              have f0 := b2.frozen 0
                              have f1 := b2.frozen 1
                              have f2 := b2.frozen 2
                              have f3 := b2.frozen 3
                              have l2 := b2.lt
                              have e0 := b2.cell (i := 0) rfl
                              have e1 := b2.cell (i := 1) rfl
                              have e2 := b2.cell (i := 2) rfl
                              have e3 := b2.cell (i := 3) rfl
                              have bE : Blk ((((wr.setCell ⟨z, 0, none⟩ (.int .i64 4)).setCell ⟨z, 1, none⟩ (.string (s.extract b v))).setCell ⟨z, 2, none⟩ (.int .i64 (b : Int))).setCell ⟨z, 3, none⟩ (.int .i64 (v : Int))) z [(.int .i64 4), (.string (s.extract b v)), (.int .i64 (b : Int)), (.int .i64 (v : Int))] 28 := (((b2.set 0 (.int .i64 4)).set 1 (.string (s.extract b v))).set 2 (.int .i64 (b : Int))).set 3 (.int .i64 (v : Int))
                              have hbE : Below z w ((((wr.setCell ⟨z, 0, none⟩ (.int .i64 4)).setCell ⟨z, 1, none⟩ (.string (s.extract b v))).setCell ⟨z, 2, none⟩ (.int .i64 (b : Int))).setCell ⟨z, 3, none⟩ (.int .i64 (v : Int))) := (((hbz.setCell (Nat.le_refl z) _).setCell (Nat.le_refl z) _).setCell (Nat.le_refl z) _).setCell (Nat.le_refl z) _
                              replace bE := Lib.hid bE
                              replace hbE := Lib.hid hbE
                              clear hb2 b2 hbz 
                              go_wp2
                              generalize ((((wr.setCell ⟨z, 0, none⟩ (.int .i64 4)).setCell ⟨z, 1, none⟩ (.string (s.extract b v))).setCell ⟨z, 2, none⟩ (.int .i64 (b : Int))).setCell ⟨z, 3, none⟩ (.int .i64 (v : Int))) = wE at bE hbE ⊢
                              have g0 := bE.out.cell (i := 0) rfl
                              have g1 := bE.out.cell (i := 1) rfl
                              have g2 := bE.out.cell (i := 2) rfl
                              have g3 := bE.out.cell (i := 3) rfl
                              exact bodyPost_ret (v := .tuple #[.agg #[(.int .i64 4), (.string (s.extract b v)), (.int .i64 (b : Int)), (.int .i64 (v : Int))], .int .i64 0]) (by simp [results, Tryd.results11, g0, g1, g2, g3, go_sem]) rfl ⟨rfl, by rw [hz.out]; exact hbE.out⟩
    · have hi1 : ¬ (q : Int) < (s.size : Int) := by omega
      have hsay0 := hsay.out
      rw [bl_end s q (by omega), skip_nil] at hsay0
      obtain rfl : b = q := by omega
      have hbs : b = s.size := by omega
      have hT0 := hT.out
      rw [if_pos (bl_end s b (by omega))] at hT0
      obtain rfl := hT0
      subst hbs
      clear hsay hsay0 hop hsc ho hscl hT
      have hb2 := Below.refl wr.heap.size wr
      have b2 : Blk wr z _ _ := (hb2.block z b0.out.lt).trans b0.out
      have hbz : Below z w wr := hb0.out.trans (hb2.mono (by have := b0.out.lt; omega))
      have f0 := b2.frozen 0
      have f1 := b2.frozen 1
      have f2 := b2.frozen 2
      have f3 := b2.frozen 3
      have l2 := b2.lt
      have e0 := b2.cell (i := 0) rfl
      have e1 := b2.cell (i := 1) rfl
      have e2 := b2.cell (i := 2) rfl
      have e3 := b2.cell (i := 3) rfl
      have bE : Blk ((((wr.setCell ⟨z, 0, none⟩ (.int .i64 0)).setCell ⟨z, 1, none⟩ (.string ⟨#[]⟩)).setCell ⟨z, 2, none⟩ (.int .i64 (s.size : Int))).setCell ⟨z, 3, none⟩ (.int .i64 (s.size : Int))) z [(.int .i64 0), (.string ⟨#[]⟩), (.int .i64 (s.size : Int)), (.int .i64 (s.size : Int))] 28 := (((b2.set 0 (.int .i64 0)).set 1 (.string ⟨#[]⟩)).set 2 (.int .i64 (s.size : Int))).set 3 (.int .i64 (s.size : Int))
      have hbE : Below z w ((((wr.setCell ⟨z, 0, none⟩ (.int .i64 0)).setCell ⟨z, 1, none⟩ (.string ⟨#[]⟩)).setCell ⟨z, 2, none⟩ (.int .i64 (s.size : Int))).setCell ⟨z, 3, none⟩ (.int .i64 (s.size : Int))) := (((hbz.setCell (Nat.le_refl z) _).setCell (Nat.le_refl z) _).setCell (Nat.le_refl z) _).setCell (Nat.le_refl z) _
      replace bE := Lib.hid bE
      replace hbE := Lib.hid hbE
      clear hb2 b2 hbz 
      go_wp2
      generalize ((((wr.setCell ⟨z, 0, none⟩ (.int .i64 0)).setCell ⟨z, 1, none⟩ (.string ⟨#[]⟩)).setCell ⟨z, 2, none⟩ (.int .i64 (s.size : Int))).setCell ⟨z, 3, none⟩ (.int .i64 (s.size : Int))) = wE at bE hbE ⊢
      have g0 := bE.out.cell (i := 0) rfl
      have g1 := bE.out.cell (i := 1) rfl
      have g2 := bE.out.cell (i := 2) rfl
      have g3 := bE.out.cell (i := 3) rfl
      exact bodyPost_ret (v := .tuple #[.agg #[(.int .i64 0), (.string ⟨#[]⟩), (.int .i64 (s.size : Int)), (.int .i64 (s.size : Int))], .int .i64 0]) (by simp [results, Tryd.results11, g0, g1, g2, g3, go_sem]) rfl ⟨by rw [tokE_ne _ (by simp)]; unfold tokV; rw [extract_nil]; try rfl, by rw [hz.out]; exact hbE.out⟩
end
end Go.Proofs.YtjeleebgifajkaaDoor
