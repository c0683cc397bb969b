/-
  The reference's Close, Drain, Append, Chunks. Conditions: at most a million bytes a buffer, and a thousand buffers.
-/
import Derived.Test.YticoigpkgpdabaaSpRef2
namespace Go.Proofs.Yticoigpkgpdabaa
open Go Go.RowKit

section
variable {w : World} {B rb q M C : Nat} {rs : List REnt} {L : Value} {i b g : Nat} {s : ByteArray}

theorem rm_set (h : RefAt w B rb q M C rs L) {r : REnt} (hr : rs[i]? = some r) (j : Nat) (u : Value) : Rm B w (w.setCell ⟨r.1, j, none⟩ u) :=
  Rm.of_one (h.ent i r hr).1 (h.ent i r hr).2.1 (.inr (.inr rfl)) rfl rfl rfl (by simp [World.setCell]) fun k _ hk => heap_setCell_other w _ k u hk

set_option maxRecDepth 100000 in
theorem rclose_ok (h : RefAt w B rb q M C rs L) (hr : rs[i]? = some (b, s, g, false)) :
    Calls Try.prog 19 #[.pointer (some ⟨b, 0, none⟩)] w fun e w' => e = .returned (.int .i64 0) ∧ RefAt w' B rb q M C (rs.set i (b, s, g, true)) L ∧ Rm B w w' := by
  obtain ⟨hb, hB, hg⟩ := h.ent i _ hr
  have c2 := hb.cell (show (rentC (b, s, g, false))[2]? = some _ from rfl)
  have f2 := hb.frozen 2
  have hlt := hb.lt
  simp only at c2 f2 hlt
  have h1 : RefAt (w.setCell ⟨b, 2, none⟩ (.bool true)) B rb q M C (rs.set i (b, s, g, true)) L := h.set hr rfl (hb.set 2 (.bool true)) hg fun k _ hk => heap_setCell_other w _ k _ hk
  have h2 := rm_set h hr 2 (.bool true)
  replace h := Lib.hid h
  replace hb := Lib.hid hb
  replace h1 := Lib.hid h1
  replace h2 := Lib.hid h2
  clear hr
  go_enter Try.func19, Try.ntmps19
  go_wp2
  go_ret
  exact ⟨rfl, h1.out, h2.out⟩
set_option maxRecDepth 100000 in
theorem rclose_shut (hb : Blk w b (rentC (b, s, g, true)) 62) :
    Calls Try.prog 19 #[.pointer (some ⟨b, 0, none⟩)] w fun e w' => e = .returned (.int .i64 18) ∧ w' = w := by
  have c2 := hb.cell (show (rentC (b, s, g, true))[2]? = some _ from rfl)
  have hlt := hb.lt
  simp only at c2
  clear hb
  go_enter Try.func19, Try.ntmps19
  go_wp2
  go_ret
  exact ⟨rfl, rfl⟩
set_option maxRecDepth 100000 in
theorem rdrain_shut (n : Int) (hb : Blk w b (rentC (b, s, g, true)) 62) :
    Calls Try.prog 17 #[.pointer (some ⟨b, 0, none⟩), .int .i64 n] w fun e w' => e = .returned (.tuple #[.string ⟨#[]⟩, .int .i64 18]) ∧ w' = w := by
  have c2 := hb.cell (show (rentC (b, s, g, true))[2]? = some _ from rfl)
  have hlt := hb.lt
  simp only at c2
  clear hb
  go_enter Try.func17, Try.ntmps17
  go_wp2
  go_ret2
  exact ⟨rfl, rfl⟩
set_option maxRecDepth 100000 in
theorem rdrain_neg (n : Int) (hn : n < 0) (hb : Blk w b (rentC (b, s, g, false)) 62) :
    Calls Try.prog 17 #[.pointer (some ⟨b, 0, none⟩), .int .i64 n] w fun e w' => e = .returned (.tuple #[.string ⟨#[]⟩, .int .i64 1]) ∧ w' = w := by
  have c2 := hb.cell (show (rentC (b, s, g, false))[2]? = some _ from rfl)
  have hlt := hb.lt
  simp only at c2
  clear hb
  go_enter Try.func17, Try.ntmps17
  go_wp2
  go_ret2
  exact ⟨rfl, rfl⟩
set_option maxHeartbeats 2000000 in
set_option maxRecDepth 100000 in
theorem rdrain_ok (n : Nat) (h : RefAt w B rb q M C rs L) (hr : rs[i]? = some (b, s, g, false)) (hs : s.size ≤ 1000000) :
    Calls Try.prog 17 #[.pointer (some ⟨b, 0, none⟩), .int .i64 (n : Int)] w fun e w' => (∃ t, e = .returned (.tuple #[.string t, .int .i64 0]) ∧ tl t = ((tl s).drop g).take n) ∧
      RefAt w' B rb q M C (rs.set i (b, s, g + min n (s.size - g), false)) L ∧ Rm B w w' := by
  obtain ⟨hb, hB, hg⟩ := h.ent i _ hr
  have c0 := hb.cell (show (rentC (b, s, g, false))[0]? = some _ from rfl)
  have c1 := hb.cell (show (rentC (b, s, g, false))[1]? = some _ from rfl)
  have c2 := hb.cell (show (rentC (b, s, g, false))[2]? = some _ from rfl)
  have f1 := hb.frozen 1
  have hlt := hb.lt
  simp only at c0 c1 c2 f1 hlt hg
  have h1 : ∀ (d m : Nat), g + m ≤ s.size → RefAt ((w.drewN d).setCell ⟨b, 1, none⟩ (.int .i64 ((g + m : Nat) : Int))) B rb q M C (rs.set i (b, s, g + m, false)) L := fun d m hm => (h.drewN d).set hr rfl (Blk.set (w := w.drewN d) hb 1 (.int .i64 ((g + m : Nat) : Int))) hm fun k _ hk => heap_setCell_other (w.drewN d) _ k _ hk
  have h2 : ∀ (d m : Nat), Rm B w ((w.drewN d).setCell ⟨b, 1, none⟩ (.int .i64 ((g + m : Nat) : Int))) := fun d m => (Rm.of_drewN ⟨d, rfl⟩).trans (rm_set (h.drewN d) hr 1 _)
  obtain ⟨t1, ht1⟩ : ∃ t1, s.extract g s.size = t1 := ⟨_, rfl⟩
  have htl : tl t1 = (tl s).drop g := by rw [← ht1, tl_from]
  have hts : t1.size = s.size - g := by rw [← tl_len, htl, List.length_drop, tl_len]
  have hi0 : (0 : Int) ≤ (g : Int) := by omega
  have hi1 : (g : Int) ≤ (s.size : Int) := by omega
  replace h := Lib.hid h
  replace hb := Lib.hid hb
  replace h1 := Lib.hid h1
  replace h2 := Lib.hid h2
  replace htl := Lib.hid htl
  clear hr
  by_cases hn : n < s.size - g
  · obtain ⟨t2, ht2⟩ : ∃ t2, t1.extract 0 n = t2 := ⟨_, rfl⟩
    have htl2 : tl t2 = ((tl s).drop g).take n := by rw [← ht2, tl_upto, htl.out]
    have hts2 : t2.size = n := by rw [← tl_len, htl2, List.length_take, List.length_drop, tl_len]; omega
    replace htl2 := Lib.hid htl2
    replace hts2 := Lib.hid hts2
    have hni : (n : Int) < (t1.size : Int) := by omega
    have hni0 : (0 : Int) ≤ (n : Int) := by omega
    have hni1 : (n : Int) ≤ (t1.size : Int) := by omega
    replace hts := Lib.hid hts
    go_enter Try.func17, Try.ntmps17
    go_upto_region 5 with fail
    go_quiet (fail)
    go_upto_region 8 with fail
    have hz := hts2.out
    have hmin : min n (s.size - g) = n := by omega
    have hgn : g + n ≤ s.size := by omega
    replace hmin := Lib.hid hmin
    clear hni hni0 hni1 hi0 hi1
    go_wp2
    go_ret2
    exact ⟨⟨t2, rfl, htl2.out⟩, by rw [hmin.out]; exact h1.out _ n hgn, h2.out _ n⟩
  · obtain ⟨D, hD⟩ : ∃ D, s.size - g = D := ⟨_, rfl⟩
    have hmin : min n (s.size - g) = D := by omega
    have hgn : g + D ≤ s.size := by omega
    have htk : tl t1 = ((tl s).drop g).take n := by rw [htl.out, List.take_of_length_le (by rw [List.length_drop, tl_len]; omega)]
    have hni : ¬ (n : Int) < (t1.size : Int) := by omega
    have hn0 : ¬ (n : Int) < 0 := by omega
    have htz : t1.size = D := by omega
    have hni2 : ¬ (n : Int) < (D : Int) := by omega
    replace htk := Lib.hid htk
    replace hmin := Lib.hid hmin
    clear hD hts hn
    replace htz := Lib.hid htz
    go_enter Try.func17, Try.ntmps17
    go_upto_region 5 with fail
    go_quiet (fail)
    go_upto_region 8 with fail
    have hz := htz.out
    clear hni hi0 hi1
    go_wp2
    go_ret2
    exact ⟨⟨t1, rfl, htk.out⟩, by rw [hmin.out]; exact h1.out _ D hgn, h2.out _ D⟩

set_option maxRecDepth 100000 in
theorem rappend_shut (data : ByteArray) (hb : Blk w b (rentC (b, s, g, true)) 62) :
    Calls Try.prog 15 #[.pointer (some ⟨rb, 0, none⟩), .pointer (some ⟨b, 0, none⟩), .string data] w fun e w' => e = .returned (.int .i64 18) ∧ w' = w := by
  have c2 := hb.cell (show (rentC (b, s, g, true))[2]? = some _ from rfl)
  have hlt := hb.lt
  simp only at c2
  clear hb
  go_enter Try.func15, Try.ntmps15
  go_wp2
  go_ret
  exact ⟨rfl, rfl⟩
set_option maxHeartbeats 2000000 in
set_option maxRecDepth 100000 in
theorem rappend_ok (data : ByteArray) (h : RefAt w B rb q M C rs L) (hr : rs[i]? = some (b, s, g, false)) (hn : rs.length ≤ 1000) (hs : ∀ (i : Nat) (r : REnt), rs[i]? = some r → r.2.1.size ≤ 1000000) (ht : tally rheldOf rs ≤ 1000000000) (hd : data.size ≤ 1000000) :
    Calls Try.prog 15 #[.pointer (some ⟨rb, 0, none⟩), .pointer (some ⟨b, 0, none⟩), .string data] w fun e w' =>
      (tally rheldOf rs + data.size ≤ q ∧ e = .returned (.int .i64 0) ∧ RefAt w' B rb q M C (rs.set i (b, s ++ data, g, false)) L ∨ q < tally rheldOf rs + data.size ∧ e = .returned (.int .i64 41) ∧ RefAt w' B rb q M C rs L) ∧ Rm B w w' := by
  obtain ⟨hb, hB, hg⟩ := h.ent i _ hr
  have c0 := hb.cell (show (rentC (b, s, g, false))[0]? = some _ from rfl)
  have c2 := hb.cell (show (rentC (b, s, g, false))[2]? = some _ from rfl)
  have f0 := hb.frozen 0
  have hlt := hb.lt
  have d0 := h.blk.cell (show (refC q M C L)[0]? = some _ from rfl)
  have hrbl := h.blk.lt
  simp only at c0 c2 f0 hlt hg
  have hsz := hs i _ hr
  simp only at hsz
  have hgs : g ≤ (s ++ data).size := by rw [ByteArray.size_append]; omega
  have h1 : ∀ (d : Nat), RefAt ((w.drewN d).setCell ⟨b, 0, none⟩ (.string (s ++ data))) B rb q M C (rs.set i (b, s ++ data, g, false)) L := fun d => (h.drewN d).set hr rfl (Blk.set (w := w.drewN d) hb 0 (.string (s ++ data))) hgs fun k _ hk => heap_setCell_other (w.drewN d) _ k _ hk
  have h2 : ∀ (d : Nat), Rm B w ((w.drewN d).setCell ⟨b, 0, none⟩ (.string (s ++ data))) := fun d => (Rm.of_drewN ⟨d, rfl⟩).trans (rm_set (h.drewN d) hr 0 _)
  have hhd := fun d => rheld_ok (h.drewN d) hn hs ht
  obtain ⟨T, hT⟩ : ∃ T, tally rheldOf rs = T := ⟨_, rfl⟩
  rw [hT] at ht hhd ⊢
  have j1 : s.size + data.size ≤ 9223372036854775807 := by omega
  have j2 : ¬ 9223372036854775807 < s.size + data.size := by omega
  have hwT : IntKind.i64.wrap ((T : Int) + (data.size : Int)) = (T : Int) + (data.size : Int) := by rw [IntKind.wrap_i64]; omega
  replace h := Lib.hid h
  replace hb := Lib.hid hb
  replace h1 := Lib.hid h1
  replace h2 := Lib.hid h2
  replace hs := Lib.hid hs
  replace hgs := Lib.hid hgs
  replace hT := Lib.hid hT
  clear hr
  go_enter Try.func15, Try.ntmps15
  go_upto_region 3 with fail
  go_region_held3 (fun w' => w'.cell? ⟨rb, 0, none⟩ = some (.int .i64 (q : Int)))
    (first | go_keep | exact hk)
    ((go_at_call 23; refine (hhd 1).mono ?_; rintro e w2 ⟨rfl, nd, hw2⟩; have hk : w2.cell? ⟨rb, 0, none⟩ = some (.int .i64 (q : Int)) := by rw [hw2]; exact d0))
  clear hk hhd hwT hw2
  by_cases hc : q < T + data.size
  · have hci : (q : Int) < (T : Int) + (data.size : Int) := by omega
    go_wp2
    go_ret
    exact ⟨.inr ⟨hc, rfl, h.out.drewN _⟩, Rm.of_drewN ⟨_, rfl⟩⟩
  · have hci : ¬ (q : Int) < (T : Int) + (data.size : Int) := by omega
    have hc' : T + data.size ≤ q := by omega
    clear hc
    go_wp2
    go_ret
    refine ⟨.inl ?_, h2.out _⟩
    first
      | exact ⟨hc', rfl, h1.out _⟩
      | exact ⟨rfl, h1.out _⟩

theorem gone_le {C M g x : Nat} (hC : 0 < C) : (g - M) / C ≤ x ↔ g < M + x * C + C := by
  rw [← Nat.lt_succ_iff, Nat.div_lt_iff_lt_mul hC, Nat.succ_mul]
  omega
theorem nch_count {size g M C X : Nat} (hC : 0 < C) (h1 : ∀ j, j < X → M + j * C < size) (h2 : size ≤ M + X * C) : X - (g - M) / C = nch size g M C := by
  obtain ⟨k0, hk⟩ : ∃ k0, (g - M) / C = k0 := ⟨_, rfl⟩
  have e1 : k0 * C ≤ g - M := by rw [← hk]; exact Nat.div_mul_le_self _ _
  have e2 : g - M < k0 * C + C := by
    have := Nat.lt_div_mul_add hC (a := g - M)
    rw [hk] at this
    exact this
  rw [hk]
  refine nch_of (Q := M + k0 * C) hC ⟨k0, rfl⟩ ?_ ?_ ?_
  · by_cases hg : g < M
    · left
      refine ⟨hg, ?_⟩
      have : k0 = 0 := by rw [← hk, show g - M = 0 by omega, Nat.zero_div]
      rw [this]; omega
    · right; omega
  · rcases Nat.le_total k0 X with h | h
    · rw [Nat.sub_mul]; have := Nat.mul_le_mul_right C h; omega
    · have := Nat.mul_le_mul_right C h; omega
  · intro i hi
    have := h1 (k0 + i) (by omega)
    rw [Nat.add_mul] at this
    omega

set_option maxHeartbeats 4000000 in
set_option maxRecDepth 100000 in
theorem rchunks_ok (h : RefAt w B rb q M C rs L) (hn : rs.length ≤ 1000) (hs : ∀ (i : Nat) (r : REnt), rs[i]? = some r → r.2.1.size ≤ 1000000) (ht : tally (rusedOf M C) rs ≤ 1000000000) (hM : M ≤ 65536) (hC0 : 0 < C) (hC : C ≤ 65536) :
    Calls Try.prog 25 #[.pointer (some ⟨rb, 0, none⟩)] w fun e w' => e = .returned (.int .i64 (tally (rusedOf M C) rs : Int)) ∧ ∃ n, w' = w.drewN n := by
  obtain ⟨A, c, rfl, hc, hcm⟩ := h.form
  obtain ⟨KL, hKL⟩ : ∃ KL, rs.length = KL := ⟨_, rfl⟩
  rw [hKL] at h hc hn
  have k1 := h.blk.cell (show (refC q M C (.slice A KL c))[1]? = some _ from rfl)
  have k2 := h.blk.cell (show (refC q M C (.slice A KL c))[2]? = some _ from rfl)
  have k3 := h.blk.cell (show (refC q M C (.slice A KL c))[3]? = some _ from rfl)
  have hrb := h.blk.lt
  obtain ⟨T, hT⟩ : ∃ T, tally (rusedOf M C) rs = T := ⟨_, rfl⟩
  rw [hT] at ht ⊢
  replace hT := Lib.hid hT
  replace h := Lib.hid h
  replace hKL := Lib.hid hKL
  replace hs := Lib.hid hs
  unfold maxLen at hcm
  go_enter Try.func25, Try.ntmps25
  go_wp2
  go_loopw [3, 4] (fun av nv wr => ∃ (n a : Nat), n ≤ KL ∧ nv = .int .i64 (n : Int) ∧ av = .int .i64 (a : Int) ∧ a ≤ T ∧ Hid (a = tally (rusedOf M C) (rs.take n)) ∧ Hid (∃ d, wr = w.drewN d)) (fun _ nv _ => KL - (intOf nv).toNat)
  case atStart => exact ⟨0, 0, Nat.zero_le _, rfl, rfl, Nat.zero_le _, Lib.hid (by simp [tally]), ⟨0, rfl⟩⟩
  case round =>
    obtain ⟨n, a, hnK, rfl, rfl, haT, ha, hwr⟩ := hrel
    have d1 : wr.cell? ⟨rb, 1, none⟩ = some (.int .i64 (M : Int)) := by obtain ⟨d, hd⟩ := hwr.out; rw [hd]; exact k1
    have d3 : wr.cell? ⟨rb, 3, none⟩ = some (.slice A KL c) := by obtain ⟨d, hd⟩ := hwr.out; rw [hd]; exact k3
    have hrbl : rb < wr.heap.size := by obtain ⟨d, hd⟩ := hwr.out; rw [hd]; exact hrb
    by_cases hlt : n < KL
    · have hlt' : n < rs.length := by rw [hKL.out]; exact hlt
      obtain ⟨g, rfl, hgl, cg, _, _⟩ := h.out.at_ n hlt'
      have hi : rs[n]? = some rs[n] := List.getElem?_eq_getElem hlt'
      obtain ⟨hbr, _, _⟩ := h.out.ent n _ hi
      have hsz := hs.out n _ hi
      have ht1 := tally_take (rusedOf M C) rs n hlt'
      have ht2 := tally_take_le (rusedOf M C) rs (n + 1)
      have cg' : wr.cell? ⟨g, n, none⟩ = some (rptr rs[n]) := by obtain ⟨d, hd⟩ := hwr.out; rw [hd]; exact cg
      obtain ⟨H, hH⟩ : ∃ H, rusedOf M C rs[n] = H := ⟨_, rfl⟩
      rw [hH] at ht1
      generalize rs[n] = r at cg' hbr hsz hH
      obtain ⟨rbk, rs1, rg, rc⟩ := r
      have hsum : a + H ≤ T := by have := ha.out; have := hT.out; omega
      have ha2 : Hid (a + H = tally (rusedOf M C) (rs.take (n + 1))) := by show _ = _; rw [ht1, ← ha.out]
      unfold rptr at cg'
      simp only at cg' hsz
      replace hbr := Lib.hid hbr
      replace hH := Lib.hid hH
      clear cg ht1 ht2 hi ha
      cases rc with
      | true =>
        obtain rfl : H = 0 := hH.out.symm
        go_wp2
        go_loopw [3, 6] (fun av fv wr2 => av = .int .i64 (a : Int) ∧ fv = .int .i64 (M : Int) ∧ Hid (∃ d, wr2 = w.drewN d)) (fun _ _ _ => 0)
        case atStart => exact ⟨rfl, rfl, hwr⟩
        case round =>
          clear hwr d1 d3 hrbl cg'
          obtain ⟨rfl, rfl, hwr2⟩ := hrel
          have hlt2 : rbk < wr.heap.size := by obtain ⟨d, hd⟩ := hwr2.out; rw [hd]; exact hbr.out.lt
          have b0 : wr.cell? ⟨rbk, 0, none⟩ = some (.string rs1) := by obtain ⟨d, hd⟩ := hwr2.out; rw [hd]; exact hbr.out.cell rfl
          have b2 : wr.cell? ⟨rbk, 2, none⟩ = some (.bool true) := by obtain ⟨d, hd⟩ := hwr2.out; rw [hd]; exact hbr.out.cell rfl
          by_cases hMs : M < rs1.size
          · have hMi : (M : Int) < (rs1.size : Int) := by omega
            go_wp2
            go_roundw
            case rel => exact ⟨n + 1, a, by omega, by go_num, rfl, haT, ha2, hwr2⟩
            case measure => simp [intOf]; omega
          · have hMi : ¬ (M : Int) < (rs1.size : Int) := by omega
            go_wp2
            go_roundw
            case rel => exact ⟨n + 1, a, by omega, by go_num, rfl, haT, ha2, hwr2⟩
            case measure => simp [intOf]; omega
      | false =>
        obtain ⟨K0, hK0⟩ : ∃ K0, (rg - M) / C = K0 := ⟨_, rfl⟩
        go_wp2
        go_loopw [3, 6] (fun av fv wr2 => ∃ x F cnt : Nat, av = .int .i64 ((a + cnt : Nat) : Int) ∧ fv = .int .i64 (F : Int) ∧ F ≤ 1065536 ∧ Hid (F = M + x * C) ∧ Hid (cnt = x - K0) ∧ cnt ≤ F ∧ Hid (∀ j, j < x → M + j * C < rs1.size) ∧ Hid (∃ d, wr2 = w.drewN d)) (fun _ fv _ => 2000000 - (intOf fv).toNat)
        case atStart => exact ⟨0, M, 0, rfl, rfl, by omega, Lib.hid (by omega), Lib.hid (by omega), by omega, Lib.hid (fun j hj => absurd hj (Nat.not_lt_zero _)), hwr⟩
        case round =>
          clear hwr d1 d3 hrbl cg'
          obtain ⟨x, F, cnt, rfl, rfl, hF6, hF, hcnt, hcF, hall, hwr2⟩ := hrel
          have hlt2 : rbk < wr.heap.size := by obtain ⟨d, hd⟩ := hwr2.out; rw [hd]; exact hbr.out.lt
          have hrl2 : rb < wr.heap.size := by obtain ⟨d, hd⟩ := hwr2.out; rw [hd]; exact hrb
          have b0 : wr.cell? ⟨rbk, 0, none⟩ = some (.string rs1) := by obtain ⟨d, hd⟩ := hwr2.out; rw [hd]; exact hbr.out.cell rfl
          have b1 : wr.cell? ⟨rbk, 1, none⟩ = some (.int .i64 (rg : Int)) := by obtain ⟨d, hd⟩ := hwr2.out; rw [hd]; exact hbr.out.cell rfl
          have b2 : wr.cell? ⟨rbk, 2, none⟩ = some (.bool false) := by obtain ⟨d, hd⟩ := hwr2.out; rw [hd]; exact hbr.out.cell rfl
          have e2 : wr.cell? ⟨rb, 2, none⟩ = some (.int .i64 (C : Int)) := by obtain ⟨d, hd⟩ := hwr2.out; rw [hd]; exact k2
          have hgl := gone_le (C := C) (M := M) (g := rg) (x := x) hC0
          rw [hK0, ← hF.out] at hgl
          by_cases hFs : F < rs1.size
          · have hFi : (F : Int) < (rs1.size : Int) := by omega
            have hF2 : Hid (F + C = M + (x + 1) * C) := by show _ = _; rw [hF.out, Nat.succ_mul]; omega
            have hall2 : Hid (∀ j, j < x + 1 → M + j * C < rs1.size) := fun j hj => by
              rcases Nat.lt_or_ge j x with h' | h'
              · exact hall.out j h'
              · obtain rfl : j = x := by omega
                rw [← hF.out]; exact hFs
            have hwFC : IntKind.i64.wrap ((F : Int) + (C : Int)) = (F : Int) + (C : Int) := by rw [IntKind.wrap_i64]; omega
            by_cases hk : K0 ≤ x
            · have hlt3 : (rg : Int) < (F : Int) + (C : Int) := by have := hgl.1 hk; omega
              have hcnt2 : Hid (cnt + 1 = x + 1 - K0) := by show _ = _; rw [hcnt.out]; omega
              clear hgl hk hF hcnt hall
              go_upto_region 9 with fail
              go_quiet (fail)
              obtain ⟨d, hd⟩ := hwr2.out
              have hwr3 : Hid (∃ d, wr.drewN nq = w.drewN d) := ⟨d + nq, by rw [hd]; simp [World.drewN]; omega⟩
              clear hd
              go_wp2
              exact ⟨⟨x + 1, F + C, cnt + 1, congrArg (Value.int IntKind.i64) (by omega), congrArg (Value.int IntKind.i64) (by omega), by omega, hF2, hcnt2, by omega, hall2, hwr3⟩, by simp only [intOf]; omega⟩
            · have hlt3 : ¬ (rg : Int) < (F : Int) + (C : Int) := fun h => hk (hgl.2 (by omega))
              have hcnt2 : Hid (cnt = x + 1 - K0) := by show _ = _; rw [hcnt.out]; omega
              clear hgl hk hF hcnt hall
              go_upto_region 9 with fail
              go_quiet (fail)
              obtain ⟨d, hd⟩ := hwr2.out
              have hwr3 : Hid (∃ d, wr.drewN nq = w.drewN d) := ⟨d + nq, by rw [hd]; simp [World.drewN]; omega⟩
              clear hd
              go_wp2
              exact ⟨⟨x + 1, F + C, cnt, congrArg (Value.int IntKind.i64) (by omega), congrArg (Value.int IntKind.i64) (by omega), by omega, hF2, hcnt2, by omega, hall2, hwr3⟩, by simp only [intOf]; omega⟩
          · have hFi : ¬ (F : Int) < (rs1.size : Int) := by omega
            have hHc : cnt = H := by
              have h1 := nch_count (size := rs1.size) (g := rg) (X := x) hC0 hall.out (by rw [← hF.out]; omega)
              rw [hK0, ← hcnt.out] at h1
              rw [h1]
              exact hH.out
            subst hHc
            clear hgl hF hcnt hall
            go_wp2
            go_roundw
            case rel => exact ⟨n + 1, a + cnt, by omega, by go_num, congrArg (Value.int IntKind.i64) (by omega), hsum, ha2, hwr2⟩
            case measure => simp [intOf]; omega
    · obtain rfl : n = KL := by omega
      have haT2 : a = T := by
        have := ha.out
        rw [List.take_of_length_le (by have := hKL.out; omega), hT.out] at this
        exact this
      subst haT2
      clear ha
      go_wp2
      go_ret
      exact ⟨rfl, hwr.out⟩
end
end Go.Proofs.Yticoigpkgpdabaa
