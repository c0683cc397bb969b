/-
  place finds the first place, or the last one, at which a row of sets fits. Conditions: at most a million sets and bytes.
-/
import Derived.Test.YtmoihdddmeienaaDoorGbRows2
import Derived.Lib.IndexBytes
import Derived.Lib.Strings
import Derived.WalkMore
import Derived.IntWalk
import Derived.Deep.LoopGhost
namespace Go.Proofs.YtmoihdddmeienaaDoor
open Go Go.RowKit

abbrev bl (s : ByteArray) : List UInt8 := s.data.toList
theorem bl_len (s : ByteArray) : (bl s).length = s.size := (Lib.size_eq s).symm
theorem bl_get (s : ByteArray) (k : Nat) (h : k < s.size) : (bl s)[k]? = some s[k] := Lib.data_getElem? s k h
theorem fitsAt_ix (r : Rw) (s : List UInt8) : fitsAt r s = true ↔ r.length ≤ s.length ∧ ∀ (j : Nat) (f : UInt8 → Bool) (c : UInt8), r[j]? = some f → s[j]? = some c → f c = true := by
  induction r generalizing s with
  | nil => simp [fitsAt]
  | cons f r ih =>
    cases s with
    | nil => simp [fitsAt]
    | cons c s =>
      simp only [fitsAt, Bool.and_eq_true, ih, List.length_cons]
      constructor
      · rintro ⟨h1, h2, h3⟩
        refine ⟨by omega, fun j f' c' hf hc => ?_⟩
        cases j with
        | zero => simp at hf hc; subst hf hc; exact h1
        | succ j => exact h3 j f' c' (by simpa using hf) (by simpa using hc)
      · rintro ⟨h1, h2⟩
        exact ⟨h2 0 f c rfl rfl, by omega, fun j f' c' hf hc => h2 (j + 1) f' c' (by simpa using hf) (by simpa using hc)⟩
/-- The first k sets fit at place m. -/
def preFit (l : List St) (s : ByteArray) (m k : Nat) : Prop := ∀ j (hj : j < l.length) (h2 : m + j < s.size), j < k → hasS l[j] s[m + j] = true
theorem preFit_full {l : List St} {s : ByteArray} {m : Nat} (h : m + l.length ≤ s.size) (hp : preFit l s m l.length) : fitsAt (l.map hasS) ((bl s).drop m) = true := by
  rw [fitsAt_ix]
  refine ⟨by rw [List.length_map, List.length_drop, bl_len]; omega, fun j f c hf hc => ?_⟩
  rw [List.getElem?_map] at hf
  rw [List.getElem?_drop] at hc
  have hj : j < l.length := by
    rcases Nat.lt_or_ge j l.length with h | h
    · exact h
    · rw [List.getElem?_eq_none h] at hf; cases hf
  rw [List.getElem?_eq_getElem hj] at hf
  rw [bl_get s (m + j) (by omega)] at hc
  injection hf with hf
  injection hc with hc
  subst hf hc
  exact hp j hj (by omega) hj
theorem preFit_no {l : List St} {s : ByteArray} {m j : Nat} (hj : j < l.length) (h2 : m + j < s.size) (hn : hasS l[j] s[m + j] = false) : fitsAt (l.map hasS) ((bl s).drop m) = false := by
  rw [Bool.eq_false_iff]
  intro h
  rw [fitsAt_ix] at h
  have := h.2 j (hasS l[j]) s[m + j] (by rw [List.getElem?_map, List.getElem?_eq_getElem hj]; rfl) (by rw [List.getElem?_drop, bl_get s (m + j) h2])
  rw [hn] at this; cases this
theorem preFit_succ {l : List St} {s : ByteArray} {m k : Nat} (hp : preFit l s m k) (hk : k < l.length) (h2 : m + k < s.size) (h : hasS l[k] s[m + k] = true) : preFit l s m (k + 1) := by
  intro j hj h3 hjk
  rcases Nat.lt_or_ge j k with h' | h'
  · exact hp j hj h3 h'
  · obtain rfl : j = k := by omega
    exact h
theorem placeP_is {r : Rw} {s : List UInt8} {last : Bool} {m : Nat} (hm : m + r.length ≤ s.length) (hf : fitsAt r (s.drop m) = true) (hno : ∀ j, j ≤ s.length → (if last then m < j else j < m) → fitsAt r (s.drop j) = false) : placeP r s last = some m := by
  cases h : placeP r s last with
  | none => rw [placeP_none h m (by omega)] at hf; cases hf
  | some n =>
    obtain ⟨h1, h2, h3⟩ := placeP_some h
    have h4 := h3 m (by omega) hf
    have h5 : ¬ (if last then m < n else n < m) := fun hc => by rw [hno n (by omega) hc] at h2; cases h2
    congr 1
    cases last <;> simp at h4 h5 <;> omega
theorem placeP_no {r : Rw} {s : List UInt8} {last : Bool} (hno : ∀ j, j + r.length ≤ s.length → fitsAt r (s.drop j) = false) : placeP r s last = none := by
  cases h : placeP r s last with
  | none => rfl
  | some n =>
    obtain ⟨h1, h2, _⟩ := placeP_some h
    rw [hno n h1] at h2; cases h2
theorem drew_more {w wr : World} (h : ∃ d, wr = w.drewN d) (n : Nat) : ∃ d, wr.drewN n = w.drewN d := by
  obtain ⟨d, rfl⟩ := h
  exact ⟨d + n, World.drewN_drewN _ _ _⟩
theorem drew_cells {w wr : World} {blk o : Nat} {z : St} (h : ∃ d, wr = w.drewN d) (hc : ∀ j, j < 4 → w.cell? ⟨blk, o + j, none⟩ = some (.int .u64 (z j : Int))) : ∀ j, j < 4 → wr.cell? ⟨blk, o + j, none⟩ = some (.int .u64 (z j : Int)) := by
  obtain ⟨d, rfl⟩ := h
  exact hc
/-- Which place is tried in round k. -/
def tryAt (last : Bool) (room k : Nat) : Nat := if last then room - k else k

set_option maxHeartbeats 2000000 in
set_option maxRecDepth 100000 in
theorem place_any (l : List St) (hok : ∀ n ∈ l, okSt n) (v : Value) (s : ByteArray) (last : Bool) (B : Nat) (w : World) (ht : Ro w B v l) (hl : l.length ≤ 1000000) (hs : s.size ≤ 1000000) :
    Calls Tryd.prog 75 #[v, .string s, .bool last] w fun e w' => e = .returned (.int .i64 (optI (placeP (l.map hasS) (bl s) last))) ∧ ∃ m, w' = w.drewN m := by
  obtain ⟨A, c, rfl, hc, hcm⟩ := ht.form
  unfold maxLen at hcm
  have hlen := bl_len s
  go_enter Tryd.func75, Tryd.ntmps75
  by_cases hr : l.length ≤ s.size
  · go_wp2
    go_step3
    go_wp2
    go_step3
    go_wp2
    go_loopg [18] (s.size - l.length + 1) (fun gg i wr => ∃ (k : Nat), k ≤ s.size - l.length + 1 ∧ s.size - l.length + 1 - k ≤ gg ∧ i = .int .i64 k ∧ (∃ d, wr = w.drewN d) ∧ Hid (∀ j, j < k → fitsAt (l.map hasS) ((bl s).drop (tryAt last (s.size - l.length) j)) = false))
    case atStart => exact ⟨0, by omega, by omega, rfl, ⟨0, rfl⟩, fun j hj => absurd hj (Nat.not_lt_zero _)⟩
    case round =>
      obtain ⟨k, hk, hg, rfl, hd, hno⟩ := hrel
      by_cases hlt : k < s.size - l.length + 1
      · have hT : tryAt last (s.size - l.length) k + l.length ≤ s.size := by unfold tryAt; split <;> omega
        have hltI : (k : Int) < (s.size : Int) - (l.length : Int) + 1 := by omega
        cases last
        · skip
          have hmt : tryAt false (s.size - l.length) k = k := rfl
          have hlow := Lib.hid (hmt ▸ hT)
          have hml : k + l.length ≤ s.size := hlow.out
          go_wp2
          go_loopg [28] l.length (fun gi i wr => ∃ (x : Nat), x ≤ l.length ∧ l.length - x ≤ gi ∧ i = .int .i64 x ∧ (∃ d, wr = w.drewN d) ∧ Hid (preFit l s k x))
          case atStart => exact ⟨0, by omega, by omega, rfl, hd, fun j _ _ hj => absurd hj (Nat.not_lt_zero _)⟩
          case round =>
            clear hd
            obtain ⟨x, hx, hgi, rfl, hd, hp⟩ := hrel
            by_cases hlx : x < l.length
            · obtain ⟨blk, off, rfl, hblk, hcell0⟩ := ht.at_ hlx
              have hcell := drew_cells hd hcell0
              clear hcell0
              have hki : k + x < s.size := by omega
              have hs1 := Lib.hid (fun h => preFit_succ hp.out hlx hki h)
              have hs2 := Lib.hid (fun h => preFit_no (m := k) hlx hki h)
              have hO := hok l[x] (List.getElem_mem hlx)
              generalize l[x] = z at hcell hs1 hs2 hO
              have hcall : ∀ W : World, (∀ j, j < 4 → W.cell? ⟨blk, off + x * 4 + j, none⟩ = some (.int .u64 (z j : Int))) → Calls Tryd.prog 89 #[.pointer (some ⟨blk, off + x * 4, none⟩), .int .u8 (s[k + x].toNat : Int)] W fun e w' => e = .returned (.bool (hasS z s[k + x])) ∧ w' = W := fun W hW => has_any z hO _ blk _ W hW
              have k1 : (0 : Int) ≤ (k : Int) + (x : Int) := by omega
              have k2 : (k : Int) + (x : Int) < (s.size : Int) := by omega
              have k3 : ((k : Int) + (x : Int)).toNat = k + x := by omega
              have k4 : (x : Int) < (l.length : Int) := by omega
              have k5 : IntKind.i64.wrap ((k : Int) + (x : Int)) = (k : Int) + (x : Int) := IntWalk.i64_in _ (by omega)
              clear hml
              cases hq : hasS z s[k + x] with
              | true =>
                have hp2 := Lib.hid (hs1.out hq)
                rw [hq] at hcall
                clear hq hs1 hs2
                go_wp2
                go_quiet ((go_at_call 89; refine Calls.quiet_of_same (hcall _ (fun j hj => hcell j hj))))
                clear k5
                go_wp2
                go_roundg (l.length - (x + 1))
                case rel => exact ⟨x + 1, by omega, by omega, by go_num, drew_more hd _, hp2⟩
                case measure => omega
              | false =>
                have hf := Lib.hid (hs2.out hq)
                rw [hq] at hcall
                clear hq hs1 hs2
                go_wp2
                go_quiet ((go_at_call 89; refine Calls.quiet_of_same (hcall _ (fun j hj => hcell j hj))))
                clear k5
                go_wp2
                go_roundg (s.size - l.length + 1 - (k + 1))
                case rel =>
                  refine ⟨k + 1, by omega, by omega, by go_num, drew_more hd _, fun j hj => ?_⟩
                  rcases Nat.lt_or_ge j k with h' | h'
                  · exact hno.out j h'
                  · obtain rfl : j = k := by omega
                    rw [hmt]; exact hf.out
                case measure => omega
            · have hfull : fitsAt (l.map hasS) ((bl s).drop k) = true := preFit_full hml (by have := hp.out; rwa [show x = l.length by omega] at this)
              have hres : placeP (l.map hasS) (bl s) false = some k := by
                refine placeP_is (by rw [List.length_map, hlen]; exact hml) hfull (fun j hj hlj => ?_)
                simp only [Bool.false_eq_true, if_false] at hlj
                skip
                by_cases hjr : j + l.length ≤ s.size
                · have := hno.out (j) (by omega)
                  simp only [tryAt, Bool.false_eq_true, if_false] at this
                  skip
                  exact this
                · rw [Bool.eq_false_iff]
                  intro hc
                  have := fitsAt_len _ _ hc
                  rw [List.length_map, List.length_drop, hlen] at this
                  rw [hlen] at hj
                  omega
              have hres := Lib.hid hres
              clear hfull hp hno
              go_wp2
              try rw [Exit.noGoto_ret]
              go_ret
              exact ⟨by rw [hres.out]; rfl, hd⟩
        · skip
          obtain ⟨m, hm⟩ : ∃ m : Nat, m = s.size - l.length - k := ⟨_, rfl⟩
          have hmI : ((s.size : Int) - (l.length : Int) - (k : Int)) = (m : Int) := by omega
          have hmt : tryAt true (s.size - l.length) k = m := by unfold tryAt; rw [if_pos rfl]; exact hm.symm
          have hM := Lib.hid hm
          clear hm
          have hlow := Lib.hid (hmt ▸ hT)
          have hml : m + l.length ≤ s.size := hlow.out
          go_wp2
          clear hmI
          go_loopg [28] l.length (fun gi i wr => ∃ (x : Nat), x ≤ l.length ∧ l.length - x ≤ gi ∧ i = .int .i64 x ∧ (∃ d, wr = w.drewN d) ∧ Hid (preFit l s m x))
          case atStart => exact ⟨0, by omega, by omega, rfl, hd, fun j _ _ hj => absurd hj (Nat.not_lt_zero _)⟩
          case round =>
            clear hd
            obtain ⟨x, hx, hgi, rfl, hd, hp⟩ := hrel
            by_cases hlx : x < l.length
            · obtain ⟨blk, off, rfl, hblk, hcell0⟩ := ht.at_ hlx
              have hcell := drew_cells hd hcell0
              clear hcell0
              have hki : m + x < s.size := by omega
              have hs1 := Lib.hid (fun h => preFit_succ hp.out hlx hki h)
              have hs2 := Lib.hid (fun h => preFit_no (m := m) hlx hki h)
              have hO := hok l[x] (List.getElem_mem hlx)
              generalize l[x] = z at hcell hs1 hs2 hO
              have hcall : ∀ W : World, (∀ j, j < 4 → W.cell? ⟨blk, off + x * 4 + j, none⟩ = some (.int .u64 (z j : Int))) → Calls Tryd.prog 89 #[.pointer (some ⟨blk, off + x * 4, none⟩), .int .u8 (s[m + x].toNat : Int)] W fun e w' => e = .returned (.bool (hasS z s[m + x])) ∧ w' = W := fun W hW => has_any z hO _ blk _ W hW
              have k1 : (0 : Int) ≤ (m : Int) + (x : Int) := by omega
              have k2 : (m : Int) + (x : Int) < (s.size : Int) := by omega
              have k3 : ((m : Int) + (x : Int)).toNat = m + x := by omega
              have k4 : (x : Int) < (l.length : Int) := by omega
              have k5 : IntKind.i64.wrap ((m : Int) + (x : Int)) = (m : Int) + (x : Int) := IntWalk.i64_in _ (by omega)
              clear hml
              cases hq : hasS z s[m + x] with
              | true =>
                have hp2 := Lib.hid (hs1.out hq)
                rw [hq] at hcall
                clear hq hs1 hs2
                go_wp2
                go_quiet ((go_at_call 89; refine Calls.quiet_of_same (hcall _ (fun j hj => hcell j hj))))
                clear k5
                go_wp2
                go_roundg (l.length - (x + 1))
                case rel => exact ⟨x + 1, by omega, by omega, by go_num, drew_more hd _, hp2⟩
                case measure => omega
              | false =>
                have hf := Lib.hid (hs2.out hq)
                rw [hq] at hcall
                clear hq hs1 hs2
                go_wp2
                go_quiet ((go_at_call 89; refine Calls.quiet_of_same (hcall _ (fun j hj => hcell j hj))))
                clear k5
                go_wp2
                go_roundg (s.size - l.length + 1 - (k + 1))
                case rel =>
                  refine ⟨k + 1, by omega, by omega, by go_num, drew_more hd _, fun j hj => ?_⟩
                  rcases Nat.lt_or_ge j k with h' | h'
                  · exact hno.out j h'
                  · obtain rfl : j = k := by omega
                    rw [hmt]; exact hf.out
                case measure => omega
            · have hfull : fitsAt (l.map hasS) ((bl s).drop m) = true := preFit_full hml (by have := hp.out; rwa [show x = l.length by omega] at this)
              have hres : placeP (l.map hasS) (bl s) true = some m := by
                refine placeP_is (by rw [List.length_map, hlen]; exact hml) hfull (fun j hj hlj => ?_)
                simp only [if_true] at hlj
                have hMo := hM.out
                by_cases hjr : j + l.length ≤ s.size
                · have := hno.out (s.size - l.length - j) (by omega)
                  simp only [tryAt, if_true] at this
                  rw [show s.size - l.length - (s.size - l.length - j) = j by omega] at this
                  exact this
                · rw [Bool.eq_false_iff]
                  intro hc
                  have := fitsAt_len _ _ hc
                  rw [List.length_map, List.length_drop, hlen] at this
                  rw [hlen] at hj
                  simp only [tryAt, if_true] at hT; omega
              have hres := Lib.hid hres
              clear hfull hp hno
              go_wp2
              try rw [Exit.noGoto_ret]
              go_ret
              exact ⟨by rw [hres.out]; rfl, hd⟩
      · have hres : placeP (l.map hasS) (bl s) last = none := by
          refine placeP_no (fun j hj => ?_)
          rw [List.length_map, hlen] at hj
          cases last
          · exact hno.out j (by omega)
          · have := hno.out (s.size - l.length - j) (by omega)
            simp only [tryAt, if_true] at this
            rw [show s.size - l.length - (s.size - l.length - j) = j by omega] at this
            exact this
        have hres := Lib.hid hres
        clear hno
        go_wp2
        try rw [Exit.noGoto_ret]
        go_ret
        exact ⟨by rw [hres.out]; rfl, hd⟩
  · go_wp2
    go_step3
    go_wp2
    go_step3
    go_wp2
    go_loopg [18] 0 (fun gg i wr => i = .int .i64 0 ∧ wr = w)
    case atStart => exact ⟨rfl, rfl⟩
    case round =>
      obtain ⟨rfl, rfl⟩ := hrel
      go_wp2
      try rw [Exit.noGoto_ret]
      go_ret
      refine ⟨ret_int ?_, 0, rfl⟩
      rw [placeP_no (fun j hj => absurd hj (by rw [List.length_map, hlen]; omega))]
      rfl
end Go.Proofs.YtmoihdddmeienaaDoor
