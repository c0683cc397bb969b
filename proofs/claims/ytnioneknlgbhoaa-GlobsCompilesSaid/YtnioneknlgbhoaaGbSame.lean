/-
  The reference's Same answers true of one pattern, read twice; its Special is the plain one. Conditions: the patterns lie in memory; at most a million items.
-/
import Derived.Test.YtnioneknlgbhoaaGbRef2
import Derived.Test.YtnioneknlgbhoaaGbPath
namespace Go.Proofs.Ytnioneknlgbhoaa
open Go Go.RowKit

set_option maxHeartbeats 2000000 in
set_option maxRecDepth 100000 in
theorem sameRef_any (p : List It) (v u : Value) (B : Nat) (w : World) (ht : Its w B v p) (hu : Its w B u p) (hr : ∀ x ∈ p, x.2.2.2.length ≤ 10000000) :
    Calls Try.prog 16 #[v, u] w fun e w' => e = .returned (.bool true) ∧ ∃ m, w' = w.drewN m := by
  obtain ⟨A, c, rfl, hc, hcm⟩ := ht.form
  obtain ⟨D, d, rfl, hd, hdm⟩ := hu.form
  unfold maxLen at hcm hdm
  go_enter Try.func16, Try.ntmps16
  go_wp2
  go_loopw [5] (fun iv wr => ∃ i : Nat, i ≤ p.length ∧ iv = .int .i64 i ∧ ∃ m, wr = w.drewN m) (fun iv _ => p.length - (intOf iv).toNat)
  case atStart => exact ⟨0, Nat.zero_le _, rfl, 0, rfl⟩
  case round =>
    obtain ⟨i, hi, rfl, hm⟩ := hrel
    by_cases hlt : i < p.length
    · obtain ⟨blk, off, ru, rfl, hblk, g0, g1, g2, g3, hrg⟩ := ht.at_ hlt
      obtain ⟨blk2, off2, rv, rfl, hblk2, k0, k1, k2, k3, hrk⟩ := hu.at_ hlt
      have hr1 := hr p[i] (List.getElem_mem hlt)
      generalize p[i] = x at g0 g1 g2 g3 hrg k0 k1 k2 k3 hrk hr1
      obtain ⟨kind, b, no, rs⟩ := x
      simp only at g0 g1 g2 g3 hrg k0 k1 k2 k3 hrk hr1
      obtain ⟨A2, c2, rfl, hc2, hcm2⟩ := hrg.form
      obtain ⟨A3, c3, rfl, hc3, hcm3⟩ := hrk.form
      unfold maxLen at hcm2 hcm3
      have hcells := Lib.hid (fun (W : World) (h : ∃ m, W = w.drewN m) => show (W.cell? ⟨blk, off + i * 4, none⟩ = some (.int .i64 kind) ∧ W.cell? ⟨blk, off + i * 4 + 1, none⟩ = some (.int .u8 (b.toNat : Int)) ∧ W.cell? ⟨blk, off + i * 4 + 2, none⟩ = some (.bool no) ∧ W.cell? ⟨blk, off + i * 4 + 3, none⟩ = some (.slice A2 rs.length c2) ∧ W.cell? ⟨blk2, off2 + i * 4, none⟩ = some (.int .i64 kind) ∧ W.cell? ⟨blk2, off2 + i * 4 + 1, none⟩ = some (.int .u8 (b.toNat : Int)) ∧ W.cell? ⟨blk2, off2 + i * 4 + 2, none⟩ = some (.bool no) ∧ W.cell? ⟨blk2, off2 + i * 4 + 3, none⟩ = some (.slice A3 rs.length c3) ∧ Rgs W B (.slice A2 rs.length c2) rs ∧ Rgs W B (.slice A3 rs.length c3) rs) from by
        obtain ⟨m, rfl⟩ := h
        exact ⟨g0, g1, g2, g3, k0, k1, k2, k3, hrg, hrk⟩)
      clear g0 g1 g2 g3 k0 k1 k2 k3 hrg hrk ht hu
      obtain ⟨g0, g1, g2, g3, k0, k1, k2, k3, hrg, hrk⟩ := hcells.out wr hm
      go_wp2_with fail
      go_quiet (fail)
      have hm2 : ∃ m, wr.drewN nq = w.drewN m := drew_more hm _
      clear g0 g1 g2 g3 k0 k1 k2 k3 hrg hrk hm
      generalize wr.drewN nq = W1 at hm2 ⊢
      go_wp2_with fail
      go_loopw [6] (fun kv wr => ∃ k : Nat, k ≤ rs.length ∧ kv = .int .i64 k ∧ ∃ m, wr = w.drewN m) (fun kv _ => rs.length - (intOf kv).toNat)
      case atStart => exact ⟨0, Nat.zero_le _, rfl, hm2⟩
      case round =>
        clear hm2
        obtain ⟨k, hk, rfl, hm⟩ := hrel
        obtain ⟨_, _, _, g3, _, _, _, k3, hrg, hrk⟩ := hcells.out wr hm
        clear hcells
        by_cases hlt2 : k < rs.length
        · obtain ⟨b4, o4, rfl, hb4, y0, y1⟩ := hrg.at_ hlt2
          obtain ⟨b5, o5, rfl, hb5, z0, z1⟩ := hrk.at_ hlt2
          generalize rs[k] = r at y0 y1 z0 z1
          obtain ⟨rx, ry⟩ := r
          simp only at y0 y1 z0 z1
          clear hrg hrk
          go_wp2_with fail
          go_quiet (fail)
          have hm2 : ∃ m, wr.drewN nq = w.drewN m := drew_more hm _
          clear hm g3 k3 y0 y1 z0 z1
          generalize wr.drewN nq = W1 at hm2 ⊢
          go_wp2
          go_roundw
          case rel => exact ⟨k + 1, by omega, by go_num, hm2⟩
          case measure => simp [intOf]; omega
        · clear hrg hrk
          go_wp2
          go_roundw
          case rel => exact ⟨i + 1, by omega, by go_num, hm⟩
          case measure => simp [intOf]; omega
    · go_wp2
      go_ret
      exact ⟨rfl, hm⟩

theorem special_snoc (p : List It) (k : Nat) (h : k < p.length) : specialP (p.take (k + 1)) = (specialP (p.take k) || notOne p[k]) := by
  rw [List.take_succ_eq_append_getElem h]; simp only [specialP, List.any_append, List.any_cons, List.any_nil, Bool.or_false]

set_option maxHeartbeats 1000000 in
set_option maxRecDepth 100000 in
theorem specialRef_any (p : List It) (v : Value) (B : Nat) (w : World) (ht : Its w B v p) :
    Calls Try.prog 19 #[v] w fun e w' => e = .returned (.bool (specialP p)) ∧ w' = w := by
  obtain ⟨A, c, rfl, hc, hcm⟩ := ht.form
  unfold maxLen at hcm
  obtain ⟨m, hm⟩ : ∃ m, specialP p = m := ⟨_, rfl⟩
  rw [hm]
  have hmH := Lib.hid hm
  clear hm
  go_enter Try.func19, Try.ntmps19
  go_wp2
  go_loop [3] (fun iv => ∃ k : Nat, k ≤ p.length ∧ iv = .int .i64 k ∧ Hid (specialP (p.take k) = false)) (fun iv => p.length - (intOf iv).toNat)
  case atStart => exact ⟨0, Nat.zero_le _, rfl, rfl⟩
  case round =>
    obtain ⟨k, hk, rfl, hall⟩ := hrel
    by_cases hlt : k < p.length
    · obtain ⟨blk, off, u, rfl, hblk, g0, g1, g2, g3, hrg⟩ := ht.at_ hlt
      have hs := special_snoc p k hlt
      rw [hall.out, Bool.false_or] at hs
      have hin : notOne p[k] = true → specialP p = true := fun h => by
        unfold specialP
        rw [List.any_eq_true]
        exact ⟨p[k], List.getElem_mem hlt, h⟩
      have hinH := Lib.hid hin
      clear hin
      generalize p[k] = z at g0 g1 g2 g3 hrg hs hinH
      have hsH := Lib.hid hs
      clear hs g1 g2 g3 hrg hall
      by_cases h1 : z.1 = 1
      · have hn : Hid (specialP (p.take (k + 1)) = false) := by rw [Hid, hsH.out]; simp [notOne, h1]
        clear hsH hinH
        go_wp2
        go_round
        case rel => exact ⟨k + 1, by omega, by go_num, hn⟩
        case measure => simp [intOf]; omega
      · have hn : m = true := by rw [← hmH.out]; exact hinH.out (by simp [notOne, h1])
        subst hn
        have j1 : (z.1 == 1) = false := beq_eq_false_iff_ne.2 h1
        clear hsH hinH
        go_wp2
        go_ret
        exact ⟨rfl, rfl⟩
    · have hn : m = false := by
        have := hall.out
        rw [List.take_of_length_le (by omega)] at this
        rw [← hmH.out, this]
      subst hn
      clear hall
      go_wp2
      go_ret
      exact ⟨rfl, rfl⟩
end Go.Proofs.Ytnioneknlgbhoaa
