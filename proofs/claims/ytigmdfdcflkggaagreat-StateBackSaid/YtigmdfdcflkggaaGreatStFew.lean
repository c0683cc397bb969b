/-
  Few: what calls may be asked for. Conditions: none.
-/
import Derived.Deep.CutRange
import Derived.Test.YtigmdfdcflkggaaGreatStNames
set_option linter.unusedSimpArgs false
set_option linter.unusedVariables false
namespace Go.Proofs.YtigmdfdcflkggaaGreat
open Go Go.RowKit Go.ChangeMaps

def OkO (o : Od) : Prop := o.k.size ≤ 200 ∧ o.s.size ≤ 5000 ∧ o.m ≤ 1100 ∧ ∀ t ∈ o.l, t.size ≤ 5000
set_option maxRecDepth 100000 in
set_option maxHeartbeats 8000000 in
theorem Few_any {A : Option Addr} {m c : Nat} {l : List Od} (w : World) (h : OpsC w A m c l) (hL : ∀ o ∈ l, Txs w o.A o.m o.c o.l) :
    Calls Tryz.prog 7 #[.slice A m c] w fun e w' => (e = .returned (.bool true) ∧ w' = w ∧ m ≤ 50 ∧ ∀ o ∈ l, OkO o) ∨ (e = .returned (.bool false) ∧ w' = w) := by
  obtain ⟨hlen, hmc, hcm, hcell⟩ := h
  unfold maxLen at hcm
  replace hlen := Lib.hid hlen
  replace hcell := Lib.hid hcell
  replace hL := Lib.hid hL
  by_cases h50 : (50 : Int) < (m : Int)
  · go_enter Tryz.func7, Tryz.ntmps7
    go_wp2
    go_ret
    exact .inr ⟨rfl, rfl⟩
  · go_enter Tryz.func7, Tryz.ntmps7
    go_wp2
    go_loopw [3] (fun iv wr => ∃ j : Nat, j ≤ m ∧ iv = .int .i64 (j : Int) ∧ Hid (wr = w) ∧ Hid (∀ i (hi : i < l.length), i < j → OkO l[i])) (fun iv _ => m - (intOf iv).toNat)
    case atStart => exact ⟨0, Nat.zero_le _, rfl, Lib.hid rfl, Lib.hid (fun i _ h => absurd h (Nat.not_lt_zero i))⟩
    case round =>
      obtain ⟨j, hj, rfl, hwr, hall⟩ := hrel
      obtain rfl := hwr.out
      clear hwr
      by_cases hlt : j < m
      · have hjn : j < l.length := by rw [hlen.out]; exact hlt
        obtain ⟨b, off, rfl, hbl, hcc⟩ := hcell.out (by omega)
        obtain ⟨_, k1, k2, _, k4⟩ := hcc j l[j] (List.getElem?_eq_getElem hjn)
        have htx := hL.out l[j] (List.getElem_mem hjn)
        have hj1 : (0 : Int) ≤ (j : Int) := by omega
        have hj2 : (j : Int) < (m : Int) := by omega
        have hok : l[j].k.size ≤ 200 → l[j].s.size ≤ 5000 → l[j].m ≤ 1100 → (∀ t ∈ l[j].l, t.size ≤ 5000) → Hid (∀ i (hi : i < l.length), i < j + 1 → OkO l[i]) := fun q1 q2 q3 q4 => Lib.hid (fun i hi h => by
          rcases Nat.lt_succ_iff_lt_or_eq.1 h with h | h
          · exact hall.out i hi h
          · subst h; exact ⟨q1, q2, q3, q4⟩)
        generalize l[j] = o at k1 k2 k4 htx hok
        obtain ⟨x, k, s, n, Ao, mo, co, lo⟩ := o
        dsimp only at k1 k2 k4 htx hok
        have hco : mo ≤ co := htx.2.1
        have hcx : co ≤ 2 ^ 63 - 1 := htx.2.2.1
        replace htx := Lib.hid htx
        replace hok := Lib.hid hok
        clear hcc hall
        obtain ⟨bad, hB⟩ : ∃ bad : Bool, decide (200 < k.size ∨ (200 < s.size ∧ s.size ≤ 4096) ∨ 5000 < s.size ∨ (20 < mo ∧ mo ≤ 1000) ∨ 1100 < mo) = bad := ⟨_, rfl⟩
        replace hB := Lib.hid hB
        go_upto_region 7 with fail
        go_cut [66] from 15 to 66 (fun cv wx => cv = .bool bad ∧ Hid (wx = wr))
        case first =>
            replace hB := hB.out
            by_cases b1 : (200 : Int) < (k.size : Int)
            · skip
              clear htx hok
              go_wp2
              go_meet
              exact ⟨congrArg Value.bool (hB.symm.trans (decide_eq_true (p := (200 < k.size ∨ (200 < s.size ∧ s.size ≤ 4096) ∨ 5000 < s.size ∨ (20 < mo ∧ mo ≤ 1000) ∨ 1100 < mo)) (by omega))).symm, rfl⟩
            · by_cases b2 : (200 : Int) < (s.size : Int)
              · by_cases b3 : (s.size : Int) ≤ 4096
                · skip
                  clear htx hok
                  go_wp2
                  go_meet
                  exact ⟨congrArg Value.bool (hB.symm.trans (decide_eq_true (p := (200 < k.size ∨ (200 < s.size ∧ s.size ≤ 4096) ∨ 5000 < s.size ∨ (20 < mo ∧ mo ≤ 1000) ∨ 1100 < mo)) (by omega))).symm, rfl⟩
                · by_cases b4 : (5000 : Int) < (s.size : Int)
                  · skip
                    clear htx hok
                    go_wp2
                    go_meet
                    exact ⟨congrArg Value.bool (hB.symm.trans (decide_eq_true (p := (200 < k.size ∨ (200 < s.size ∧ s.size ≤ 4096) ∨ 5000 < s.size ∨ (20 < mo ∧ mo ≤ 1000) ∨ 1100 < mo)) (by omega))).symm, rfl⟩
                  · skip
                    by_cases m1 : (20 : Int) < (mo : Int)
                    · by_cases m2 : (mo : Int) ≤ 1000
                      · skip
                        clear htx hok
                        go_wp2
                        go_meet
                        exact ⟨congrArg Value.bool (hB.symm.trans (decide_eq_true (p := (200 < k.size ∨ (200 < s.size ∧ s.size ≤ 4096) ∨ 5000 < s.size ∨ (20 < mo ∧ mo ≤ 1000) ∨ 1100 < mo)) (by omega))).symm, rfl⟩
                      · by_cases m3 : (1100 : Int) < (mo : Int)
                        · skip
                          clear htx hok
                          go_wp2
                          go_meet
                          exact ⟨congrArg Value.bool (hB.symm.trans (decide_eq_true (p := (200 < k.size ∨ (200 < s.size ∧ s.size ≤ 4096) ∨ 5000 < s.size ∨ (20 < mo ∧ mo ≤ 1000) ∨ 1100 < mo)) (by omega))).symm, rfl⟩
                        · skip
                          clear htx hok
                          go_wp2
                          go_meet
                          exact ⟨congrArg Value.bool (hB.symm.trans (decide_eq_false (p := (200 < k.size ∨ (200 < s.size ∧ s.size ≤ 4096) ∨ 5000 < s.size ∨ (20 < mo ∧ mo ≤ 1000) ∨ 1100 < mo)) (by omega))).symm, rfl⟩
                    · have m3 : ¬ (1100 : Int) < (mo : Int) := by omega
                      clear htx hok
                      go_wp2
                      go_meet
                      exact ⟨congrArg Value.bool (hB.symm.trans (decide_eq_false (p := (200 < k.size ∨ (200 < s.size ∧ s.size ≤ 4096) ∨ 5000 < s.size ∨ (20 < mo ∧ mo ≤ 1000) ∨ 1100 < mo)) (by omega))).symm, rfl⟩
              · have b4 : ¬ (5000 : Int) < (s.size : Int) := by omega
                by_cases m1 : (20 : Int) < (mo : Int)
                · by_cases m2 : (mo : Int) ≤ 1000
                  · skip
                    clear htx hok
                    go_wp2
                    go_meet
                    exact ⟨congrArg Value.bool (hB.symm.trans (decide_eq_true (p := (200 < k.size ∨ (200 < s.size ∧ s.size ≤ 4096) ∨ 5000 < s.size ∨ (20 < mo ∧ mo ≤ 1000) ∨ 1100 < mo)) (by omega))).symm, rfl⟩
                  · by_cases m3 : (1100 : Int) < (mo : Int)
                    · skip
                      clear htx hok
                      go_wp2
                      go_meet
                      exact ⟨congrArg Value.bool (hB.symm.trans (decide_eq_true (p := (200 < k.size ∨ (200 < s.size ∧ s.size ≤ 4096) ∨ 5000 < s.size ∨ (20 < mo ∧ mo ≤ 1000) ∨ 1100 < mo)) (by omega))).symm, rfl⟩
                    · skip
                      clear htx hok
                      go_wp2
                      go_meet
                      exact ⟨congrArg Value.bool (hB.symm.trans (decide_eq_false (p := (200 < k.size ∨ (200 < s.size ∧ s.size ≤ 4096) ∨ 5000 < s.size ∨ (20 < mo ∧ mo ≤ 1000) ∨ 1100 < mo)) (by omega))).symm, rfl⟩
                · have m3 : ¬ (1100 : Int) < (mo : Int) := by omega
                  clear htx hok
                  go_wp2
                  go_meet
                  exact ⟨congrArg Value.bool (hB.symm.trans (decide_eq_false (p := (200 < k.size ∨ (200 < s.size ∧ s.size ≤ 4096) ∨ 5000 < s.size ∨ (20 < mo ∧ mo ≤ 1000) ∨ 1100 < mo)) (by omega))).symm, rfl⟩
        case rest =>
          obtain ⟨rfl, hwc⟩ := hcut
          obtain rfl := hwc.out
          clear hwc
          cases hbb : bad with
          | true =>
            go_wp2
            go_ret
            exact .inr ⟨rfl, rfl⟩
          | false =>
            have hnb := of_decide_eq_false (hB.out.trans hbb)
            have n1 : k.size ≤ 200 := by omega
            have n2 : s.size ≤ 5000 := by omega
            have n3 : mo ≤ 1100 := by omega
            clear hB hbb hnb
            go_wp2
            go_loopw [5] (fun iv wx => ∃ q : Nat, q ≤ mo ∧ iv = .int .i64 (q : Int) ∧ Hid (wx = wc) ∧ Hid (∀ i (hi : i < lo.length), i < q → lo[i].size ≤ 5000)) (fun iv _ => mo - (intOf iv).toNat)
            case atStart => exact ⟨0, Nat.zero_le _, rfl, Lib.hid rfl, Lib.hid (fun i _ h => absurd h (Nat.not_lt_zero i))⟩
            case round =>
              obtain ⟨q, hq, rfl, hwr, hall⟩ := hrel
              obtain rfl := hwr.out
              clear hwr
              by_cases hql : q < mo
              · obtain ⟨hll, hx2, hx3, hx4⟩ := htx.out
                unfold maxLen at hx3
                have hqn : q < lo.length := by rw [hll]; exact hql
                obtain ⟨b2, off2, rfl, hbl2, hcc2⟩ := hx4 (by omega)
                have ct := hcc2 q lo[q] (List.getElem?_eq_getElem hqn)
                have hq1 : (0 : Int) ≤ (q : Int) := by omega
                have hq2 : (q : Int) < (mo : Int) := by omega
                have hnext : lo[q].size ≤ 5000 → Hid (∀ i (hi : i < lo.length), i < q + 1 → lo[i].size ≤ 5000) := fun h5 => Lib.hid (fun i hi h => by
                  rcases Nat.lt_succ_iff_lt_or_eq.1 h with h | h
                  · exact hall.out i hi h
                  · subst h; exact h5)
                generalize lo[q] = t at ct hnext
                replace hnext := Lib.hid hnext
                clear hcc2 hx4 hall hll
                by_cases ht : (200 : Int) < (t.size : Int)
                · by_cases ht2 : (t.size : Int) ≤ 4096
                  · go_wp2
                    go_ret
                    exact .inr ⟨rfl, rfl⟩
                  · by_cases ht3 : (5000 : Int) < (t.size : Int)
                    · go_wp2
                      go_ret
                      exact .inr ⟨rfl, rfl⟩
                    · have hN := hnext.out (by omega)
                      clear hnext
                      go_wp2
                      go_roundw
                      case rel => exact ⟨q + 1, by omega, by go_num, Lib.hid (by trivial), hN⟩
                      case measure => simp [intOf]; omega
                · have ht3 : ¬ (5000 : Int) < (t.size : Int) := by omega
                  have hN := hnext.out (by omega)
                  clear hnext
                  go_wp2
                  go_roundw
                  case rel => exact ⟨q + 1, by omega, by go_num, Lib.hid (by trivial), hN⟩
                  case measure => simp [intOf]; omega
              · obtain rfl : q = mo := by omega
                have hq2 : ¬ (q : Int) < (q : Int) := by omega
                have hN := hok.out (by omega) (by omega) (by omega) (fun t ht => by
                  obtain ⟨i, hi, rfl⟩ := List.getElem_of_mem ht
                  exact hall.out i hi (by have := htx.out.1; omega))
                clear hall htx hok
                go_wp2
                go_roundw
                case rel => exact ⟨j + 1, by omega, by go_num, Lib.hid (by trivial), hN⟩
                case measure => simp [intOf]; omega
      · obtain rfl : j = m := by omega
        have hj2 : ¬ (j : Int) < (j : Int) := by omega
        have hfin : Hid (∀ o ∈ l, OkO o) := Lib.hid (fun o ho => by
          obtain ⟨i, hi, rfl⟩ := List.getElem_of_mem ho
          exact hall.out i hi (by have := hlen.out; omega))
        have h50n : j ≤ 50 := by omega
        clear hall hcell hL hlen
        go_wp2
        go_ret
        first | exact .inl ⟨rfl, rfl, hfin.out⟩ | exact .inl ⟨rfl, rfl, h50n, hfin.out⟩
end Go.Proofs.YtigmdfdcflkggaaGreat
