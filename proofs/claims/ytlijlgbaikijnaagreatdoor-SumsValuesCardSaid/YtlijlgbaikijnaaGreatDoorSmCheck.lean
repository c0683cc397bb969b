/-
  Whether an expression may be, by the package: isName, check. Conditions: names of at most a million bytes.
-/
import Derived.Test.YtlijlgbaikijnaaGreatDoorSmPut
import Derived.BigQuiet
import Derived.Deep.QuietTactic
namespace Go.Proofs.YtlijlgbaikijnaaGreatDoor
open Go Go.RowKit

def isNmB (l : List UInt8) : Bool := !l.isEmpty && decide (nameLen l = l.length)
mutual
/-- Whether an expression, and each in it, may be shown. -/
def rightE : E → Bool
  | .mk op num name kids => decide ((kids.length : Int) = kidsV op) && !(op == [110, 117, 109] && decide (num < 0)) && (!(op == [110, 97, 109, 101] || asgV op) || isNmB name) && rightL kids
def rightL : List E → Bool
  | [] => true
  | e :: es => rightE e && rightL es
end
mutual
/-- No name is too long. -/
def ShortE : E → Prop
  | .mk _ _ name kids => name.length ≤ 1000000 ∧ ShortL kids
def ShortL : List E → Prop
  | [] => True
  | e :: es => ShortE e ∧ ShortL es
end
theorem rightL_iff : ∀ {l : List E}, rightL l = true ↔ ∀ x ∈ l, rightE x = true
  | [] => by simp [rightL]
  | e :: es => by rw [rightL, Bool.and_eq_true, rightL_iff]; simp
/-- All marks. -/
def allM : List (List UInt8) := [[40], [41], [63], [58], [45], [43], [33], [126], [42], [47], [37], [60, 60], [62, 62], [60], [60, 61], [62], [62, 61], [61, 61], [33, 61], [38], [94], [124], [38, 38], [124, 124], [61], [42, 61], [47, 61], [37, 61], [43, 61], [45, 61], [60, 60, 61], [62, 62, 61], [38, 61], [94, 61], [124, 61]]
theorem row_mem {l : List UInt8} (h : rowV l ≠ 0) : l ∈ allM := by
  apply Classical.byContradiction
  intro hn
  have no : ∀ m ∈ allM, ¬ (l == m) = true := fun m hm e => hn (eq_of_beq e ▸ hm)
  apply h
  unfold rowV
  iterate 18 rw [if_neg (no _ ?_)]
  all_goals decide +kernel
theorem asg_mem {l : List UInt8} (h : asgV l ≠ false) : l ∈ allM := by
  apply Classical.byContradiction
  intro hn
  have no : ∀ m ∈ allM, ¬ (l == m) = true := fun m hm e => hn (eq_of_beq e ▸ hm)
  apply h
  unfold asgV
  iterate 11 rw [if_neg (no _ ?_)]
  all_goals decide +kernel
theorem op_mem {l : List UInt8} (h : opV l ≠ []) : l ∈ allM := by
  apply Classical.byContradiction
  intro hn
  have no : ∀ m ∈ allM, ¬ (l == m) = true := fun m hm e => hn (eq_of_beq e ▸ hm)
  apply h
  unfold opV
  iterate 4 rw [if_neg (no _ ?_)]
  all_goals decide +kernel
def fourM : List (List UInt8) := [[110, 101, 103], [112, 111, 115], [110, 111, 116], [99, 111, 109]]
theorem mark_four {l : List UInt8} (h : markV l ≠ []) : l ∈ fourM := by
  apply Classical.byContradiction
  intro hn
  have no : ∀ m ∈ fourM, ¬ (l == m) = true := fun m hm e => hn (eq_of_beq e ▸ hm)
  apply h
  unfold markV
  iterate 4 rw [if_neg (no _ ?_)]
  all_goals decide +kernel
theorem markV_short {l : List UInt8} (h : markV l ≠ []) : l.length ≤ 3 := by
  have : ∀ m ∈ fourM, m.length ≤ 3 := by decide
  exact this _ (mark_four h)
theorem allM_short : ∀ m ∈ allM, m.length ≤ 3 := by decide
/-- An Op that there is is short. -/
theorem op_short {op : List UInt8} (h : kidsV op ≠ -1) : op.length ≤ 1000000 := by
  unfold kidsV at h
  split at h
  · rename_i hc
    simp only [Bool.or_eq_true, beq_iff_eq] at hc
    rcases hc with rfl | rfl <;> decide
  · split at h
    · rename_i hc
      simp only [Bool.or_eq_true, Bool.not_eq_true', List.isEmpty_eq_false_iff] at hc
      rcases hc with hc | hc
      · have := markV_short hc; omega
      · have := allM_short _ (asg_mem (l := op) (by rw [hc]; decide)); omega
    · split at h
      · rename_i hc
        have := allM_short _ (row_mem (l := op) (by omega)); omega
      · split at h
        · rename_i hc
          have := eq_of_beq hc
          subst this
          decide
        · exact absurd rfl h
theorem right_short {op name : List UInt8} {num : Int} {kids : List E} (h : rightE (.mk op num name kids) = true) : op.length ≤ 1000000 := by
  refine op_short fun e => ?_
  rw [rightE, e] at h
  simp only [Bool.and_eq_true, decide_eq_true_eq] at h
  omega
theorem ShortL.mem : ∀ {l : List E}, ShortL l → ∀ x ∈ l, ShortE x
  | [], _, x, hx => by cases hx
  | e :: es, h, x, hx => by
    unfold ShortL at h
    rcases List.mem_cons.1 hx with rfl | hx
    · exact h.1
    · exact ShortL.mem h.2 x hx

set_option maxHeartbeats 1000000 in
set_option maxRecDepth 100000 in
theorem isName_any (s : ByteArray) (w : World) (hs : s.size ≤ 1000000) : Calls Tryz.prog 63 #[.string s] w fun e w' => e = .returned (.bool (isNmB (tl s))) ∧ w' = w := by
  have hnl := fun W => nameLength_any s W hs
  have he : s.toList.isEmpty = (tl s).isEmpty := by rw [Lib.toList_data]; rfl
  unfold isNmB
  cases h0 : (tl s).isEmpty with
  | true =>
    rw [h0] at he
    simp only [Bool.not_true, Bool.false_and]
    clear h0 hnl
    go_enter Tryz.func63, Tryz.ntmps63
    go_wp2
    go_ret
    exact ⟨rfl, rfl⟩
  | false =>
    rw [h0] at he
    simp only [Bool.not_false, Bool.true_and]
    have hle := nameLen_le (tl s)
    have hl := tl_len s
    rw [hl] at hle ⊢
    generalize nameLen (tl s) = N at hnl hle ⊢
    clear h0 hl
    by_cases hN : N = s.size
    · rw [show decide (N = s.size) = true by simpa using hN]
      have e1 : ((N : Int) == (s.size : Int)) = true := by rw [hN]; simp
      go_enter Tryz.func63, Tryz.ntmps63
      go_wp2_with fail
      refine (hnl _).mono ?_
      rintro e w1 ⟨rfl, hw1⟩
      obtain rfl := hw1.symm
      go_wp2
      go_ret
      exact ⟨rfl, rfl⟩
    · rw [show decide (N = s.size) = false by simpa using hN]
      have e1 : ((N : Int) == (s.size : Int)) = false := by simp; omega
      clear hN
      go_enter Tryz.func63, Tryz.ntmps63
      go_wp2_with fail
      refine (hnl _).mono ?_
      rintro e w1 ⟨rfl, hw1⟩
      obtain rfl := hw1.symm
      go_wp2
      go_ret
      exact ⟨rfl, rfl⟩

/-- What check comes to. -/
def CheckR (r : Bool) (w : World) (e : Ending) (w' : World) : Prop := (if r = true then ∃ u, e = .returned u else e = thrown 1 0) ∧ w.grownBy w' none
def Checks (x : E) : Prop := ∀ (v : Value) (ok : Nat → Prop) (w : World), ExR w ok x v → (∀ g, ok g → g < w.heap.size) → ShortE x → Calls Tryz.prog 36 #[v] w (CheckR (rightE x) w)

set_option maxHeartbeats 4000000 in
set_option maxRecDepth 100000 in
theorem check_step (op name : List UInt8) (num : Int) (kids : List E) (ih : ∀ x ∈ kids, Checks x) : Checks (.mk op num name kids) := by
  intro v ok w hx hok hsh
  have hx0 := Lib.hid hx
  obtain ⟨A, cc, rfl, hcc, hcm, hkr⟩ := hx.form
  unfold ShortE at hsh
  obtain ⟨hsn, hsk⟩ := hsh
  obtain ⟨rr, hrr⟩ : ∃ rr, rightE (.mk op num name kids) = rr := ⟨_, rfl⟩
  rw [hrr]
  rw [rightE] at hrr
  obtain ⟨KL, hKL⟩ : ∃ KL, kids.length = KL := ⟨_, rfl⟩
  rw [hKL] at hrr hcc hx0 ⊢
  obtain ⟨x, hxx⟩ : ∃ x : ByteArray, (⟨op.toArray⟩ : ByteArray) = x := ⟨_, rfl⟩
  obtain ⟨nx, hnx⟩ : ∃ nx : ByteArray, (⟨name.toArray⟩ : ByteArray) = nx := ⟨_, rfl⟩
  have hxt : tl x = op := by rw [← hxx]; rfl
  have hxl : x.toList = op := by rw [Lib.toList_data]; exact hxt
  have hkd := fun W => kids_any x W
  have has := fun W => assigns_any x W
  have his := fun W => isName_any nx W (by rw [← hnx]; simp [ByteArray.size]; omega)
  rw [show tl nx = name by rw [← hnx]; rfl] at his
  rw [hxt] at hkd has
  have hth := fun W => throw_any 1 0 W
  obtain ⟨KV, hKV⟩ : ∃ KV, kidsV op = KV := ⟨_, rfl⟩
  rw [hKV] at hkd hrr
  have g1 : Hid (∀ l, (x.toList == l) = (op == l)) := fun l => by rw [hxl]
  rw [hxx, hnx] at hx0 ⊢
  replace hrr := Lib.hid hrr
  have hkr := Lib.hid hkr
  have hKL := Lib.hid hKL
  have hok := Lib.hid hok
  have hsk := Lib.hid hsk
  unfold maxLen at hcm
  clear hx hxt hxl hxx hnx hKV hsn
  go_enter Tryz.func36, Tryz.ntmps36
  go_upto_region 1 with fail
  obtain ⟨w2, hW2, hs2, hgr, hcz, hfz, hold⟩ := one_new w #[.string x, .int .i64 num, .string nx, .slice A KL cc] 30
  rw [hW2]
  obtain ⟨z, hz⟩ : ∃ z, w.heap.size = z := ⟨_, rfl⟩
  rw [hz] at hcz hs2 ⊢
  have q0 := hcz 0 _ rfl
  have q1 := hcz 1 _ rfl
  have q2 := hcz 2 _ rfl
  have q3 := hcz 3 _ rfl
  have hg2 := hgr none
  have hz := Lib.hid hz
  clear hW2 hgr hcz hfz hold
  by_cases hK : (KL : Int) = KV
  · have hne : ((KL : Int) == KV) = true := by simpa using hK
    have hrr1 := hrr.out
    rw [show decide ((KL : Int) = KV) = true by simpa using hK, Bool.true_and] at hrr1
    replace hrr := Lib.hid hrr1
    clear hK hrr1
    cases hnum : (op == [110, 117, 109]) with
    | true =>
      have g2 : (x.toList == [110, 117, 109]) = true := by rw [g1.out]; exact hnum
      have hop : op = [110, 117, 109] := by simpa using hnum
      have g3 : (x.toList == [110, 97, 109, 101]) = false := by rw [g1.out, hop]; rfl
      rw [show asgV op = false by rw [hop]; decide] at has
      by_cases hneg : num < 0
      · have hrf : rr = false := by rw [← hrr.out, hnum]; simp [hneg]
        subst hrf
        clear hrr hnum hop
        go_quiet ((go_at_call 61; refine Calls.quiet_of_same (hkd _)))
        have hg3 : w.grownBy (w2.drewN nq) none := ⟨hg2.os, hg2.tape, hg2.output, hg2.size, hg2.block⟩
        have hq0 : (w2.drewN nq).cell? ⟨z, 0, none⟩ = some (.string x) := q0
        have hq1 : (w2.drewN nq).cell? ⟨z, 1, none⟩ = some (.int .i64 num) := q1
        have hq2 : (w2.drewN nq).cell? ⟨z, 2, none⟩ = some (.string nx) := q2
        have hq3 : (w2.drewN nq).cell? ⟨z, 3, none⟩ = some (.slice A KL cc) := q3
        generalize w2.drewN nq = w3 at hg3 hq0 hq1 hq2 hq3 ⊢
        clear q0 q1 q2 q3 hg2 hs2 hkd hx0
        go_wp2_with fail
        refine (hth _).mono ?_
        rintro e wq ⟨rfl, hwq⟩
        obtain rfl := hwq.symm
        exact ⟨rfl, rfl, hg3⟩
      · have hrrp : Hid ((rightL kids) = rr) := by
          rw [Hid, ← hrr.out, hop]
          have h1 : asgV [110, 117, 109] = false := by decide
          simp [hneg, h1]
        replace hrr := hrrp
        clear hnum hop hrrp
        go_quiet ((go_at_call 61; refine Calls.quiet_of_same (hkd _)))
        have hg3 : w.grownBy (w2.drewN nq) none := ⟨hg2.os, hg2.tape, hg2.output, hg2.size, hg2.block⟩
        have hq0 : (w2.drewN nq).cell? ⟨z, 0, none⟩ = some (.string x) := q0
        have hq1 : (w2.drewN nq).cell? ⟨z, 1, none⟩ = some (.int .i64 num) := q1
        have hq2 : (w2.drewN nq).cell? ⟨z, 2, none⟩ = some (.string nx) := q2
        have hq3 : (w2.drewN nq).cell? ⟨z, 3, none⟩ = some (.slice A KL cc) := q3
        generalize w2.drewN nq = w3 at hg3 hq0 hq1 hq2 hq3 ⊢
        clear q0 q1 q2 q3 hg2 hs2 hkd hx0
        go_wp2_with (go_at_call 62; refine (has _).mono ?_; rintro e wq ⟨rfl, rfl⟩)
        clear hth has g2 g3
        go_loopw [39] (fun nv wr => ∃ m : Nat, m ≤ KL ∧ nv = .int .i64 (m : Int) ∧ Hid (w.grownBy wr none) ∧ Hid (∀ i (hi : i < kids.length), i < m → rightE kids[i] = true)) (fun nv _ => KL - (intOf nv).toNat)
        case atStart => exact ⟨0, Nat.zero_le _, rfl, hg3, fun _ _ h => absurd h (Nat.not_lt_zero _)⟩
        case round =>
          obtain ⟨m, hm, rfl, hg, hyes⟩ := hrel
          clear hq0 hq1 hq2 hq3 hg3
          by_cases hlt : m < KL
          · have hlt' : m < kids.length := by rw [hKL.out]; exact hlt
            have hnn : Hid (kids ≠ []) := fun e => by rw [e] at hlt'; simp at hlt'
            obtain ⟨g, off, rfl, hgo, hkr2⟩ := hkr.out.resolve_left hnn.out
            obtain ⟨v0, v1, v2, v3, c0, c1, c2, c3, hxk⟩ := hkr2.at_ m hlt'
            have hgw := hok.out g hgo
            have hblk := hg.out.block g hgw (by simp)
            have d0 := (World.cell?_of_block (a := ⟨g, off + m * 4, none⟩) hblk).trans c0
            have d1 := (World.cell?_of_block (a := ⟨g, off + m * 4 + 1, none⟩) hblk).trans c1
            have d2 := (World.cell?_of_block (a := ⟨g, off + m * 4 + 2, none⟩) hblk).trans c2
            have d3 := (World.cell?_of_block (a := ⟨g, off + m * 4 + 3, none⟩) hblk).trans c3
            obtain ⟨kop, knum, kname, kkids, hkk⟩ : ∃ eo en em el, kids[m] = E.mk eo en em el := by cases kids[m]; exact ⟨_, _, _, _, rfl⟩
            have hck := ih kids[m] (List.getElem_mem hlt')
            have hsm := hsk.out.mem kids[m] (List.getElem_mem hlt')
            rw [hkk] at hxk hck hsm
            have hxk0 := Lib.hid hxk
            obtain ⟨kA, kc, hkv, hkc, hkcm, _⟩ := hxk.form
            have hkv2 : #[v0, v1, v2, v3] = #[.string ⟨kop.toArray⟩, .int .i64 knum, .string ⟨kname.toArray⟩, .slice kA kkids.length kc] := Value.agg.inj hkv
            obtain ⟨rfl, rfl, rfl, rfl⟩ : v0 = .string ⟨kop.toArray⟩ ∧ v1 = .int .i64 knum ∧ v2 = .string ⟨kname.toArray⟩ ∧ v3 = .slice kA kkids.length kc := by simpa using hkv2
            have hkr3 : Hid (rightE kids[m] = rightE (.mk kop knum kname kkids)) := by rw [Hid, hkk]
            unfold Checks at hck
            generalize rightE (E.mk kop knum kname kkids) = q at hkr3 hck
            have hckw := fun W v (h1 : ExR W ok (E.mk kop knum kname kkids) v) h2 => hck v ok W h1 h2 hsm
            generalize kkids.length = KKL at d3 hxk0 hkc hckw
            clear c0 c1 c2 c3 hkr2 hxk hkv hkv2 hck
            have hal : ∀ o, w.grownBy (wr.alloc o) none := fun o => grownBy_trans' hg.out (World.grownBy_alloc _ _ _)
            have hckw2 := fun o => hckw (wr.alloc o) _ (hxk0.out.keep (fun g h => h) (fun g h => (hal o).block g (hok.out g h) (by simp))) (fun g h => Nat.lt_of_lt_of_le (hok.out g h) (hal o).size)
            clear hckw
            go_wp2_with fail
            refine (hckw2 _).mono ?_
            rintro e w5 ⟨he, hg5⟩
            have hgE := grownBy_trans' (hal _) hg5
            clear hckw2 hal d0 d1 d2 d3
            cases q with
            | true =>
              simp only [if_true] at he
              obtain ⟨u, rfl⟩ := he
              have hyes2 : Hid (∀ i (hi : i < kids.length), i < m + 1 → rightE kids[i] = true) := fun i hi h => by
                rcases Nat.lt_or_ge i m with h' | h'
                · exact hyes.out i hi h'
                · obtain rfl : i = m := by omega
                  exact hkr3.out
              have hgE := Lib.hid hgE
              clear hyes hkr3 hg5
              go_wp2
              go_roundw
              case rel => exact ⟨m + 1, by omega, by go_num, hgE, hyes2⟩
              case measure => simp [intOf]; omega
            | false =>
              simp only [Bool.false_eq_true, if_false] at he
              subst he
              have hrf : rr = false := by
                rw [← hrr.out]
                have : rightL kids = false := by
                  rw [Bool.eq_false_iff]
                  intro h
                  rw [rightL_iff] at h
                  have := h kids[m] (List.getElem_mem hlt')
                  rw [hkr3.out] at this
                  cases this
                simp [this]
              subst hrf
              exact ⟨rfl, rfl, hgE⟩
          · obtain rfl : m = KL := by omega
            have hrt : rightL kids = true := by
              rw [rightL_iff]
              intro y hy
              obtain ⟨i, hi, rfl⟩ := List.getElem_of_mem hy
              exact hyes.out i hi (by have := hKL.out; omega)
            have hrf : rr = true := by rw [← hrr.out, hrt]
            subst hrf
            clear hrr hyes
            go_wp2
            go_end0
            exact ⟨⟨_, rfl⟩, hg.out⟩
    | false =>
      have g2 : (x.toList == [110, 117, 109]) = false := by rw [g1.out]; exact hnum
      cases hnm : (op == [110, 97, 109, 101] || asgV op) with
      | true =>
        cases hin : isNmB name with
        | false =>
          have hrf : rr = false := by rw [← hrr.out, hnum, hnm, hin]; rfl
          subst hrf
          rw [hin] at his
          cases hn2 : (op == [110, 97, 109, 101]) with
          | true =>
            have g3 : (x.toList == [110, 97, 109, 101]) = true := by rw [g1.out]; exact hn2
            clear hrr hnum hnm hin hn2
            go_quiet ((go_at_call 61; refine Calls.quiet_of_same (hkd _)))
            have hg3 : w.grownBy (w2.drewN nq) none := ⟨hg2.os, hg2.tape, hg2.output, hg2.size, hg2.block⟩
            have hq0 : (w2.drewN nq).cell? ⟨z, 0, none⟩ = some (.string x) := q0
            have hq1 : (w2.drewN nq).cell? ⟨z, 1, none⟩ = some (.int .i64 num) := q1
            have hq2 : (w2.drewN nq).cell? ⟨z, 2, none⟩ = some (.string nx) := q2
            have hq3 : (w2.drewN nq).cell? ⟨z, 3, none⟩ = some (.slice A KL cc) := q3
            generalize w2.drewN nq = w3 at hg3 hq0 hq1 hq2 hq3 ⊢
            clear q0 q1 q2 q3 hg2 hs2 hkd hx0
            go_wp2_with (go_at_call 63; refine (his _).mono ?_; rintro e wq ⟨rfl, rfl⟩)
            refine (hth _).mono ?_
            rintro e wq ⟨rfl, hwq⟩
            obtain rfl := hwq.symm
            exact ⟨rfl, rfl, hg3⟩
          | false =>
            have g3 : (x.toList == [110, 97, 109, 101]) = false := by rw [g1.out]; exact hn2
            have ha : asgV op = true := by rw [hn2, Bool.false_or] at hnm; exact hnm
            rw [ha] at has
            clear hrr hnum hnm hin hn2 ha
            go_quiet ((go_at_call 61; refine Calls.quiet_of_same (hkd _)))
            have hg3 : w.grownBy (w2.drewN nq) none := ⟨hg2.os, hg2.tape, hg2.output, hg2.size, hg2.block⟩
            have hq0 : (w2.drewN nq).cell? ⟨z, 0, none⟩ = some (.string x) := q0
            have hq1 : (w2.drewN nq).cell? ⟨z, 1, none⟩ = some (.int .i64 num) := q1
            have hq2 : (w2.drewN nq).cell? ⟨z, 2, none⟩ = some (.string nx) := q2
            have hq3 : (w2.drewN nq).cell? ⟨z, 3, none⟩ = some (.slice A KL cc) := q3
            generalize w2.drewN nq = w3 at hg3 hq0 hq1 hq2 hq3 ⊢
            clear q0 q1 q2 q3 hg2 hs2 hkd hx0
            go_wp2_with (first | (go_at_call 63; refine (his _).mono ?_; rintro e wq ⟨rfl, rfl⟩) | (go_at_call 62; refine (has _).mono ?_; rintro e wq ⟨rfl, rfl⟩))
            refine (hth _).mono ?_
            rintro e wq ⟨rfl, hwq⟩
            obtain rfl := hwq.symm
            exact ⟨rfl, rfl, hg3⟩
        | true =>
          have hrrp : Hid ((rightL kids) = rr) := by rw [Hid, ← hrr.out, hnum, hnm, hin]; rfl
          replace hrr := hrrp
          rw [hin] at his
          cases hn2 : (op == [110, 97, 109, 101]) with
          | true =>
            have g3 : (x.toList == [110, 97, 109, 101]) = true := by rw [g1.out]; exact hn2
            clear hnum hnm hin hn2 hrrp
            go_quiet ((go_at_call 61; refine Calls.quiet_of_same (hkd _)))
            have hg3 : w.grownBy (w2.drewN nq) none := ⟨hg2.os, hg2.tape, hg2.output, hg2.size, hg2.block⟩
            have hq0 : (w2.drewN nq).cell? ⟨z, 0, none⟩ = some (.string x) := q0
            have hq1 : (w2.drewN nq).cell? ⟨z, 1, none⟩ = some (.int .i64 num) := q1
            have hq2 : (w2.drewN nq).cell? ⟨z, 2, none⟩ = some (.string nx) := q2
            have hq3 : (w2.drewN nq).cell? ⟨z, 3, none⟩ = some (.slice A KL cc) := q3
            generalize w2.drewN nq = w3 at hg3 hq0 hq1 hq2 hq3 ⊢
            clear q0 q1 q2 q3 hg2 hs2 hkd hx0
            go_wp2_with (go_at_call 63; refine (his _).mono ?_; rintro e wq ⟨rfl, rfl⟩)
            clear hth his has g2 g3
            go_loopw [39] (fun nv wr => ∃ m : Nat, m ≤ KL ∧ nv = .int .i64 (m : Int) ∧ Hid (w.grownBy wr none) ∧ Hid (∀ i (hi : i < kids.length), i < m → rightE kids[i] = true)) (fun nv _ => KL - (intOf nv).toNat)
            case atStart => exact ⟨0, Nat.zero_le _, rfl, hg3, fun _ _ h => absurd h (Nat.not_lt_zero _)⟩
            case round =>
              obtain ⟨m, hm, rfl, hg, hyes⟩ := hrel
              clear hq0 hq1 hq2 hq3 hg3
              by_cases hlt : m < KL
              · have hlt' : m < kids.length := by rw [hKL.out]; exact hlt
                have hnn : Hid (kids ≠ []) := fun e => by rw [e] at hlt'; simp at hlt'
                obtain ⟨g, off, rfl, hgo, hkr2⟩ := hkr.out.resolve_left hnn.out
                obtain ⟨v0, v1, v2, v3, c0, c1, c2, c3, hxk⟩ := hkr2.at_ m hlt'
                have hgw := hok.out g hgo
                have hblk := hg.out.block g hgw (by simp)
                have d0 := (World.cell?_of_block (a := ⟨g, off + m * 4, none⟩) hblk).trans c0
                have d1 := (World.cell?_of_block (a := ⟨g, off + m * 4 + 1, none⟩) hblk).trans c1
                have d2 := (World.cell?_of_block (a := ⟨g, off + m * 4 + 2, none⟩) hblk).trans c2
                have d3 := (World.cell?_of_block (a := ⟨g, off + m * 4 + 3, none⟩) hblk).trans c3
                obtain ⟨kop, knum, kname, kkids, hkk⟩ : ∃ eo en em el, kids[m] = E.mk eo en em el := by cases kids[m]; exact ⟨_, _, _, _, rfl⟩
                have hck := ih kids[m] (List.getElem_mem hlt')
                have hsm := hsk.out.mem kids[m] (List.getElem_mem hlt')
                rw [hkk] at hxk hck hsm
                have hxk0 := Lib.hid hxk
                obtain ⟨kA, kc, hkv, hkc, hkcm, _⟩ := hxk.form
                have hkv2 : #[v0, v1, v2, v3] = #[.string ⟨kop.toArray⟩, .int .i64 knum, .string ⟨kname.toArray⟩, .slice kA kkids.length kc] := Value.agg.inj hkv
                obtain ⟨rfl, rfl, rfl, rfl⟩ : v0 = .string ⟨kop.toArray⟩ ∧ v1 = .int .i64 knum ∧ v2 = .string ⟨kname.toArray⟩ ∧ v3 = .slice kA kkids.length kc := by simpa using hkv2
                have hkr3 : Hid (rightE kids[m] = rightE (.mk kop knum kname kkids)) := by rw [Hid, hkk]
                unfold Checks at hck
                generalize rightE (E.mk kop knum kname kkids) = q at hkr3 hck
                have hckw := fun W v (h1 : ExR W ok (E.mk kop knum kname kkids) v) h2 => hck v ok W h1 h2 hsm
                generalize kkids.length = KKL at d3 hxk0 hkc hckw
                clear c0 c1 c2 c3 hkr2 hxk hkv hkv2 hck
                have hal : ∀ o, w.grownBy (wr.alloc o) none := fun o => grownBy_trans' hg.out (World.grownBy_alloc _ _ _)
                have hckw2 := fun o => hckw (wr.alloc o) _ (hxk0.out.keep (fun g h => h) (fun g h => (hal o).block g (hok.out g h) (by simp))) (fun g h => Nat.lt_of_lt_of_le (hok.out g h) (hal o).size)
                clear hckw
                go_wp2_with fail
                refine (hckw2 _).mono ?_
                rintro e w5 ⟨he, hg5⟩
                have hgE := grownBy_trans' (hal _) hg5
                clear hckw2 hal d0 d1 d2 d3
                cases q with
                | true =>
                  simp only [if_true] at he
                  obtain ⟨u, rfl⟩ := he
                  have hyes2 : Hid (∀ i (hi : i < kids.length), i < m + 1 → rightE kids[i] = true) := fun i hi h => by
                    rcases Nat.lt_or_ge i m with h' | h'
                    · exact hyes.out i hi h'
                    · obtain rfl : i = m := by omega
                      exact hkr3.out
                  have hgE := Lib.hid hgE
                  clear hyes hkr3 hg5
                  go_wp2
                  go_roundw
                  case rel => exact ⟨m + 1, by omega, by go_num, hgE, hyes2⟩
                  case measure => simp [intOf]; omega
                | false =>
                  simp only [Bool.false_eq_true, if_false] at he
                  subst he
                  have hrf : rr = false := by
                    rw [← hrr.out]
                    have : rightL kids = false := by
                      rw [Bool.eq_false_iff]
                      intro h
                      rw [rightL_iff] at h
                      have := h kids[m] (List.getElem_mem hlt')
                      rw [hkr3.out] at this
                      cases this
                    simp [this]
                  subst hrf
                  exact ⟨rfl, rfl, hgE⟩
              · obtain rfl : m = KL := by omega
                have hrt : rightL kids = true := by
                  rw [rightL_iff]
                  intro y hy
                  obtain ⟨i, hi, rfl⟩ := List.getElem_of_mem hy
                  exact hyes.out i hi (by have := hKL.out; omega)
                have hrf : rr = true := by rw [← hrr.out, hrt]
                subst hrf
                clear hrr hyes
                go_wp2
                go_end0
                exact ⟨⟨_, rfl⟩, hg.out⟩
          | false =>
            have g3 : (x.toList == [110, 97, 109, 101]) = false := by rw [g1.out]; exact hn2
            have ha : asgV op = true := by rw [hn2, Bool.false_or] at hnm; exact hnm
            rw [ha] at has
            clear hnum hnm hin hn2 ha hrrp
            go_quiet ((go_at_call 61; refine Calls.quiet_of_same (hkd _)))
            have hg3 : w.grownBy (w2.drewN nq) none := ⟨hg2.os, hg2.tape, hg2.output, hg2.size, hg2.block⟩
            have hq0 : (w2.drewN nq).cell? ⟨z, 0, none⟩ = some (.string x) := q0
            have hq1 : (w2.drewN nq).cell? ⟨z, 1, none⟩ = some (.int .i64 num) := q1
            have hq2 : (w2.drewN nq).cell? ⟨z, 2, none⟩ = some (.string nx) := q2
            have hq3 : (w2.drewN nq).cell? ⟨z, 3, none⟩ = some (.slice A KL cc) := q3
            generalize w2.drewN nq = w3 at hg3 hq0 hq1 hq2 hq3 ⊢
            clear q0 q1 q2 q3 hg2 hs2 hkd hx0
            go_wp2_with (first | (go_at_call 63; refine (his _).mono ?_; rintro e wq ⟨rfl, rfl⟩) | (go_at_call 62; refine (has _).mono ?_; rintro e wq ⟨rfl, rfl⟩))
            clear hth his has g2 g3
            go_loopw [39] (fun nv wr => ∃ m : Nat, m ≤ KL ∧ nv = .int .i64 (m : Int) ∧ Hid (w.grownBy wr none) ∧ Hid (∀ i (hi : i < kids.length), i < m → rightE kids[i] = true)) (fun nv _ => KL - (intOf nv).toNat)
            case atStart => exact ⟨0, Nat.zero_le _, rfl, hg3, fun _ _ h => absurd h (Nat.not_lt_zero _)⟩
            case round =>
              obtain ⟨m, hm, rfl, hg, hyes⟩ := hrel
              clear hq0 hq1 hq2 hq3 hg3
              by_cases hlt : m < KL
              · have hlt' : m < kids.length := by rw [hKL.out]; exact hlt
                have hnn : Hid (kids ≠ []) := fun e => by rw [e] at hlt'; simp at hlt'
                obtain ⟨g, off, rfl, hgo, hkr2⟩ := hkr.out.resolve_left hnn.out
                obtain ⟨v0, v1, v2, v3, c0, c1, c2, c3, hxk⟩ := hkr2.at_ m hlt'
                have hgw := hok.out g hgo
                have hblk := hg.out.block g hgw (by simp)
                have d0 := (World.cell?_of_block (a := ⟨g, off + m * 4, none⟩) hblk).trans c0
                have d1 := (World.cell?_of_block (a := ⟨g, off + m * 4 + 1, none⟩) hblk).trans c1
                have d2 := (World.cell?_of_block (a := ⟨g, off + m * 4 + 2, none⟩) hblk).trans c2
                have d3 := (World.cell?_of_block (a := ⟨g, off + m * 4 + 3, none⟩) hblk).trans c3
                obtain ⟨kop, knum, kname, kkids, hkk⟩ : ∃ eo en em el, kids[m] = E.mk eo en em el := by cases kids[m]; exact ⟨_, _, _, _, rfl⟩
                have hck := ih kids[m] (List.getElem_mem hlt')
                have hsm := hsk.out.mem kids[m] (List.getElem_mem hlt')
                rw [hkk] at hxk hck hsm
                have hxk0 := Lib.hid hxk
                obtain ⟨kA, kc, hkv, hkc, hkcm, _⟩ := hxk.form
                have hkv2 : #[v0, v1, v2, v3] = #[.string ⟨kop.toArray⟩, .int .i64 knum, .string ⟨kname.toArray⟩, .slice kA kkids.length kc] := Value.agg.inj hkv
                obtain ⟨rfl, rfl, rfl, rfl⟩ : v0 = .string ⟨kop.toArray⟩ ∧ v1 = .int .i64 knum ∧ v2 = .string ⟨kname.toArray⟩ ∧ v3 = .slice kA kkids.length kc := by simpa using hkv2
                have hkr3 : Hid (rightE kids[m] = rightE (.mk kop knum kname kkids)) := by rw [Hid, hkk]
                unfold Checks at hck
                generalize rightE (E.mk kop knum kname kkids) = q at hkr3 hck
                have hckw := fun W v (h1 : ExR W ok (E.mk kop knum kname kkids) v) h2 => hck v ok W h1 h2 hsm
                generalize kkids.length = KKL at d3 hxk0 hkc hckw
                clear c0 c1 c2 c3 hkr2 hxk hkv hkv2 hck
                have hal : ∀ o, w.grownBy (wr.alloc o) none := fun o => grownBy_trans' hg.out (World.grownBy_alloc _ _ _)
                have hckw2 := fun o => hckw (wr.alloc o) _ (hxk0.out.keep (fun g h => h) (fun g h => (hal o).block g (hok.out g h) (by simp))) (fun g h => Nat.lt_of_lt_of_le (hok.out g h) (hal o).size)
                clear hckw
                go_wp2_with fail
                refine (hckw2 _).mono ?_
                rintro e w5 ⟨he, hg5⟩
                have hgE := grownBy_trans' (hal _) hg5
                clear hckw2 hal d0 d1 d2 d3
                cases q with
                | true =>
                  simp only [if_true] at he
                  obtain ⟨u, rfl⟩ := he
                  have hyes2 : Hid (∀ i (hi : i < kids.length), i < m + 1 → rightE kids[i] = true) := fun i hi h => by
                    rcases Nat.lt_or_ge i m with h' | h'
                    · exact hyes.out i hi h'
                    · obtain rfl : i = m := by omega
                      exact hkr3.out
                  have hgE := Lib.hid hgE
                  clear hyes hkr3 hg5
                  go_wp2
                  go_roundw
                  case rel => exact ⟨m + 1, by omega, by go_num, hgE, hyes2⟩
                  case measure => simp [intOf]; omega
                | false =>
                  simp only [Bool.false_eq_true, if_false] at he
                  subst he
                  have hrf : rr = false := by
                    rw [← hrr.out]
                    have : rightL kids = false := by
                      rw [Bool.eq_false_iff]
                      intro h
                      rw [rightL_iff] at h
                      have := h kids[m] (List.getElem_mem hlt')
                      rw [hkr3.out] at this
                      cases this
                    simp [this]
                  subst hrf
                  exact ⟨rfl, rfl, hgE⟩
              · obtain rfl : m = KL := by omega
                have hrt : rightL kids = true := by
                  rw [rightL_iff]
                  intro y hy
                  obtain ⟨i, hi, rfl⟩ := List.getElem_of_mem hy
                  exact hyes.out i hi (by have := hKL.out; omega)
                have hrf : rr = true := by rw [← hrr.out, hrt]
                subst hrf
                clear hrr hyes
                go_wp2
                go_end0
                exact ⟨⟨_, rfl⟩, hg.out⟩
      | false =>
        have hrrp : Hid ((rightL kids) = rr) := by rw [Hid, ← hrr.out, hnum, hnm]; rfl
        replace hrr := hrrp
        have g3 : (x.toList == [110, 97, 109, 101]) = false := by rw [g1.out]; rw [Bool.or_eq_false_iff] at hnm; exact hnm.1
        have ha : asgV op = false := by rw [Bool.or_eq_false_iff] at hnm; exact hnm.2
        rw [ha] at has
        clear hnum hnm ha hrrp
        go_quiet ((go_at_call 61; refine Calls.quiet_of_same (hkd _)))
        have hg3 : w.grownBy (w2.drewN nq) none := ⟨hg2.os, hg2.tape, hg2.output, hg2.size, hg2.block⟩
        have hq0 : (w2.drewN nq).cell? ⟨z, 0, none⟩ = some (.string x) := q0
        have hq1 : (w2.drewN nq).cell? ⟨z, 1, none⟩ = some (.int .i64 num) := q1
        have hq2 : (w2.drewN nq).cell? ⟨z, 2, none⟩ = some (.string nx) := q2
        have hq3 : (w2.drewN nq).cell? ⟨z, 3, none⟩ = some (.slice A KL cc) := q3
        generalize w2.drewN nq = w3 at hg3 hq0 hq1 hq2 hq3 ⊢
        clear q0 q1 q2 q3 hg2 hs2 hkd hx0
        go_wp2_with (go_at_call 62; refine (has _).mono ?_; rintro e wq ⟨rfl, rfl⟩)
        clear hth his has g2 g3
        go_loopw [39] (fun nv wr => ∃ m : Nat, m ≤ KL ∧ nv = .int .i64 (m : Int) ∧ Hid (w.grownBy wr none) ∧ Hid (∀ i (hi : i < kids.length), i < m → rightE kids[i] = true)) (fun nv _ => KL - (intOf nv).toNat)
        case atStart => exact ⟨0, Nat.zero_le _, rfl, hg3, fun _ _ h => absurd h (Nat.not_lt_zero _)⟩
        case round =>
          obtain ⟨m, hm, rfl, hg, hyes⟩ := hrel
          clear hq0 hq1 hq2 hq3 hg3
          by_cases hlt : m < KL
          · have hlt' : m < kids.length := by rw [hKL.out]; exact hlt
            have hnn : Hid (kids ≠ []) := fun e => by rw [e] at hlt'; simp at hlt'
            obtain ⟨g, off, rfl, hgo, hkr2⟩ := hkr.out.resolve_left hnn.out
            obtain ⟨v0, v1, v2, v3, c0, c1, c2, c3, hxk⟩ := hkr2.at_ m hlt'
            have hgw := hok.out g hgo
            have hblk := hg.out.block g hgw (by simp)
            have d0 := (World.cell?_of_block (a := ⟨g, off + m * 4, none⟩) hblk).trans c0
            have d1 := (World.cell?_of_block (a := ⟨g, off + m * 4 + 1, none⟩) hblk).trans c1
            have d2 := (World.cell?_of_block (a := ⟨g, off + m * 4 + 2, none⟩) hblk).trans c2
            have d3 := (World.cell?_of_block (a := ⟨g, off + m * 4 + 3, none⟩) hblk).trans c3
            obtain ⟨kop, knum, kname, kkids, hkk⟩ : ∃ eo en em el, kids[m] = E.mk eo en em el := by cases kids[m]; exact ⟨_, _, _, _, rfl⟩
            have hck := ih kids[m] (List.getElem_mem hlt')
            have hsm := hsk.out.mem kids[m] (List.getElem_mem hlt')
            rw [hkk] at hxk hck hsm
            have hxk0 := Lib.hid hxk
            obtain ⟨kA, kc, hkv, hkc, hkcm, _⟩ := hxk.form
            have hkv2 : #[v0, v1, v2, v3] = #[.string ⟨kop.toArray⟩, .int .i64 knum, .string ⟨kname.toArray⟩, .slice kA kkids.length kc] := Value.agg.inj hkv
            obtain ⟨rfl, rfl, rfl, rfl⟩ : v0 = .string ⟨kop.toArray⟩ ∧ v1 = .int .i64 knum ∧ v2 = .string ⟨kname.toArray⟩ ∧ v3 = .slice kA kkids.length kc := by simpa using hkv2
            have hkr3 : Hid (rightE kids[m] = rightE (.mk kop knum kname kkids)) := by rw [Hid, hkk]
            unfold Checks at hck
            generalize rightE (E.mk kop knum kname kkids) = q at hkr3 hck
            have hckw := fun W v (h1 : ExR W ok (E.mk kop knum kname kkids) v) h2 => hck v ok W h1 h2 hsm
            generalize kkids.length = KKL at d3 hxk0 hkc hckw
            clear c0 c1 c2 c3 hkr2 hxk hkv hkv2 hck
            have hal : ∀ o, w.grownBy (wr.alloc o) none := fun o => grownBy_trans' hg.out (World.grownBy_alloc _ _ _)
            have hckw2 := fun o => hckw (wr.alloc o) _ (hxk0.out.keep (fun g h => h) (fun g h => (hal o).block g (hok.out g h) (by simp))) (fun g h => Nat.lt_of_lt_of_le (hok.out g h) (hal o).size)
            clear hckw
            go_wp2_with fail
            refine (hckw2 _).mono ?_
            rintro e w5 ⟨he, hg5⟩
            have hgE := grownBy_trans' (hal _) hg5
            clear hckw2 hal d0 d1 d2 d3
            cases q with
            | true =>
              simp only [if_true] at he
              obtain ⟨u, rfl⟩ := he
              have hyes2 : Hid (∀ i (hi : i < kids.length), i < m + 1 → rightE kids[i] = true) := fun i hi h => by
                rcases Nat.lt_or_ge i m with h' | h'
                · exact hyes.out i hi h'
                · obtain rfl : i = m := by omega
                  exact hkr3.out
              have hgE := Lib.hid hgE
              clear hyes hkr3 hg5
              go_wp2
              go_roundw
              case rel => exact ⟨m + 1, by omega, by go_num, hgE, hyes2⟩
              case measure => simp [intOf]; omega
            | false =>
              simp only [Bool.false_eq_true, if_false] at he
              subst he
              have hrf : rr = false := by
                rw [← hrr.out]
                have : rightL kids = false := by
                  rw [Bool.eq_false_iff]
                  intro h
                  rw [rightL_iff] at h
                  have := h kids[m] (List.getElem_mem hlt')
                  rw [hkr3.out] at this
                  cases this
                simp [this]
              subst hrf
              exact ⟨rfl, rfl, hgE⟩
          · obtain rfl : m = KL := by omega
            have hrt : rightL kids = true := by
              rw [rightL_iff]
              intro y hy
              obtain ⟨i, hi, rfl⟩ := List.getElem_of_mem hy
              exact hyes.out i hi (by have := hKL.out; omega)
            have hrf : rr = true := by rw [← hrr.out, hrt]
            subst hrf
            clear hrr hyes
            go_wp2
            go_end0
            exact ⟨⟨_, rfl⟩, hg.out⟩
  · have hne : ((KL : Int) == KV) = false := by simpa using hK
    have hrf : rr = false := by rw [← hrr.out]; simp [hK]
    subst hrf
    clear hrr hK
    go_quiet ((go_at_call 61; refine Calls.quiet_of_same (hkd _)))
    go_wp2_with fail
    refine (hth _).mono ?_
    rintro e wq ⟨rfl, hwq⟩
    obtain rfl := hwq.symm
    have hg3 : w.grownBy (w2.drewN nq) none := ⟨hg2.os, hg2.tape, hg2.output, hg2.size, hg2.block⟩
    exact ⟨rfl, rfl, hg3⟩
end Go.Proofs.YtlijlgbaikijnaaGreatDoor
