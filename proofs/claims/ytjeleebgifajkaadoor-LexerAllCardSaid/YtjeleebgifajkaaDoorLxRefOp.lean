/-
  The document's is and Operator, told plainly. Conditions: texts of up to a million bytes.
-/
import Derived.Test.YtjeleebgifajkaaDoorLxTok
import Derived.Test.YtjeleebgifajkaaDoorMkLast2
set_option linter.unusedSimpArgs false
set_option linter.unusedVariables false
namespace Go.Proofs.YtjeleebgifajkaaDoor
open Go Go.Shelf Go.RowKit Go.ChangeMaps

theorem wpList_append_of {P : Program} {w : World} {ops : Array Oper} {rest : List Oper} {o : Oper} {a : Act} {Q : Exit → Act → World → Prop} (hgd : o.guard = none) (s x : Operand) (t tx : TypeId)
    (ho : o.op = .call { callee := .builtin .append, args := #[s, x], argTypes := #[t, tx] }) (v y r : Value) (w1 : World) (hs : a.eval s = v) (hx : a.eval x = y)
    (hrun : (Builtin.append_ #[t, tx] o.type #[v, y]).run P w = .ok r w1) (h : wpList P ops Q rest (a.put o.dst r) w1) : wpList P ops Q (o :: rest) a w :=
  wpList_plain hgd fun _ hK => by
    unfold Oper.wp execOp
    simp only [ho, resolve, invoke, builtin, Sem.run_bind, Sem.run_pure, Result.andThen_ok, List.map_toArray, List.map_cons, List.map_nil, hs, hx, hrun]
    exact hK _ _ h
def isB (x t : List UInt8) : Bool := x.take t.length == t
def opsA : List ByteArray := [⟨#[60, 60, 45]⟩, ⟨#[38, 38]⟩, ⟨#[124, 124]⟩, ⟨#[59, 59]⟩, ⟨#[60, 60]⟩, ⟨#[60, 38]⟩, ⟨#[60, 62]⟩, ⟨#[62, 62]⟩, ⟨#[62, 38]⟩, ⟨#[62, 124]⟩, ⟨#[38]⟩, ⟨#[124]⟩, ⟨#[59]⟩, ⟨#[60]⟩, ⟨#[62]⟩, ⟨#[40]⟩, ⟨#[41]⟩]
theorem opsA_len : opsA.length = 17 := rfl
theorem opsA_bl : opsA.map bl = [60, 60, 45] :: (ops2 ++ ops1) := rfl
theorem find_ops (x : List UInt8) (l : List (List UInt8)) (n : Nat) (hl : ∀ o ∈ l, o.length = n) : l.find? (fun o => isB x o) = if l.contains (x.take n) then some (x.take n) else none := by
  induction l with
  | nil => rfl
  | cons a l ih =>
    have ha := hl a (by simp)
    have ih := ih (fun o ho => hl o (by simp [ho]))
    rw [List.find?_cons, List.contains_cons]
    unfold isB
    rw [ha]
    by_cases h : x.take n = a
    · rw [h]; simp
    · have h1 : (x.take n == a) = false := beq_eq_false_iff_ne.2 h
      rw [h1]
      simp only [Bool.false_or]
      exact ih
theorem opN_find (x : List UInt8) : (opN x : Int) = match (opsA.map bl).find? (fun o => isB x o) with | none => 0 | some o => (o.length : Int) := by
  rw [opsA_bl, List.find?_cons, List.find?_append, find_ops x ops2 2 (by decide), find_ops x ops1 1 (by decide)]
  unfold opN isB
  by_cases h3 : x.take 3 = [60, 60, 45]
  · have : (x.take ([60, 60, 45] : List UInt8).length == [60, 60, 45]) = true := beq_iff_eq.2 h3
    rw [this, if_pos h3]; rfl
  · have : (x.take ([60, 60, 45] : List UInt8).length == [60, 60, 45]) = false := beq_eq_false_iff_ne.2 h3
    rw [this, if_neg h3]
    by_cases h2 : ops2.contains (x.take 2) = true
    · rw [if_pos h2, if_pos h2]
      have hl : (x.take 2).length = 2 := by
        rw [List.contains_iff_mem] at h2
        have : ∀ o ∈ ops2, o.length = 2 := by decide
        exact this _ h2
      simp only [Option.some_or, hl]
    · rw [if_neg h2, if_neg h2]
      by_cases h1 : ops1.contains (x.take 1) = true
      · rw [if_pos h1, if_pos h1]
        have hl : (x.take 1).length = 1 := by
          rw [List.contains_iff_mem] at h1
          have : ∀ o ∈ ops1, o.length = 1 := by decide
          exact this _ h1
        simp only [Option.none_or, hl]
      · rw [if_neg h1, if_neg h1]; rfl
theorem isB_size (s : ByteArray) (k : Nat) (t : ByteArray) : isB ((bl s).drop k) (bl t) = (decide (k + t.size ≤ s.size) && (s.extract k (k + t.size)).toList == t.toList) ∨ s.size < k := by
  by_cases hk : s.size < k
  · exact .inr hk
  · left
    unfold isB
    rw [bl_len, ByteArray.toList_eq, ByteArray.toList_eq, bl_extract, ← List.take_drop, Nat.add_comm k t.size]
    by_cases h : t.size + k ≤ s.size
    · rw [decide_eq_true h, Bool.true_and]
    · rw [decide_eq_false h, Bool.false_and]
      refine beq_eq_false_iff_ne.2 (fun e => ?_)
      have := congrArg List.length e
      rw [List.length_take, List.length_drop, bl_len, bl_len] at this
      omega

section
set_option maxRecDepth 100000
set_option maxHeartbeats 4000000
theorem is_any (s : ByteArray) (k : Nat) (t : ByteArray) (hk : k ≤ s.size) (hs : s.size ≤ 1000000) (ht : t.size ≤ 1000000) (w : World) :
    Calls Tryd.prog 25 #[.string s, .int .i64 (k : Int), .string t] w fun e w' => e = .returned (.bool (isB ((bl s).drop k) (bl t))) ∧ w' = w := by
  obtain ⟨R, hR⟩ : ∃ R, isB ((bl s).drop k) (bl t) = R := ⟨_, rfl⟩
  rw [hR]
  have hb := (isB_size s k t).resolve_right (by omega)
  rw [hR] at hb
  clear hR
  by_cases h : k + t.size ≤ s.size
  · rw [decide_eq_true h, Bool.true_and] at hb
    have i1 : (k : Int) + (t.size : Int) ≤ (s.size : Int) := by omega
    have i2 : (k : Int) ≤ (k : Int) + (t.size : Int) := by omega
    have hex : s.extract k (((k : Int) + (t.size : Int)).toNat) = s.extract k (k + t.size) := by congr 1
    replace hb := Lib.hid hb
    go_enter Tryd.func25, Tryd.ntmps25
    go_wp2
    go_ret
    exact ⟨by rw [hb.out]; rfl, rfl⟩
  · rw [decide_eq_false h, Bool.false_and] at hb
    have i1 : ¬ (k : Int) + (t.size : Int) ≤ (s.size : Int) := by omega
    replace hb := Lib.hid hb
    go_enter Tryd.func25, Tryd.ntmps25
    go_wp2
    go_ret
    exact ⟨by rw [hb.out]; rfl, rfl⟩
theorem operator_any (s : ByteArray) (k : Nat) (hk : k ≤ s.size) (hs : s.size ≤ 1000000) (w : World) :
    Calls Tryd.prog 26 #[.string s, .int .i64 (k : Int)] w fun e w' => e = .returned (.int .i64 (opN ((bl s).drop k) : Int)) ∧ Below w.heap.size w w' := by
  obtain ⟨R, hR⟩ : ∃ R : Int, (opN ((bl s).drop k) : Int) = R := ⟨_, rfl⟩
  rw [hR]
  rw [opN_find] at hR
  have his := fun (t : ByteArray) (h : t.size ≤ 1000000) W => is_any s k t hk hs h W
  generalize (bl s).drop k = x at hR his
  have hnew := new_cells w #[.string ⟨#[60, 60, 45]⟩, .string ⟨#[38, 38]⟩, .string ⟨#[124, 124]⟩, .string ⟨#[59, 59]⟩, .string ⟨#[60, 60]⟩, .string ⟨#[60, 38]⟩, .string ⟨#[60, 62]⟩, .string ⟨#[62, 62]⟩, .string ⟨#[62, 38]⟩, .string ⟨#[62, 124]⟩, .string ⟨#[38]⟩, .string ⟨#[124]⟩, .string ⟨#[59]⟩, .string ⟨#[60]⟩, .string ⟨#[62]⟩, .string ⟨#[40]⟩, .string ⟨#[41]⟩] 9
  have hb : Below w.heap.size w (w.alloc (.cells #[.string ⟨#[60, 60, 45]⟩, .string ⟨#[38, 38]⟩, .string ⟨#[124, 124]⟩, .string ⟨#[59, 59]⟩, .string ⟨#[60, 60]⟩, .string ⟨#[60, 38]⟩, .string ⟨#[60, 62]⟩, .string ⟨#[62, 62]⟩, .string ⟨#[62, 38]⟩, .string ⟨#[62, 124]⟩, .string ⟨#[38]⟩, .string ⟨#[124]⟩, .string ⟨#[59]⟩, .string ⟨#[60]⟩, .string ⟨#[62]⟩, .string ⟨#[40]⟩, .string ⟨#[41]⟩] 9)) := (Below.refl _ w).alloc (Nat.le_refl _) _
  obtain ⟨w1, hw1⟩ : ∃ w1, w.alloc (.cells #[.string ⟨#[60, 60, 45]⟩, .string ⟨#[38, 38]⟩, .string ⟨#[124, 124]⟩, .string ⟨#[59, 59]⟩, .string ⟨#[60, 60]⟩, .string ⟨#[60, 38]⟩, .string ⟨#[60, 62]⟩, .string ⟨#[62, 62]⟩, .string ⟨#[62, 38]⟩, .string ⟨#[62, 124]⟩, .string ⟨#[38]⟩, .string ⟨#[124]⟩, .string ⟨#[59]⟩, .string ⟨#[60]⟩, .string ⟨#[62]⟩, .string ⟨#[40]⟩, .string ⟨#[41]⟩] 9) = w1 := ⟨_, rfl⟩
  obtain ⟨z, hz⟩ : ∃ z, w.heap.size = z := ⟨_, rfl⟩
  rw [hz, hw1] at hnew
  rw [hw1] at hb
  have hcell : ∀ (j : Nat) (h : j < 17), w1.cell? ⟨z, j, none⟩ = some (.string (opsA[j]'(by rw [opsA_len]; exact h))) := by
    intro j h
    have := hnew j (.string (opsA[j]'(by rw [opsA_len]; exact h))) (by
      have : (#[.string ⟨#[60, 60, 45]⟩, .string ⟨#[38, 38]⟩, .string ⟨#[124, 124]⟩, .string ⟨#[59, 59]⟩, .string ⟨#[60, 60]⟩, .string ⟨#[60, 38]⟩, .string ⟨#[60, 62]⟩, .string ⟨#[62, 62]⟩, .string ⟨#[62, 38]⟩, .string ⟨#[62, 124]⟩, .string ⟨#[38]⟩, .string ⟨#[124]⟩, .string ⟨#[59]⟩, .string ⟨#[60]⟩, .string ⟨#[62]⟩, .string ⟨#[40]⟩, .string ⟨#[41]⟩] : Array Value).toList = opsA.map Value.string := rfl
      rw [this, List.getElem?_map, List.getElem?_eq_getElem (by rw [opsA_len]; exact h)]; rfl)
    rwa [add_plain0, Nat.zero_add] at this
  have hsz : ∀ (j : Nat) (h : j < 17), (opsA[j]'(by rw [opsA_len]; exact h)).size ≤ 1000000 := by
    intro j h
    have : ∀ o ∈ opsA, o.size ≤ 1000000 := by decide
    exact this _ (List.getElem_mem _)
  replace hR := Lib.hid hR
  replace his := Lib.hid his
  replace hcell := Lib.hid hcell
  replace hsz := Lib.hid hsz
  replace hb := Lib.hid hb
  clear hnew
  go_enter Tryd.func26, Tryd.ntmps26
  go_upto_region 2 with fail
  try rw [hz]
  clear hw1
  replace hz := Lib.hid hz
  go_wp2
  go_loopw [6] (fun iv wr => ∃ j : Nat, j ≤ 17 ∧ iv = .int .i64 (j : Int) ∧ Hid (∀ i, i < j → ∀ o, (opsA.map bl)[i]? = some o → isB x o = false) ∧ Hid (wr = w1)) (fun iv _ => 17 - (intOf iv).toNat)
  case atStart => exact ⟨0, by omega, rfl, Lib.hid (fun i h => absurd h (Nat.not_lt_zero _)), Lib.hid rfl⟩
  case round =>
    obtain ⟨j, hj, rfl, hno, hw⟩ := hrel
    obtain rfl := hw.out
    clear hw
    by_cases hlt : j < 17
    · have hli : (j : Int) < 17 := by omega
      have hc := hcell.out j hlt
      have hi := his.out (opsA[j]'(by rw [opsA_len]; exact hlt)) (hsz.out j hlt) wr
      have hoj : (opsA.map bl)[j]? = some (bl (opsA[j]'(by rw [opsA_len]; exact hlt))) := by rw [List.getElem?_map, List.getElem?_eq_getElem (by rw [opsA_len]; exact hlt)]; rfl
      have hsj := hsz.out j hlt
      generalize opsA[j]'(by rw [opsA_len]; exact hlt) = t at hc hi hoj hsj
      cases hB : isB x (bl t) with
      | true =>
        have hRR : Hid (R = (t.size : Int)) := Lib.hid (by
          rw [← hR.out]
          have hf : (opsA.map bl).find? (fun o => isB x o) = some (bl t) := by
            rw [List.find?_eq_some_iff_getElem]
            obtain ⟨hjl, hje⟩ := List.getElem?_eq_some_iff.1 hoj
            refine ⟨hB, j, hjl, hje, fun i hi2 => ?_⟩
            have := hno.out i hi2 _ (List.getElem?_eq_getElem (by omega))
            simp only [this]; rfl
          rw [hf]
          show (((bl t).length : Nat) : Int) = _
          rw [bl_len])
        rw [hB] at hi
        replace hi := Lib.hid hi
        clear hB hno hoj hR his hcell hsz
        go_wp2_with fail
        refine hi.out.mono ?_
        rintro e w' ⟨rfl, hwq⟩
        obtain rfl := hwq.symm
        clear hi hwq
        go_wp2
        go_ret
        exact ⟨by rw [hRR.out]; rfl, by rw [hz.out]; exact hz.out ▸ hb.out⟩
      | false =>
        have hno2 : Hid (∀ i, i < j + 1 → ∀ o, (opsA.map bl)[i]? = some o → isB x o = false) := Lib.hid (fun i hi2 o ho => by
          by_cases e : i = j
          · subst e; rw [hoj] at ho; cases ho; exact hB
          · exact hno.out i (by omega) o ho)
        rw [hB] at hi
        replace hi := Lib.hid hi
        clear hB hno hoj
        go_wp2_with fail
        refine hi.out.mono ?_
        rintro e w' ⟨rfl, hwq⟩
        obtain rfl := hwq.symm
        clear hi hwq
        go_wp2
        go_roundw
        case rel => exact ⟨j + 1, by omega, by go_num, hno2, Lib.hid (by trivial)⟩
        case measure => simp [intOf]; omega
    · obtain rfl : j = 17 := by omega
      have hRR : Hid (R = 0) := Lib.hid (by
        rw [← hR.out]
        have hf : (opsA.map bl).find? (fun o => isB x o) = none := by
          rw [List.find?_eq_none]
          intro o ho
          obtain ⟨i, hi, he⟩ := List.getElem_of_mem ho
          have := hno.out i (by rw [List.length_map, opsA_len] at hi; exact hi) o (by rw [List.getElem?_eq_getElem hi, he])
          rw [this]; decide
        rw [hf])
      clear hno hR his hcell hsz
      go_wp2
      go_ret
      exact ⟨by rw [hRR.out]; rfl, by rw [hz.out]; exact hz.out ▸ hb.out⟩
end
end Go.Proofs.YtjeleebgifajkaaDoor
