/-
  The package's Join and the document's answer to it. Conditions: at most a million arguments, and a million bytes when they are joined.
-/
import Derived.Test.YtmoihdddmeienaaDoorPaArg
import Derived.Lib.Join
import Derived.Laws.Concat
namespace Go.Proofs.YtmoihdddmeienaaDoor
open Go Go.RowKit

/-- What stands between two arguments. -/
def sepP (s : List UInt8) (set : Bool) : List UInt8 := if set then s.take 1 else [32]
def joinL (l : List ByteArray) (sep : List UInt8) : List UInt8 := Lib.join (l.map (·.data.toList)) sep
def joinP (l : List ByteArray) (sep : List UInt8) : ByteArray := ⟨(joinL l sep).toArray⟩
theorem joinTail_append (sep : List UInt8) (a b : List (List UInt8)) : Lib.joinTail sep (a ++ b) = Lib.joinTail sep a ++ Lib.joinTail sep b := by simp [Lib.joinTail]
theorem joinL_snoc (l : List ByteArray) (x : ByteArray) (sep : List UInt8) (h : l ≠ []) : joinL (l ++ [x]) sep = joinL l sep ++ sep ++ x.data.toList := by
  cases l with
  | nil => exact absurd rfl h
  | cons y r =>
    unfold joinL
    simp only [List.cons_append, List.map_cons, Lib.join_cons, List.map_append, joinTail_append, List.map_nil]
    simp [Lib.joinTail, List.append_assoc]
theorem joinL_one (x : ByteArray) (sep : List UInt8) : joinL [x] sep = x.data.toList := Lib.join_one _ _
theorem joinL_mono (l : List ByteArray) (sep : List UInt8) (k : Nat) : (joinL (l.take k) sep).length ≤ (joinL l sep).length := by
  cases l with
  | nil => simp
  | cons y r =>
    cases k with
    | zero => simp [joinL, Lib.join_nil]
    | succ k =>
      unfold joinL
      rw [List.take_succ_cons, List.map_cons, List.map_cons, Lib.join_cons, Lib.join_cons, List.length_append, List.length_append]
      have := Lib.joinTail_take_le sep (r.map (·.data.toList)) k
      rw [← List.map_take] at this
      omega

section
variable (l : List ByteArray) (v : Value) (B : Nat) (w : World)
/-- strings.Join of any slice of strings. -/
theorem sJoin_any (sep : ByteArray) (ht : Ls w B v l) (hB : B ≤ w.heap.size) (hl : l.length ≤ 1000000) (hlen : (joinL l sep.data.toList).length ≤ 1000000) :
    Calls Tryd.prog 22 #[v, .string sep] w fun e w' => e = .returned (.string (joinP l sep.data.toList)) ∧ Below w.heap.size w w' := by
  obtain ⟨A, c, rfl, hc, hcm⟩ := ht.form
  by_cases h0 : l.length = 0
  · obtain rfl := List.eq_nil_of_length_eq_zero h0
    exact (Tryd.strings_Join_none A c sep w).mono fun e w' ⟨he, hw⟩ => ⟨he, hw ▸ Below.refl _ _⟩
  · obtain ⟨b, off, rfl, hbB, hcell⟩ := ht.at_ (by omega)
    refine Tryd.strings_Join b off c l sep w (fun j x hx => ?_) (by omega) (by omega) hc (by unfold joinL at hlen; omega)
    obtain ⟨hj, e⟩ := List.getElem?_eq_some_iff.1 hx
    rw [← e]
    exact hcell j hj

set_option maxHeartbeats 1000000 in
set_option maxRecDepth 100000 in
theorem join_any (s : ByteArray) (set : Bool) (ht : Ls w B v l) (hB : B ≤ w.heap.size) (hs : s.size ≤ 1000000) (hl : l.length ≤ 1000000) (hlen : (joinL l (sepP (bl s) set)).length ≤ 1000000) :
    Calls Tryd.prog 10 #[v, .string s, .bool set] w fun e w' => e = .returned (.string (joinP l (sepP (bl s) set))) ∧ Below w.heap.size w w' := by
  obtain ⟨A, c, rfl, hc, hcm⟩ := ht.form
  cases set with
  | false =>
    have hj := sJoin_any l _ B w ⟨#[32]⟩ ht hB hl hlen
    have hsep : sepP (bl s) false = (⟨#[32]⟩ : ByteArray).data.toList := rfl
    rw [hsep]
    generalize joinP l (⟨#[32]⟩ : ByteArray).data.toList = r at hj ⊢
    clear ht hlen hsep
    have hx : (⟨#[32]⟩ : ByteArray).extract 0 1 = ⟨#[32]⟩ := by decide +kernel
    go_enter Tryd.func10, Tryd.ntmps10
    go_wp2_with fail
    refine hj.mono ?_
    rintro e w1 ⟨rfl, hb⟩
    go_wp2
    go_ret
    exact ⟨rfl, hb⟩
  | true =>
    by_cases h0 : s.size = 0
    · obtain rfl : s = ⟨#[]⟩ := ByteArray.ext (Array.eq_empty_of_size_eq_zero h0)
      have hj := sJoin_any l _ B w ⟨#[]⟩ ht hB hl hlen
      have hsep : sepP (bl ⟨#[]⟩) true = (⟨#[]⟩ : ByteArray).data.toList := rfl
      rw [hsep]
      generalize joinP l (⟨#[]⟩ : ByteArray).data.toList = r at hj ⊢
      clear ht hlen hsep h0
      have hx : (⟨#[]⟩ : ByteArray).extract 0 0 = ⟨#[]⟩ := by decide +kernel
      go_enter Tryd.func10, Tryd.ntmps10
      go_wp2_with fail
      refine hj.mono ?_
      rintro e w1 ⟨rfl, hb⟩
      go_wp2
      go_ret
      exact ⟨rfl, hb⟩
    · have hsep : sepP (bl s) true = (s.extract 0 1).data.toList := (bl_upto s 1).symm
      have hj := sJoin_any l _ B w (s.extract 0 1) ht hB hl (by rw [← hsep]; exact hlen)
      rw [hsep]
      generalize joinP l (s.extract 0 1).data.toList = r at hj ⊢
      clear ht hlen hsep
      have h1 : 0 < s.size := by omega
      have h2 : (1 : Int) ≤ s.size := by omega
      have h3 : min (s.size : Int) 1 = 1 := by omega
      go_enter Tryd.func10, Tryd.ntmps10
      go_wp2_with fail
      refine hj.mono ?_
      rintro e w1 ⟨rfl, hb⟩
      go_wp2
      go_ret
      exact ⟨rfl, hb⟩
end

/-- One more string behind what is joined. -/
theorem mk_add (x y : List UInt8) (h : x.length + y.length ≤ 9223372036854775807) (W : World) : (Op.stringOp .add ⟨x.toArray⟩ ⟨y.toArray⟩).run Tryd.prog W = .ok (.string ⟨(x ++ y).toArray⟩) W := by
  rw [run_string_add_sum W _ _ (by simpa [ByteArray.size] using h), ByteArray.mk_append_mk]
theorem mk_data (x : ByteArray) : (⟨x.data.toList.toArray⟩ : ByteArray) = x := by simp

set_option maxHeartbeats 2000000 in
set_option maxRecDepth 100000 in
theorem rJoin_any (l : List ByteArray) (s : ByteArray) (set : Bool) (v : Value) (B : Nat) (w : World) (ht : Ls w B v l) (hs : s.size ≤ 1000000) (hl : l.length ≤ 1000000) (hlen : (joinL l (sepP (bl s) set)).length ≤ 1000000) :
    Calls Tryd.prog 11 #[v, .string s, .bool set] w fun e w' => e = .returned (.string (joinP l (sepP (bl s) set))) ∧ w = w' := by
  obtain ⟨A, c, rfl, hc, hcm⟩ := ht.form
  unfold maxLen at hcm
  have hmono := fun k => joinL_mono l (sepP (bl s) set) k
  have hsz : (sepP (bl s) set).length ≤ 1 := by unfold sepP; split <;> simp; omega
  have hsx : s.size = 0 → sepP (bl s) true = [] := fun h => by
    obtain rfl : s = ⟨#[]⟩ := ByteArray.ext (Array.eq_empty_of_size_eq_zero h)
    rfl
  have hsy : sepP (bl s) true = (s.extract 0 1).data.toList := (bl_upto s 1).symm
  have hsf : sepP (bl s) false = [32] := rfl
  obtain ⟨sep, hsep⟩ : ∃ sep, sepP (bl s) set = sep := ⟨_, rfl⟩
  rw [hsep] at hlen hmono hsz ⊢
  have hfin : joinP l sep = ⟨(joinL (l.take l.length) sep).toArray⟩ := by rw [List.take_length]; rfl
  rw [hfin]
  clear hfin
  replace hmono := Lib.hid (fun k => Nat.le_trans (hmono k) hlen)
  have hne : s.toList.isEmpty = decide (s.size = 0) := by
    rw [Lib.toList_data]
    have h1 : s.data.toList.length = s.size := bl_len s
    rw [← h1]
    cases s.data.toList <;> simp
  have hcell : Hid (∀ k (hk : k < l.length), ∃ b off : Nat, A = some ⟨b, off, none⟩ ∧ w.cell? ⟨b, off + k, none⟩ = some (.string l[k])) := Lib.hid (fun k hk => by
    obtain ⟨b, off, hA, _, hc⟩ := ht.at_ (by omega)
    exact ⟨b, off, hA, hc k hk⟩)
  clear ht hlen
  have hstep : Hid (∀ k (hk : k < l.length), joinL (l.take (k + 1)) sep = (if k = 0 then [] else joinL (l.take k) sep ++ sep) ++ (l[k]).data.toList) := Lib.hid (fun k hk => by
    rw [List.take_add_one, List.getElem?_eq_getElem hk]
    by_cases h0 : k = 0
    · subst h0; rw [if_pos rfl]; simp [joinL_one]
    · rw [if_neg h0]
      refine joinL_snoc _ _ _ (fun h => ?_)
      have h1 : (l.take k).length = 0 := by rw [h]; rfl
      rw [List.length_take] at h1
      omega)
  have hadd : Hid (∀ k (hk : k < l.length) (O : ByteArray), O = ⟨(joinL (l.take k) sep).toArray⟩ → ∃ T O2 : ByteArray, O2 = ⟨(joinL (l.take (k + 1)) sep).toArray⟩ ∧ (∀ W, (Op.stringOp .add T l[k]).run Tryd.prog W = .ok (.string O2) W) ∧ (k = 0 → T = O) ∧ (sep = [] → T = O) ∧ (0 < k → ∀ W, (Op.stringOp .add O ⟨sep.toArray⟩).run Tryd.prog W = .ok (.string T) W)) := Lib.hid (fun k hk O hO => by
    have h1 := hstep.out k hk
    have h2 := hmono.out (k + 1)
    have h3 := hmono.out k
    have hlk : (l[k]).data.toList.length ≤ 1000000 := by rw [h1, List.length_append] at h2; omega
    refine ⟨⟨(if k = 0 then [] else joinL (l.take k) sep ++ sep).toArray⟩, _, rfl, fun W => ?_, fun h0 => ?_, fun h0 => ?_, fun h0 W => ?_⟩
    · have hle : (if k = 0 then [] else joinL (l.take k) sep ++ sep).length + (l[k]).data.toList.length ≤ 9223372036854775807 := by
        split
        · rw [List.length_nil]; omega
        · rw [List.length_append]; omega
      have := mk_add _ _ hle W
      rw [mk_data, ← h1] at this
      exact this
    · subst h0; rw [hO]; rfl
    · subst h0
      rw [hO]
      by_cases h : k = 0
      · subst h; rfl
      · rw [if_neg h, List.append_nil]
    · rw [hO, mk_add _ _ (by omega) W, if_neg (by omega)])
  clear hstep hmono
  have hzero : Hid ((⟨#[]⟩ : ByteArray) = ⟨(joinL (l.take 0) sep).toArray⟩) := Lib.hid rfl
  replace hsx := Lib.hid hsx
  replace hsy := Lib.hid hsy
  replace hsf := Lib.hid hsf
  cases set with
  | false =>
    have hs2 : Hid (sep = [32]) := Lib.hid hsep.symm
    clear hsx hsy hsf hsep hne hsz
    go_enter Tryd.func11, Tryd.ntmps11
    go_wp2
    go_loop [7, 8] (fun o i => ∃ (O : ByteArray) (k : Nat), k ≤ l.length ∧ o = .string O ∧ i = .int .i64 k ∧ Hid (O = ⟨(joinL (l.take k) sep).toArray⟩)) (fun _ i => l.length - (intOf i).toNat)
    case atStart => exact ⟨_, 0, Nat.zero_le _, rfl, rfl, hzero⟩
    case round =>
      obtain ⟨O, k, hk, rfl, rfl, hO⟩ := hrel
      by_cases hlt : k < l.length
      · obtain ⟨b, off, rfl, hc0⟩ := hcell.out k hlt
        obtain ⟨T, O2, hO2, e2, hT0, _, e1⟩ := hadd.out k hlt O hO.out
        generalize l[k] = X at hc0 e2
        replace hO2 := Lib.hid hO2
        rw [hs2.out] at e1
        by_cases h0 : k = 0
        · subst h0
          obtain rfl := hT0 rfl
          rw [Nat.add_zero] at hc0
          clear hcell hadd hT0 e1
          go_wp2
          go_round
          case rel => exact ⟨O2, 1, by omega, rfl, rfl, hO2⟩
          case measure => simp [intOf]; omega
        · have h1 : 0 < k := by omega
          have e1 := e1 h1
          clear hcell hadd hT0 h0
          go_wp2
          go_round
          case rel => exact ⟨O2, k + 1, by omega, rfl, by go_num, hO2⟩
          case measure => simp [intOf]; omega
      · obtain rfl : k = l.length := by omega
        clear hcell hadd
        go_wp2
        go_ret
        exact ⟨ret_str (by rw [hO.out, List.take_length]), rfl⟩
  | true =>
    by_cases hs0 : s.size = 0
    · have hs2 : Hid (sep = []) := Lib.hid (hsep.symm.trans (hsx.out hs0))
      have hne2 : s.toList.isEmpty = true := by rw [hne, hs0]; rfl
      clear hsx hsy hsf hsep hne hsz hs0
      go_enter Tryd.func11, Tryd.ntmps11
      go_wp2
      go_loop [7, 8] (fun o i => ∃ (O : ByteArray) (k : Nat), k ≤ l.length ∧ o = .string O ∧ i = .int .i64 k ∧ Hid (O = ⟨(joinL (l.take k) sep).toArray⟩)) (fun _ i => l.length - (intOf i).toNat)
      case atStart => exact ⟨_, 0, Nat.zero_le _, rfl, rfl, hzero⟩
      case round =>
        obtain ⟨O, k, hk, rfl, rfl, hO⟩ := hrel
        by_cases hlt : k < l.length
        · obtain ⟨b, off, rfl, hc0⟩ := hcell.out k hlt
          obtain ⟨T, O2, hO2, e2, _, hT0, _⟩ := hadd.out k hlt O hO.out
          generalize l[k] = X at hc0 e2
          replace hO2 := Lib.hid hO2
          obtain rfl := hT0 hs2.out
          clear hcell hadd hT0
          by_cases h0 : k = 0
          · subst h0
            rw [Nat.add_zero] at hc0
            go_wp2
            go_round
            case rel => exact ⟨O2, 1, by omega, rfl, rfl, hO2⟩
            case measure => simp [intOf]; omega
          · have h1 : 0 < k := by omega
            clear h0
            go_wp2
            go_round
            case rel => exact ⟨O2, k + 1, by omega, rfl, by go_num, hO2⟩
            case measure => simp [intOf]; omega
        · obtain rfl : k = l.length := by omega
          clear hcell hadd
          go_wp2
          go_ret
          exact ⟨ret_str (by rw [hO.out, List.take_length]), rfl⟩
    · have hs2 : Hid (sep = (s.extract 0 1).data.toList) := Lib.hid (hsep.symm.trans hsy.out)
      have hne2 : s.toList.isEmpty = false := by rw [hne]; simp [hs0]
      have h1s : 0 < s.size := by omega
      have h2s : (1 : Int) ≤ s.size := by omega
      clear hsx hsy hsf hsep hne hsz hs0
      go_enter Tryd.func11, Tryd.ntmps11
      go_wp2
      go_loop [7, 8] (fun o i => ∃ (O : ByteArray) (k : Nat), k ≤ l.length ∧ o = .string O ∧ i = .int .i64 k ∧ Hid (O = ⟨(joinL (l.take k) sep).toArray⟩)) (fun _ i => l.length - (intOf i).toNat)
      case atStart => exact ⟨_, 0, Nat.zero_le _, rfl, rfl, hzero⟩
      case round =>
        obtain ⟨O, k, hk, rfl, rfl, hO⟩ := hrel
        by_cases hlt : k < l.length
        · obtain ⟨b, off, rfl, hc0⟩ := hcell.out k hlt
          obtain ⟨T, O2, hO2, e2, hT0, _, e1⟩ := hadd.out k hlt O hO.out
          generalize l[k] = X at hc0 e2
          replace hO2 := Lib.hid hO2
          rw [hs2.out, mk_data] at e1
          by_cases h0 : k = 0
          · subst h0
            obtain rfl := hT0 rfl
            rw [Nat.add_zero] at hc0
            clear hcell hadd hT0 e1
            go_wp2
            go_round
            case rel => exact ⟨O2, 1, by omega, rfl, rfl, hO2⟩
            case measure => simp [intOf]; omega
          · have h1 : 0 < k := by omega
            have e1 := e1 h1
            clear hcell hadd hT0 h0
            go_wp2
            go_round
            case rel => exact ⟨O2, k + 1, by omega, rfl, by go_num, hO2⟩
            case measure => simp [intOf]; omega
        · obtain rfl : k = l.length := by omega
          clear hcell hadd
          go_wp2
          go_ret
          exact ⟨ret_str (by rw [hO.out, List.take_length]), rfl⟩
end Go.Proofs.YtmoihdddmeienaaDoor
