/-
  The package's Join and the document's answer to it. Conditions: at most a million arguments, and a million bytes when they are joined.
-/
import Derived.Test.YtmoihdddmeienaaGreatDoorPaArg
import Derived.Lib.Join
import Derived.Laws.Concat
namespace Go.Proofs.YtmoihdddmeienaaGreatDoor
open Go Go.RowKit

/-- What stands between two arguments. -/
def sepP (s : List UInt8) (set : Bool) : List UInt8 := if set then s.take 1 else [32]
def joinL (l : List ByteArray) (sep : List UInt8) : List UInt8 := Lib.join (l.map (·.data.toList)) sep
def joinP (l : List ByteArray) (sep : List UInt8) : ByteArray := ⟨(joinL l sep).toArray⟩
theorem joinTail_append (sep : List UInt8) (a b : List (List UInt8)) : Lib.joinTail sep (a ++ b) = Lib.joinTail sep a ++ Lib.joinTail sep b := by simp [Lib.joinTail]
theorem joinL_snoc (l : List ByteArray) (x : ByteArray) (sep : List UInt8) (h : l ≠ []) : joinL (l ++ [x]) sep = joinL l sep ++ sep ++ x.data.toList := by
  cases l with
  | nil => exact absurd rfl h
  | cons y r =>
    unfold joinL
    simp only [List.cons_append, List.map_cons, Lib.join_cons, List.map_append, joinTail_append, List.map_nil]
    simp [Lib.joinTail, List.append_assoc]
theorem joinL_one (x : ByteArray) (sep : List UInt8) : joinL [x] sep = x.data.toList := Lib.join_one _ _
theorem joinL_mono (l : List ByteArray) (sep : List UInt8) (k : Nat) : (joinL (l.take k) sep).length ≤ (joinL l sep).length := by
  cases l with
  | nil => simp
  | cons y r =>
    cases k with
    | zero => simp [joinL, Lib.join_nil]
    | succ k =>
      unfold joinL
      rw [List.take_succ_cons, List.map_cons, List.map_cons, Lib.join_cons, Lib.join_cons, List.length_append, List.length_append]
      have := Lib.joinTail_take_le sep (r.map (·.data.toList)) k
      rw [← List.map_take] at this
      omega

section
variable (l : List ByteArray) (v : Value) (B : Nat) (w : World)
/-- strings.Join of any slice of strings. -/
theorem sJoin_any (sep : ByteArray) (ht : Ls w B v l) (hB : B ≤ w.heap.size) (hl : l.length ≤ 1000000) (hlen : (joinL l sep.data.toList).length ≤ 1000000) :
    Calls Tryz.prog 19 #[v, .string sep] w fun e w' => e = .returned (.string (joinP l sep.data.toList)) ∧ Below w.heap.size w w' := by
  obtain ⟨A, c, rfl, hc, hcm⟩ := ht.form
  by_cases h0 : l.length = 0
  · obtain rfl := List.eq_nil_of_length_eq_zero h0
    exact (Tryz.strings_Join_none A c sep w).mono fun e w' ⟨he, hw⟩ => ⟨he, hw ▸ Below.refl _ _⟩
  · obtain ⟨b, off, rfl, hbB, hcell⟩ := ht.at_ (by omega)
    refine Tryz.strings_Join b off c l sep w (fun j x hx => ?_) (by omega) (by omega) hc (by unfold joinL at hlen; omega)
    obtain ⟨hj, e⟩ := List.getElem?_eq_some_iff.1 hx
    rw [← e]
    exact hcell j hj

set_option maxHeartbeats 1000000 in
set_option maxRecDepth 100000 in
theorem join_any (s : ByteArray) (set : Bool) (ht : Ls w B v l) (hB : B ≤ w.heap.size) (hs : s.size ≤ 1000000) (hl : l.length ≤ 1000000) (hlen : (joinL l (sepP (bl s) set)).length ≤ 1000000) :
    Calls Tryz.prog 11 #[v, .string s, .bool set] w fun e w' => e = .returned (.string (joinP l (sepP (bl s) set))) ∧ Below w.heap.size w w' := by
  obtain ⟨A, c, rfl, hc, hcm⟩ := ht.form
  cases set with
  | false =>
    have hj := sJoin_any l _ B w ⟨#[32]⟩ ht hB hl hlen
    have hsep : sepP (bl s) false = (⟨#[32]⟩ : ByteArray).data.toList := rfl
    rw [hsep]
    generalize joinP l (⟨#[32]⟩ : ByteArray).data.toList = r at hj ⊢
    clear ht hlen hsep
    have hx : (⟨#[32]⟩ : ByteArray).extract 0 1 = ⟨#[32]⟩ := by decide +kernel
    go_enter Tryz.func11, Tryz.ntmps11
    go_wp2_with fail
    refine hj.mono ?_
    rintro e w1 ⟨rfl, hb⟩
    go_wp2
    go_ret
    exact ⟨rfl, hb⟩
  | true =>
    by_cases h0 : s.size = 0
    · obtain rfl : s = ⟨#[]⟩ := ByteArray.ext (Array.eq_empty_of_size_eq_zero h0)
      have hj := sJoin_any l _ B w ⟨#[]⟩ ht hB hl hlen
      have hsep : sepP (bl ⟨#[]⟩) true = (⟨#[]⟩ : ByteArray).data.toList := rfl
      rw [hsep]
      generalize joinP l (⟨#[]⟩ : ByteArray).data.toList = r at hj ⊢
      clear ht hlen hsep h0
      have hx : (⟨#[]⟩ : ByteArray).extract 0 0 = ⟨#[]⟩ := by decide +kernel
      go_enter Tryz.func11, Tryz.ntmps11
      go_wp2_with fail
      refine hj.mono ?_
      rintro e w1 ⟨rfl, hb⟩
      go_wp2
      go_ret
      exact ⟨rfl, hb⟩
    · have hsep : sepP (bl s) true = (s.extract 0 1).data.toList := (bl_upto s 1).symm
      have hj := sJoin_any l _ B w (s.extract 0 1) ht hB hl (by rw [← hsep]; exact hlen)
      rw [hsep]
      generalize joinP l (s.extract 0 1).data.toList = r at hj ⊢
      clear ht hlen hsep
      have h1 : 0 < s.size := by omega
      have h2 : (1 : Int) ≤ s.size := by omega
      have h3 : min (s.size : Int) 1 = 1 := by omega
      go_enter Tryz.func11, Tryz.ntmps11
      go_wp2_with fail
      refine hj.mono ?_
      rintro e w1 ⟨rfl, hb⟩
      go_wp2
      go_ret
      exact ⟨rfl, hb⟩
end

/-- One more string behind what is joined. -/
theorem mk_add (x y : List UInt8) (h : x.length + y.length ≤ 9223372036854775807) (W : World) : (Op.stringOp .add ⟨x.toArray⟩ ⟨y.toArray⟩).run Tryz.prog W = .ok (.string ⟨(x ++ y).toArray⟩) W := by
  rw [run_string_add_sum W _ _ (by simpa [ByteArray.size] using h), ByteArray.mk_append_mk]
theorem mk_data (x : ByteArray) : (⟨x.data.toList.toArray⟩ : ByteArray) = x := by simp

end Go.Proofs.YtmoihdddmeienaaGreatDoor
