/-
  The package's Trim: what is left of a value without the beginning, or end, that a pattern fits. Conditions: at most 4096 bytes and a million marked bytes.
-/
import Derived.Test.YtmoihdddmeienaaDoorGbTail
namespace Go.Proofs.YtmoihdddmeienaaDoor
open Go Go.RowKit

theorem pick_ge (f : Nat → Bool) (lg : Bool) (n : Nat) : -1 ≤ pickI f lg n := by
  rcases pickI_spec f lg n with ⟨h1, _⟩ | ⟨m, _, h1, _⟩ <;> omega
theorem headI_in (p : List It) (s : ByteArray) (lg : Bool) : -1 ≤ headI p (bl s) lg ∧ headI p (bl s) lg ≤ s.size := by
  refine ⟨pick_ge _ _ _, ?_⟩
  have := pickI_lt (fun n => mt p ((bl s).take n)) lg ((bl s).length + 1)
  rw [bl_len] at this
  unfold headI
  rw [bl_len]
  omega
theorem tailI_in (p : List It) (s : ByteArray) (lg : Bool) : -1 ≤ tailI p (bl s) lg ∧ tailI p (bl s) lg ≤ s.size := by
  refine ⟨pick_ge _ _ _, ?_⟩
  have := pickI_lt (fun n => mt p ((bl s).drop ((bl s).length - n))) lg ((bl s).length + 1)
  unfold tailI
  rw [bl_len] at this ⊢
  omega
theorem len_step (c : Prop) [Decidable c] (y : It) (out : List It) : (if c then out else out ++ [y]).length ≤ out.length + 1 := by
  split <;> simp
theorem compF_count (path : Bool) (l : List Ch) (f k : Nat) (out : List It) : (compF path l f k out).length ≤ out.length + (l.length - k) := by
  induction f generalizing k out with
  | zero => simp [compF]
  | succ f ih =>
    simp only [compF]
    split
    · omega
    · rename_i hk
      have hp := itemP_pos (path := path) (l := l) (k := k) (by omega)
      refine Nat.le_trans (ih _ _) (Nat.le_trans (Nat.add_le_add_right (len_step _ _ _) _) ?_)
      omega
theorem compileP_len (path : Bool) (l : List Ch) : (compileP path l).length ≤ l.length := by
  have := compF_count path l (l.length + 1) 0 []
  unfold compileP
  simpa using this
def cutH (n : Int) (s : ByteArray) : ByteArray := if 0 ≤ n then s.extract n.toNat s.size else s
def cutT (n : Int) (s : ByteArray) : ByteArray := if 0 ≤ n then s.extract 0 (s.size - n.toNat) else s
/-- What Trim leaves: k is 0 (Head), 1 (Heads), 2 (Tail) or 3 (Tails). -/
def leftP (k : Nat) (p : List It) (s : ByteArray) : ByteArray :=
  match k with
  | 0 => cutH (headI p (bl s) false) s
  | 1 => cutH (headI p (bl s) true) s
  | 2 => cutT (tailI p (bl s) false) s
  | _ => cutT (tailI p (bl s) true) s

section
variable (p : List It) (v : Value) (s : ByteArray) (w : World)
set_option maxHeartbeats 1000000 in
set_option maxRecDepth 100000 in
theorem trimH_any (lg : Bool) (op : Int) (hop : op = if lg then 7 else 6) (ht : Its w w.heap.size v p) (hl : p.length ≤ 999999) (hs : s.size ≤ 1000000) :
    Calls Tryd.prog 24 #[.int .i64 op, .string s, v] w fun e w' => e = .returned (.string (cutH (headI p (bl s) lg) s)) ∧ Below w.heap.size w w' := by
  have hc := headG_any p v s lg _ w ht (Nat.le_refl _) hl hs
  obtain ⟨hm1, hm2⟩ := headI_in p s lg
  obtain ⟨A0, c0, rfl, _, _⟩ := ht.form
  generalize headI p (bl s) lg = m at hc hm1 hm2 ⊢
  unfold cutH
  by_cases h0 : 0 ≤ m
  · obtain ⟨n, rfl⟩ : ∃ n : Nat, m = n := ⟨m.toNat, by omega⟩
    rw [if_pos h0, Int.toNat_natCast]
    cases lg
    all_goals
      simp only [Bool.false_eq_true, if_false, if_true] at hop
      subst hop
      go_enter Tryd.func24, Tryd.ntmps24
      go_wp2_with fail
      refine hc.mono ?_
      rintro e w1 ⟨rfl, hb⟩
      go_wp2
      go_ret
      exact ⟨rfl, hb⟩
  · rw [if_neg h0]
    cases lg
    all_goals
      simp only [Bool.false_eq_true, if_false, if_true] at hop
      subst hop
      go_enter Tryd.func24, Tryd.ntmps24
      go_wp2_with fail
      refine hc.mono ?_
      rintro e w1 ⟨rfl, hb⟩
      go_wp2
      go_ret
      exact ⟨rfl, hb⟩
set_option maxHeartbeats 1000000 in
set_option maxRecDepth 100000 in
theorem trimT_any (lg : Bool) (op : Int) (hop : op = if lg then 9 else 8) (ht : Its w w.heap.size v p) (hl : p.length ≤ 999999) (hs : s.size ≤ 1000000) :
    Calls Tryd.prog 24 #[.int .i64 op, .string s, v] w fun e w' => e = .returned (.string (cutT (tailI p (bl s) lg) s)) ∧ Below w.heap.size w w' := by
  have hc := tailG_any p v s lg w ht hl hs
  obtain ⟨hm1, hm2⟩ := tailI_in p s lg
  obtain ⟨A0, c0, rfl, _, _⟩ := ht.form
  generalize tailI p (bl s) lg = m at hc hm1 hm2 ⊢
  unfold cutT
  by_cases h0 : 0 ≤ m
  · obtain ⟨n, rfl⟩ : ∃ n : Nat, m = n := ⟨m.toNat, by omega⟩
    rw [if_pos h0, Int.toNat_natCast]
    obtain ⟨k, hk⟩ : ∃ k : Nat, s.size - n = k := ⟨_, rfl⟩
    rw [hk]
    have hk1 : (s.size : Int) - n = k := by omega
    have hk2 : k ≤ s.size := by omega
    clear hk
    replace hk1 := Lib.hid hk1
    cases lg
    all_goals
      simp only [Bool.false_eq_true, if_false, if_true] at hop
      subst hop
      go_enter Tryd.func24, Tryd.ntmps24
      go_wp2_with fail
      refine hc.mono ?_
      rintro e w1 ⟨rfl, hb⟩
      have hk3 := hk1.out
      go_wp2
      go_ret
      exact ⟨rfl, hb⟩
  · rw [if_neg h0]
    cases lg
    all_goals
      simp only [Bool.false_eq_true, if_false, if_true] at hop
      subst hop
      go_enter Tryd.func24, Tryd.ntmps24
      go_wp2_with fail
      refine hc.mono ?_
      rintro e w1 ⟨rfl, hb⟩
      go_wp2
      go_ret
      exact ⟨rfl, hb⟩
theorem trimmed_any (k : Nat) (hk : k ≤ 3) (ht : Its w w.heap.size v p) (hl : p.length ≤ 999999) (hs : s.size ≤ 1000000) :
    Calls Tryd.prog 24 #[.int .i64 (6 + (k : Int)), .string s, v] w fun e w' => e = .returned (.string (leftP k p s)) ∧ Below w.heap.size w w' := by
  rcases (by omega : k = 0 ∨ k = 1 ∨ k = 2 ∨ k = 3) with rfl | rfl | rfl | rfl
  · exact trimH_any p v s w false 6 rfl ht hl hs
  · exact trimH_any p v s w true 7 rfl ht hl hs
  · exact trimT_any p v s w false 8 rfl ht hl hs
  · exact trimT_any p v s w true 9 rfl ht hl hs
end
section
variable (t : List Ch) (v : Value) (s : ByteArray) (w : World)
set_option maxHeartbeats 1000000 in
set_option maxRecDepth 100000 in
theorem trim_any (k : Nat) (hk : k ≤ 3) (ht : Tx w w.heap.size v t) (hl : t.length ≤ 999999) (hs : s.size ≤ 4096) :
    Calls Tryd.prog 14 #[.int .i64 (6 + (k : Int)), .string s, v] w fun e w' => e = .returned (.tuple #[.string (leftP k (compileP false t) s), .int .i64 0]) ∧ Below w.heap.size w w' := by
  obtain ⟨A0, c0, rfl, _, _⟩ := ht.form
  have hcm := compile_any t false _ w ht (by omega)
  have hpl : (compileP false t).length ≤ 999999 := Nat.le_trans (compileP_len false t) hl
  have htr := fun V W hW => trimmed_any (compileP false t) V s W k hk hW hpl (by omega)
  generalize leftP k (compileP false t) s = r at htr ⊢
  obtain ⟨o, ho⟩ : ∃ o : Int, 6 + (k : Int) = o := ⟨_, rfl⟩
  rw [ho] at htr ⊢
  have h1 : 6 ≤ o := by omega
  have h2 : o ≤ 9 := by omega
  clear ho
  go_enter Tryd.func14, Tryd.ntmps14
  go_wp2_with fail
  refine hcm.mono ?_
  rintro e w1 ⟨v1, rfl, hits, hb⟩
  clear hcm
  go_wp2_with fail
  refine (htr _ _ hits).mono ?_
  rintro e w2 ⟨rfl, hb2⟩
  clear htr
  go_wp2
  go_ret2
  exact ⟨rfl, hb.trans (hb2.mono hb.size)⟩
set_option maxHeartbeats 1000000 in
set_option maxRecDepth 100000 in
theorem trim_op (op : Int) (h : op < 6 ∨ 9 < op) (A : Option Addr) (n c : Nat) :
    Calls Tryd.prog 14 #[.int .i64 op, .string s, .slice A n c] w fun e w' => e = .returned (.tuple #[.string ⟨#[]⟩, .int .i64 1]) ∧ w = w' := by
  rcases h with h | h
  · go_enter Tryd.func14, Tryd.ntmps14
    go_wp2
    go_ret2
    exact ⟨rfl, rfl⟩
  · have h1 : ¬ op < 6 := by omega
    go_enter Tryd.func14, Tryd.ntmps14
    go_wp2
    go_ret2
    exact ⟨rfl, rfl⟩
set_option maxHeartbeats 1000000 in
set_option maxRecDepth 100000 in
theorem trim_big (op : Int) (h1 : 6 ≤ op) (h2 : op ≤ 9) (A : Option Addr) (n c : Nat) (hs : 4096 < s.size) (hs2 : s.size ≤ 1000000) :
    Calls Tryd.prog 14 #[.int .i64 op, .string s, .slice A n c] w fun e w' => e = .returned (.tuple #[.string ⟨#[]⟩, .int .i64 21]) ∧ w = w' := by
  go_enter Tryd.func14, Tryd.ntmps14
  go_wp2
  go_ret2
  exact ⟨rfl, rfl⟩
end
end Go.Proofs.YtmoihdddmeienaaDoor
