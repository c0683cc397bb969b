/-
  The reference's Strip takes the bare bytes of a set off both ends. Conditions: at most a million bytes.
-/
import Derived.Test.YtdiiimcoannnnaaDoorMkTexts
import Derived.Test.YtdiiimcoannnnaaDoorMkRead
namespace Go.Proofs.YtdiiimcoannnnaaDoor
open Go Go.RowKit

def has (S : List UInt8) (b : UInt8) : Bool := S.contains b
/-- A bare byte of the set. -/
def inSet (S : List UInt8) (c : Ch) : Bool := !c.2 && has S c.1
def trimR (p : Ch → Bool) (l : List Ch) : List Ch := (l.reverse.dropWhile p).reverse
def stripL (S : List UInt8) (l : List Ch) : List Ch := trimR (inSet S) (l.dropWhile (inSet S))
theorem trimR_hit {p : Ch → Bool} {l : List Ch} {x : Ch} (h : p x = true) : trimR p (l ++ [x]) = trimR p l := by simp [trimR, h]
theorem trimR_stop {p : Ch → Bool} {l : List Ch} {x : Ch} (h : p x = false) : trimR p (l ++ [x]) = l ++ [x] := by simp [trimR, h]
theorem take_last {α : Type} {l : List α} {n : Nat} (h0 : 0 < n) (h : n ≤ l.length) : l.take n = l.take (n - 1) ++ [l[n - 1]'(by omega)] := by
  have := List.take_succ_eq_append_getElem (l := l) (i := n - 1) (by omega)
  rwa [show n - 1 + 1 = n by omega] at this
theorem dropWhile_hit {p : Ch → Bool} {l : List Ch} {k : Nat} (h : k < l.length) (hp : p l[k] = true) : (l.drop k).dropWhile p = (l.drop (k + 1)).dropWhile p := by
  rw [List.drop_eq_getElem_cons h, List.dropWhile_cons, if_pos hp]
theorem dropWhile_stop {p : Ch → Bool} {l : List Ch} {k : Nat} (h : k < l.length) (hp : p l[k] = false) : (l.drop k).dropWhile p = l.drop k := by
  rw [List.drop_eq_getElem_cons h, List.dropWhile_cons, if_neg (by simp [hp])]

theorem trim_step {p : Ch → Bool} {l : List Ch} {k n : Nat} (h : k < n) (hn : n ≤ l.length) (hp : p (l[n - 1]'(by omega)) = true) : trimR p ((l.drop k).take (n - k)) = trimR p ((l.drop k).take (n - 1 - k)) := by
  have h1 := take_last (l := l.drop k) (n := n - k) (by omega) (by rw [List.length_drop]; omega)
  have e : (l.drop k)[n - k - 1]'(by rw [List.length_drop]; omega) = l[n - 1]'(by omega) := by
    rw [List.getElem_drop]; congr 1; omega
  rw [h1, e, trimR_hit hp, show n - k - 1 = n - 1 - k by omega]
theorem trim_end {p : Ch → Bool} {l : List Ch} {k n : Nat} (hk : k ≤ n) (hn : n ≤ l.length) (hp : ∀ h : k < n, p (l[n - 1]'(by omega)) = false) : trimR p ((l.drop k).take (n - k)) = (l.drop k).take (n - k) := by
  rcases Nat.lt_or_ge k n with h | h
  · have h1 := take_last (l := l.drop k) (n := n - k) (by omega) (by rw [List.length_drop]; omega)
    have e : (l.drop k)[n - k - 1]'(by rw [List.length_drop]; omega) = l[n - 1]'(by omega) := by
      rw [List.getElem_drop]; congr 1; omega
    rw [h1, e, trimR_stop (hp h)]
  · rw [show n - k = 0 by omega]; rfl

theorem in_any (s : ByteArray) (b : UInt8) (w : World) (hs : s.size ≤ 1000000) :
    Calls Tryd.prog 42 #[.string s, .int .u8 (b.toNat : Int)] w fun e w' => e = .returned (.bool (has s.data.toList b)) ∧ w = w' := by
  go_enter Tryd.func42, Tryd.ntmps42
  go_wp2
  go_loop [5] (fun i => ∃ k : Nat, k ≤ s.size ∧ i = .int .i64 k ∧ Hid (has s.data.toList b = has (s.data.toList.drop k) b)) (fun i => s.size - (intOf i).toNat)
  case atStart => exact ⟨0, Nat.zero_le _, rfl, rfl⟩
  case round =>
    obtain ⟨k, hk, rfl, hc⟩ := hrel
    by_cases hlt : k < s.size
    · have hd := drop_at (byte_at s k hlt)
      by_cases hx : s[k] = b
      · have e : ((s[k].toNat : Int) == (b.toNat : Int)) = true := by rw [hx]; simp
        have ht : Hid (has s.data.toList b = true) := by
          have := hc.out
          rw [hd, hx] at this
          rw [Hid, this]; simp [has]
        clear hx hd
        go_wp2
        go_ret
        exact ⟨ret_bool ht.out.symm, rfl⟩
      · have e : ((s[k].toNat : Int) == (b.toNat : Int)) = false := by
          rw [beq_eq_false_iff_ne]; intro h; exact hx (UInt8.toNat.inj (by omega))
        have ht : Hid (has s.data.toList b = has (s.data.toList.drop (k + 1)) b) := by
          have := hc.out
          rw [hd] at this
          rw [Hid, this]
          have : (b == s[k]) = false := by rw [beq_eq_false_iff_ne]; exact fun h => hx h.symm
          simp only [has, List.contains_cons, this, Bool.false_or]
        clear hx hd
        go_wp2
        go_round
        case rel => exact ⟨k + 1, by omega, by go_num, ht.out⟩
        case measure => simp [intOf]; omega
    · have ht : Hid (has s.data.toList b = false) := by
        have := hc.out
        rw [List.drop_of_length_le (by rw [data_len]; omega)] at this
        rw [Hid, this]; rfl
      go_wp2
      go_ret
      exact ⟨ret_bool ht.out.symm, rfl⟩

theorem elemRCh : Tryd.prog.underlying 25 = some (.slice (Tryd.prog.elem 25)) := by kernel_rfl
theorem sizeRCh (W : World) : (sizeOf (Tryd.prog.elem 25)).run Tryd.prog W = .ok 2 W := by kernel_rfl

set_option maxHeartbeats 1000000 in
set_option maxRecDepth 100000 in
theorem rstrip_any (l : List Ch) (s : ByteArray) (v : Value) (B : Nat) (w : World) (ht : Tx w B v l) (hB : B ≤ w.heap.size) (_hl : l.length ≤ 1000000) (hs : s.size ≤ 1000000) :
    Calls Tryd.prog 27 #[v, .string s] w fun e w' => ∃ v', e = .returned v' ∧ Tx w' w'.heap.size v' (stripL s.data.toList l) ∧ Below w.heap.size w w' := by
  obtain ⟨A, c, rfl, hc, hcm⟩ := ht.form
  unfold maxLen at hcm
  go_enter Tryd.func27, Tryd.ntmps27
  go_wp2
  go_loop [5] (fun i => ∃ k : Nat, k ≤ l.length ∧ i = .int .i64 k ∧ Hid (l.dropWhile (inSet s.data.toList) = (l.drop k).dropWhile (inSet s.data.toList))) (fun i => l.length - (intOf i).toNat)
  case atStart => exact ⟨0, Nat.zero_le _, rfl, rfl⟩
  case round =>
    obtain ⟨k, hk, rfl, hd⟩ := hrel
    by_cases hgo : ∃ h : k < l.length, inSet s.data.toList l[k] = true
    · obtain ⟨hlt, hin⟩ := hgo
      obtain ⟨blk, off, rfl, hblk, g0, g1⟩ := ht.at_ hlt
      have hd2 := Lib.hid (hd.out.trans (dropWhile_hit hlt hin))
      generalize l[k] = z at g0 g1 hin
      obtain ⟨x, q⟩ := z
      simp only [inSet, Bool.and_eq_true, Bool.not_eq_true'] at hin
      obtain ⟨hq, hx⟩ := hin
      have hq : q = false := hq
      subst hq
      have HX := Lib.hid hx
      clear hx
      simp only at g0 g1
      go_wp2_with fail
      refine (in_any s x _ hs).mono ?_
      rintro e w1 ⟨rfl, rfl⟩
      rw [HX.out]
      go_wp2
      go_round
      case rel => exact ⟨k + 1, by omega, by go_num, hd2.out⟩
      case measure => simp [intOf]; omega
    · have hex : Hid (l.dropWhile (inSet s.data.toList) = l.drop k) := by
        rw [Hid, hd.out]
        by_cases hlt : k < l.length
        · exact dropWhile_stop hlt (by simpa using fun h => hgo ⟨hlt, h⟩)
        · rw [List.drop_of_length_le (by omega)]; rfl
      by_cases hlt : k < l.length
      case' pos =>
        have hat := ht.at_ hlt
        obtain ⟨blk, off, hA, hblk, g0, g1⟩ := hat
        have hno : inSet s.data.toList l[k] = false := by simpa using fun h => hgo ⟨hlt, h⟩
        generalize l[k] = z at g0 g1 hno
        obtain ⟨x, q⟩ := z
        simp only at g0 g1
        subst hA
        clear hgo
        cases q
        case' true =>
          clear hno
          go_wp2_with fail
        case' false =>
          have hx : Hid (has s.data.toList x = false) := by simpa [inSet, Hid] using hno
          clear hno
          go_wp2_with fail
          refine (in_any s x _ hs).mono ?_
          rintro e w1 ⟨rfl, rfl⟩
          rw [hx.out]
          clear hx
          go_wp2_with fail
      case' neg =>
        clear hgo
        go_wp2_with fail
      all_goals
        go_loop [6] (fun i => ∃ n : Nat, k ≤ n ∧ n ≤ l.length ∧ i = .int .i64 n ∧ Hid (trimR (inSet s.data.toList) (l.drop k) = trimR (inSet s.data.toList) ((l.drop k).take (n - k)))) (fun i => (intOf i).toNat)
        case atStart => exact ⟨l.length, hk, Nat.le_refl _, rfl, by rw [List.take_of_length_le (by rw [List.length_drop]; omega)]; rfl⟩
        case round =>
          obtain ⟨n, hkn, hn, rfl, htr⟩ := hrel
          by_cases hgo2 : ∃ h : k < n, inSet s.data.toList (l[n - 1]'(by omega)) = true
          · obtain ⟨hlt2, hin⟩ := hgo2
            first
              | (exfalso; omega)
              | (obtain ⟨blk2, off2, hA2, hblk2, f0, f1⟩ := ht.at_ (k := n - 1) (by omega)
                 have htr2 := Lib.hid (htr.out.trans (trim_step (l := l) hlt2 hn hin))
                 generalize (l[n - 1]'(by omega)) = z at f0 f1 hin
                 obtain ⟨x2, q2⟩ := z
                 simp only [inSet, Bool.and_eq_true, Bool.not_eq_true'] at hin
                 obtain ⟨hq, hx2⟩ := hin
                 have hq : q2 = false := hq
                 subst hq
                 have HX2 := Lib.hid hx2
                 clear hx2
                 simp only at f0 f1
                 try (cases hA2)
                 go_wp2_with fail
                 refine (in_any s x2 _ hs).mono ?_
                 rintro e w1 ⟨rfl, rfl⟩
                 rw [HX2.out]
                 go_wp2
                 go_round
                 case rel => exact ⟨n - 1, by omega, by omega, by go_num, htr2.out⟩
                 case measure => simp [intOf]; omega)
          · have hres : Hid (stripL s.data.toList l = (l.drop k).take (n - k)) := by
              rw [Hid, stripL, hex.out, htr.out]
              exact trim_end hkn hn (fun h => by simpa using fun h2 => hgo2 ⟨h, h2⟩)
            obtain ⟨v9, hr9, ht9⟩ := cut_lh elemRCh sizeRCh ht hkn hn
            rw [← hres.out] at ht9
            have ht9 := ht9.more hB
            clear hd hex htr
            by_cases hlt2 : k < n
            case' pos =>
              first
                | (exfalso; omega)
                | (obtain ⟨blk2, off2, hA2, hblk2, f0, f1⟩ := ht.at_ (k := n - 1) (by omega)
                   have hno2 : inSet s.data.toList (l[n - 1]'(by omega)) = false := by simpa using fun h2 => hgo2 ⟨hlt2, h2⟩
                   generalize (l[n - 1]'(by omega)) = z at f0 f1 hno2
                   obtain ⟨x2, q2⟩ := z
                   simp only at f0 f1
                   cases hA2
                   clear hgo2
                   cases q2
                   case' true =>
                     clear hno2
                     go_wp2
                   case' false =>
                     have hx2 : Hid (has s.data.toList x2 = false) := by simpa [inSet, Hid] using hno2
                     clear hno2
                     go_wp2_with fail
                     refine (in_any s x2 _ hs).mono ?_
                     rintro e w1 ⟨rfl, rfl⟩
                     rw [hx2.out]
                     clear hx2
                     go_wp2)
            case' neg =>
              clear hgo2
              go_wp2
            all_goals
              go_ret
              exact ⟨_, rfl, ht9, Below.refl _ _⟩
end Go.Proofs.YtdiiimcoannnnaaDoor
