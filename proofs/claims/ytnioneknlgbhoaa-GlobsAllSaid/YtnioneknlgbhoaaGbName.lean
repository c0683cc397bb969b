/-
  The first item of a kind; Special; a name of a path; Path. Conditions: at most a million items and bytes.
-/
import Derived.Test.YtnioneknlgbhoaaGbWhole
import Derived.Test.YtnioneknlgbhoaaGbPathPure
import Derived.Test.YtnioneknlgbhoaaMkShelf
namespace Go.Proofs.Ytnioneknlgbhoaa
open Go Go.RowKit

/-- The place of the first item that p tells; -1, if none is told. -/
def idxI (f : It → Bool) (p : List It) : Int := if p.findIdx f < p.length then (p.findIdx f : Int) else -1
theorem findIdx_go {f : It → Bool} {p : List It} {k : Nat} (h : k ≤ p.findIdx f) (hk : k < p.length) (hm : f p[k] = false) : k + 1 ≤ p.findIdx f := by
  rcases Nat.lt_or_ge k (p.findIdx f) with h1 | h1
  · exact h1
  · have e : p.findIdx f = k := by omega
    have := List.findIdx_getElem (xs := p) (p := f) (w := by omega)
    simp only [e, hm] at this
    cases this
theorem findIdx_at {f : It → Bool} {p : List It} {k : Nat} (h : k ≤ p.findIdx f) (hk : k < p.length) (hm : f p[k] = true) : p.findIdx f = k := by
  rcases Nat.lt_or_ge k (p.findIdx f) with h1 | h1
  · have := List.not_of_lt_findIdx (xs := p) (p := f) h1
    simp [hm] at this
  · omega
theorem idxI_at {f : It → Bool} {p : List It} {k : Nat} (h : k ≤ p.findIdx f) (hk : k < p.length) (hm : f p[k] = true) : idxI f p = k := by
  have := findIdx_at h hk hm
  simp [idxI, this, hk]
theorem idxI_none {f : It → Bool} {p : List It} (h : p.length ≤ p.findIdx f) : idxI f p = -1 := by simp [idxI, Nat.not_lt.2 h]
def notOne (x : It) : Bool := decide (¬ x.1 = 1)

theorem special1_any (x : It) (A : Option Addr) (n c : Nat) (w : World) :
    Calls Try.prog 36 #[.agg #[.int .i64 x.1, .int .u8 (x.2.1.toNat : Int), .bool x.2.2.1, .slice A n c]] w fun e w' => e = .returned (.bool (notOne x)) ∧ Below w.heap.size w w' := by
  go_enter Try.func36, Try.ntmps36
  by_cases h : x.1 = 1
  · go_wp2
    go_ret
    exact ⟨ret_bool (by simp [notOne, h]), (Below.refl _ _).alloc (Nat.le_refl _) _⟩
  · go_wp2
    go_ret
    exact ⟨ret_bool (by simp [notOne, h]), (Below.refl _ _).alloc (Nat.le_refl _) _⟩
theorem path1_any (x : It) (A : Option Addr) (n c : Nat) (w : World) :
    Calls Try.prog 40 #[.agg #[.int .i64 x.1, .int .u8 (x.2.1.toNat : Int), .bool x.2.2.1, .slice A n c]] w fun e w' => e = .returned (.bool (isSl x)) ∧ Below w.heap.size w w' := by
  go_enter Try.func40, Try.ntmps40
  by_cases h : x.1 = 1
  · by_cases h2 : x.2.1 = 47
    · have hi : (x.2.1.toNat : Int) = 47 := by rw [h2]; rfl
      go_wp2
      go_ret
      exact ⟨ret_bool (by simp [isSl, h, h2]), (Below.refl _ _).alloc (Nat.le_refl _) _⟩
    · have hi : ¬ (x.2.1.toNat : Int) = 47 := fun e => h2 (UInt8.toNat.inj (by have : ((47 : UInt8).toNat : Int) = 47 := rfl; omega))
      go_wp2
      go_ret
      exact ⟨ret_bool (by simp only [isSl, h, decide_true, Bool.true_and]; rw [beq_eq_false_iff_ne.2 hi, beq_eq_false_iff_ne.2 h2]), (Below.refl _ _).alloc (Nat.le_refl _) _⟩
  · go_wp2
    go_ret
    exact ⟨ret_bool (by simp [isSl, h]), (Below.refl _ _).alloc (Nat.le_refl _) _⟩

theorem entersSpecial : ∀ args w, (callFunc 36 args).run Try.prog w = .ok (.enter 36 args) w := enters_of Try.func36 (by kernel_rfl) rfl
theorem entersPath : ∀ args w, (callFunc 40 args).run Try.prog w = .ok (.enter 40 args) w := enters_of Try.func40 (by kernel_rfl) rfl

set_option maxHeartbeats 1000000 in
set_option maxRecDepth 100000 in
theorem indexSpecial_any (l : List It) (v : Value) (B : Nat) (w : World) (ht : Its w B v l) (hB : B ≤ w.heap.size) (_hl : l.length ≤ 1000000) :
    Calls Try.prog 41 #[v, .func (.func 36) #[] #[]] w fun e w' => e = .returned (.int .i64 (idxI notOne l)) ∧ Below w.heap.size w w' := by
  obtain ⟨A, c, rfl, hc, hcm⟩ := ht.form
  unfold maxLen at hcm
  have eg := entersSpecial
  go_enter Try.func41, Try.ntmps41
  go_wp2
  go_loopw [8] (fun i wr => ∃ k : Nat, k ≤ l.length ∧ Hid (k ≤ l.findIdx notOne) ∧ i = .int .i64 k ∧ Below w.heap.size w wr) (fun i _ => l.length - (intOf i).toNat)
  case atStart => exact ⟨0, Nat.zero_le _, Nat.zero_le _, rfl, Below.refl _ _⟩
  case round =>
    obtain ⟨k, hk, hkf, rfl, hb⟩ := hrel
    have hsz := hb.size
    by_cases hlt : k < l.length
    · obtain ⟨blk, off, u, rfl, hblk, g0, g1, g2, g3, hrg⟩ := ((ht.more hB).below hb).at_ hlt
      have hgo := Lib.hid (fun h => findIdx_go hkf.out hlt h)
      have hat := Lib.hid (fun h => idxI_at hkf.out hlt h)
      obtain ⟨A2, c2, rfl, _, _⟩ := hrg.form
      generalize l[k] = z at g0 g1 g2 g3 hgo hat
      have hcall := special1_any z A2 z.2.2.2.length c2 wr
      cases hq : notOne z with
      | true =>
        rw [hq] at hcall
        have hi := Lib.hid (hat.out hq)
        clear hq hgo hat
        go_wp2_with (go_at_fn 36; refine hcall.mono ?_; rintro e w' ⟨rfl, hb'⟩)
        go_ret
        exact ⟨ret_int hi.out.symm, hb.trans (hb'.mono hsz)⟩
      | false =>
        rw [hq] at hcall
        have hi := Lib.hid (hgo.out hq)
        clear hq hgo hat
        go_wp2_with (go_at_fn 36; refine hcall.mono ?_; rintro e w' ⟨rfl, hb'⟩)
        go_roundw
        case rel => exact ⟨k + 1, by omega, hi.out, by go_num, hb.trans (hb'.mono hsz)⟩
        case measure => simp [intOf]; omega
    · have hi := Lib.hid (idxI_none (f := notOne) (p := l) (by have := hkf.out; omega))
      go_wp2
      go_ret
      exact ⟨ret_int hi.out.symm, hb⟩
set_option maxHeartbeats 1000000 in
set_option maxRecDepth 100000 in
theorem indexPath_any (l : List It) (v : Value) (B : Nat) (w : World) (ht : Its w B v l) (hB : B ≤ w.heap.size) (_hl : l.length ≤ 1000000) :
    Calls Try.prog 41 #[v, .func (.func 40) #[] #[]] w fun e w' => e = .returned (.int .i64 (idxI isSl l)) ∧ Below w.heap.size w w' := by
  obtain ⟨A, c, rfl, hc, hcm⟩ := ht.form
  unfold maxLen at hcm
  have eg := entersPath
  go_enter Try.func41, Try.ntmps41
  go_wp2
  go_loopw [8] (fun i wr => ∃ k : Nat, k ≤ l.length ∧ Hid (k ≤ l.findIdx isSl) ∧ i = .int .i64 k ∧ Below w.heap.size w wr) (fun i _ => l.length - (intOf i).toNat)
  case atStart => exact ⟨0, Nat.zero_le _, Nat.zero_le _, rfl, Below.refl _ _⟩
  case round =>
    obtain ⟨k, hk, hkf, rfl, hb⟩ := hrel
    have hsz := hb.size
    by_cases hlt : k < l.length
    · obtain ⟨blk, off, u, rfl, hblk, g0, g1, g2, g3, hrg⟩ := ((ht.more hB).below hb).at_ hlt
      have hgo := Lib.hid (fun h => findIdx_go hkf.out hlt h)
      have hat := Lib.hid (fun h => idxI_at hkf.out hlt h)
      obtain ⟨A2, c2, rfl, _, _⟩ := hrg.form
      generalize l[k] = z at g0 g1 g2 g3 hgo hat
      have hcall := path1_any z A2 z.2.2.2.length c2 wr
      cases hq : isSl z with
      | true =>
        rw [hq] at hcall
        have hi := Lib.hid (hat.out hq)
        clear hq hgo hat
        go_wp2_with (go_at_fn 40; refine hcall.mono ?_; rintro e w' ⟨rfl, hb'⟩)
        go_ret
        exact ⟨ret_int hi.out.symm, hb.trans (hb'.mono hsz)⟩
      | false =>
        rw [hq] at hcall
        have hi := Lib.hid (hgo.out hq)
        clear hq hgo hat
        go_wp2_with (go_at_fn 40; refine hcall.mono ?_; rintro e w' ⟨rfl, hb'⟩)
        go_roundw
        case rel => exact ⟨k + 1, by omega, hi.out, by go_num, hb.trans (hb'.mono hsz)⟩
        case measure => simp [intOf]; omega
    · have hi := Lib.hid (idxI_none (f := isSl) (p := l) (by have := hkf.out; omega))
      go_wp2
      go_ret
      exact ⟨ret_int hi.out.symm, hb⟩

def specialP (l : List It) : Bool := l.any notOne
theorem special_idx (l : List It) : (0 ≤ idxI notOne l) ↔ specialP l = true := by
  unfold idxI specialP
  rw [List.any_eq_true]
  constructor
  · intro h
    split at h
    · rename_i hlt
      exact ⟨l[l.findIdx notOne], List.getElem_mem _, List.findIdx_getElem⟩
    · omega
  · rintro ⟨x, hx, h⟩
    rw [if_pos (List.findIdx_lt_length_of_exists ⟨x, hx, h⟩)]
    omega

set_option maxHeartbeats 1000000 in
set_option maxRecDepth 100000 in
theorem special_any (l : List It) (v : Value) (B : Nat) (w : World) (ht : Its w B v l) (hB : B ≤ w.heap.size) (hl : l.length ≤ 1000000) :
    Calls Try.prog 18 #[v] w fun e w' => e = .returned (.bool (specialP l)) ∧ Below w.heap.size w w' := by
  have h1 : Calls Try.prog 35 #[v, .func (.func 36) #[] #[]] w fun e w' => e = .returned (.bool (specialP l)) ∧ Below w.heap.size w w' := by
    have hx := special_idx l
    have hc := indexSpecial_any l v B w ht hB hl
    generalize idxI notOne l = i at hx hc
    go_enter Try.func35, Try.ntmps35
    go_wp2_with fail
    refine hc.mono ?_
    rintro e w' ⟨rfl, hb'⟩
    go_wp2
    go_ret
    exact ⟨ret_bool (by first | rfl | (rw [Bool.eq_iff_iff, decide_eq_true_eq]; exact hx) | simp), hb'⟩
  go_enter Try.func18, Try.ntmps18
  go_wp2_with fail
  refine h1.mono ?_
  rintro e w' ⟨rfl, hb'⟩
  go_wp2
  go_ret
  exact ⟨rfl, hb'⟩

set_option maxHeartbeats 1000000 in
theorem hasDot_any (s : ByteArray) (w : World) (hs : s.size ≤ 1000000) :
    Calls Try.prog 60 #[.string s, .string ⟨#[46]⟩] w fun e w' => e = .returned (.bool (decide ((bl s).head? = some 46))) ∧ w' = w := by
  have h1 : Calls Try.prog 68 #[.string s, .string ⟨#[46]⟩] w fun e w' => e = .returned (.bool (decide ((bl s).head? = some 46))) ∧ w' = w := by
    go_enter Try.func68, Try.ntmps68
    by_cases h : 1 ≤ s.size
    · go_wp2
      go_ret
      refine ⟨ret_bool ?_, rfl⟩
      rw [Lib.toList_data]
      show (bl (s.extract 0 1) == [46]) = _
      rw [bl_upto]
      cases bl s with
      | nil => rfl
      | cons b t => rw [Bool.eq_iff_iff]; simp
    · go_wp2
      go_ret
      refine ⟨ret_bool ?_, rfl⟩
      have : bl s = [] := List.eq_nil_of_length_eq_zero (by rw [bl_len]; omega)
      simp [this]
  go_enter Try.func60, Try.ntmps60
  go_wp2_with fail
  refine h1.mono ?_
  rintro e w' ⟨rfl, rfl⟩
  go_wp2
  go_ret
  exact ⟨rfl, rfl⟩
theorem elemIt : Try.prog.underlying 24 = some (.slice (Try.prog.elem 24)) := by kernel_rfl
theorem sizeIt (W : World) : (sizeOf (Try.prog.elem 24)).run Try.prog W = .ok 4 W := by kernel_rfl

set_option maxHeartbeats 2000000 in
set_option maxRecDepth 100000 in
theorem name_any (p : List It) (v : Value) (s : ByteArray) (B : Nat) (w : World) (ht : Its w B v p) (hB : B ≤ w.heap.size) (hl : p.length ≤ 999999) (hs : s.size ≤ 1000000) :
    Calls Try.prog 43 #[v, .string s] w fun e w' => e = .returned (.bool (nameP p (bl s))) ∧ Below w.heap.size w w' := by
  by_cases hd : (bl s).head? = some 46
  · have hN0 : nameP p (bl s) = headOne (bl s) (p.dropWhile isStar) := by unfold nameP; rw [if_pos hd]
    have hN := Lib.hid hN0
    clear hN0
    have hdot := hasDot_any s w hs
    rw [decide_eq_true hd] at hdot
    clear hd
    obtain ⟨A0, c0, rfl, _, _⟩ := ht.form
    go_enter Try.func43, Try.ntmps43
    go_wp2_with fail
    refine hdot.mono ?_
    rintro e w1 ⟨rfl, rfl⟩
    clear hdot
    go_wp2_with fail
    go_loop [0] (fun pv => ∃ q : List It, Its w1 B pv q ∧ q.length ≤ p.length ∧ Hid (p.dropWhile isStar = q.dropWhile isStar)) (fun pv => (match pv with | .slice _ n _ => n | _ => 0))
    case atStart => exact ⟨p, ht, Nat.le_refl _, rfl⟩
    case round =>
      obtain ⟨q, htq, hql, hq⟩ := hrel
      obtain ⟨A, c, rfl, hc, hcm⟩ := htq.form
      unfold maxLen at hcm
      cases q with
      | nil =>
        have hF : Hid (nameP p (bl s) = false) := by rw [Hid, hN.out, hq.out]; rfl
        clear hN hq
        go_wp2
        go_ret
        first
          | exact ⟨ret_bool hF.out.symm, Below.refl _ _⟩
          | exact ⟨by rw [hF.out], Below.refl _ _⟩
      | cons x q =>
        obtain ⟨blk, off, u, rfl, hblk, g0, g1, g2, g3, hrg⟩ := htq.at_ (k := 0) (by simp)
        simp only [List.getElem_cons_zero, Nat.zero_mul, Nat.add_zero] at g0
        clear g1 g2 g3 hrg
        by_cases h3 : x.1 = 3
        · have hq2 : Hid (p.dropWhile isStar = q.dropWhile isStar) := by rw [Hid, hq.out, List.dropWhile_cons, if_pos (by simp [isStar, h3])]
          obtain ⟨v2, hr2, ht2⟩ := cut_it_l elemIt sizeIt htq (lo := 1) (by simp)
          simp only [List.drop_succ_cons, List.drop_zero] at ht2
          have hr3 : ∀ (W : World) (kl : IntKind), (Instr.slice 24 (.slice (some ⟨blk, off, none⟩) (x :: q).length c) (some (.int kl 1)) none none).run Try.prog W = .ok v2 W := fun W kl => hr2 W kl
          simp only [List.length_cons] at hr3 hql
          obtain ⟨A4, c4, rfl, _, _⟩ := ht2.form
          clear hr2 hq hN
          go_wp2
          go_round
          case rel => exact ⟨q, ht2, by omega, hq2⟩
          case measure => simp
        · have hz : ((q.length : Int) + 1 == 0) = false := by rw [beq_eq_false_iff_ne]; omega
          have hq2 : Hid (p.dropWhile isStar = x :: q) := by rw [Hid, hq.out, List.dropWhile_cons, if_neg (by simp [isStar, h3])]
          by_cases h1 : x.1 = 1
          · have hF : Hid (nameP p (bl s) = mt (x :: q) (bl s)) := by rw [Hid, hN.out, hq2.out]; simp [headOne, h1]
            have hm := match_any (x :: q) _ s B w1 htq hB (by omega) hs
            clear hN hq hq2
            simp only [List.length_cons] at hm
            go_wp2_with fail
            refine hm.mono ?_
            rintro e w2 ⟨rfl, hb2⟩
            go_wp2
            go_ret
            exact ⟨ret_bool hF.out.symm, hb2⟩
          · have hF : Hid (nameP p (bl s) = false) := by rw [Hid, hN.out, hq2.out]; simp [headOne, h1]
            clear hN hq hq2
            go_wp2
            go_ret
            first
          | exact ⟨ret_bool hF.out.symm, Below.refl _ _⟩
          | exact ⟨by rw [hF.out], Below.refl _ _⟩
  · have hN0 : nameP p (bl s) = mt p (bl s) := by unfold nameP; rw [if_neg hd]
    have hN := Lib.hid hN0
    clear hN0
    have hdot := hasDot_any s w hs
    rw [decide_eq_false hd] at hdot
    clear hd
    go_enter Try.func43, Try.ntmps43
    go_wp2_with fail
    refine hdot.mono ?_
    rintro e w1 ⟨rfl, rfl⟩
    go_wp2_with fail
    refine (match_any p v s B w1 ht hB hl hs).mono ?_
    rintro e w2 ⟨rfl, hb2⟩
    go_wp2
    go_ret
    exact ⟨ret_bool hN.out.symm, hb2⟩
end Go.Proofs.Ytnioneknlgbhoaa
