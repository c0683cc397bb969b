/-
  Path tells whether a pattern fits a path. Conditions: at most a million items and bytes.
-/
import Derived.Test.YtnioneknlgbhoaaGbName
import Derived.Deep.RegionHeld3
import Derived.Deep.QuietTactic
import Derived.BigQuiet
namespace Go.Proofs.Ytnioneknlgbhoaa
open Go Go.RowKit

theorem idxB_split (s : List UInt8) (c : UInt8) : (Lib.indexByte s c = -1 ∧ c ∉ s) ∨ ∃ u v, s = u ++ c :: v ∧ c ∉ u ∧ Lib.indexByte s c = (u.length : Int) := by
  induction s with
  | nil => exact .inl ⟨rfl, by simp⟩
  | cons b s ih =>
    simp only [Lib.indexByte]
    by_cases hb : b = c
    · subst hb
      exact .inr ⟨[], s, rfl, by simp, by simp⟩
    · rw [if_neg (by simpa using hb)]
      rcases ih with ⟨h1, h2⟩ | ⟨u, v, rfl, hu, h1⟩
      · left
        rw [h1]
        exact ⟨rfl, by simp [Ne.symm hb, h2]⟩
      · right
        refine ⟨b :: u, v, rfl, by simp [Ne.symm hb, hu], ?_⟩
        rw [h1, if_neg (by simp; try omega)]
        simp
theorem idxSl_split (p : List It) : (idxI isSl p = -1 ∧ ∀ x ∈ p, isSl x = false) ∨ ∃ p1 x p2, p = p1 ++ x :: p2 ∧ (∀ y ∈ p1, isSl y = false) ∧ isSl x = true ∧ idxI isSl p = (p1.length : Int) := by
  unfold idxI
  by_cases h : p.findIdx isSl < p.length
  · right
    rw [if_pos h]
    refine ⟨p.take (p.findIdx isSl), p[p.findIdx isSl], p.drop (p.findIdx isSl + 1), ?_, fun y hy => ?_, List.findIdx_getElem, ?_⟩
    · rw [← List.drop_eq_getElem_cons h, List.take_append_drop]
    · obtain ⟨i, hi, rfl⟩ := List.mem_iff_getElem.1 hy
      rw [List.getElem_take]
      have := List.not_of_lt_findIdx (xs := p) (p := isSl) (i := i) (by simp at hi; omega)
      simpa using this
    · rw [List.length_take]; omega
  · left
    rw [if_neg h]
    refine ⟨rfl, fun x hx => ?_⟩
    rw [Bool.eq_false_iff]
    intro hs
    exact h (List.findIdx_lt_length_of_exists ⟨x, hx, hs⟩)

set_option maxHeartbeats 4000000 in
set_option maxRecDepth 100000 in
theorem path_any (p : List It) (v : Value) (s : ByteArray) (w : World) (ht : Its w w.heap.size v p) (hl : p.length ≤ 999999) (hs : s.size ≤ 1000000) :
    Calls Try.prog 23 #[v, .string s] w fun e w' => e = .returned (.bool (pathM p (bl s))) ∧ Below w.heap.size w w' := by
  obtain ⟨A0, c0, rfl, _, _⟩ := ht.form
  go_enter Try.func23, Try.ntmps23
  go_wp2_with fail
  go_loopw [0, 1] (fun pv sv wr => ∃ (q : List It) (t : ByteArray), Its wr w.heap.size pv q ∧ q.length ≤ p.length ∧ sv = .string t ∧ t.size ≤ s.size ∧ Below w.heap.size w wr ∧ Hid (pathM p (bl s) = pathM q (bl t))) (fun pv _ _ => (match pv with | .slice _ n _ => n | _ => 0))
  case atStart => exact ⟨p, s, ht, Nat.le_refl _, rfl, Nat.le_refl _, Below.refl _ _, rfl⟩
  case round =>
    clear ht
    obtain ⟨q, t, htq, hql, rfl, hts, hb, hq⟩ := hrel
    have hsz := hb.size
    obtain ⟨A, c, rfl, hc, hcm⟩ := htq.form
    unfold maxLen at hcm
    have hix := indexPath_any q _ w.heap.size wr htq hsz (by omega)
    rcases idxSl_split q with ⟨h1, hno⟩ | ⟨p1, x, p2, hpe0, hp10, hx, h1⟩
    · rw [h1] at hix
      go_wp2_with fail
      refine hix.mono ?_
      rintro e w2 ⟨rfl, hb2⟩
      clear hix h1
      have hib := indexByte t 47 w2
      have htq2 := htq.below (hb2.mono hsz)
      have hb3 : Below w.heap.size w w2 := hb.trans (hb2.mono hsz)
      rcases idxB_split (bl t) 47 with ⟨h2, hno2⟩ | ⟨u, v, hte, hu, h2⟩
      · have hib2 : Calls Try.prog 42 #[.string t, .int .u8 47] w2 fun e w' => e = .returned (.int .i64 (-1)) ∧ w' = w2 := by
          have := hib; rw [show Lib.indexByte t.data.toList ((47 : Int).toNat.toUInt8) = -1 from h2] at this; exact this
        have hF : Hid (pathM p (bl s) = nameP q (bl t)) := by rw [Hid, hq.out, path_name q _ (fun c hc e => hno2 (e ▸ hc))]
        have hnm := name_any q _ t w.heap.size w2 htq2 hb3.size (by omega) (by omega)
        clear hib hq hno hno2 h2 hb2
        go_wp2_with fail
        refine hib2.mono ?_
        rintro e w3 ⟨rfl, rfl⟩
        clear hib2
        go_wp2_with fail
        refine hnm.mono ?_
        rintro e w4 ⟨rfl, hb4⟩
        go_wp2
        go_ret
        exact ⟨ret_bool hF.out.symm, hb3.trans (hb4.mono hb3.size)⟩
      · have hib2 : Calls Try.prog 42 #[.string t, .int .u8 47] w2 fun e w' => e = .returned (.int .i64 (u.length : Int)) ∧ w' = w2 := by
          have := hib; rw [show Lib.indexByte t.data.toList ((47 : Int).toNat.toUInt8) = (u.length : Int) from h2] at this; exact this
        have hF : Hid (pathM p (bl s) = false) := by rw [Hid, hq.out]; exact path_less q _ hno (by rw [hte]; simp)
        have hne : ((-1 : Int) == (u.length : Int)) = false := by rw [beq_eq_false_iff_ne]; omega
        clear hib hq hno h2 hb2 hte hu
        go_wp2_with fail
        refine hib2.mono ?_
        rintro e w3 ⟨rfl, rfl⟩
        clear hib2
        go_wp2
        go_ret
        exact ⟨ret_bool hF.out.symm, hb3⟩
    · have hpe := Lib.hid hpe0
      have hp1 := Lib.hid hp10
      rw [h1] at hix
      clear hpe0 hp10
      go_wp2_with fail
      refine hix.mono ?_
      rintro e w2 ⟨rfl, hb2⟩
      clear hix h1
      have hib := indexByte t 47 w2
      have htq2 := htq.below (hb2.mono hsz)
      have hb3 : Below w.heap.size w w2 := hb.trans (hb2.mono hsz)
      rcases idxB_split (bl t) 47 with ⟨h2, hno2⟩ | ⟨u, v, hte, hu, h2⟩
      · have hib2 : Calls Try.prog 42 #[.string t, .int .u8 47] w2 fun e w' => e = .returned (.int .i64 (-1)) ∧ w' = w2 := by
          have := hib; rw [show Lib.indexByte t.data.toList ((47 : Int).toNat.toUInt8) = -1 from h2] at this; exact this
        have hF : Hid (pathM p (bl s) = false) := by rw [Hid, hq.out]; exact path_more q _ x (by rw [hpe.out]; simp) hx (fun c hc e => hno2 (e ▸ hc))
        have hne : ((p1.length : Int) == -1) = false := by rw [beq_eq_false_iff_ne]; omega
        clear hib hq hno2 h2 hb2 hpe hp1 hx
        go_wp2_with fail
        refine hib2.mono ?_
        rintro e w3 ⟨rfl, rfl⟩
        clear hib2
        go_wp2
        go_ret
        exact ⟨ret_bool hF.out.symm, hb3⟩
      · have hib2 : Calls Try.prog 42 #[.string t, .int .u8 47] w2 fun e w' => e = .returned (.int .i64 (u.length : Int)) ∧ w' = w2 := by
          have := hib; rw [show Lib.indexByte t.data.toList ((47 : Int).toNat.toUInt8) = (u.length : Int) from h2] at this; exact this
        have hstep := path_step p1 p2 x u v hp1.out hx (fun c hc e => hu (e ▸ hc))
        have hlenq : q.length = p1.length + 1 + p2.length := by rw [hpe.out]; simp; omega
        have hlent : t.size = u.length + 1 + v.length := by rw [← bl_len, hte]; simp; omega
        obtain ⟨v1, hr1, ht1⟩ := cut_it_h elemIt sizeIt htq2 (hi := p1.length) (by omega)
        obtain ⟨v2, hr2, ht2⟩ := cut_it_l elemIt sizeIt htq2 (lo := p1.length + 1) (by omega)
        have e1 : q.take p1.length = p1 := by rw [hpe.out]; simp
        have e2 : q.drop (p1.length + 1) = p2 := by rw [hpe.out]; simp
        have e3 : bl (t.extract 0 u.length) = u := by rw [bl_upto, hte]; simp
        have e4 : bl (t.extract (u.length + 1) t.size) = v := by rw [bl_from, hte]; simp
        rw [e1] at ht1
        rw [e2] at ht2
        rw [← hpe.out, ← hte] at hstep
        have hF := Lib.hid (hq.out.trans hstep)
        have hr3 : ∀ (W : World) (kl : IntKind), (Instr.slice 24 (.slice A q.length c) (some (.int kl ((p1.length : Int) + 1))) none none).run Try.prog W = .ok v2 W := fun W kl => by
          have := hr2 W kl
          rwa [show ((p1.length + 1 : Nat) : Int) = (p1.length : Int) + 1 by omega] at this
        clear hib hq hu h2 hpe hp1 hx e1 e2 hr2 hte hstep hb2
        have hnm : ∀ W, Below w.heap.size w2 W → Calls Try.prog 43 #[v1, .string (t.extract 0 u.length)] W fun e w' => e = .returned (.bool (nameP p1 u)) ∧ Below W.heap.size W w' := fun W hW => by
          have := name_any p1 v1 (t.extract 0 u.length) w.heap.size W (ht1.below hW) (by have := hW.size; have := hb3.size; omega) (by omega) (by simp; omega)
          rwa [e3] at this
        have hE4 := Lib.hid e4
        have hLq := Lib.hid hlenq
        have hLt := Lib.hid hlent
        have i1 : (p1.length : Int) ≤ (q.length : Int) := by omega
        have i2 : (p1.length : Int) + 1 ≤ (q.length : Int) := by omega
        have i3 : (u.length : Int) + 1 ≤ (t.size : Int) := by omega
        have i4 : (u.length : Int) ≤ (t.size : Int) := by omega
        have hq1 : q.length ≤ 999999 := by omega
        have ht1' : t.size ≤ 1000000 := by omega
        clear e3 e4 hlenq hlent
        go_wp2_with fail
        refine hib2.mono ?_
        rintro e w3 ⟨rfl, rfl⟩
        clear hib2
        obtain ⟨A7, c7, hv2, hc7, _⟩ := ht2.form
        subst hv2
        obtain ⟨A8, c8, hv1, _, _⟩ := ht1.form
        subst hv1
        have hd0 : Below w.heap.size w3 w3.drew := (Below.refl _ _).drew
        have hsz3 : w.heap.size ≤ w3.heap.size := hb3.size
        have k1 : IntKind.i64.wrap ((p1.length : Int) + 1) = (p1.length : Int) + 1 := IntWalk.i64_in _ (by omega)
        have k2 : IntKind.i64.wrap ((u.length : Int) + 1) = (u.length : Int) + 1 := IntWalk.i64_in _ (by omega)
        cases hn1 : nameP p1 u with
        | false =>
          rw [hn1] at hnm hF
          simp only [Bool.false_and] at hF
          have hF := Lib.hid hF
          clear k1 k2 hn1
          go_wp2
          go_region_held3 (fun _ => True) (trivial) ((go_at_call 43; refine (hnm _ hd0).mono ?_; rintro e w5 ⟨rfl, hb5⟩))
          go_wp2
          go_ret
          exact ⟨ret_bool hF.out.symm, hb3.trans (hd0.trans (hb5.mono hsz3))⟩
        | true =>
          rw [hn1] at hnm hF
          simp only [Bool.true_and] at hF
          have hF := Lib.hid hF
          clear hn1
          go_wp2
          go_region_held3 (fun _ => True) (trivial) ((go_at_call 43; refine (hnm _ hd0).mono ?_; rintro e w5 ⟨rfl, hb5⟩))
          have hb6 : Below w.heap.size w3 w5 := hd0.trans (hb5.mono hsz3)
          clear hb5 hnm
          go_wp2
          go_quiet (fail)
          clear k1 k2
          go_wp2
          go_roundw
          case rel =>
            refine ⟨p2, _, ht2.below (below_drewN hb6 _), by have := hLq.out; omega, rfl, ?_, below_drewN (hb3.trans hb6) _, ?_⟩
            · have := hLt.out
              simp; omega
            · exact hF.out.trans (by rw [hE4.out])
          case measure =>
            have := hLq.out
            simp; omega
end Go.Proofs.Ytnioneknlgbhoaa
