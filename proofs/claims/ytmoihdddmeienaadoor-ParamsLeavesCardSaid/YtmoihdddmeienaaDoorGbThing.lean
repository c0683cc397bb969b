/-
  className and thing: what stands at a place of a group. Conditions: at most a million bytes.
-/
import Derived.Test.YtmoihdddmeienaaDoorGbRd
import Derived.Test.YtmoihdddmeienaaDoorMkTexts
import Derived.Deep.CutBlock
import Derived.Deep.CutRange
namespace Go.Proofs.YtmoihdddmeienaaDoor
open Go Go.RowKit

theorem elemCh : Tryd.prog.underlying 32 = some (.slice (Tryd.prog.elem 32)) := by kernel_rfl
theorem sizeCh (W : World) : (sizeOf (Tryd.prog.elem 32)).run Tryd.prog W = .ok 2 W := by kernel_rfl

theorem own_succ' {w : World} {base : Nat} {e : TypeId} {size k : Nat} {v : Value} {xs : List Value} (h : w.ownsRow base e size v (k + 1) xs) : ∃ g cap, v = .slice (some ⟨g, 0, none⟩) (k + 1) cap := by
  rcases h.2 with ⟨_, h0⟩ | ⟨g, cap, cur, rfl, _⟩
  · cases h0
  · exact ⟨g, cap, rfl⟩

set_option maxHeartbeats 3000000 in
set_option maxRecDepth 100000 in
theorem className_any {w : World} {rb pb B : Nat} {A : Option Addr} {c : Nat} {l : List Ch} {path : Bool} {ps : List Bool} (h : Rd w rb pb B A c l path ps) (k : Nat) (hl : l.length ≤ 1000000) (hk : k ≤ 1000000) :
    Calls Tryd.prog 92 #[.pointer (some ⟨rb, 0, none⟩), .int .i64 (k : Int)] w fun e w' => e = .returned (.string (plainS (classNm l k))) ∧ Below w.heap.size w w' := by
  have c0 := h.c0
  have hBs : B ≤ w.heap.size := by have := h.low; have := h.plt; omega
  have hC : classNm l k = if bareAt l k 91 && bareAt l (k + 1) 58 && bareAt l (lowEnd l (k + 2)) 58 && bareAt l (lowEnd l (k + 2) + 1) 93 then (l.drop (k + 2)).take (lowEnd l (k + 2) - (k + 2)) else [] := rfl
  have hC := Lib.hid hC
  have hempty : plainS [] = ⟨#[]⟩ := rfl
  cases h1 : bareAt l k 91 with
  | false =>
    have hb1 := bare_any h k 91 hl (by omega)
    rw [h1] at hb1
    have hN : Hid (classNm l k = []) := by rw [Hid, hC.out, h1]; rfl
    clear h1 hC
    go_enter Tryd.func92, Tryd.ntmps92
    go_wp2_with fail
    refine hb1.mono ?_
    rintro e w1 ⟨rfl, rfl⟩
    clear hb1
    go_wp2
    go_ret
    exact ⟨by rw [hN.out]; rfl, Below.refl _ _⟩
  | true =>
    have hb1 := bare_any h k 91 hl (by omega)
    rw [h1] at hb1
    cases h2 : bareAt l (k + 1) 58 with
    | false =>
      have hb2 := bare_any h (k + 1) 58 hl (by omega)
      rw [h2] at hb2
      have hN : Hid (classNm l k = []) := by rw [Hid, hC.out, h1, h2]; rfl
      clear h1 h2 hC
      go_enter Tryd.func92, Tryd.ntmps92
      go_wp2_with fail
      refine hb1.mono ?_
      rintro e w1 ⟨rfl, rfl⟩
      clear hb1
      go_wp2_with fail
      refine hb2.mono ?_
      rintro e w1 ⟨rfl, rfl⟩
      clear hb2
      go_wp2
      go_ret
      exact ⟨by rw [hN.out]; rfl, Below.refl _ _⟩
    | true =>
      have hb2 := bare_any h (k + 1) 58 hl (by omega)
      rw [h2] at hb2
      have hk2 : k + 2 ≤ l.length := bareAt_lt h2
      have hC2 : Hid (classNm l k = if bareAt l (lowEnd l (k + 2)) 58 && bareAt l (lowEnd l (k + 2) + 1) 93 then (l.drop (k + 2)).take (lowEnd l (k + 2) - (k + 2)) else []) := by rw [Hid, hC.out, h1, h2]; simp only [Bool.true_and]
      have hle := lowEnd_le hk2
      clear h1 h2 hC
      go_enter Tryd.func92, Tryd.ntmps92
      go_wp2_with fail
      refine hb1.mono ?_
      rintro e w1 ⟨rfl, rfl⟩
      clear hb1
      go_wp2_with fail
      refine hb2.mono ?_
      rintro e w1 ⟨rfl, rfl⟩
      clear hb2
      go_wp2
      go_wp2
      go_loop [6] (fun i => ∃ j : Nat, k + 2 ≤ j ∧ j ≤ l.length ∧ Hid (lowEnd l (k + 2) = lowEnd l j) ∧ i = .int .i64 j) (fun i => l.length - (intOf i).toNat)
      case atStart => exact ⟨k + 2, Nat.le_refl _, hk2, rfl, by go_num⟩
      case round =>
        obtain ⟨j, hj1, hj2, hj, rfl⟩ := hrel
        go_upto_region 5 with fail
        go_cut [60] from 21 to 62 (fun s60 wx => wx = w1 ∧ ∃ t : Bool, s60 = .bool t ∧ Hid (t = true → j < l.length ∧ lowEnd l j = lowEnd l (j + 1)) ∧ Hid (t = false → lowEnd l j = j))
        case first =>
          by_cases hlt : j < l.length
          · obtain ⟨blk, off, rfl, hblk, g0, g1⟩ := h.tx.at_ hlt
            have hs1 := Lib.hid (fun hc => lowEnd_here hlt hc)
            have hs2 := Lib.hid (fun hc => lowEnd_stop hlt hc)
            generalize l[j] = z at g0 g1 hs1 hs2
            obtain ⟨x, q⟩ := z
            simp only at g0 g1
            by_cases hlow : q = false ∧ 97 ≤ x.toNat ∧ x.toNat ≤ 122
            · obtain ⟨rfl, ha, hz⟩ := hlow
              have hnext := Lib.hid (hs1.out (by simp [lowCh, ha, hz]))
              clear hs1 hs2
              have haI : (97 : Int) ≤ (x.toNat : Int) := by omega
              have hzI : (x.toNat : Int) ≤ 122 := by omega
              go_wp2
              go_meet
              exact ⟨rfl, true, rfl, (fun _ => ⟨hlt, hnext.out⟩), fun h => nomatch h⟩
            · have hstop : lowEnd l j = j := hs2.out (by
                simp only [lowCh, Bool.and_eq_false_iff, Bool.not_eq_false', decide_eq_false_iff_not]
                by_cases hq : q = true
                · exact .inl hq
                · right
                  by_cases ha : 97 ≤ x.toNat
                  · right; intro hz; exact hlow ⟨by simpa using hq, ha, hz⟩
                  · left; exact ha)
              have hend := Lib.hid hstop
              have hcase : q = true ∨ (q = false ∧ ¬ (97 : Int) ≤ (x.toNat : Int)) ∨ (q = false ∧ (97 : Int) ≤ (x.toNat : Int) ∧ ¬ (x.toNat : Int) ≤ 122) := by
                cases q
                · right
                  by_cases ha : 97 ≤ x.toNat
                  · right; exact ⟨rfl, by omega, fun hz => hlow ⟨rfl, ha, by omega⟩⟩
                  · left; exact ⟨rfl, by omega⟩
                · exact .inl rfl
              clear hlow hstop hs1 hs2
              rcases hcase with rfl | ⟨rfl, hx1⟩ | ⟨rfl, hx1, hx2⟩
              all_goals
                go_wp2
                go_meet
                exact ⟨rfl, false, rfl, (fun h => nomatch h), fun _ => hend.out⟩
          · have hend := Lib.hid (lowEnd_end hlt)
            go_wp2
            go_meet
            exact ⟨rfl, false, rfl, (fun h => nomatch h), fun _ => hend.out⟩
        case rest =>
          obtain ⟨rfl, t, rfl, ht1, ht2⟩ := hcut
          cases t with
          | true =>
            obtain ⟨hlt, hn⟩ := ht1.out rfl
            have hn := Lib.hid hn
            go_wp2
            go_round
            case rel => exact ⟨j + 1, by omega, by omega, hj.out.trans hn.out, by go_num⟩
            case measure => simp [intOf]; omega
          | false =>
            have hC2 := hC2.out
            rw [hj.out.trans (ht2.out rfl)] at hC2
            have hC2 := Lib.hid hC2
            clear ht1 ht2 hj hle
            cases e1 : bareAt l j 58 with
            | false =>
              have hb3 := bare_any h j 58 hl (by omega)
              rw [e1] at hb3
              have hN : Hid (classNm l k = []) := by rw [Hid, hC2.out, e1]; rfl
              clear e1 hC2
              go_wp2_with fail
              refine hb3.mono ?_
              rintro e w1 ⟨rfl, rfl⟩
              clear hb3
              go_wp2
              go_ret
              exact ⟨by rw [hN.out]; rfl, Below.refl _ _⟩
            | true =>
              have hb3 := bare_any h j 58 hl (by omega)
              rw [e1] at hb3
              cases e2 : bareAt l (j + 1) 93 with
              | false =>
                have hb4 := bare_any h (j + 1) 93 hl (by omega)
                rw [e2] at hb4
                have hN : Hid (classNm l k = []) := by rw [Hid, hC2.out, e1, e2]; rfl
                clear e1 e2 hC2
                go_wp2_with fail
                refine hb3.mono ?_
                rintro e w1 ⟨rfl, rfl⟩
                clear hb3
                go_wp2_with fail
                refine hb4.mono ?_
                rintro e w1 ⟨rfl, rfl⟩
                clear hb4
                go_wp2
                go_ret
                exact ⟨by rw [hN.out]; rfl, Below.refl _ _⟩
              | true =>
                have hb4 := bare_any h (j + 1) 93 hl (by omega)
                rw [e2] at hb4
                have hN : Hid (classNm l k = (l.drop (k + 2)).take (j - (k + 2))) := by rw [Hid, hC2.out, e1, e2]; rfl
                obtain ⟨v1, hr1, ht1⟩ := cut_lh elemCh sizeCh h.tx (lo := k + 2) (hi := j) hj1 hj2
                have hr2 : ∀ (W : World) (kl kh : IntKind), (Instr.slice 32 (.slice A l.length c) (some (.int kl ((k : Int) + 2))) (some (.int kh (j : Int))) none).run Tryd.prog W = .ok v1 W := fun W kl kh => by
                  have := hr1 W kl kh
                  rwa [show ((k + 2 : Nat) : Int) = (k : Int) + 2 by omega] at this
                clear hr1
                have hlen1 : ((l.drop (k + 2)).take (j - (k + 2))).length ≤ 1000000 := by rw [List.length_take, List.length_drop]; omega
                generalize (l.drop (k + 2)).take (j - (k + 2)) = cl at ht1 hN hlen1
                have hpl := plain_any cl v1 B _ ht1 hBs hlen1
                clear e1 e2 hC2 hlen1
                go_wp2_with fail
                refine hb3.mono ?_
                rintro e w1 ⟨rfl, rfl⟩
                clear hb3
                go_wp2_with fail
                refine hb4.mono ?_
                rintro e w1 ⟨rfl, rfl⟩
                clear hb4
                go_wp2_with fail
                refine hpl.mono ?_
                rintro e w1 ⟨rfl, hb5⟩
                clear hpl hr2
                go_wp2
                go_ret
                exact ⟨by rw [hN.out]; rfl, hb5⟩
end Go.Proofs.YtmoihdddmeienaaDoor
