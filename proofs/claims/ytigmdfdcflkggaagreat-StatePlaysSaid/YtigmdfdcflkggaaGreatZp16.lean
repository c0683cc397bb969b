/-
  The document's answer: SetOption. Conditions: options of at most a thousand bytes.
-/
import Derived.Laws.Concat
import Derived.Test.YtigmdfdcflkggaaGreatZp15
set_option linter.unusedSimpArgs false
set_option linter.unusedVariables false
namespace Go.Proofs.YtigmdfdcflkggaaGreat
open Go Go.RowKit Go.ChangeMaps

def optR (o : ByteArray) (c : UInt8) (on : Bool) (x : UInt8) : Bool := if x = c then on else hasB o x
def optN (o : ByteArray) (c : UInt8) (on : Bool) (j : Nat) : ByteArray := ⟨((optA.take j).filter (optR o c on)).toArray⟩
def knownN (c : UInt8) (j : Nat) : Bool := (optA.take j).any (fun x => x == c)
theorem optN_size (o : ByteArray) (c : UInt8) (on : Bool) (j : Nat) : (optN o c on j).size ≤ 6 := by
  show ((optA.take j).filter (optR o c on)).toArray.size ≤ 6
  rw [List.size_toArray]
  have h1 := List.length_filter_le (optR o c on) (optA.take j)
  have h2 : (optA.take j).length ≤ 6 := by rw [List.length_take]; exact Nat.min_le_right _ _
  omega
theorem optN_step (o : ByteArray) (c : UInt8) (on : Bool) (j : Nat) (x : UInt8) (hx : optA[j]? = some x) : optN o c on (j + 1) = if optR o c on x = true then optN o c on j ++ ⟨#[x]⟩ else optN o c on j := by
  have hl : j < optA.length := (List.getElem?_eq_some_iff.1 hx).1
  have hxe : optA[j] = x := (List.getElem?_eq_some_iff.1 hx).2
  unfold optN
  rw [List.take_succ_eq_append_getElem hl, List.filter_append, hxe]
  by_cases h : optR o c on x = true
  · rw [if_pos h, List.filter_cons_of_pos h]
    apply bytesOf_inj
    unfold bytesOf
    simp
  · rw [if_neg h, List.filter_cons_of_neg h]
    simp
theorem knownN_step (c : UInt8) (j : Nat) (x : UInt8) (hx : optA[j]? = some x) : knownN c (j + 1) = (knownN c j || (x == c)) := by
  have hl : j < optA.length := (List.getElem?_eq_some_iff.1 hx).1
  have hxe : optA[j] = x := (List.getElem?_eq_some_iff.1 hx).2
  unfold knownN
  rw [List.take_succ_eq_append_getElem hl, List.any_append, hxe]
  simp
section
variable {W w w' : World} {rb : Nat} {r : Rf}
set_option maxRecDepth 100000 in
set_option maxHeartbeats 16000000 in
theorem rSetOption_any (h : RfA W rb r) (c : UInt8) (on : Bool) (ho : r.o.size ≤ 1000) :
    Calls Tryz.prog 60 #[ptrV rb, .int .u8 (c.toNat : Int), .bool on] W fun e w' => (knownN c 6 = false ∧ e = .returned (.int .i64 1) ∧ w' = W) ∨ (knownN c 6 = true ∧ e = .returned (.int .i64 0) ∧ RfA w' rb { r with o := optN r.o c on 6 } ∧ Stp (fun b => b = rb) W w') := by
  have hop := fun x => rOption_any h x ho
  obtain ⟨sv, sf, sa, st, h⟩ := h
  have c4 : W.cell? ⟨rb, 4, none⟩ = some (.string r.o) := h.blk.cell (i := 4) rfl
  have f4 := h.blk.frozen 4
  have hlt := h.blk.lt
  have hfin : ∀ u : ByteArray, RfAt (W.setCell ⟨rb, 4, none⟩ (.string u)) rb sv sf sa st { r with o := u } ∧ Stp (fun b => b = rb) W (W.setCell ⟨rb, 4, none⟩ (.string u)) := fun u => h.set (r' := { r with o := u }) 4 (.string u) rfl h.rv h.rf h.ra h.rt h.ga
  have hc256 := c.toNat_lt
  unfold ptrV at hop ⊢
  replace hop := Lib.hid hop
  replace hfin := Lib.hid hfin
  clear h
  go_enter Tryz.func60, Tryz.ntmps60
  go_wp2
  go_loopw [8, 9, 10] (fun kv ov iv wr => ∃ j : Nat, j ≤ 6 ∧ iv = .int .i64 (j : Int) ∧ (∃ kb, kv = .bool kb ∧ Hid (kb = knownN c j)) ∧ (∃ u, ov = .string u ∧ Hid (u = optN r.o c on j)) ∧ Hid (wr = W)) (fun _ _ iv _ => 6 - (intOf iv).toNat)
  case atStart => exact ⟨0, Nat.zero_le _, rfl, ⟨false, rfl, Lib.hid rfl⟩, ⟨⟨#[]⟩, rfl, Lib.hid rfl⟩, Lib.hid rfl⟩
  case round =>
    obtain ⟨j, hj, rfl, ⟨kb, rfl, hkb⟩, ⟨u, rfl, hu⟩, hw⟩ := hrel
    obtain rfl := hw.out
    clear hw
    have hus : u.size ≤ 6 := by rw [hu.out]; exact optN_size _ _ _ _
    by_cases hlt6 : j < 6
    · rcases (by omega : j = 0 ∨ j = 1 ∨ j = 2 ∨ j = 3 ∨ j = 4 ∨ j = 5) with rfl | rfl | rfl | rfl | rfl | rfl
      · have hux := optN_step r.o c on 0 67 rfl
        have hkx := knownN_step c 0 67 rfl
        have hle1 : u.size + 1 ≤ 7 := by omega
        by_cases hx : (67 : UInt8) = c
        · have hR : optR r.o c on 67 = on := if_pos hx
          rw [hR] at hux
          rw [show ((67 : UInt8) == c) = true from beq_iff_eq.2 hx] at hkx
          have hct : c.toNat = 67 := by rw [← hx]; rfl
          have hm1 : ((67 : Int) == (c.toNat : Int)) = true := by rw [hct]; rfl
          have hm2 : (67 : Int) = (c.toNat : Int) := by rw [hct]; rfl
          have hkE : Hid ((kb || true) = knownN c 1) := Lib.hid (by rw [hkx, hkb.out])
          have hkE1 : Hid (true = knownN c 1) := Lib.hid (by rw [← hkE.out]; cases kb <;> rfl)
          clear hkE
          have hkE := hkE1
          clear hkE1
          replace hx := Lib.hid hx
          replace hct := Lib.hid hct
          cases on
          · have huE : Hid (u = optN r.o c false 1) := Lib.hid (by rw [hux, hu.out]; rfl)
            clear hux hkx hu hkb hR
            cases kb
            · go_wp2
              go_roundw
              case rel => exact ⟨1, by decide, by rfl, ⟨_, rfl, hkE⟩, ⟨_, rfl, huE⟩, Lib.hid trivial⟩
              case measure => simp [intOf]
            · go_wp2
              go_roundw
              case rel => exact ⟨1, by decide, by rfl, ⟨_, rfl, hkE⟩, ⟨_, rfl, huE⟩, Lib.hid trivial⟩
              case measure => simp [intOf]
          · have huE : Hid (u ++ ⟨#[67]⟩ = optN r.o c true 1) := Lib.hid (by rw [hux, hu.out]; rfl)
            clear hux hkx hu hkb hR
            cases kb
            · go_wp2
              go_roundw
              case rel => exact ⟨1, by decide, by rfl, ⟨_, rfl, hkE⟩, ⟨_, rfl, huE⟩, Lib.hid trivial⟩
              case measure => simp [intOf]
            · go_wp2
              go_roundw
              case rel => exact ⟨1, by decide, by rfl, ⟨_, rfl, hkE⟩, ⟨_, rfl, huE⟩, Lib.hid trivial⟩
              case measure => simp [intOf]
        · have hR : optR r.o c on 67 = hasB r.o 67 := if_neg hx
          rw [hR] at hux
          rw [show ((67 : UInt8) == c) = false from beq_eq_false_iff_ne.2 hx, Bool.or_false] at hkx
          have hct : ¬ c.toNat = 67 := fun e => hx (UInt8.toNat_inj.1 (e.symm ▸ rfl))
          have hm1 : ((67 : Int) == (c.toNat : Int)) = false := by rw [beq_eq_false_iff_ne]; omega
          have hm3 : ((67 : Int) != (c.toNat : Int)) = true := by rw [bne, hm1]; rfl
          have hm2 : ¬ (67 : Int) = (c.toNat : Int) := by omega
          have hkE : Hid (kb = knownN c 1) := Lib.hid (by rw [hkx, hkb.out])
          have hopx := hop.out 67
          rw [show (((67 : UInt8)).toNat : Int) = 67 from rfl] at hopx
          generalize hasB r.o 67 = hb at hopx hux
          clear hkx hkb hR hct
          replace hx := Lib.hid hx
          cases hb
          · have huE : Hid (u = optN r.o c on 1) := Lib.hid (by rw [hux, hu.out]; rfl)
            clear hux hu
            cases kb
            · have hkE2 : Hid ((((67 : Int) == (c.toNat : Int))) = knownN c 1) := Lib.hid (hm1.trans hkE.out)
              go_wp2_with fail
              refine hopx.mono ?_
              rintro e w' ⟨rfl, hwq⟩
              obtain rfl := hwq.symm
              clear hopx hwq
              go_wp2
              go_roundw
              case rel => exact ⟨1, by decide, by rfl, ⟨_, rfl, hkE2⟩, ⟨_, rfl, huE⟩, Lib.hid trivial⟩
              case measure => simp [intOf]
            · go_wp2_with fail
              refine hopx.mono ?_
              rintro e w' ⟨rfl, hwq⟩
              obtain rfl := hwq.symm
              clear hopx hwq
              go_wp2
              go_roundw
              case rel => exact ⟨1, by decide, by rfl, ⟨_, rfl, hkE⟩, ⟨_, rfl, huE⟩, Lib.hid trivial⟩
              case measure => simp [intOf]
          · have huE : Hid (u ++ ⟨#[67]⟩ = optN r.o c on 1) := Lib.hid (by rw [hux, hu.out]; rfl)
            clear hux hu
            cases kb
            · have hkE2 : Hid ((((67 : Int) == (c.toNat : Int))) = knownN c 1) := Lib.hid (hm1.trans hkE.out)
              go_wp2_with fail
              refine hopx.mono ?_
              rintro e w' ⟨rfl, hwq⟩
              obtain rfl := hwq.symm
              clear hopx hwq
              go_wp2
              go_roundw
              case rel => exact ⟨1, by decide, by rfl, ⟨_, rfl, hkE2⟩, ⟨_, rfl, huE⟩, Lib.hid trivial⟩
              case measure => simp [intOf]
            · go_wp2_with fail
              refine hopx.mono ?_
              rintro e w' ⟨rfl, hwq⟩
              obtain rfl := hwq.symm
              clear hopx hwq
              go_wp2
              go_roundw
              case rel => exact ⟨1, by decide, by rfl, ⟨_, rfl, hkE⟩, ⟨_, rfl, huE⟩, Lib.hid trivial⟩
              case measure => simp [intOf]
      · have hux := optN_step r.o c on 1 97 rfl
        have hkx := knownN_step c 1 97 rfl
        have hle1 : u.size + 1 ≤ 7 := by omega
        by_cases hx : (97 : UInt8) = c
        · have hR : optR r.o c on 97 = on := if_pos hx
          rw [hR] at hux
          rw [show ((97 : UInt8) == c) = true from beq_iff_eq.2 hx] at hkx
          have hct : c.toNat = 97 := by rw [← hx]; rfl
          have hm1 : ((97 : Int) == (c.toNat : Int)) = true := by rw [hct]; rfl
          have hm2 : (97 : Int) = (c.toNat : Int) := by rw [hct]; rfl
          have hkE : Hid ((kb || true) = knownN c 2) := Lib.hid (by rw [hkx, hkb.out])
          have hkE1 : Hid (true = knownN c 2) := Lib.hid (by rw [← hkE.out]; cases kb <;> rfl)
          clear hkE
          have hkE := hkE1
          clear hkE1
          replace hx := Lib.hid hx
          replace hct := Lib.hid hct
          cases on
          · have huE : Hid (u = optN r.o c false 2) := Lib.hid (by rw [hux, hu.out]; rfl)
            clear hux hkx hu hkb hR
            cases kb
            · go_wp2
              go_roundw
              case rel => exact ⟨2, by decide, by rfl, ⟨_, rfl, hkE⟩, ⟨_, rfl, huE⟩, Lib.hid trivial⟩
              case measure => simp [intOf]
            · go_wp2
              go_roundw
              case rel => exact ⟨2, by decide, by rfl, ⟨_, rfl, hkE⟩, ⟨_, rfl, huE⟩, Lib.hid trivial⟩
              case measure => simp [intOf]
          · have huE : Hid (u ++ ⟨#[97]⟩ = optN r.o c true 2) := Lib.hid (by rw [hux, hu.out]; rfl)
            clear hux hkx hu hkb hR
            cases kb
            · go_wp2
              go_roundw
              case rel => exact ⟨2, by decide, by rfl, ⟨_, rfl, hkE⟩, ⟨_, rfl, huE⟩, Lib.hid trivial⟩
              case measure => simp [intOf]
            · go_wp2
              go_roundw
              case rel => exact ⟨2, by decide, by rfl, ⟨_, rfl, hkE⟩, ⟨_, rfl, huE⟩, Lib.hid trivial⟩
              case measure => simp [intOf]
        · have hR : optR r.o c on 97 = hasB r.o 97 := if_neg hx
          rw [hR] at hux
          rw [show ((97 : UInt8) == c) = false from beq_eq_false_iff_ne.2 hx, Bool.or_false] at hkx
          have hct : ¬ c.toNat = 97 := fun e => hx (UInt8.toNat_inj.1 (e.symm ▸ rfl))
          have hm1 : ((97 : Int) == (c.toNat : Int)) = false := by rw [beq_eq_false_iff_ne]; omega
          have hm3 : ((97 : Int) != (c.toNat : Int)) = true := by rw [bne, hm1]; rfl
          have hm2 : ¬ (97 : Int) = (c.toNat : Int) := by omega
          have hkE : Hid (kb = knownN c 2) := Lib.hid (by rw [hkx, hkb.out])
          have hopx := hop.out 97
          rw [show (((97 : UInt8)).toNat : Int) = 97 from rfl] at hopx
          generalize hasB r.o 97 = hb at hopx hux
          clear hkx hkb hR hct
          replace hx := Lib.hid hx
          cases hb
          · have huE : Hid (u = optN r.o c on 2) := Lib.hid (by rw [hux, hu.out]; rfl)
            clear hux hu
            cases kb
            · have hkE2 : Hid ((((97 : Int) == (c.toNat : Int))) = knownN c 2) := Lib.hid (hm1.trans hkE.out)
              go_wp2_with fail
              refine hopx.mono ?_
              rintro e w' ⟨rfl, hwq⟩
              obtain rfl := hwq.symm
              clear hopx hwq
              go_wp2
              go_roundw
              case rel => exact ⟨2, by decide, by rfl, ⟨_, rfl, hkE2⟩, ⟨_, rfl, huE⟩, Lib.hid trivial⟩
              case measure => simp [intOf]
            · go_wp2_with fail
              refine hopx.mono ?_
              rintro e w' ⟨rfl, hwq⟩
              obtain rfl := hwq.symm
              clear hopx hwq
              go_wp2
              go_roundw
              case rel => exact ⟨2, by decide, by rfl, ⟨_, rfl, hkE⟩, ⟨_, rfl, huE⟩, Lib.hid trivial⟩
              case measure => simp [intOf]
          · have huE : Hid (u ++ ⟨#[97]⟩ = optN r.o c on 2) := Lib.hid (by rw [hux, hu.out]; rfl)
            clear hux hu
            cases kb
            · have hkE2 : Hid ((((97 : Int) == (c.toNat : Int))) = knownN c 2) := Lib.hid (hm1.trans hkE.out)
              go_wp2_with fail
              refine hopx.mono ?_
              rintro e w' ⟨rfl, hwq⟩
              obtain rfl := hwq.symm
              clear hopx hwq
              go_wp2
              go_roundw
              case rel => exact ⟨2, by decide, by rfl, ⟨_, rfl, hkE2⟩, ⟨_, rfl, huE⟩, Lib.hid trivial⟩
              case measure => simp [intOf]
            · go_wp2_with fail
              refine hopx.mono ?_
              rintro e w' ⟨rfl, hwq⟩
              obtain rfl := hwq.symm
              clear hopx hwq
              go_wp2
              go_roundw
              case rel => exact ⟨2, by decide, by rfl, ⟨_, rfl, hkE⟩, ⟨_, rfl, huE⟩, Lib.hid trivial⟩
              case measure => simp [intOf]
      · have hux := optN_step r.o c on 2 101 rfl
        have hkx := knownN_step c 2 101 rfl
        have hle1 : u.size + 1 ≤ 7 := by omega
        by_cases hx : (101 : UInt8) = c
        · have hR : optR r.o c on 101 = on := if_pos hx
          rw [hR] at hux
          rw [show ((101 : UInt8) == c) = true from beq_iff_eq.2 hx] at hkx
          have hct : c.toNat = 101 := by rw [← hx]; rfl
          have hm1 : ((101 : Int) == (c.toNat : Int)) = true := by rw [hct]; rfl
          have hm2 : (101 : Int) = (c.toNat : Int) := by rw [hct]; rfl
          have hkE : Hid ((kb || true) = knownN c 3) := Lib.hid (by rw [hkx, hkb.out])
          have hkE1 : Hid (true = knownN c 3) := Lib.hid (by rw [← hkE.out]; cases kb <;> rfl)
          clear hkE
          have hkE := hkE1
          clear hkE1
          replace hx := Lib.hid hx
          replace hct := Lib.hid hct
          cases on
          · have huE : Hid (u = optN r.o c false 3) := Lib.hid (by rw [hux, hu.out]; rfl)
            clear hux hkx hu hkb hR
            cases kb
            · go_wp2
              go_roundw
              case rel => exact ⟨3, by decide, by rfl, ⟨_, rfl, hkE⟩, ⟨_, rfl, huE⟩, Lib.hid trivial⟩
              case measure => simp [intOf]
            · go_wp2
              go_roundw
              case rel => exact ⟨3, by decide, by rfl, ⟨_, rfl, hkE⟩, ⟨_, rfl, huE⟩, Lib.hid trivial⟩
              case measure => simp [intOf]
          · have huE : Hid (u ++ ⟨#[101]⟩ = optN r.o c true 3) := Lib.hid (by rw [hux, hu.out]; rfl)
            clear hux hkx hu hkb hR
            cases kb
            · go_wp2
              go_roundw
              case rel => exact ⟨3, by decide, by rfl, ⟨_, rfl, hkE⟩, ⟨_, rfl, huE⟩, Lib.hid trivial⟩
              case measure => simp [intOf]
            · go_wp2
              go_roundw
              case rel => exact ⟨3, by decide, by rfl, ⟨_, rfl, hkE⟩, ⟨_, rfl, huE⟩, Lib.hid trivial⟩
              case measure => simp [intOf]
        · have hR : optR r.o c on 101 = hasB r.o 101 := if_neg hx
          rw [hR] at hux
          rw [show ((101 : UInt8) == c) = false from beq_eq_false_iff_ne.2 hx, Bool.or_false] at hkx
          have hct : ¬ c.toNat = 101 := fun e => hx (UInt8.toNat_inj.1 (e.symm ▸ rfl))
          have hm1 : ((101 : Int) == (c.toNat : Int)) = false := by rw [beq_eq_false_iff_ne]; omega
          have hm3 : ((101 : Int) != (c.toNat : Int)) = true := by rw [bne, hm1]; rfl
          have hm2 : ¬ (101 : Int) = (c.toNat : Int) := by omega
          have hkE : Hid (kb = knownN c 3) := Lib.hid (by rw [hkx, hkb.out])
          have hopx := hop.out 101
          rw [show (((101 : UInt8)).toNat : Int) = 101 from rfl] at hopx
          generalize hasB r.o 101 = hb at hopx hux
          clear hkx hkb hR hct
          replace hx := Lib.hid hx
          cases hb
          · have huE : Hid (u = optN r.o c on 3) := Lib.hid (by rw [hux, hu.out]; rfl)
            clear hux hu
            cases kb
            · have hkE2 : Hid ((((101 : Int) == (c.toNat : Int))) = knownN c 3) := Lib.hid (hm1.trans hkE.out)
              go_wp2_with fail
              refine hopx.mono ?_
              rintro e w' ⟨rfl, hwq⟩
              obtain rfl := hwq.symm
              clear hopx hwq
              go_wp2
              go_roundw
              case rel => exact ⟨3, by decide, by rfl, ⟨_, rfl, hkE2⟩, ⟨_, rfl, huE⟩, Lib.hid trivial⟩
              case measure => simp [intOf]
            · go_wp2_with fail
              refine hopx.mono ?_
              rintro e w' ⟨rfl, hwq⟩
              obtain rfl := hwq.symm
              clear hopx hwq
              go_wp2
              go_roundw
              case rel => exact ⟨3, by decide, by rfl, ⟨_, rfl, hkE⟩, ⟨_, rfl, huE⟩, Lib.hid trivial⟩
              case measure => simp [intOf]
          · have huE : Hid (u ++ ⟨#[101]⟩ = optN r.o c on 3) := Lib.hid (by rw [hux, hu.out]; rfl)
            clear hux hu
            cases kb
            · have hkE2 : Hid ((((101 : Int) == (c.toNat : Int))) = knownN c 3) := Lib.hid (hm1.trans hkE.out)
              go_wp2_with fail
              refine hopx.mono ?_
              rintro e w' ⟨rfl, hwq⟩
              obtain rfl := hwq.symm
              clear hopx hwq
              go_wp2
              go_roundw
              case rel => exact ⟨3, by decide, by rfl, ⟨_, rfl, hkE2⟩, ⟨_, rfl, huE⟩, Lib.hid trivial⟩
              case measure => simp [intOf]
            · go_wp2_with fail
              refine hopx.mono ?_
              rintro e w' ⟨rfl, hwq⟩
              obtain rfl := hwq.symm
              clear hopx hwq
              go_wp2
              go_roundw
              case rel => exact ⟨3, by decide, by rfl, ⟨_, rfl, hkE⟩, ⟨_, rfl, huE⟩, Lib.hid trivial⟩
              case measure => simp [intOf]
      · have hux := optN_step r.o c on 3 102 rfl
        have hkx := knownN_step c 3 102 rfl
        have hle1 : u.size + 1 ≤ 7 := by omega
        by_cases hx : (102 : UInt8) = c
        · have hR : optR r.o c on 102 = on := if_pos hx
          rw [hR] at hux
          rw [show ((102 : UInt8) == c) = true from beq_iff_eq.2 hx] at hkx
          have hct : c.toNat = 102 := by rw [← hx]; rfl
          have hm1 : ((102 : Int) == (c.toNat : Int)) = true := by rw [hct]; rfl
          have hm2 : (102 : Int) = (c.toNat : Int) := by rw [hct]; rfl
          have hkE : Hid ((kb || true) = knownN c 4) := Lib.hid (by rw [hkx, hkb.out])
          have hkE1 : Hid (true = knownN c 4) := Lib.hid (by rw [← hkE.out]; cases kb <;> rfl)
          clear hkE
          have hkE := hkE1
          clear hkE1
          replace hx := Lib.hid hx
          replace hct := Lib.hid hct
          cases on
          · have huE : Hid (u = optN r.o c false 4) := Lib.hid (by rw [hux, hu.out]; rfl)
            clear hux hkx hu hkb hR
            cases kb
            · go_wp2
              go_roundw
              case rel => exact ⟨4, by decide, by rfl, ⟨_, rfl, hkE⟩, ⟨_, rfl, huE⟩, Lib.hid trivial⟩
              case measure => simp [intOf]
            · go_wp2
              go_roundw
              case rel => exact ⟨4, by decide, by rfl, ⟨_, rfl, hkE⟩, ⟨_, rfl, huE⟩, Lib.hid trivial⟩
              case measure => simp [intOf]
          · have huE : Hid (u ++ ⟨#[102]⟩ = optN r.o c true 4) := Lib.hid (by rw [hux, hu.out]; rfl)
            clear hux hkx hu hkb hR
            cases kb
            · go_wp2
              go_roundw
              case rel => exact ⟨4, by decide, by rfl, ⟨_, rfl, hkE⟩, ⟨_, rfl, huE⟩, Lib.hid trivial⟩
              case measure => simp [intOf]
            · go_wp2
              go_roundw
              case rel => exact ⟨4, by decide, by rfl, ⟨_, rfl, hkE⟩, ⟨_, rfl, huE⟩, Lib.hid trivial⟩
              case measure => simp [intOf]
        · have hR : optR r.o c on 102 = hasB r.o 102 := if_neg hx
          rw [hR] at hux
          rw [show ((102 : UInt8) == c) = false from beq_eq_false_iff_ne.2 hx, Bool.or_false] at hkx
          have hct : ¬ c.toNat = 102 := fun e => hx (UInt8.toNat_inj.1 (e.symm ▸ rfl))
          have hm1 : ((102 : Int) == (c.toNat : Int)) = false := by rw [beq_eq_false_iff_ne]; omega
          have hm3 : ((102 : Int) != (c.toNat : Int)) = true := by rw [bne, hm1]; rfl
          have hm2 : ¬ (102 : Int) = (c.toNat : Int) := by omega
          have hkE : Hid (kb = knownN c 4) := Lib.hid (by rw [hkx, hkb.out])
          have hopx := hop.out 102
          rw [show (((102 : UInt8)).toNat : Int) = 102 from rfl] at hopx
          generalize hasB r.o 102 = hb at hopx hux
          clear hkx hkb hR hct
          replace hx := Lib.hid hx
          cases hb
          · have huE : Hid (u = optN r.o c on 4) := Lib.hid (by rw [hux, hu.out]; rfl)
            clear hux hu
            cases kb
            · have hkE2 : Hid ((((102 : Int) == (c.toNat : Int))) = knownN c 4) := Lib.hid (hm1.trans hkE.out)
              go_wp2_with fail
              refine hopx.mono ?_
              rintro e w' ⟨rfl, hwq⟩
              obtain rfl := hwq.symm
              clear hopx hwq
              go_wp2
              go_roundw
              case rel => exact ⟨4, by decide, by rfl, ⟨_, rfl, hkE2⟩, ⟨_, rfl, huE⟩, Lib.hid trivial⟩
              case measure => simp [intOf]
            · go_wp2_with fail
              refine hopx.mono ?_
              rintro e w' ⟨rfl, hwq⟩
              obtain rfl := hwq.symm
              clear hopx hwq
              go_wp2
              go_roundw
              case rel => exact ⟨4, by decide, by rfl, ⟨_, rfl, hkE⟩, ⟨_, rfl, huE⟩, Lib.hid trivial⟩
              case measure => simp [intOf]
          · have huE : Hid (u ++ ⟨#[102]⟩ = optN r.o c on 4) := Lib.hid (by rw [hux, hu.out]; rfl)
            clear hux hu
            cases kb
            · have hkE2 : Hid ((((102 : Int) == (c.toNat : Int))) = knownN c 4) := Lib.hid (hm1.trans hkE.out)
              go_wp2_with fail
              refine hopx.mono ?_
              rintro e w' ⟨rfl, hwq⟩
              obtain rfl := hwq.symm
              clear hopx hwq
              go_wp2
              go_roundw
              case rel => exact ⟨4, by decide, by rfl, ⟨_, rfl, hkE2⟩, ⟨_, rfl, huE⟩, Lib.hid trivial⟩
              case measure => simp [intOf]
            · go_wp2_with fail
              refine hopx.mono ?_
              rintro e w' ⟨rfl, hwq⟩
              obtain rfl := hwq.symm
              clear hopx hwq
              go_wp2
              go_roundw
              case rel => exact ⟨4, by decide, by rfl, ⟨_, rfl, hkE⟩, ⟨_, rfl, huE⟩, Lib.hid trivial⟩
              case measure => simp [intOf]
      · have hux := optN_step r.o c on 4 117 rfl
        have hkx := knownN_step c 4 117 rfl
        have hle1 : u.size + 1 ≤ 7 := by omega
        by_cases hx : (117 : UInt8) = c
        · have hR : optR r.o c on 117 = on := if_pos hx
          rw [hR] at hux
          rw [show ((117 : UInt8) == c) = true from beq_iff_eq.2 hx] at hkx
          have hct : c.toNat = 117 := by rw [← hx]; rfl
          have hm1 : ((117 : Int) == (c.toNat : Int)) = true := by rw [hct]; rfl
          have hm2 : (117 : Int) = (c.toNat : Int) := by rw [hct]; rfl
          have hkE : Hid ((kb || true) = knownN c 5) := Lib.hid (by rw [hkx, hkb.out])
          have hkE1 : Hid (true = knownN c 5) := Lib.hid (by rw [← hkE.out]; cases kb <;> rfl)
          clear hkE
          have hkE := hkE1
          clear hkE1
          replace hx := Lib.hid hx
          replace hct := Lib.hid hct
          cases on
          · have huE : Hid (u = optN r.o c false 5) := Lib.hid (by rw [hux, hu.out]; rfl)
            clear hux hkx hu hkb hR
            cases kb
            · go_wp2
              go_roundw
              case rel => exact ⟨5, by decide, by rfl, ⟨_, rfl, hkE⟩, ⟨_, rfl, huE⟩, Lib.hid trivial⟩
              case measure => simp [intOf]
            · go_wp2
              go_roundw
              case rel => exact ⟨5, by decide, by rfl, ⟨_, rfl, hkE⟩, ⟨_, rfl, huE⟩, Lib.hid trivial⟩
              case measure => simp [intOf]
          · have huE : Hid (u ++ ⟨#[117]⟩ = optN r.o c true 5) := Lib.hid (by rw [hux, hu.out]; rfl)
            clear hux hkx hu hkb hR
            cases kb
            · go_wp2
              go_roundw
              case rel => exact ⟨5, by decide, by rfl, ⟨_, rfl, hkE⟩, ⟨_, rfl, huE⟩, Lib.hid trivial⟩
              case measure => simp [intOf]
            · go_wp2
              go_roundw
              case rel => exact ⟨5, by decide, by rfl, ⟨_, rfl, hkE⟩, ⟨_, rfl, huE⟩, Lib.hid trivial⟩
              case measure => simp [intOf]
        · have hR : optR r.o c on 117 = hasB r.o 117 := if_neg hx
          rw [hR] at hux
          rw [show ((117 : UInt8) == c) = false from beq_eq_false_iff_ne.2 hx, Bool.or_false] at hkx
          have hct : ¬ c.toNat = 117 := fun e => hx (UInt8.toNat_inj.1 (e.symm ▸ rfl))
          have hm1 : ((117 : Int) == (c.toNat : Int)) = false := by rw [beq_eq_false_iff_ne]; omega
          have hm3 : ((117 : Int) != (c.toNat : Int)) = true := by rw [bne, hm1]; rfl
          have hm2 : ¬ (117 : Int) = (c.toNat : Int) := by omega
          have hkE : Hid (kb = knownN c 5) := Lib.hid (by rw [hkx, hkb.out])
          have hopx := hop.out 117
          rw [show (((117 : UInt8)).toNat : Int) = 117 from rfl] at hopx
          generalize hasB r.o 117 = hb at hopx hux
          clear hkx hkb hR hct
          replace hx := Lib.hid hx
          cases hb
          · have huE : Hid (u = optN r.o c on 5) := Lib.hid (by rw [hux, hu.out]; rfl)
            clear hux hu
            cases kb
            · have hkE2 : Hid ((((117 : Int) == (c.toNat : Int))) = knownN c 5) := Lib.hid (hm1.trans hkE.out)
              go_wp2_with fail
              refine hopx.mono ?_
              rintro e w' ⟨rfl, hwq⟩
              obtain rfl := hwq.symm
              clear hopx hwq
              go_wp2
              go_roundw
              case rel => exact ⟨5, by decide, by rfl, ⟨_, rfl, hkE2⟩, ⟨_, rfl, huE⟩, Lib.hid trivial⟩
              case measure => simp [intOf]
            · go_wp2_with fail
              refine hopx.mono ?_
              rintro e w' ⟨rfl, hwq⟩
              obtain rfl := hwq.symm
              clear hopx hwq
              go_wp2
              go_roundw
              case rel => exact ⟨5, by decide, by rfl, ⟨_, rfl, hkE⟩, ⟨_, rfl, huE⟩, Lib.hid trivial⟩
              case measure => simp [intOf]
          · have huE : Hid (u ++ ⟨#[117]⟩ = optN r.o c on 5) := Lib.hid (by rw [hux, hu.out]; rfl)
            clear hux hu
            cases kb
            · have hkE2 : Hid ((((117 : Int) == (c.toNat : Int))) = knownN c 5) := Lib.hid (hm1.trans hkE.out)
              go_wp2_with fail
              refine hopx.mono ?_
              rintro e w' ⟨rfl, hwq⟩
              obtain rfl := hwq.symm
              clear hopx hwq
              go_wp2
              go_roundw
              case rel => exact ⟨5, by decide, by rfl, ⟨_, rfl, hkE2⟩, ⟨_, rfl, huE⟩, Lib.hid trivial⟩
              case measure => simp [intOf]
            · go_wp2_with fail
              refine hopx.mono ?_
              rintro e w' ⟨rfl, hwq⟩
              obtain rfl := hwq.symm
              clear hopx hwq
              go_wp2
              go_roundw
              case rel => exact ⟨5, by decide, by rfl, ⟨_, rfl, hkE⟩, ⟨_, rfl, huE⟩, Lib.hid trivial⟩
              case measure => simp [intOf]
      · have hux := optN_step r.o c on 5 120 rfl
        have hkx := knownN_step c 5 120 rfl
        have hle1 : u.size + 1 ≤ 7 := by omega
        by_cases hx : (120 : UInt8) = c
        · have hR : optR r.o c on 120 = on := if_pos hx
          rw [hR] at hux
          rw [show ((120 : UInt8) == c) = true from beq_iff_eq.2 hx] at hkx
          have hct : c.toNat = 120 := by rw [← hx]; rfl
          have hm1 : ((120 : Int) == (c.toNat : Int)) = true := by rw [hct]; rfl
          have hm2 : (120 : Int) = (c.toNat : Int) := by rw [hct]; rfl
          have hkE : Hid ((kb || true) = knownN c 6) := Lib.hid (by rw [hkx, hkb.out])
          have hkE1 : Hid (true = knownN c 6) := Lib.hid (by rw [← hkE.out]; cases kb <;> rfl)
          clear hkE
          have hkE := hkE1
          clear hkE1
          replace hx := Lib.hid hx
          replace hct := Lib.hid hct
          cases on
          · have huE : Hid (u = optN r.o c false 6) := Lib.hid (by rw [hux, hu.out]; rfl)
            clear hux hkx hu hkb hR
            cases kb
            · go_wp2
              go_roundw
              case rel => exact ⟨6, by decide, by rfl, ⟨_, rfl, hkE⟩, ⟨_, rfl, huE⟩, Lib.hid trivial⟩
              case measure => simp [intOf]
            · go_wp2
              go_roundw
              case rel => exact ⟨6, by decide, by rfl, ⟨_, rfl, hkE⟩, ⟨_, rfl, huE⟩, Lib.hid trivial⟩
              case measure => simp [intOf]
          · have huE : Hid (u ++ ⟨#[120]⟩ = optN r.o c true 6) := Lib.hid (by rw [hux, hu.out]; rfl)
            clear hux hkx hu hkb hR
            cases kb
            · go_wp2
              go_roundw
              case rel => exact ⟨6, by decide, by rfl, ⟨_, rfl, hkE⟩, ⟨_, rfl, huE⟩, Lib.hid trivial⟩
              case measure => simp [intOf]
            · go_wp2
              go_roundw
              case rel => exact ⟨6, by decide, by rfl, ⟨_, rfl, hkE⟩, ⟨_, rfl, huE⟩, Lib.hid trivial⟩
              case measure => simp [intOf]
        · have hR : optR r.o c on 120 = hasB r.o 120 := if_neg hx
          rw [hR] at hux
          rw [show ((120 : UInt8) == c) = false from beq_eq_false_iff_ne.2 hx, Bool.or_false] at hkx
          have hct : ¬ c.toNat = 120 := fun e => hx (UInt8.toNat_inj.1 (e.symm ▸ rfl))
          have hm1 : ((120 : Int) == (c.toNat : Int)) = false := by rw [beq_eq_false_iff_ne]; omega
          have hm3 : ((120 : Int) != (c.toNat : Int)) = true := by rw [bne, hm1]; rfl
          have hm2 : ¬ (120 : Int) = (c.toNat : Int) := by omega
          have hkE : Hid (kb = knownN c 6) := Lib.hid (by rw [hkx, hkb.out])
          have hopx := hop.out 120
          rw [show (((120 : UInt8)).toNat : Int) = 120 from rfl] at hopx
          generalize hasB r.o 120 = hb at hopx hux
          clear hkx hkb hR hct
          replace hx := Lib.hid hx
          cases hb
          · have huE : Hid (u = optN r.o c on 6) := Lib.hid (by rw [hux, hu.out]; rfl)
            clear hux hu
            cases kb
            · have hkE2 : Hid ((((120 : Int) == (c.toNat : Int))) = knownN c 6) := Lib.hid (hm1.trans hkE.out)
              go_wp2_with fail
              refine hopx.mono ?_
              rintro e w' ⟨rfl, hwq⟩
              obtain rfl := hwq.symm
              clear hopx hwq
              go_wp2
              go_roundw
              case rel => exact ⟨6, by decide, by rfl, ⟨_, rfl, hkE2⟩, ⟨_, rfl, huE⟩, Lib.hid trivial⟩
              case measure => simp [intOf]
            · go_wp2_with fail
              refine hopx.mono ?_
              rintro e w' ⟨rfl, hwq⟩
              obtain rfl := hwq.symm
              clear hopx hwq
              go_wp2
              go_roundw
              case rel => exact ⟨6, by decide, by rfl, ⟨_, rfl, hkE⟩, ⟨_, rfl, huE⟩, Lib.hid trivial⟩
              case measure => simp [intOf]
          · have huE : Hid (u ++ ⟨#[120]⟩ = optN r.o c on 6) := Lib.hid (by rw [hux, hu.out]; rfl)
            clear hux hu
            cases kb
            · have hkE2 : Hid ((((120 : Int) == (c.toNat : Int))) = knownN c 6) := Lib.hid (hm1.trans hkE.out)
              go_wp2_with fail
              refine hopx.mono ?_
              rintro e w' ⟨rfl, hwq⟩
              obtain rfl := hwq.symm
              clear hopx hwq
              go_wp2
              go_roundw
              case rel => exact ⟨6, by decide, by rfl, ⟨_, rfl, hkE2⟩, ⟨_, rfl, huE⟩, Lib.hid trivial⟩
              case measure => simp [intOf]
            · go_wp2_with fail
              refine hopx.mono ?_
              rintro e w' ⟨rfl, hwq⟩
              obtain rfl := hwq.symm
              clear hopx hwq
              go_wp2
              go_roundw
              case rel => exact ⟨6, by decide, by rfl, ⟨_, rfl, hkE⟩, ⟨_, rfl, huE⟩, Lib.hid trivial⟩
              case measure => simp [intOf]
    · obtain rfl : j = 6 := by omega
      have hj2 : ¬ (6 : Int) < 6 := by omega
      cases kb
      · have hk := Lib.hid hkb.out.symm
        clear hkb hu
        go_wp2
        go_ret
        exact .inl ⟨hk.out, rfl, rfl⟩
      · have hk := Lib.hid hkb.out.symm
        have hf2 := hfin.out u
        rw [hu.out] at hf2
        have huE := Lib.hid hu.out
        replace hf2 := Lib.hid hf2
        clear hkb hu
        go_wp2
        go_ret
        exact .inr ⟨hk.out, rfl, by rw [huE.out]; exact ⟨_, _, _, _, hf2.out.1⟩, by rw [huE.out]; exact hf2.out.2⟩
end
end Go.Proofs.YtigmdfdcflkggaaGreat
/-
  The document's answer: Environ. Conditions: names of at most 200 bytes, values of at most 5000, fewer than a hundred thousand.
-/
set_option linter.unusedSimpArgs false
set_option linter.unusedVariables false
namespace Go.Proofs.YtigmdfdcflkggaaGreat
open Go Go.RowKit Go.ChangeMaps

def envOne (p : ByteArray × Vr) : List ByteArray := if p.2.e = true then (if p.2.s = true then [p.1 ++ ⟨#[61]⟩ ++ p.2.v] else []) else []
def envR (l : Es Vr) : List ByteArray := l.flatMap envOne
theorem envR_snoc {L : Es Vr} {j : Nat} (hj : j < L.length) : envR (L.take (j + 1)) = envR (L.take j) ++ envOne L[j] := by
  unfold envR
  rw [List.take_succ_eq_append_getElem hj, List.flatMap_append]
  simp
theorem envR_length (L : Es Vr) : (envR L).length ≤ L.length := by
  unfold envR
  induction L with
  | nil => exact Nat.le_refl _
  | cons p l ih =>
    rw [List.flatMap_cons, List.length_append, List.length_cons]
    have : (envOne p).length ≤ 1 := by
      unfold envOne
      split
      · split
        · exact Nat.le_refl _
        · exact Nat.zero_le _
      · exact Nat.zero_le _
    omega
section
variable {W w w' : World} {rb : Nat} {r : Rf}
theorem row_s {z m : Nat} {v : Value} {L : List ByteArray} (h : W.ownsRow z 9 1 v m (L.map .string)) (hn : L.length = m) (hL : m ≤ 100000) (hb : Below z w W) (hz : z ≤ W.heap.size) (s : ByteArray) :
    ∃ A' c' W', (Builtin.append_ #[35, 35] 35 #[v, .slice (some ⟨W.heap.size, 0, none⟩) 1 1]).run Tryz.prog (W.alloc (.cells #[.string s] 9)) = .ok (.slice A' (m + 1) c') W' ∧
      W'.ownsRow z 9 1 (.slice A' (m + 1) c') (m + 1) ((L ++ [s]).map .string) ∧ Below z w W' := by
  obtain ⟨i0, hi, hz0, hz1, hz2⟩ := info_parts infoStr
  have hr := h.alloc (.cells #[.string s] 9)
  have hb1 := hb.alloc hz (.cells #[.string s] 9)
  have hbl : Blk (W.alloc (.cells #[.string s] 9)) W.heap.size [.string s] 9 := Blk.new W _ _
  obtain ⟨v', w', hr', h2, h3, _, h5⟩ := run_append_own_at (P := Tryz.prog) (W.alloc (.cells #[.string s] 9)) z 35 35 9 i0 _ 1 16 Tryz.underlying35 hi hz0 hz1 hz2 rfl (by decide) v m _ hr ⟨W.heap.size, 0, none⟩ 1 1 [.string s] rfl
    (fun j u hu => by rw [add_plain0, Nat.zero_add]; exact hbl.cell hu) (by simp [Value.oneCell']) (Nat.le_trans (by omega : m + 1 ≤ 100001) (by decide)) (by omega) (by simp; omega)
  obtain ⟨A', c', rfl, _, _⟩ := own_form h2
  refine ⟨A', c', w', hr', by rw [List.map_append]; exact h2, ⟨h3.os.trans hb1.os, h3.tape.trans hb1.tape, h3.output.trans hb1.output, Nat.le_trans hb1.size h3.size, fun b hb' => (h3.block b (Nat.lt_of_lt_of_le hb' (by simp; omega)) fun e => ?_).trans (hb1.block b hb')⟩⟩
  have := (hr.lt b e.symm).1
  omega
set_option maxRecDepth 100000 in
set_option maxHeartbeats 16000000 in
theorem rEnviron_any (h : RfA W rb r) (hl : r.v.length ≤ 90000) (hsz : ∀ p ∈ r.v, p.1.size ≤ 200 ∧ p.2.v.size ≤ 5000) :
    Calls Tryz.prog 66 #[ptrV rb] W fun e w' => ∃ A' c', e = .returned (.slice A' (envR r.v).length c') ∧ w'.ownsRow W.heap.size 9 1 (.slice A' (envR r.v).length c') (envR r.v).length ((envR r.v).map .string) ∧ Below W.heap.size W w' := by
  obtain ⟨sv, sf, sa, st, h⟩ := h
  obtain ⟨A, c, hst, hc, hcm⟩ := own_form h.rv
  subst hst
  obtain ⟨z, hz⟩ : ∃ z, W.heap.size = z := ⟨_, rfl⟩
  have hrb := h.blk.lt
  rw [hz] at hrb
  have hall := fun (w2 : World) (hb : Below z W w2) => h.below (hz ▸ hb)
  have hat0 := fun (w2 : World) (hb : Below z W w2) => (hall w2 hb).rv
  have hc0 : ∀ (w2 : World), Below z W w2 → w2.cell? ⟨rb, 0, none⟩ = some (.slice A r.v.length c) := fun w2 hb => (hall w2 hb).blk.cell (i := 0) rfl
  obtain ⟨n, hn⟩ : ∃ n, r.v.length = n := ⟨_, rfl⟩
  obtain ⟨L, hL⟩ : ∃ L, r.v = L := ⟨_, rfl⟩
  rw [hn] at hl hc hat0 hc0
  rw [hL] at hat0 hn hsz ⊢
  rw [hz]
  obtain ⟨EL, hEL⟩ : ∃ E, envR L = E := ⟨_, rfl⟩
  rw [hEL]
  unfold maxLen at hcm
  unfold ptrV
  replace hat0 := Lib.hid hat0
  replace hc0 := Lib.hid hc0
  replace hn := Lib.hid hn
  replace hz := Lib.hid hz
  replace hL := Lib.hid hL
  replace hEL := Lib.hid hEL
  replace hsz := Lib.hid hsz
  clear h hall
  have hP0 : Hid (W.ownsRow z 9 1 (.slice none 0 0) 0 ((envR (L.take 0)).map .string)) := Lib.hid (World.ownsRow_nil _ _ _ _)
  have hm0 : Hid ((envR (L.take 0)).length = 0) := Lib.hid rfl
  have hb0 : Hid (Below z W W) := Lib.hid (Below.refl _ _)
  go_enter Tryz.func66, Tryz.ntmps66
  go_wp2
  go_loopw [3, 4] (fun ov nv wr => ∃ j m : Nat, j ≤ n ∧ nv = .int .i64 (j : Int) ∧ Hid (wr.ownsRow z 9 1 ov m ((envR (L.take j)).map .string)) ∧ Hid ((envR (L.take j)).length = m) ∧ Hid (Below z W wr)) (fun _ nv _ => n - (intOf nv).toNat)
  case atStart => exact ⟨0, 0, Nat.zero_le _, rfl, hP0, hm0, hb0⟩
  case round =>
    clear hP0 hb0 hm0
    obtain ⟨j, m, hj, rfl, hP, hm, hb⟩ := hrel
    obtain ⟨AO, cO, hov, hcO, hcOm⟩ := own_form hP.out
    subst hov
    unfold maxLen at hcOm
    have hzr : z ≤ wr.heap.size := by have := hb.out.size; have := hz.out; omega
    have cr : wr.cell? ⟨rb, 0, none⟩ = some (.slice A n c) := hc0.out wr hb.out
    have crl : rb < wr.heap.size := by have := hb.out.size; have := hz.out; omega
    have hdl : m ≤ 100000 := by
      have := envR_length (L.take j)
      rw [List.length_take, hm.out] at this
      omega
    by_cases hlt : j < n
    · have hjn : j < L.length := by rw [hn.out]; exact hlt
      have hrow := hat0.out wr hb.out
      obtain ⟨g, rfl, _, hgl, hat⟩ := own_flat eV_len hrow (by omega)
      have hjl := List.getElem?_eq_getElem hjn
      have c0 : wr.cell? ⟨g, j * 5, none⟩ = some _ := hat j _ hjl 0 _ rfl
      have c1 : wr.cell? ⟨g, j * 5 + 1, none⟩ = some _ := hat j _ hjl 1 _ rfl
      have c2 : wr.cell? ⟨g, j * 5 + 2, none⟩ = some _ := hat j _ hjl 2 _ rfl
      have c3 : wr.cell? ⟨g, j * 5 + 3, none⟩ = some _ := hat j _ hjl 3 _ rfl
      have hj1 : (0 : Int) ≤ (j : Int) := by omega
      have hj2 : (j : Int) < (n : Int) := by omega
      have hsn := envR_snoc hjn
      have hss := hsz.out _ (List.getElem_mem hjn)
      generalize L[j] = p at c0 c1 c2 c3 hsn hss
      obtain ⟨k1, ⟨x0, x1, x2, x3⟩⟩ := p
      unfold envOne at hsn
      dsimp only at c0 c1 c2 c3 hsn hss
      obtain ⟨hks, hvs⟩ := hss
      clear hjl hat hrow
      cases x2
      · rw [if_neg (by decide), List.append_nil] at hsn
        have hPE := hP
        have hmE := hm
        rw [← hsn] at hPE hmE
        have hbE := hb
        clear hsn hdl hP hm hb
        go_wp2
        go_roundw
        case rel => exact ⟨j + 1, _, by omega, by go_num, hPE, hmE, hbE⟩
        case measure => simp [intOf]; omega
      · cases x1
        · rw [if_pos rfl, if_neg (by decide), List.append_nil] at hsn
          have hPE := hP
          have hmE := hm
          rw [← hsn] at hPE hmE
          have hbE := hb
          clear hsn hdl hP hm hb
          go_wp2
          go_roundw
          case rel => exact ⟨j + 1, _, by omega, by go_num, hPE, hmE, hbE⟩
          case measure => simp [intOf]; omega
        · rw [if_pos rfl, if_pos rfl] at hsn
          obtain ⟨q0, hq0⟩ : ∃ q, wr.drew = q := ⟨_, rfl⟩
          have hPq := ownBelow hP.out (drewN_below wr 1)
          have hbq := drewB hb.out 1
          rw [show wr.drewN 1 = q0 from hq0] at hPq hbq
          have d0 : q0.cell? ⟨rb, 0, none⟩ = some (.slice (some ⟨g, 0, none⟩) n c) := by rw [← hq0]; exact cr
          have d1 : q0.cell? ⟨g, j * 5, none⟩ = some (.string k1) := by rw [← hq0]; exact c0
          have d2 : q0.cell? ⟨g, j * 5 + 1, none⟩ = some (.string x0) := by rw [← hq0]; exact c1
          have hzq : z ≤ q0.heap.size := by have := hbq.size; have := hz.out; omega
          obtain ⟨A2, c2', W2, hrun, hP2, hb2⟩ := row_s hPq hm.out hdl hbq hzq (k1 ++ ⟨#[61]⟩ ++ x0)
          have hmE : Hid ((envR (L.take (j + 1))).length = m + 1) := Lib.hid (by rw [hsn, List.length_append, hm.out]; rfl)
          rw [← hsn] at hP2
          obtain ⟨W1, hW1⟩ : ∃ W1, q0.alloc (.cells #[.string (k1 ++ ⟨#[61]⟩ ++ x0)] 9) = W1 := ⟨_, rfl⟩
          have hbW1 : Below z W W1 := by rw [← hW1]; exact hbq.alloc hzq _
          have hgz : ∀ w2, Below z W w2 → w2.cell? ⟨g, j * 5, none⟩ = some (.string k1) ∧ w2.cell? ⟨g, j * 5 + 1, none⟩ = some (.string x0) := fun w2 hb2 => by
            have hgz : g < z := by
              obtain ⟨g2, e2, _, h2, _⟩ := own_flat eV_len (hat0.out W (Below.refl _ _)) (by omega)
              cases e2
              rw [← hz.out]; exact h2
            have := hb.out.block g hgz
            exact ⟨(World.cell?_of_block (a := ⟨g, j * 5, none⟩) ((hb2.block g hgz).trans this.symm)).trans c0, (World.cell?_of_block (a := ⟨g, j * 5 + 1, none⟩) ((hb2.block g hgz).trans this.symm)).trans c1⟩
          have ka0 := hc0.out W1 hbW1
          obtain ⟨ka1, ka2⟩ := hgz W1 hbW1
          have kb0 := hc0.out W2 hb2
          obtain ⟨kb1, kb2⟩ := hgz W2 hb2
          rw [hW1] at hrun
          have hPE := Lib.hid hP2
          have hbE := Lib.hid hb2
          replace hrun := Lib.hid hrun
          replace hW1 := Lib.hid hW1
          replace hq0 := Lib.hid hq0
          go_upto_region 6 with fail
          clear hP2 hb2 hP hm hb hPq hbq hsn hdl hbW1 hgz c0 c1 c2 c3 cr
          refine wp_region_last (L := 21) (S := (fun w' : World => w'.cell? ⟨rb, 0, none⟩ = some (.slice (some ⟨g, 0, none⟩) n c) ∧ w'.cell? ⟨g, j * 5, none⟩ = some (.string k1) ∧ w'.cell? ⟨g, j * 5 + 1, none⟩ = some (.string x0))) (by kernel_rfl) ?_
          rw [hq0.out]
          have hS0 : (fun w' : World => w'.cell? ⟨rb, 0, none⟩ = some (.slice (some ⟨g, 0, none⟩) n c) ∧ w'.cell? ⟨g, j * 5, none⟩ = some (.string k1) ∧ w'.cell? ⟨g, j * 5 + 1, none⟩ = some (.string x0)) q0 := ⟨d0, d1, d2⟩
          refine wpAnyT_takeT (n := 60) (i := 0) (v := .slice AO m cO) rfl (by kernel_rfl) (by kernel_rfl) (by kernel_rfl) (by kernel_rfl) (by kernel_rfl) (fun _ _ _ h => h) (Or.inl ⟨by rfl, ?_⟩) hS0 ?_
          · intro W hW
            obtain ⟨k0, k1, k2⟩ := hW
            clear hS0 d0 d1 d2 ka0 ka1 ka2 kb0 kb1 kb2
            go_simp
            try (intro hx; exfalso; omega)
            try omega
          try simp only [Act.put, List.setIfInBounds_toArray]
          refine wpAnyT_takeT (n := 60) (i := 1) (v := .pointer (some ⟨rb, 0, none⟩)) rfl (by kernel_rfl) (by kernel_rfl) (by kernel_rfl) (by kernel_rfl) (by kernel_rfl) (fun _ _ _ h => h) (Or.inl ⟨by rfl, ?_⟩) hS0 ?_
          · intro W hW
            obtain ⟨k0, k1, k2⟩ := hW
            clear hS0 d0 d1 d2 ka0 ka1 ka2 kb0 kb1 kb2
            go_simp
            try (intro hx; exfalso; omega)
            try omega
          try simp only [Act.put]
          refine wpAnyT_takeT (n := 60) (i := 2) (v := .pointer (some ⟨rb, 0, none⟩)) rfl (by kernel_rfl) (by kernel_rfl) (by kernel_rfl) (by kernel_rfl) (by kernel_rfl) (fun _ _ _ h => h) (Or.inl ⟨by rfl, ?_⟩) hS0 ?_
          · intro W hW
            obtain ⟨k0, k1, k2⟩ := hW
            clear hS0 d0 d1 d2 ka0 ka1 ka2 kb0 kb1 kb2
            go_simp
            try (intro hx; exfalso; omega)
            try omega
          try simp only [Act.put]
          refine wpAnyT_takeT (n := 60) (i := 3) (v := .pointer (some ⟨rb, 0, none⟩)) rfl (by kernel_rfl) (by kernel_rfl) (by kernel_rfl) (by kernel_rfl) (by kernel_rfl) (fun _ _ _ h => h) (Or.inl ⟨by rfl, ?_⟩) hS0 ?_
          · intro W hW
            obtain ⟨k0, k1, k2⟩ := hW
            clear hS0 d0 d1 d2 ka0 ka1 ka2 kb0 kb1 kb2
            go_simp
            try (intro hx; exfalso; omega)
            try omega
          try simp only [Act.put]
          refine wpAnyT_takeT (n := 60) (i := 4) (v := .slice (some ⟨g, 0, none⟩) n c) rfl (by kernel_rfl) (by kernel_rfl) (by kernel_rfl) (by kernel_rfl) (by kernel_rfl) (fun _ _ _ h => h) (Or.inl ⟨by rfl, ?_⟩) hS0 ?_
          · intro W hW
            obtain ⟨k0, k1, k2⟩ := hW
            clear hS0 d0 d1 d2 ka0 ka1 ka2 kb0 kb1 kb2
            go_simp
            try (intro hx; exfalso; omega)
            try omega
          try simp only [Act.put]
          refine wpAnyT_takeT (n := 60) (i := 5) (v := .int .i64 (j : Int)) rfl (by kernel_rfl) (by kernel_rfl) (by kernel_rfl) (by kernel_rfl) (by kernel_rfl) (fun _ _ _ h => h) (Or.inl ⟨by rfl, ?_⟩) hS0 ?_
          · intro W hW
            obtain ⟨k0, k1, k2⟩ := hW
            clear hS0 d0 d1 d2 ka0 ka1 ka2 kb0 kb1 kb2
            go_simp
            try (intro hx; exfalso; omega)
            try omega
          try simp only [Act.put]
          refine wpAnyT_takeT (n := 60) (i := 6) (v := .pointer (some ⟨g, j * 5, none⟩)) rfl (by kernel_rfl) (by kernel_rfl) (by kernel_rfl) (by kernel_rfl) (by kernel_rfl) (fun _ _ _ h => h) (Or.inl ⟨by rfl, ?_⟩) hS0 ?_
          · intro W hW
            obtain ⟨k0, k1, k2⟩ := hW
            clear hS0 d0 d1 d2 ka0 ka1 ka2 kb0 kb1 kb2
            go_simp
            try (intro hx; exfalso; omega)
            try omega
          try simp only [Act.put]
          refine wpAnyT_takeT (n := 60) (i := 7) (v := .pointer (some ⟨g, j * 5, none⟩)) rfl (by kernel_rfl) (by kernel_rfl) (by kernel_rfl) (by kernel_rfl) (by kernel_rfl) (fun _ _ _ h => h) (Or.inl ⟨by rfl, ?_⟩) hS0 ?_
          · intro W hW
            obtain ⟨k0, k1, k2⟩ := hW
            clear hS0 d0 d1 d2 ka0 ka1 ka2 kb0 kb1 kb2
            go_simp
            try (intro hx; exfalso; omega)
            try omega
          try simp only [Act.put]
          refine wpAnyT_takeT (n := 60) (i := 8) (v := .string k1) rfl (by kernel_rfl) (by kernel_rfl) (by kernel_rfl) (by kernel_rfl) (by kernel_rfl) (fun _ _ _ h => h) (Or.inl ⟨by rfl, ?_⟩) hS0 ?_
          · intro W hW
            obtain ⟨k0, k1, k2⟩ := hW
            clear hS0 d0 d1 d2 ka0 ka1 ka2 kb0 kb1 kb2
            go_simp
            try (intro hx; exfalso; omega)
            try omega
          try simp only [Act.put]
          refine wpAnyT_takeT (n := 60) (i := 9) (v := .string (k1 ++ ⟨#[61]⟩)) rfl (by kernel_rfl) (by kernel_rfl) (by kernel_rfl) (by kernel_rfl) (by kernel_rfl) (fun _ _ _ h => h) (Or.inl ⟨by rfl, ?_⟩) hS0 ?_
          · intro W hW
            obtain ⟨k0, k1, k2⟩ := hW
            clear hS0 d0 d1 d2 ka0 ka1 ka2 kb0 kb1 kb2
            go_simp
            try (intro hx; exfalso; omega)
            try omega
          try simp only [Act.put]
          refine wpAnyT_takeT (n := 60) (i := 10) (v := .pointer (some ⟨rb, 0, none⟩)) rfl (by kernel_rfl) (by kernel_rfl) (by kernel_rfl) (by kernel_rfl) (by kernel_rfl) (fun _ _ _ h => h) (Or.inl ⟨by rfl, ?_⟩) hS0 ?_
          · intro W hW
            obtain ⟨k0, k1, k2⟩ := hW
            clear hS0 d0 d1 d2 ka0 ka1 ka2 kb0 kb1 kb2
            go_simp
            try (intro hx; exfalso; omega)
            try omega
          try simp only [Act.put]
          refine wpAnyT_takeT (n := 60) (i := 11) (v := .pointer (some ⟨rb, 0, none⟩)) rfl (by kernel_rfl) (by kernel_rfl) (by kernel_rfl) (by kernel_rfl) (by kernel_rfl) (fun _ _ _ h => h) (Or.inl ⟨by rfl, ?_⟩) hS0 ?_
          · intro W hW
            obtain ⟨k0, k1, k2⟩ := hW
            clear hS0 d0 d1 d2 ka0 ka1 ka2 kb0 kb1 kb2
            go_simp
            try (intro hx; exfalso; omega)
            try omega
          try simp only [Act.put]
          refine wpAnyT_takeT (n := 60) (i := 12) (v := .pointer (some ⟨rb, 0, none⟩)) rfl (by kernel_rfl) (by kernel_rfl) (by kernel_rfl) (by kernel_rfl) (by kernel_rfl) (fun _ _ _ h => h) (Or.inl ⟨by rfl, ?_⟩) hS0 ?_
          · intro W hW
            obtain ⟨k0, k1, k2⟩ := hW
            clear hS0 d0 d1 d2 ka0 ka1 ka2 kb0 kb1 kb2
            go_simp
            try (intro hx; exfalso; omega)
            try omega
          try simp only [Act.put]
          refine wpAnyT_takeT (n := 60) (i := 13) (v := .slice (some ⟨g, 0, none⟩) n c) rfl (by kernel_rfl) (by kernel_rfl) (by kernel_rfl) (by kernel_rfl) (by kernel_rfl) (fun _ _ _ h => h) (Or.inl ⟨by rfl, ?_⟩) hS0 ?_
          · intro W hW
            obtain ⟨k0, k1, k2⟩ := hW
            clear hS0 d0 d1 d2 ka0 ka1 ka2 kb0 kb1 kb2
            go_simp
            try (intro hx; exfalso; omega)
            try omega
          try simp only [Act.put]
          refine wpAnyT_takeT (n := 60) (i := 14) (v := .int .i64 (j : Int)) rfl (by kernel_rfl) (by kernel_rfl) (by kernel_rfl) (by kernel_rfl) (by kernel_rfl) (fun _ _ _ h => h) (Or.inl ⟨by rfl, ?_⟩) hS0 ?_
          · intro W hW
            obtain ⟨k0, k1, k2⟩ := hW
            clear hS0 d0 d1 d2 ka0 ka1 ka2 kb0 kb1 kb2
            go_simp
            try (intro hx; exfalso; omega)
            try omega
          try simp only [Act.put]
          refine wpAnyT_takeT (n := 60) (i := 15) (v := .pointer (some ⟨g, j * 5, none⟩)) rfl (by kernel_rfl) (by kernel_rfl) (by kernel_rfl) (by kernel_rfl) (by kernel_rfl) (fun _ _ _ h => h) (Or.inl ⟨by rfl, ?_⟩) hS0 ?_
          · intro W hW
            obtain ⟨k0, k1, k2⟩ := hW
            clear hS0 d0 d1 d2 ka0 ka1 ka2 kb0 kb1 kb2
            go_simp
            try (intro hx; exfalso; omega)
            try omega
          try simp only [Act.put]
          refine wpAnyT_takeT (n := 60) (i := 16) (v := .pointer (some ⟨g, j * 5 + 1, none⟩)) rfl (by kernel_rfl) (by kernel_rfl) (by kernel_rfl) (by kernel_rfl) (by kernel_rfl) (fun _ _ _ h => h) (Or.inl ⟨by rfl, ?_⟩) hS0 ?_
          · intro W hW
            obtain ⟨k0, k1, k2⟩ := hW
            clear hS0 d0 d1 d2 ka0 ka1 ka2 kb0 kb1 kb2
            go_simp
            try (intro hx; exfalso; omega)
            try omega
          try simp only [Act.put]
          refine wpAnyT_takeT (n := 60) (i := 17) (v := .string x0) rfl (by kernel_rfl) (by kernel_rfl) (by kernel_rfl) (by kernel_rfl) (by kernel_rfl) (fun _ _ _ h => h) (Or.inl ⟨by rfl, ?_⟩) hS0 ?_
          · intro W hW
            obtain ⟨k0, k1, k2⟩ := hW
            clear hS0 d0 d1 d2 ka0 ka1 ka2 kb0 kb1 kb2
            go_simp
            try (intro hx; exfalso; omega)
            try omega
          try simp only [Act.put]
          refine wpAnyT_takeT (n := 60) (i := 18) (v := .string (k1 ++ ⟨#[61]⟩ ++ x0)) rfl (by kernel_rfl) (by kernel_rfl) (by kernel_rfl) (by kernel_rfl) (by kernel_rfl) (fun _ _ _ h => h) (Or.inl ⟨by rfl, ?_⟩) hS0 ?_
          · intro W hW
            obtain ⟨k0, k1, k2⟩ := hW
            clear hS0 d0 d1 d2 ka0 ka1 ka2 kb0 kb1 kb2
            go_simp
            try (intro hx; exfalso; omega)
            try omega
          try simp only [Act.put]
          clear hS0
          refine wpAnyT_one (i := 19) rfl (by kernel_rfl) rfl ?_
          go_simp
          rw [hW1.out]
          try refine ⟨⟨ka0, ka1, ka2⟩, ?_⟩
          refine wpAnyT_one (i := 20) rfl (by kernel_rfl) rfl ?_
          refine wp_app_of (.tmp 32) (.tmp 51) 35 35 rfl _ _ _ W2 rfl rfl hrun.out ?_
          refine ⟨fun _ => ⟨kb0, kb1, kb2⟩, ?_⟩
          try simp only [Act.put, List.setIfInBounds_toArray]
          refine wpAnyT_one (i := 21) rfl (by kernel_rfl) rfl ?_
          go_simp
          refine wpAnyT_done (by kernel_rfl) ?_ _
          clear ka0 ka1 ka2 kb0 kb1 kb2 d0 d1 d2 hrun hW1 hq0
          go_wp2
          go_roundw
          case rel => exact ⟨j + 1, _, by omega, by go_num, hPE, hmE, hbE⟩
          case measure => simp [intOf]; omega
    · obtain rfl : j = n := by omega
      have hj2 : ¬ (j : Int) < (j : Int) := by omega
      have hfull : L.take j = L := by rw [← hn.out]; exact List.take_length
      rw [hfull, hEL.out] at hP hm
      have hm2 := hm.out
      subst hm2
      have hfin := Lib.hid (And.intro hP.out hb.out)
      clear hP hb hm
      go_wp2
      go_ret
      exact ⟨_, _, rfl, hfin.out⟩
end
end Go.Proofs.YtigmdfdcflkggaaGreat
/-
  What a state knows and what the document's answer has, side by side. Conditions: none.
-/
set_option linter.unusedSimpArgs false
set_option linter.unusedVariables false
namespace Go.Proofs.YtigmdfdcflkggaaGreat
open Go Go.RowKit Go.ChangeMaps

/-- Pairs by rising names, as f has them. -/
structure CanonG {α : Type} (f : ByteArray → Option α) (L : Es α) : Prop where
  rising : L.Pairwise (fun p q => bytesOf p.1 < bytesOf q.1)
  has : ∀ k, look L k = f k
section
variable {α : Type} {f : ByteArray → Option α} {L : Es α} {k : ByteArray} {x : α}
theorem CanonG.apart (h : CanonG f L) : L.Pairwise (fun p q => p.1 ≠ q.1) := h.rising.imp (fun {a b} hlt (e : a.1 = b.1) => List.lt_irrefl (bytesOf b.1) (by rw [e] at hlt; exact hlt))
theorem dropK_none {l : Es α} : ∀ p ∈ dropK l k, p.1 ≠ k := fun p hp => by
  have := (List.mem_filter.1 hp).2
  simpa using this
theorem look_insG : ∀ {l : Es α}, (∀ p ∈ l, p.1 ≠ k) → ∀ j, look (insG k x l) j = if j = k then some x else look l j
  | [], _, j => by
    simp only [insG, look]
    by_cases hj : j = k
    · rw [if_pos hj, if_pos hj.symm]
    · rw [if_neg hj, if_neg (Ne.symm hj)]
  | q :: l, h, j => by
    have hq := h q (List.mem_cons_self ..)
    unfold insG
    split
    · simp only [look]
      rw [look_insG (l := l) fun p hp => h p (List.mem_cons_of_mem _ hp)]
      by_cases hj : j = k
      · subst hj; rw [if_neg hq]; simp
      · rw [if_neg hj, if_neg hj]
    · have hd : dropK (q :: l) k = q :: l := by
        unfold dropK
        exact List.filter_eq_self.2 fun p hp => by have := h p hp; simpa using this
      rw [hd]
      show (if k = j then some x else look (q :: l) j) = _
      by_cases hj : j = k
      · rw [if_pos hj, if_pos hj.symm]
      · rw [if_neg hj, if_neg (Ne.symm hj)]
theorem insG_mem : ∀ {l : Es α} {p : ByteArray × α}, p ∈ insG k x l → p = (k, x) ∨ p ∈ l
  | [], p, hp => .inl (by simpa [insG] using hp)
  | q :: l, p, hp => by
    unfold insG at hp
    split at hp
    · rcases List.mem_cons.1 hp with e | hp
      · exact .inr (e ▸ List.mem_cons_self ..)
      · rcases insG_mem hp with e | e
        · exact .inl e
        · exact .inr (List.mem_cons_of_mem _ e)
    · rcases List.mem_cons.1 hp with e | hp
      · exact .inl e
      · exact .inr (List.mem_filter.1 hp).1
theorem insG_rising : ∀ {l : Es α}, l.Pairwise (fun p q => bytesOf p.1 < bytesOf q.1) → (∀ p ∈ l, p.1 ≠ k) → (insG k x l).Pairwise (fun p q => bytesOf p.1 < bytesOf q.1)
  | [], _, _ => List.pairwise_singleton _ _
  | q :: l, h, hk => by
    have h2 := List.pairwise_cons.1 h
    unfold insG
    split
    · rename_i hq
      refine List.pairwise_cons.2 ⟨fun p hp => ?_, insG_rising h2.2 fun p hp => hk p (List.mem_cons_of_mem _ hp)⟩
      rcases insG_mem hp with rfl | hp
      · exact hq
      · exact h2.1 p hp
    · rename_i hq
      have hd : dropK (q :: l) k = q :: l := by
        unfold dropK
        exact List.filter_eq_self.2 fun p hp => by have := hk p hp; simpa using this
      rw [hd]
      have hkq : bytesOf k < bytesOf q.1 := lt_of_not hq (hk q (List.mem_cons_self ..))
      refine List.pairwise_cons.2 ⟨fun p hp => ?_, h⟩
      rcases List.mem_cons.1 hp with rfl | hp
      · exact hkq
      · exact List.lt_trans hkq (h2.1 p hp)
theorem insG_drop : ∀ {l : Es α}, l.Pairwise (fun p q => bytesOf p.1 < bytesOf q.1) → insG k x l = insG k x (dropK l k)
  | [], _ => rfl
  | q :: l, h => by
    have h2 := List.pairwise_cons.1 h
    by_cases hq : bytesOf q.1 < bytesOf k
    · have hne : q.1 ≠ k := fun e => List.lt_irrefl _ (by rw [e] at hq; exact hq)
      have hd : dropK (q :: l) k = q :: dropK l k := by
        unfold dropK
        exact List.filter_cons_of_pos (by simpa using hne)
      rw [hd]
      unfold insG
      rw [if_pos hq, if_pos hq, insG_drop h2.2]
    · have e1 : insG k x (q :: l) = (k, x) :: dropK (q :: l) k := by unfold insG; rw [if_neg hq]
      rw [e1]
      have hall : ∀ p ∈ dropK (q :: l) k, ¬ bytesOf p.1 < bytesOf k := fun p hp hlt => by
        have hp2 := (List.mem_filter.1 hp).1
        rcases List.mem_cons.1 hp2 with rfl | hp2
        · exact hq hlt
        · exact hq (List.lt_trans (h2.1 p hp2) hlt)
      have hno := dropK_none (l := q :: l) (k := k)
      generalize dropK (q :: l) k = M at hall hno ⊢
      cases M with
      | nil => rfl
      | cons p M =>
        unfold insG
        rw [if_neg (hall p (List.mem_cons_self ..))]
        have hd : dropK (p :: M) k = p :: M := by
          unfold dropK
          exact List.filter_eq_self.2 fun p hp => by have := hno p hp; simpa using this
        rw [hd]
theorem CanonG.drop (h : CanonG f L) (k : ByteArray) : CanonG (updF f k none) (dropK L k) := ⟨h.rising.filter _, fun j => by rw [look_dropK, h.has]; rfl⟩
theorem CanonG.put (h : CanonG f L) (k : ByteArray) (x : α) : CanonG (updF f k (some x)) (putL false k x L) := by
  show CanonG _ (insG k x L)
  rw [insG_drop h.rising]
  refine ⟨insG_rising (h.rising.filter _) dropK_none, fun j => ?_⟩
  rw [look_insG dropK_none, look_dropK, h.has]
  unfold updF
  by_cases hj : j = k
  · rw [if_pos hj, if_pos hj]
  · rw [if_neg hj, if_neg hj, if_neg hj]
theorem CanonG.withK (h : CanonG f L) (k : ByteArray) (x : α) : CanonG (updF f k (some x)) (putL false k x (dropK L k)) := by
  have := h.put k x
  have e : putL false k x L = putL false k x (dropK L k) := insG_drop h.rising
  rwa [e] at this
theorem look_drop (h : ∀ j, look L j = f j) (k : ByteArray) : ∀ j, look (dropK L k) j = updF f k none j := fun j => by
  rw [look_dropK, h]; rfl
theorem look_snoc (h : ∀ j, look L j = f j) (k : ByteArray) (x : α) : ∀ j, look (dropK L k ++ [(k, x)]) j = updF f k (some x) j := fun j => by
  have hl : ∀ (M : Es α) j, (∀ p ∈ M, p.1 ≠ k) → look (M ++ [(k, x)]) j = if j = k then some x else look M j := fun M => by
    induction M with
    | nil =>
      intro j _
      show (if k = j then some x else none) = _
      by_cases hj : j = k
      · rw [if_pos hj, if_pos hj.symm]
      · rw [if_neg hj, if_neg (Ne.symm hj)]; rfl
    | cons q M ih =>
      intro j hM
      show (if q.1 = j then some q.2 else look (M ++ [(k, x)]) j) = if j = k then some x else (if q.1 = j then some q.2 else look M j)
      rw [ih j fun p hp => hM p (List.mem_cons_of_mem _ hp)]
      by_cases hj : j = k
      · subst hj; rw [if_neg (hM q (List.mem_cons_self ..))]; simp
      · rw [if_neg hj, if_neg hj]
  rw [hl _ j dropK_none, look_dropK, h]
  unfold updF
  by_cases hj : j = k
  · rw [if_pos hj, if_pos hj]
  · rw [if_neg hj, if_neg hj, if_neg hj]
theorem putL_length (no : Bool) (k : ByteArray) (x : α) (l : Es α) : (putL no k x l).length ≤ l.length + 1 := by
  have h1 := List.length_filter_le (fun p : ByteArray × α => p.1 ≠ k) l
  unfold putL
  split
  · unfold dropK; omega
  · clear h1
    induction l with
    | nil => exact Nat.le_refl _
    | cons q l ih =>
      unfold insG
      split
      · simp only [List.length_cons]; omega
      · have := List.length_filter_le (fun p : ByteArray × α => p.1 ≠ k) (q :: l)
        unfold dropK
        simp only [List.length_cons] at this ⊢; omega
end
structure Corr (s : Sta) (r : Rf) : Prop where
  v : CanonG s.v r.v
  f : ∀ k, look r.f k = s.f k
  a : CanonG s.a r.a
  t : CanonG s.t r.t
  o : r.o = s.o
  os : r.o.size ≤ 6
  gl : r.g.l = s.g.l
  gn : r.g.n = s.g.n
  ga : r.g.a = s.g.a
  gi : r.g.i = s.g.i
  b : ∀ k x, s.v k = some x → bareV x = x
/-- How many names there are at most. -/
structure Bd (N : Nat) (r : Rf) : Prop where
  v : r.v.length ≤ N
  f : r.f.length ≤ N
  a : r.a.length ≤ N
  t : r.t.length ≤ N
theorem Bd.mono {N M : Nat} {r : Rf} (h : Bd N r) (k : N ≤ M) : Bd M r := ⟨Nat.le_trans h.v k, Nat.le_trans h.f k, Nat.le_trans h.a k, Nat.le_trans h.t k⟩
theorem Corr.fnd {t : Tg} {r : Rf} (h : Corr t.cur r) (k : ByteArray) : fndV r k = valV t k := by unfold fndV valV; rw [h.v.has]
theorem Corr.opt {t : Tg} {r : Rf} (h : Corr t.cur r) (c : UInt8) : hasB r.o c = optB t c := by unfold hasB optB; rw [h.o]
section
variable {s : Sta} {r : Rf} {k : ByteArray}
theorem Corr.setv (h : Corr s r) (k : ByteArray) (x : Vr) (hx : bareV x = x) : Corr { s with v := updF s.v k (some x) } { r with v := putL false k x r.v } := ⟨h.v.put k x, h.f, h.a, h.t, h.o, h.os, h.gl, h.gn, h.ga, h.gi, fun j y hj => by
  have hj : (if j = k then some x else s.v j) = some y := hj
  split at hj
  · cases hj; exact hx
  · exact h.b j y hj⟩
theorem Corr.delv (h : Corr s r) (k : ByteArray) (x : Vr) : Corr { s with v := updF s.v k none } { r with v := putL true k x r.v } := ⟨h.v.drop k, h.f, h.a, h.t, h.o, h.os, h.gl, h.gn, h.ga, h.gi, fun j y hj => by
  have hj : (if j = k then none else s.v j) = some y := hj
  split at hj
  · cases hj
  · exact h.b j y hj⟩
theorem Corr.setf (h : Corr s r) (k : ByteArray) (x : Nd) : Corr { s with f := updF s.f k (some x) } { r with f := dropK r.f k ++ [(k, x)] } := ⟨h.v, look_snoc h.f k x, h.a, h.t, h.o, h.os, h.gl, h.gn, h.ga, h.gi, h.b⟩
theorem Corr.delf (h : Corr s r) (k : ByteArray) : Corr { s with f := updF s.f k none } { r with f := dropK r.f k } := ⟨h.v, look_drop h.f k, h.a, h.t, h.o, h.os, h.gl, h.gn, h.ga, h.gi, h.b⟩
theorem Corr.seta (h : Corr s r) (k x : ByteArray) : Corr { s with a := updF s.a k (some x) } { r with a := putL false k x (dropK r.a k) } := ⟨h.v, h.f, h.a.withK k x, h.t, h.o, h.os, h.gl, h.gn, h.ga, h.gi, h.b⟩
theorem Corr.dela (h : Corr s r) (k : ByteArray) : Corr { s with a := updF s.a k none } { r with a := dropK r.a k } := ⟨h.v, h.f, h.a.drop k, h.t, h.o, h.os, h.gl, h.gn, h.ga, h.gi, h.b⟩
theorem Corr.sett (h : Corr s r) (k x : ByteArray) : Corr { s with t := updF s.t k (some x) } { r with t := putL false k x (dropK r.t k) } := ⟨h.v, h.f, h.a, h.t.withK k x, h.o, h.os, h.gl, h.gn, h.ga, h.gi, h.b⟩
theorem Corr.delt (h : Corr s r) (k : ByteArray) : Corr { s with t := updF s.t k none } { r with t := dropK r.t k } := ⟨h.v, h.f, h.a, h.t.drop k, h.o, h.os, h.gl, h.gn, h.ga, h.gi, h.b⟩
theorem Corr.seto (h : Corr s r) (o : ByteArray) (ho : o.size ≤ 6) : Corr { s with o := o } { r with o := o } := ⟨h.v, h.f, h.a, h.t, rfl, ho, h.gl, h.gn, h.ga, h.gi, h.b⟩
theorem Corr.setg (h : Corr s r) (g g' : Gv) (h1 : g'.l = g.l) (h2 : g'.n = g.n) (h3 : g'.a = g.a) (h4 : g'.i = g.i) : Corr { s with g := g } { r with g := g' } := ⟨h.v, h.f, h.a, h.t, h.o, h.os, h1, h2, h3, h4, h.b⟩
end
section
variable {t : Tg} (hf : ¬ t.full)
include hf
theorem putv_nf (k : ByteArray) (x : Vr) : (t.putv k x).1 = 0 ∧ (t.putv k x).2.cur = { t.cur with v := updF t.cur.v k (some x) } := by unfold Tg.putv; rw [if_neg hf]; exact ⟨rfl, rfl⟩
theorem delv_nf (k : ByteArray) : (t.delv k).1 = 0 ∧ (t.delv k).2.cur = { t.cur with v := updF t.cur.v k none } := by
  unfold Tg.delv
  split
  · rename_i h
    refine ⟨rfl, ?_⟩
    have : updF t.cur.v k none = t.cur.v := by funext j; unfold updF; split <;> simp_all
    rw [this]
  · rw [if_neg hf]; exact ⟨rfl, rfl⟩
theorem putf_nf (k : ByteArray) (x : Nd) : (t.putf k x).1 = 0 ∧ (t.putf k x).2.cur = { t.cur with f := updF t.cur.f k (some x) } := by unfold Tg.putf; rw [if_neg hf]; exact ⟨rfl, rfl⟩
theorem delf_nf (k : ByteArray) : (t.delf k).1 = 0 ∧ (t.delf k).2.cur = { t.cur with f := updF t.cur.f k none } := by
  unfold Tg.delf
  split
  · rename_i h
    refine ⟨rfl, ?_⟩
    have : updF t.cur.f k none = t.cur.f := by funext j; unfold updF; split <;> simp_all
    rw [this]
  · rw [if_neg hf]; exact ⟨rfl, rfl⟩
theorem puta_nf (k x : ByteArray) : (t.puta k x).1 = 0 ∧ (t.puta k x).2.cur = { t.cur with a := updF t.cur.a k (some x) } := by unfold Tg.puta; rw [if_neg hf]; exact ⟨rfl, rfl⟩
theorem dela_nf (k : ByteArray) : (t.dela k).1 = 0 ∧ (t.dela k).2.cur = { t.cur with a := updF t.cur.a k none } := by
  unfold Tg.dela
  split
  · rename_i h
    refine ⟨rfl, ?_⟩
    have : updF t.cur.a k none = t.cur.a := by funext j; unfold updF; split <;> simp_all
    rw [this]
  · rw [if_neg hf]; exact ⟨rfl, rfl⟩
theorem putt_nf (k x : ByteArray) : (t.putt k x).1 = 0 ∧ (t.putt k x).2.cur = { t.cur with t := updF t.cur.t k (some x) } := by unfold Tg.putt; rw [if_neg hf]; exact ⟨rfl, rfl⟩
theorem delt_nf (k : ByteArray) : (t.delt k).1 = 0 ∧ (t.delt k).2.cur = { t.cur with t := updF t.cur.t k none } := by
  unfold Tg.delt
  split
  · rename_i h
    refine ⟨rfl, ?_⟩
    have : updF t.cur.t k none = t.cur.t := by funext j; unfold updF; split <;> simp_all
    rw [this]
  · rw [if_neg hf]; exact ⟨rfl, rfl⟩
theorem seto_nf (x : ByteArray) : (t.seto x).1 = 0 ∧ (t.seto x).2.cur = { t.cur with o := x } := by unfold Tg.seto; rw [if_neg hf]; exact ⟨rfl, rfl⟩
theorem setg_nf (x : Gv) : (t.setg x).1 = 0 ∧ (t.setg x).2.cur = { t.cur with g := x } := by unfold Tg.setg; rw [if_neg hf]; exact ⟨rfl, rfl⟩
end
open Classical in
/-- Enter with room for its notes: the traps that are left. -/
theorem enterL_nf (ns : List ByteArray) : ∀ t : Tg, (t.was ≠ [] → t.ns.length + ns.length < t.most) → ns.Nodup →
    (enterL ns t).1 = 0 ∧ (enterL ns t).2.cur = { t.cur with t := fun k => if k ∈ ns ∧ 0 < ((t.cur.t k).getD noW).size then none else t.cur.t k } := by
  induction ns with
  | nil =>
    intro t _ _
    refine ⟨rfl, ?_⟩
    show t.cur = _
    have : (fun k => if k ∈ ([] : List ByteArray) ∧ 0 < ((t.cur.t k).getD noW).size then none else t.cur.t k) = t.cur.t := by funext k; simp
    rw [this]
  | cons k ns ih =>
    intro t hroom hnd
    have hnd2 := List.nodup_cons.1 hnd
    have hf : ¬ t.full := fun h => by have h1 := hroom h.1; have h2 := h.2; simp only [List.length_cons] at h1; omega
    unfold enterL
    by_cases h0 : 0 < ((t.cur.t k).getD noW).size
    · rw [if_pos h0]
      obtain ⟨d1, d2⟩ := delt_nf hf k
      rw [if_pos d1]
      have hlen : (t.delt k).2.was = t.was ∧ (t.delt k).2.most = t.most ∧ (t.delt k).2.ns.length ≤ t.ns.length + 1 := by
        unfold Tg.delt
        split
        · exact ⟨rfl, rfl, Nat.le_succ _⟩
        · rw [if_neg hf]
          refine ⟨rfl, rfl, ?_⟩
          unfold Tg.noted
          dsimp only
          split
          · omega
          · rw [List.length_append]; exact Nat.le_refl _
      obtain ⟨e1, e2⟩ := ih (t.delt k).2 (fun h => by
        rw [hlen.1] at h
        have := hroom h
        rw [hlen.2.1]
        have := hlen.2.2
        simp only [List.length_cons] at *
        omega) hnd2.2
      refine ⟨e1, ?_⟩
      rw [e2, d2]
      have : (fun j => if j ∈ ns ∧ 0 < ((updF t.cur.t k none j).getD noW).size then none else updF t.cur.t k none j) = (fun j => if j ∈ k :: ns ∧ 0 < ((t.cur.t j).getD noW).size then none else t.cur.t j) := by
        funext j
        unfold updF
        by_cases hj : j = k
        · subst hj
          rw [if_pos rfl, if_pos (show j ∈ j :: ns ∧ 0 < ((t.cur.t j).getD noW).size from ⟨List.mem_cons_self .., h0⟩)]
          split <;> rfl
        · rw [if_neg hj]
          by_cases hc : j ∈ ns ∧ 0 < ((t.cur.t j).getD noW).size
          · rw [if_pos hc, if_pos (show j ∈ k :: ns ∧ 0 < ((t.cur.t j).getD noW).size from ⟨List.mem_cons_of_mem _ hc.1, hc.2⟩)]
          · rw [if_neg hc, if_neg (fun h : j ∈ k :: ns ∧ 0 < ((t.cur.t j).getD noW).size => hc ⟨(List.mem_cons.1 h.1).resolve_left hj, h.2⟩)]
      show ({ t.cur with t := (fun j => if j ∈ ns ∧ 0 < ((updF t.cur.t k none j).getD noW).size then none else updF t.cur.t k none j) } : Sta) = _
      rw [this]
    · rw [if_neg h0]
      obtain ⟨e1, e2⟩ := ih t (fun h => by have := hroom h; simp only [List.length_cons] at this; omega) hnd2.2
      refine ⟨e1, ?_⟩
      rw [e2]
      have : (fun j => if j ∈ ns ∧ 0 < ((t.cur.t j).getD noW).size then none else t.cur.t j) = (fun j => if j ∈ k :: ns ∧ 0 < ((t.cur.t j).getD noW).size then none else t.cur.t j) := by
        funext j
        by_cases hj : j = k
        · subst hj
          rw [if_neg (fun h => h0 h.2), if_neg (fun h => h0 h.2)]
        · by_cases hc : j ∈ ns ∧ 0 < ((t.cur.t j).getD noW).size
          · rw [if_pos hc, if_pos (show j ∈ k :: ns ∧ 0 < ((t.cur.t j).getD noW).size from ⟨List.mem_cons_of_mem _ hc.1, hc.2⟩)]
          · rw [if_neg hc, if_neg (fun h : j ∈ k :: ns ∧ 0 < ((t.cur.t j).getD noW).size => hc ⟨(List.mem_cons.1 h.1).resolve_left hj, h.2⟩)]
      rw [this]
theorem look_keepT {L : Es ByteArray} {f : ByteArray → Option ByteArray} (h : L.Pairwise (fun p q => p.1 ≠ q.1)) (hl : ∀ j, look L j = f j) (j : ByteArray) : look (keepT L) j = if 0 < ((f j).getD noW).size then none else f j := by
  rw [← hl j]
  clear hl
  induction L with
  | nil => show none = if 0 < (noW).size then none else none; split <;> rfl
  | cons q l ih =>
    have h2 := List.pairwise_cons.1 h
    have hno : q.1 = j → look l j = none := fun e => look_no fun i hi e2 => h2.1 l[i] (List.getElem_mem hi) (e.trans e2.symm)
    unfold keepT at ih ⊢
    by_cases hq : 0 < q.2.size
    · rw [List.filter_cons_of_neg (by rw [decide_eq_true hq]; decide), ih h2.2]
      show _ = if 0 < ((if q.1 = j then some q.2 else look l j).getD noW).size then none else (if q.1 = j then some q.2 else look l j)
      by_cases hj : q.1 = j
      · rw [hno hj, if_pos hj, if_pos (show 0 < ((some q.2).getD noW).size from hq)]
        split <;> rfl
      · rw [if_neg hj]
    · rw [List.filter_cons_of_pos (by rw [decide_eq_false hq]; rfl)]
      show (if q.1 = j then some q.2 else look (l.filter fun p => !decide (0 < p.2.size)) j) = if 0 < ((if q.1 = j then some q.2 else look l j).getD noW).size then none else (if q.1 = j then some q.2 else look l j)
      rw [ih h2.2]
      by_cases hj : q.1 = j
      · rw [if_pos hj, if_pos hj, if_neg (by simpa using hq)]
      · rw [if_neg hj, if_neg hj]
end Go.Proofs.YtigmdfdcflkggaaGreat
