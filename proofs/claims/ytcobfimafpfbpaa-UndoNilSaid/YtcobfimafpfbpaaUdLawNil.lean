/-
  UndoNil answers true, and leaves memory as it was. Conditions: none.
-/
import Derived.Test.YtcobfimafpfbpaaUdFltKeys
import Derived.Test.YtcobfimafpfbpaaUdDel
import Derived.Test.YtcobfimafpfbpaaUdSort
namespace Go.Proofs.Ytcobfimafpfbpaa
open Go Go.RowKit Go.ChangeMaps

section
variable {w w' : World} {B mb ob cb : Nat} {s : ByteArray}
set_option maxRecDepth 100000 in
theorem Keys_nil (w : World) :
    Calls Try.prog 30 #[.pointer none] w fun e w' => e = .returned (.slice none 0 0) ∧ w' = w := by
  go_enter Try.func30, Try.ntmps30
  go_wp2
  go_ret
  exact ⟨rfl, rfl⟩
theorem Set_o (h : MapAt w B mb none ob []) (k : ByteArray) :
    Calls Try.prog 28 #[ptrV mb, .string k, .int .i64 1] w fun e w' => e = .returned (.int .i64 2) ∧ Below w.heap.size w w' := by
  refine (Set_bad k 1 h 0 2 (by decide) (fun _ w1 w' => w' = w1) (fun w1 cap _ _ => Note_nil _ w1)).mono ?_
  rintro e w' ⟨rfl, cap, w1, _, hb, rfl⟩
  exact ⟨rfl, hb⟩
theorem Keys_o (h : MapAt w B mb none ob []) :
    Calls Try.prog 30 #[ptrV mb] w fun e w' => (∃ A c, e = .returned (.slice A 0 c)) ∧ Below w.heap.size w w' := by
  refine (Keys_any h (fun _ hp => by cases hp) (Nat.zero_le _)).mono ?_
  rintro e w' ⟨v, rfl, hrow, hb⟩
  refine ⟨?_, hb⟩
  rcases hrow.2 with ⟨rfl, _⟩ | ⟨g, cap, _, rfl, _⟩
  · exact ⟨_, _, rfl⟩
  · exact ⟨_, _, rfl⟩
theorem CSet_p (h : CellAt w B cb none s) (x : ByteArray) :
    Calls Try.prog 31 #[ptrV cb, .string x] w fun e w' => e = .returned (.int .i64 2) ∧ Below w.heap.size w w' := by
  refine (CSet_bad x h 0 2 (by decide) (fun _ w1 w' => w' = w1) (fun w1 cap _ _ => Note_nil _ w1)).mono ?_
  rintro e w' ⟨rfl, cap, w1, _, hb, rfl⟩
  exact ⟨rfl, hb⟩
end

set_option maxHeartbeats 4000000 in
set_option maxRecDepth 100000 in
theorem lawNil_any (k : ByteArray) (x : Nat) (w : World) :
    Calls Try.prog 7 #[.string k, .float .f64 x] w fun e w' => e = .returned (.bool true) ∧ Below w.heap.size w w' := by
  have haw := fun W => awake_any W
  by_cases h100 : 100 < k.size
  · have i1 : (100 : Int) < (k.size : Int) := by omega
    go_enter Try.func7, Try.ntmps7
    go_wp2_with fail
    refine (haw _).mono ?_
    rintro e w' ⟨rfl, hb⟩
    replace hb := Lib.hid hb
    go_wp2
    go_ret
    exact ⟨rfl, hb.out⟩
  have i1 : ¬ (100 : Int) < (k.size : Int) := by omega
  replace haw := Lib.hid haw
  obtain ⟨z, hz⟩ : ∃ z, w.heap.size = z := ⟨_, rfl⟩
  rw [hz]
  clear h100
  have hB0 : Below z w w := Below.refl _ _
  replace hz := Lib.hid hz
  replace hB0 := Lib.hid hB0
  go_enter Try.func7, Try.ntmps7

  go_wp2_with fail
  refine (Mark_nil _).mono ?_
  rintro e w' ⟨rfl, hw⟩
  obtain rfl := hw.symm
  clear hw
  go_wp2_with fail
  refine (Get_nil k _).mono ?_
  rintro e w' ⟨rfl, hw⟩
  obtain rfl := hw.symm
  clear hw
  go_wp2_with fail
  refine (NewMap_any none _).mono ?_
  rintro e w1 ⟨rfl, hM1, hb1, _⟩
  have hB1 := hB0.out.trans (hb1.mono (by have := hB0.out.size; have := hz.out; omega))
  replace hM1 := Lib.hid hM1
  replace hB1 := Lib.hid hB1
  generalize hob : w.heap.size = ob at hM1
  clear hb1 hB0 hob
  unfold ptrV
  generalize hmb : ob + 1 = mb at hM1 ⊢
  clear hmb
  go_wp2_with fail
  refine (NewCell_any none k _).mono ?_
  rintro e w2 ⟨rfl, hC2, hb2, _⟩
  have hM2 := hM1.out.below hb2
  have hB2 := hB1.out.trans (hb2.mono (by have := hB1.out.size; have := hz.out; omega))
  replace hM2 := Lib.hid hM2
  replace hC2 := Lib.hid hC2
  replace hB2 := Lib.hid hB2
  unfold ptrV
  generalize hcb : w1.heap.size = cb at hC2 ⊢
  clear hb2 hM1 hB1 hcb
  go_wp2_with fail
  refine (Undo_nil _).mono ?_
  rintro e w' ⟨rfl, hw⟩
  obtain rfl := hw.symm
  clear hw
  go_wp2_with fail
  refine (Note_nil _ _).mono ?_
  rintro e w' ⟨rfl, hw⟩
  obtain rfl := hw.symm
  clear hw
  go_wp2_with fail
  refine (Marks_nil _).mono ?_
  rintro e w' ⟨rfl, hw⟩
  obtain rfl := hw.symm
  clear hw
  go_wp2_with fail
  refine (Len_nil _).mono ?_
  rintro e w' ⟨rfl, hw⟩
  obtain rfl := hw.symm
  clear hw
  go_wp2_with fail
  refine (Set_nil k 1 _).mono ?_
  rintro e w' ⟨rfl, hw⟩
  obtain rfl := hw.symm
  clear hw
  go_wp2_with fail
  refine (Delete_nil k _).mono ?_
  rintro e w' ⟨rfl, hw⟩
  obtain rfl := hw.symm
  clear hw
  go_wp2_with fail
  refine (Keys_nil _).mono ?_
  rintro e w' ⟨rfl, hw⟩
  obtain rfl := hw.symm
  clear hw
  go_wp2_with fail
  refine (CSet_nil k _).mono ?_
  rintro e w3 ⟨rfl, hb3⟩
  have hM3 := hM2.out.below hb3
  have hC3 := hC2.out.below hb3
  have hB3 := hB2.out.trans (hb3.mono (by have := hB2.out.size; have := hz.out; omega))
  replace hM3 := Lib.hid hM3
  replace hC3 := Lib.hid hC3
  replace hB3 := Lib.hid hB3
  clear hb3 hM2 hC2 hB2
  go_wp2_with fail
  refine (CGet_nil _).mono ?_
  rintro e w' ⟨rfl, hw⟩
  obtain rfl := hw.symm
  clear hw
  go_wp2_with fail
  refine (Set_o hM3.out k).mono ?_
  rintro e w4 ⟨rfl, hb4⟩
  have hM4 := hM3.out.below hb4
  have hC4 := hC3.out.below hb4
  have hB4 := hB3.out.trans (hb4.mono (by have := hB3.out.size; have := hz.out; omega))
  replace hM4 := Lib.hid hM4
  replace hC4 := Lib.hid hC4
  replace hB4 := Lib.hid hB4
  clear hb4 hM3 hC3 hB3
  go_wp2_with fail
  refine (Delete_nolog k hM4.out).mono ?_
  rintro e w' ⟨rfl, hw⟩
  obtain rfl := hw.symm
  clear hw
  go_wp2_with fail
  refine (Keys_o hM4.out).mono ?_
  rintro e w5 ⟨⟨A5, c5, rfl⟩, hb5⟩
  have hM5 := hM4.out.below hb5
  have hC5 := hC4.out.below hb5
  have hB5 := hB4.out.trans (hb5.mono (by have := hB4.out.size; have := hz.out; omega))
  replace hM5 := Lib.hid hM5
  replace hC5 := Lib.hid hC5
  replace hB5 := Lib.hid hB5
  clear hb5 hM4 hC4 hB4
  go_wp2_with fail
  refine (CSet_p hC5.out _).mono ?_
  rintro e w6 ⟨rfl, hb6⟩
  have hM6 := hM5.out.below hb6
  have hC6 := hC5.out.below hb6
  have hB6 := hB5.out.trans (hb6.mono (by have := hB5.out.size; have := hz.out; omega))
  replace hM6 := Lib.hid hM6
  replace hC6 := Lib.hid hC6
  replace hB6 := Lib.hid hB6
  clear hb6 hM5 hC5 hB5
  go_wp2_with fail
  refine (CGet_any hC6.out).mono ?_
  rintro e w' ⟨rfl, hw⟩
  obtain rfl := hw.symm
  clear hw
  clear hM6 hC6
  go_wp2_with fail
  refine (New_yes 5 5 z _ (by decide) (by decide) (by decide) (by have := hB6.out.size; have := hz.out; omega)).mono ?_
  rintro e w7 ⟨rfl, hL7, hb7, hs7⟩
  have hB7 := hB6.out.trans (hb7.mono (by have := hB6.out.size; have := hz.out; omega))
  replace hL7 := Lib.hid hL7
  replace hB7 := Lib.hid hB7
  unfold ptrV
  generalize hlb : w6.heap.size = lb at hL7 ⊢
  clear hb7 hB6 hs7 hlb
  go_wp2_with fail
  refine (NewMapF_any (some ⟨lb, 0, none⟩) _).mono ?_
  rintro e w8 ⟨rfl, hF8, hb8, _⟩
  have hL8 := hL7.out.keep (KeepL.of_below hb8)
  have hB8 := hB7.out.trans (hb8.mono (by have := hB7.out.size; have := hz.out; omega))
  have hz7 : z ≤ w7.heap.size := by have := hB7.out.size; have := hz.out; omega
  replace hF8 := Lib.hid hF8
  replace hL8 := Lib.hid hL8
  replace hB8 := Lib.hid hB8
  unfold ptrV
  generalize hfo : w7.heap.size = fo at hF8 hz7 ⊢
  generalize hfb : fo + 1 = fb at hF8 ⊢
  clear hb8 hB7 hL7 hfo hfb
  replace hz7 := Lib.hid hz7
  cases hx : fEq x x with

  | true =>
    have hx2 : (FloatKind.f64.format.order x x == some .eq) = true := hx
    have hx3 : (FloatKind.f64.format.order x x != some .eq) = false := by rw [bne, hx2]; rfl
    have hcs := SetF_ok hF8.out hL8.out x hx
    unfold ptrV at hcs
    replace hx := Lib.hid hx
    go_wp2_with fail
    refine hcs.mono ?_
    rintro e w9 ⟨rfl, hF9, hbb⟩
    have hB9 := hbb z w hB8.out (by have := hz.out; omega) hz7.out
    replace hF9 := Lib.hid hF9
    replace hB9 := Lib.hid hB9
    clear hcs hF8 hL8 hB8 hbb
    have hcg := GetF_yes hF9.out x (keyF_eq hx.out)
    have hck := KeysF_any hF9.out (.one _)
    unfold ptrV at hcg hck
    replace hck := Lib.hid hck
    go_wp2_with fail
    refine hcg.mono ?_
    rintro e w' ⟨rfl, hw⟩
    obtain rfl := hw.symm
    clear hw hcg
    go_wp2_with fail
    refine hck.out.mono ?_
    rintro e w10 ⟨⟨A, K, c, rfl, hK⟩, hb10⟩
    have hB10 := hB9.out.trans (hb10.mono (by have := hB9.out.size; have := hz.out; omega))
    have hK1 : (K : Int) ≤ 1 := by omega
    replace hB10 := Lib.hid hB10
    clear hb10 hck hB9 hF9
    go_wp2_with fail
    refine (haw.out _).mono ?_
    rintro e w11 ⟨rfl, hb11⟩
    have hB11 := hB10.out.trans (hb11.mono (by have := hB10.out.size; have := hz.out; omega))
    replace hB11 := Lib.hid hB11
    clear hb11 hB10
    go_wp2
    go_ret
    exact ⟨rfl, hB11.out⟩
  | false =>
    have hx2 : (FloatKind.f64.format.order x x == some .eq) = false := hx
    have hx3 : (FloatKind.f64.format.order x x != some .eq) = true := by rw [bne, hx2]; rfl
    have hcs := SetF_nan hF8.out hL8.out x hx
    unfold ptrV at hcs
    replace hx := Lib.hid hx
    go_wp2_with fail
    refine hcs.mono ?_
    rintro e w9 ⟨rfl, hb9⟩
    have hF9 := hF8.out.below hb9
    have hB9 := hB8.out.trans (hb9.mono (by have := hB8.out.size; have := hz.out; omega))
    clear hb9
    replace hF9 := Lib.hid hF9
    replace hB9 := Lib.hid hB9
    clear hcs hF8 hL8 hB8
    have hcg := GetF_no hF9.out x
    have hck := KeysF_any hF9.out .none
    unfold ptrV at hcg hck
    replace hck := Lib.hid hck
    go_wp2_with fail
    refine hcg.mono ?_
    rintro e w' ⟨rfl, hw⟩
    obtain rfl := hw.symm
    clear hw hcg
    go_wp2_with fail
    refine hck.out.mono ?_
    rintro e w10 ⟨⟨A, K, c, rfl, hK⟩, hb10⟩
    have hB10 := hB9.out.trans (hb10.mono (by have := hB9.out.size; have := hz.out; omega))
    have hK1 : (K : Int) ≤ 1 := by omega
    replace hB10 := Lib.hid hB10
    clear hb10 hck hB9 hF9
    go_wp2_with fail
    refine (haw.out _).mono ?_
    rintro e w11 ⟨rfl, hb11⟩
    have hB11 := hB10.out.trans (hb11.mono (by have := hB10.out.size; have := hz.out; omega))
    replace hB11 := Lib.hid hB11
    clear hb11 hB10
    go_wp2
    go_ret
    exact ⟨rfl, hB11.out⟩
end Go.Proofs.Ytcobfimafpfbpaa
