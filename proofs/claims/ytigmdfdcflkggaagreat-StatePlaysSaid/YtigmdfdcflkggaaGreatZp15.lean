/-
  The document's answer: variables. Conditions: fewer than ninety thousand names, texts of at most a million bytes.
-/
import Derived.Test.YtigmdfdcflkggaaGreatZp14
set_option linter.unusedSimpArgs false
set_option linter.unusedVariables false
namespace Go.Proofs.YtigmdfdcflkggaaGreat
open Go Go.RowKit Go.ChangeMaps

section
variable {W w w' : World} {rb : Nat} {r : Rf}
theorem fieldR (x0 x1 : ByteArray) (x2 x3 x4 : Bool) (W : World) : (Instr.field 80 (.agg #[.string x0, .string x1, .bool x2, .bool x3, .bool x4]) 4).run Tryz.prog W = .ok (.bool x4) W := by kernel_rfl
theorem put_any (h : RfA W rb r) (hl : r.v.length ≤ 89999) (k x : ByteArray) (b1 b2 b3 : Bool) :
    Calls Tryz.prog 104 #[ptrV rb, .agg #[.string k, .string x, .bool b1, .bool b2, .bool b3]] W fun e w' => e = .returned (.tuple #[]) ∧ RfA w' rb { r with v := putL (!b1 && !b2 && !b3) k ⟨x, b1, b2, b3⟩ r.v } ∧ Stp (fun b => b = rb) W w' := by
  cases b1
  · cases b2
    · cases b3
      · exact put_no h hl k x
      · exact put_fix h hl k x
    · exact put_exp h hl k x b3
  · exact put_set h hl k x b2 b3
theorem stpB {p : Nat} {W W' W'' : World} (h : Below W.heap.size W W') (k : Stp (fun b => b = p) W' W'') : Stp (fun b => b = p) W W'' :=
  Stp.trans (S := fun b => b = p) (S' := fun b => b = p) (Stp.mono (S := fun _ => False) ⟨h.os, h.tape, h.output, h.size, fun b hb' _ => h.block b hb'⟩ (fun _ _ h => h.elim)) k (fun _ _ h => h)
theorem rName_yes {k : ByteArray} (hk : k.size ≤ 1000000) (hn : nameB k = true) (W : World) : Calls Tryz.prog 76 #[.string k] W fun e w' => e = .returned (.bool true) ∧ w' = W := by
  have := rName_any k hk W
  rwa [hn] at this
theorem rName_no {k : ByteArray} (hk : k.size ≤ 1000000) (hn : nameB k = false) (W : World) : Calls Tryz.prog 76 #[.string k] W fun e w' => e = .returned (.bool false) ∧ w' = W := by
  have := rName_any k hk W
  rwa [hn] at this
/-- What is found of a variable. -/
def fndV (r : Rf) (k : ByteArray) : Vr := (look r.v k).getD noV
set_option maxRecDepth 100000 in
theorem rSet_bad (h : RfA W rb r) (k v : ByteArray) (hk : k.size ≤ 1000000) (hgd : nameB k = false) :
    Calls Tryz.prog 50 #[ptrV rb, .string k, .string v] W fun e w' => e = .returned (.int .i64 16) ∧ w' = W := by
  have hg := rName_no hk hgd W
  unfold ptrV
  clear h
  go_enter Tryz.func50, Tryz.ntmps50
  go_wp2_with fail
  refine hg.mono ?_
  rintro e w' ⟨rfl, hwq⟩
  obtain rfl := hwq.symm
  clear hg hwq
  go_wp2
  go_ret
  exact ⟨rfl, rfl⟩
set_option maxRecDepth 100000 in
theorem rSet_big (h : RfA W rb r) (k v : ByteArray) (hk : k.size ≤ 1000000) (hgd : nameB k = true) (hv : 4096 < v.size) :
    Calls Tryz.prog 50 #[ptrV rb, .string k, .string v] W fun e w' => e = .returned (.int .i64 21) ∧ w' = W := by
  have hg := rName_yes hk hgd W
  have hv2 : (4096 : Int) < (v.size : Int) := by omega
  unfold ptrV
  clear h
  go_enter Tryz.func50, Tryz.ntmps50
  go_wp2_with fail
  refine hg.mono ?_
  rintro e w' ⟨rfl, hwq⟩
  obtain rfl := hwq.symm
  clear hg hwq
  go_wp2
  go_ret
  exact ⟨rfl, rfl⟩
set_option maxRecDepth 100000 in
theorem rUnset_bad (h : RfA W rb r) (k : ByteArray) (hk : k.size ≤ 1000000) (hgd : nameB k = false) :
    Calls Tryz.prog 51 #[ptrV rb, .string k] W fun e w' => e = .returned (.int .i64 16) ∧ w' = W := by
  have hg := rName_no hk hgd W
  unfold ptrV
  clear h
  go_enter Tryz.func51, Tryz.ntmps51
  go_wp2_with fail
  refine hg.mono ?_
  rintro e w' ⟨rfl, hwq⟩
  obtain rfl := hwq.symm
  clear hg hwq
  go_wp2
  go_ret
  exact ⟨rfl, rfl⟩
set_option maxRecDepth 100000 in
theorem rMark_bad (h : RfA W rb r) (k : ByteArray) (e f : Bool) (hk : k.size ≤ 1000000) (hgd : nameB k = false) :
    Calls Tryz.prog 52 #[ptrV rb, .string k, .bool e, .bool f] W fun e w' => e = .returned (.int .i64 16) ∧ w' = W := by
  have hg := rName_no hk hgd W
  unfold ptrV
  clear h
  go_enter Tryz.func52, Tryz.ntmps52
  go_wp2_with fail
  refine hg.mono ?_
  rintro e w' ⟨rfl, hwq⟩
  obtain rfl := hwq.symm
  clear hg hwq
  go_wp2
  go_ret
  exact ⟨rfl, rfl⟩
set_option maxRecDepth 100000 in
theorem rUnsetFunc_bad (h : RfA W rb r) (k : ByteArray) (hk : k.size ≤ 1000000) (hgd : nameB k = false) :
    Calls Tryz.prog 54 #[ptrV rb, .string k] W fun e w' => e = .returned (.int .i64 16) ∧ w' = W := by
  have hg := rName_no hk hgd W
  unfold ptrV
  clear h
  go_enter Tryz.func54, Tryz.ntmps54
  go_wp2_with fail
  refine hg.mono ?_
  rintro e w' ⟨rfl, hwq⟩
  obtain rfl := hwq.symm
  clear hg hwq
  go_wp2
  go_ret
  exact ⟨rfl, rfl⟩
set_option maxRecDepth 100000 in
theorem rSetFunc_bad (h : RfA W rb r) (k : ByteArray) (y0 : Int) (y1 : ByteArray) (hk : k.size ≤ 1000000) (hgd : nameB k = false) :
    Calls Tryz.prog 53 #[ptrV rb, .string k, .agg #[.int .i64 y0, .bool false, .string y1, .bool false, .slice none 0 0, .slice none 0 0, .slice none 0 0, .slice none 0 0, .slice none 0 0]] W fun e w' => e = .returned (.int .i64 16) ∧ Below W.heap.size W w' := by
  have hb : Below W.heap.size W (W.alloc (.cells #[.int .i64 y0, .bool false, .string y1, .bool false, .slice none 0 0, .slice none 0 0, .slice none 0 0, .slice none 0 0, .slice none 0 0] 88)) := Below.of_alloc W _
  have hg := rName_no hk hgd (W.alloc (.cells #[.int .i64 y0, .bool false, .string y1, .bool false, .slice none 0 0, .slice none 0 0, .slice none 0 0, .slice none 0 0, .slice none 0 0] 88))
  unfold ptrV
  clear h
  replace hb := Lib.hid hb
  go_enter Tryz.func53, Tryz.ntmps53
  go_upto_region 1 with fail
  generalize (W.alloc (.cells #[.int .i64 y0, .bool false, .string y1, .bool false, .slice none 0 0, .slice none 0 0, .slice none 0 0, .slice none 0 0, .slice none 0 0] 88)) = w1 at hb hg ⊢
  go_wp2_with fail
  refine hg.mono ?_
  rintro e w' ⟨rfl, hwq⟩
  obtain rfl := hwq.symm
  clear hg hwq
  go_wp2
  go_ret
  exact ⟨rfl, hb.out⟩
set_option maxRecDepth 100000 in
theorem rPut_bad (h : RfA W rb r) (k : ByteArray) (x0 x1 : ByteArray) (b1 b2 b3 : Bool) (hk : k.size ≤ 1000000) (hgd : nameB k = false) :
    Calls Tryz.prog 40 #[ptrV rb, .string k, .agg #[.string x0, .string x1, .bool b1, .bool b2, .bool b3]] W fun e w' => e = .returned (.int .i64 16) ∧ Below W.heap.size W w' := by
  have hb : Below W.heap.size W (W.alloc (.cells #[.string x0, .string x1, .bool b1, .bool b2, .bool b3] 80)) := Below.of_alloc W _
  have hg := rName_no hk hgd (W.alloc (.cells #[.string x0, .string x1, .bool b1, .bool b2, .bool b3] 80))
  unfold ptrV
  clear h
  replace hb := Lib.hid hb
  go_enter Tryz.func40, Tryz.ntmps40
  go_upto_region 1 with fail
  generalize (W.alloc (.cells #[.string x0, .string x1, .bool b1, .bool b2, .bool b3] 80)) = w1 at hb hg ⊢
  go_wp2_with fail
  refine hg.mono ?_
  rintro e w' ⟨rfl, hwq⟩
  obtain rfl := hwq.symm
  clear hg hwq
  go_wp2
  go_ret
  exact ⟨rfl, hb.out⟩
set_option maxRecDepth 100000 in
set_option maxHeartbeats 4000000 in
theorem rUnsetFunc_no (h : RfA W rb r) (k : ByteArray) (hk : k.size ≤ 1000000) (hgd : nameB k = true) (hx : (look r.f k).isSome = false) :
    Calls Tryz.prog 54 #[ptrV rb, .string k] W fun e w' => e = .returned (.int .i64 10) ∧ Below W.heap.size W w' := by
  have hfu := rFunc_any h k
  rw [hx] at hfu
  obtain ⟨NX, hNX⟩ : ∃ NX, (look r.f k).getD noN = NX := ⟨_, rfl⟩
  rw [hNX] at hfu
  obtain ⟨y0, y1⟩ := NX
  have hg := rName_yes hk hgd W
  unfold ptrV encN at hfu
  dsimp only at hfu
  unfold ptrV
  clear h hNX hx
  go_enter Tryz.func54, Tryz.ntmps54
  go_wp2_with fail
  refine hg.mono ?_
  rintro e w' ⟨rfl, hwq⟩
  obtain rfl := hwq.symm
  clear hg hwq
  go_wp2_with fail
  refine hfu.mono ?_
  rintro e w1 ⟨rfl, hb1⟩
  go_upto_region 4 with fail
  have hbA : Hid (Below W.heap.size W (w1.alloc (.cells #[.int .i64 y0, .bool false, .string y1, .bool false, .slice none 0 0, .slice none 0 0, .slice none 0 0, .slice none 0 0, .slice none 0 0] 88))) := Lib.hid (hb1.alloc hb1.size _)
  generalize (w1.alloc (.cells #[.int .i64 y0, .bool false, .string y1, .bool false, .slice none 0 0, .slice none 0 0, .slice none 0 0, .slice none 0 0, .slice none 0 0] 88)) = wA at hbA ⊢
  clear hfu hb1
  go_wp2
  go_ret
  exact ⟨rfl, hbA.out⟩
set_option maxRecDepth 100000 in
set_option maxHeartbeats 8000000 in
theorem rSet_fix (h : RfA W rb r) (hl : r.v.length ≤ 89999) (k v : ByteArray) (hk : k.size ≤ 1000000) (hgd : nameB k = true) (hv : ¬ 4096 < v.size) (hf : (fndV r k).f = true) :
    Calls Tryz.prog 50 #[ptrV rb, .string k, .string v] W fun e w' => e = .returned (.int .i64 26) ∧ Below W.heap.size W w' := by
  have hvr := rVar_any h k
  have hX : (look r.v k).getD noV = fndV r k := rfl
  obtain ⟨X, hXe⟩ : ∃ X, fndV r k = X := ⟨_, rfl⟩
  rw [hX, hXe] at hvr
  obtain ⟨x1, x2, x3, x4⟩ := X
  obtain ⟨x0, hx0⟩ : ∃ x0, (if (look r.v k).isSome then k else (⟨#[]⟩ : ByteArray)) = x0 := ⟨_, rfl⟩
  rw [hx0] at hvr
  dsimp only at hvr
  unfold ptrV at hvr
  have hg := rName_yes hk hgd W
  have hv2 : ¬ (4096 : Int) < (v.size : Int) := by omega
  have hH := fun (w2 : World) (hb : Below W.heap.size W w2) => h.below hb
  rw [hXe] at hf
  obtain rfl : x4 = true := hf
  clear hXe
  unfold ptrV
  replace hH := Lib.hid hH
  clear h hX hx0
  go_enter Tryz.func50, Tryz.ntmps50
  go_wp2_with fail
  refine hg.mono ?_
  rintro e w' ⟨rfl, hwq⟩
  obtain rfl := hwq.symm
  clear hg hwq
  go_wp2_with fail
  refine hvr.mono ?_
  rintro e w1 ⟨rfl, hb1⟩
  go_upto_region 6 with fail
  have hbA : Below W.heap.size W (w1.alloc (.cells #[.string x0, .string x1, .bool x2, .bool x3, .bool true] 80)) := hb1.alloc hb1.size _
  have bA : Blk (w1.alloc (.cells #[.string x0, .string x1, .bool x2, .bool x3, .bool true] 80)) w1.heap.size [.string x0, .string x1, .bool x2, .bool x3, .bool true] 80 := Blk.new w1 _ _
  generalize (w1.alloc (.cells #[.string x0, .string x1, .bool x2, .bool x3, .bool true] 80)) = wA at hbA bA ⊢
  generalize w1.heap.size = y at bA ⊢
  have e4 := bA.cell (i := 4) rfl
  have lA := bA.lt
  replace hbA := Lib.hid hbA
  clear hvr hb1 bA
  go_wp2
  go_ret
  exact ⟨rfl, hbA.out⟩
set_option maxRecDepth 100000 in
set_option maxHeartbeats 8000000 in
theorem rSet_exp (h : RfA W rb r) (hl : r.v.length ≤ 89999) (k v : ByteArray) (hk : k.size ≤ 1000000) (hgd : nameB k = true) (hv : ¬ 4096 < v.size) (hf : (fndV r k).f = false) (he : (fndV r k).e = true) :
    Calls Tryz.prog 50 #[ptrV rb, .string k, .string v] W fun e w' => e = .returned (.int .i64 0) ∧ RfA w' rb { r with v := putL false k ⟨v, true, true, false⟩ r.v } ∧ Stp (fun b => b = rb) W w' := by
  have hvr := rVar_any h k
  have hX : (look r.v k).getD noV = fndV r k := rfl
  obtain ⟨X, hXe⟩ : ∃ X, fndV r k = X := ⟨_, rfl⟩
  rw [hX, hXe] at hvr
  obtain ⟨x1, x2, x3, x4⟩ := X
  obtain ⟨x0, hx0⟩ : ∃ x0, (if (look r.v k).isSome then k else (⟨#[]⟩ : ByteArray)) = x0 := ⟨_, rfl⟩
  rw [hx0] at hvr
  dsimp only at hvr
  unfold ptrV at hvr
  have hg := rName_yes hk hgd W
  have hv2 : ¬ (4096 : Int) < (v.size : Int) := by omega
  have hH := fun (w2 : World) (hb : Below W.heap.size W w2) => h.below hb
  rw [hXe] at hf he
  obtain rfl : x4 = false := hf
  obtain rfl : x3 = true := he
  clear hXe
  unfold ptrV
  replace hH := Lib.hid hH
  clear h hX hx0
  go_enter Tryz.func50, Tryz.ntmps50
  go_wp2_with fail
  refine hg.mono ?_
  rintro e w' ⟨rfl, hwq⟩
  obtain rfl := hwq.symm
  clear hg hwq
  go_wp2_with fail
  refine hvr.mono ?_
  rintro e w1 ⟨rfl, hb1⟩
  go_upto_region 6 with fail
  have hbA : Below W.heap.size W (w1.alloc (.cells #[.string x0, .string x1, .bool x2, .bool true, .bool false] 80)) := hb1.alloc hb1.size _
  have bA : Blk (w1.alloc (.cells #[.string x0, .string x1, .bool x2, .bool true, .bool false] 80)) w1.heap.size [.string x0, .string x1, .bool x2, .bool true, .bool false] 80 := Blk.new w1 _ _
  generalize (w1.alloc (.cells #[.string x0, .string x1, .bool x2, .bool true, .bool false] 80)) = wA at hbA bA ⊢
  generalize w1.heap.size = y at bA ⊢
  have e3 := bA.cell (i := 3) rfl
  have e4 := bA.cell (i := 4) rfl
  have lA := bA.lt
  have hA := hH.out wA hbA
  have hp := put_any hA hl k v true true false
  unfold ptrV at hp
  replace hbA := Lib.hid hbA
  clear hvr hb1 bA hA
  go_wp2_with fail
  refine hp.mono ?_
  rintro e w3 ⟨rfl, hR, hS⟩
  have hfin := Lib.hid (And.intro hR (stpB hbA.out hS))
  clear hp hR hS e3 e4 lA
  go_wp2
  go_ret
  exact ⟨rfl, hfin.out⟩
set_option maxRecDepth 100000 in
set_option maxHeartbeats 8000000 in
theorem rSet_opt (h : RfA W rb r) (hl : r.v.length ≤ 89999) (k v : ByteArray) (hk : k.size ≤ 1000000) (hgd : nameB k = true) (hv : ¬ 4096 < v.size) (hf : (fndV r k).f = false) (he : (fndV r k).e = false) (ho : r.o.size ≤ 1000) :
    Calls Tryz.prog 50 #[ptrV rb, .string k, .string v] W fun e w' => e = .returned (.int .i64 0) ∧ RfA w' rb { r with v := putL false k ⟨v, true, hasB r.o 97, false⟩ r.v } ∧ Stp (fun b => b = rb) W w' := by
  have hvr := rVar_any h k
  have hX : (look r.v k).getD noV = fndV r k := rfl
  obtain ⟨X, hXe⟩ : ∃ X, fndV r k = X := ⟨_, rfl⟩
  rw [hX, hXe] at hvr
  obtain ⟨x1, x2, x3, x4⟩ := X
  obtain ⟨x0, hx0⟩ : ∃ x0, (if (look r.v k).isSome then k else (⟨#[]⟩ : ByteArray)) = x0 := ⟨_, rfl⟩
  rw [hx0] at hvr
  dsimp only at hvr
  unfold ptrV at hvr
  have hg := rName_yes hk hgd W
  have hv2 : ¬ (4096 : Int) < (v.size : Int) := by omega
  have hH := fun (w2 : World) (hb : Below W.heap.size W w2) => h.below hb
  rw [hXe] at hf he
  obtain rfl : x4 = false := hf
  obtain rfl : x3 = false := he
  clear hXe
  unfold ptrV
  replace hH := Lib.hid hH
  clear h hX hx0
  go_enter Tryz.func50, Tryz.ntmps50
  go_wp2_with fail
  refine hg.mono ?_
  rintro e w' ⟨rfl, hwq⟩
  obtain rfl := hwq.symm
  clear hg hwq
  go_wp2_with fail
  refine hvr.mono ?_
  rintro e w1 ⟨rfl, hb1⟩
  go_upto_region 6 with fail
  have hbA : Below W.heap.size W (w1.alloc (.cells #[.string x0, .string x1, .bool x2, .bool false, .bool false] 80)) := hb1.alloc hb1.size _
  have bA : Blk (w1.alloc (.cells #[.string x0, .string x1, .bool x2, .bool false, .bool false] 80)) w1.heap.size [.string x0, .string x1, .bool x2, .bool false, .bool false] 80 := Blk.new w1 _ _
  generalize (w1.alloc (.cells #[.string x0, .string x1, .bool x2, .bool false, .bool false] 80)) = wA at hbA bA ⊢
  generalize w1.heap.size = y at bA ⊢
  have ho2 := rOption_any (hH.out wA hbA) 97 ho
  unfold ptrV at ho2
  have e3 := bA.cell (i := 3) rfl
  have e4 := bA.cell (i := 4) rfl
  have lA := bA.lt
  have hA := hH.out wA hbA
  have hp := put_any hA hl k v true (hasB r.o 97) false
  unfold ptrV at hp
  replace hbA := Lib.hid hbA
  clear hvr hb1 bA hA
  go_wp2_with fail
  refine ho2.mono ?_
  rintro e w' ⟨rfl, hwq⟩
  obtain rfl := hwq.symm
  clear ho2 hwq
  go_wp2_with fail
  refine hp.mono ?_
  rintro e w3 ⟨rfl, hR, hS⟩
  have hfin := Lib.hid (And.intro hR (stpB hbA.out hS))
  clear hp hR hS e3 e4 lA
  go_wp2
  go_ret
  exact ⟨rfl, hfin.out⟩
set_option maxRecDepth 100000 in
set_option maxHeartbeats 8000000 in
theorem rUnset_fix (h : RfA W rb r) (hl : r.v.length ≤ 89999) (k : ByteArray) (hk : k.size ≤ 1000000) (hgd : nameB k = true) (hf : (fndV r k).f = true) :
    Calls Tryz.prog 51 #[ptrV rb, .string k] W fun e w' => e = .returned (.int .i64 26) ∧ Below W.heap.size W w' := by
  have hvr := rVar_any h k
  have hX : (look r.v k).getD noV = fndV r k := rfl
  obtain ⟨X, hXe⟩ : ∃ X, fndV r k = X := ⟨_, rfl⟩
  rw [hX, hXe] at hvr
  obtain ⟨x1, x2, x3, x4⟩ := X
  obtain ⟨x0, hx0⟩ : ∃ x0, (if (look r.v k).isSome then k else (⟨#[]⟩ : ByteArray)) = x0 := ⟨_, rfl⟩
  rw [hx0] at hvr
  dsimp only at hvr
  unfold ptrV at hvr
  rw [hXe] at hf
  obtain rfl : x4 = true := hf
  clear hXe
  have hfl := fun W => fieldR x0 x1 x2 x3 true W
  have hg := rName_yes hk hgd W
  have hH := fun (w2 : World) (hb : Below W.heap.size W w2) => h.below hb
  unfold ptrV
  replace hH := Lib.hid hH
  clear h hX hx0
  go_enter Tryz.func51, Tryz.ntmps51
  go_wp2_with fail
  refine hg.mono ?_
  rintro e w' ⟨rfl, hwq⟩
  obtain rfl := hwq.symm
  clear hg hwq
  go_wp2_with fail
  refine hvr.mono ?_
  rintro e w1 ⟨rfl, hb1⟩
  replace hb1 := Lib.hid hb1
  clear hvr
  go_wp2
  go_ret
  exact ⟨rfl, hb1.out⟩
set_option maxRecDepth 100000 in
set_option maxHeartbeats 8000000 in
theorem rUnset_ok (h : RfA W rb r) (hl : r.v.length ≤ 89999) (k : ByteArray) (hk : k.size ≤ 1000000) (hgd : nameB k = true) (hf : (fndV r k).f = false) :
    Calls Tryz.prog 51 #[ptrV rb, .string k] W fun e w' => e = .returned (.int .i64 0) ∧ RfA w' rb { r with v := putL true k ⟨⟨#[]⟩, false, false, false⟩ r.v } ∧ Stp (fun b => b = rb) W w' := by
  have hvr := rVar_any h k
  have hX : (look r.v k).getD noV = fndV r k := rfl
  obtain ⟨X, hXe⟩ : ∃ X, fndV r k = X := ⟨_, rfl⟩
  rw [hX, hXe] at hvr
  obtain ⟨x1, x2, x3, x4⟩ := X
  obtain ⟨x0, hx0⟩ : ∃ x0, (if (look r.v k).isSome then k else (⟨#[]⟩ : ByteArray)) = x0 := ⟨_, rfl⟩
  rw [hx0] at hvr
  dsimp only at hvr
  unfold ptrV at hvr
  rw [hXe] at hf
  obtain rfl : x4 = false := hf
  clear hXe
  have hfl := fun W => fieldR x0 x1 x2 x3 false W
  have hg := rName_yes hk hgd W
  have hH := fun (w2 : World) (hb : Below W.heap.size W w2) => h.below hb
  unfold ptrV
  replace hH := Lib.hid hH
  clear h hX hx0
  go_enter Tryz.func51, Tryz.ntmps51
  go_wp2_with fail
  refine hg.mono ?_
  rintro e w' ⟨rfl, hwq⟩
  obtain rfl := hwq.symm
  clear hg hwq
  go_wp2_with fail
  refine hvr.mono ?_
  rintro e w1 ⟨rfl, hb1⟩
  have hp := put_any (hH.out w1 hb1) hl k ⟨#[]⟩ false false false
  unfold ptrV at hp
  replace hb1 := Lib.hid hb1
  clear hvr
  go_wp2_with fail
  refine hp.mono ?_
  rintro e w3 ⟨rfl, hR, hS⟩
  have hfin := Lib.hid (And.intro hR (stpB hb1.out hS))
  clear hp hR hS
  go_wp2
  go_ret
  exact ⟨rfl, hfin.out⟩
set_option maxRecDepth 100000 in
set_option maxHeartbeats 8000000 in
theorem rMark_ff (h : RfA W rb r) (hl : r.v.length ≤ 89999) (k : ByteArray) (e f : Bool) (hk : k.size ≤ 1000000) (hgd : nameB k = true) (he : (fndV r k).e = false) (hf : (fndV r k).f = false) :
    Calls Tryz.prog 52 #[ptrV rb, .string k, .bool e, .bool f] W fun d w' => d = .returned (.int .i64 0) ∧ RfA w' rb { r with v := putL (!(fndV r k).s && !e && !f) k ⟨(fndV r k).v, (fndV r k).s, e, f⟩ r.v } ∧ Stp (fun b => b = rb) W w' := by
  have hvr := rVar_any h k
  have hX : (look r.v k).getD noV = fndV r k := rfl
  obtain ⟨X, hXe⟩ : ∃ X, fndV r k = X := ⟨_, rfl⟩
  rw [hX, hXe] at hvr
  obtain ⟨x1, x2, x3, x4⟩ := X
  obtain ⟨x0, hx0⟩ : ∃ x0, (if (look r.v k).isSome then k else (⟨#[]⟩ : ByteArray)) = x0 := ⟨_, rfl⟩
  rw [hx0] at hvr
  dsimp only at hvr
  unfold ptrV at hvr
  rw [hXe] at hf he ⊢
  obtain rfl : x4 = false := hf
  obtain rfl : x3 = false := he
  dsimp only
  clear hXe
  have hg := rName_yes hk hgd W
  have hH := fun (w2 : World) (hb : Below W.heap.size W w2) => h.below hb
  unfold ptrV
  replace hH := Lib.hid hH
  clear h hX hx0
  go_enter Tryz.func52, Tryz.ntmps52
  go_wp2_with fail
  refine hg.mono ?_
  rintro e w' ⟨rfl, hwq⟩
  obtain rfl := hwq.symm
  clear hg hwq
  go_wp2_with fail
  refine hvr.mono ?_
  rintro e w1 ⟨rfl, hb1⟩
  go_upto_region 4 with fail
  have hbA : Below W.heap.size W (w1.alloc (.cells #[.string x0, .string x1, .bool x2, .bool false, .bool false] 80)) := hb1.alloc hb1.size _
  have bA : Blk (w1.alloc (.cells #[.string x0, .string x1, .bool x2, .bool false, .bool false] 80)) w1.heap.size [.string x0, .string x1, .bool x2, .bool false, .bool false] 80 := Blk.new w1 _ _
  generalize (w1.alloc (.cells #[.string x0, .string x1, .bool x2, .bool false, .bool false] 80)) = wA at hbA bA ⊢
  have hyW : W.heap.size ≤ w1.heap.size := hb1.size
  generalize w1.heap.size = y at bA hyW ⊢
  have bE : Blk (((wA.setCell ⟨y, 0, none⟩ (.string k)).setCell ⟨y, 3, none⟩ (.bool e)).setCell ⟨y, 4, none⟩ (.bool f)) y [.string k, .string x1, .bool x2, .bool e, .bool f] 80 := ((bA.set 0 (.string k)).set 3 (.bool e)).set 4 (.bool f)
  have hbE : Below W.heap.size W (((wA.setCell ⟨y, 0, none⟩ (.string k)).setCell ⟨y, 3, none⟩ (.bool e)).setCell ⟨y, 4, none⟩ (.bool f)) := ((hbA.setCell hyW _).setCell hyW _).setCell hyW _
  have e0 := bA.cell (i := 0) rfl
  have e1 := bA.cell (i := 1) rfl
  have e2 := bA.cell (i := 2) rfl
  have e3 := bA.cell (i := 3) rfl
  have e4 := bA.cell (i := 4) rfl
  have f0 := bA.frozen 0
  have f3 := bA.frozen 3
  have f4 := bA.frozen 4
  have lA := bA.lt
  replace hbE := Lib.hid hbE
  replace bE := Lib.hid bE
  clear hvr hb1 bA hbA
  go_upto_region 7 with fail
  generalize (((wA.setCell ⟨y, 0, none⟩ (.string k)).setCell ⟨y, 3, none⟩ (.bool e)).setCell ⟨y, 4, none⟩ (.bool f)) = wE at hbE bE ⊢
  clear e0 e1 e2 e3 e4 f0 f3 f4 lA
  have e0 := bE.out.cell (i := 0) rfl
  have e1 := bE.out.cell (i := 1) rfl
  have e2 := bE.out.cell (i := 2) rfl
  have e3 := bE.out.cell (i := 3) rfl
  have e4 := bE.out.cell (i := 4) rfl
  have lA := bE.out.lt
  have hp := put_any (hH.out wE hbE.out) hl k x1 x2 e f
  unfold ptrV at hp
  go_wp2_with fail
  refine hp.mono ?_
  rintro d w3 ⟨rfl, hR, hS⟩
  have hfin := Lib.hid (And.intro hR (stpB hbE.out hS))
  clear hp hR hS e0 e1 e2 e3 e4 lA bE
  go_wp2
  go_ret
  exact ⟨rfl, hfin.out⟩
set_option maxRecDepth 100000 in
set_option maxHeartbeats 8000000 in
theorem rMark_ft (h : RfA W rb r) (hl : r.v.length ≤ 89999) (k : ByteArray) (e f : Bool) (hk : k.size ≤ 1000000) (hgd : nameB k = true) (he : (fndV r k).e = false) (hf : (fndV r k).f = true) :
    Calls Tryz.prog 52 #[ptrV rb, .string k, .bool e, .bool f] W fun d w' => d = .returned (.int .i64 0) ∧ RfA w' rb { r with v := putL (!(fndV r k).s && !e && !true) k ⟨(fndV r k).v, (fndV r k).s, e, true⟩ r.v } ∧ Stp (fun b => b = rb) W w' := by
  have hvr := rVar_any h k
  have hX : (look r.v k).getD noV = fndV r k := rfl
  obtain ⟨X, hXe⟩ : ∃ X, fndV r k = X := ⟨_, rfl⟩
  rw [hX, hXe] at hvr
  obtain ⟨x1, x2, x3, x4⟩ := X
  obtain ⟨x0, hx0⟩ : ∃ x0, (if (look r.v k).isSome then k else (⟨#[]⟩ : ByteArray)) = x0 := ⟨_, rfl⟩
  rw [hx0] at hvr
  dsimp only at hvr
  unfold ptrV at hvr
  rw [hXe] at hf he ⊢
  obtain rfl : x4 = true := hf
  obtain rfl : x3 = false := he
  dsimp only
  clear hXe
  have hg := rName_yes hk hgd W
  have hH := fun (w2 : World) (hb : Below W.heap.size W w2) => h.below hb
  unfold ptrV
  replace hH := Lib.hid hH
  clear h hX hx0
  go_enter Tryz.func52, Tryz.ntmps52
  go_wp2_with fail
  refine hg.mono ?_
  rintro e w' ⟨rfl, hwq⟩
  obtain rfl := hwq.symm
  clear hg hwq
  go_wp2_with fail
  refine hvr.mono ?_
  rintro e w1 ⟨rfl, hb1⟩
  go_upto_region 4 with fail
  have hbA : Below W.heap.size W (w1.alloc (.cells #[.string x0, .string x1, .bool x2, .bool false, .bool true] 80)) := hb1.alloc hb1.size _
  have bA : Blk (w1.alloc (.cells #[.string x0, .string x1, .bool x2, .bool false, .bool true] 80)) w1.heap.size [.string x0, .string x1, .bool x2, .bool false, .bool true] 80 := Blk.new w1 _ _
  generalize (w1.alloc (.cells #[.string x0, .string x1, .bool x2, .bool false, .bool true] 80)) = wA at hbA bA ⊢
  have hyW : W.heap.size ≤ w1.heap.size := hb1.size
  generalize w1.heap.size = y at bA hyW ⊢
  have bE : Blk (((wA.setCell ⟨y, 0, none⟩ (.string k)).setCell ⟨y, 3, none⟩ (.bool e)).setCell ⟨y, 4, none⟩ (.bool true)) y [.string k, .string x1, .bool x2, .bool e, .bool true] 80 := ((bA.set 0 (.string k)).set 3 (.bool e)).set 4 (.bool true)
  have hbE : Below W.heap.size W (((wA.setCell ⟨y, 0, none⟩ (.string k)).setCell ⟨y, 3, none⟩ (.bool e)).setCell ⟨y, 4, none⟩ (.bool true)) := ((hbA.setCell hyW _).setCell hyW _).setCell hyW _
  have e0 := bA.cell (i := 0) rfl
  have e1 := bA.cell (i := 1) rfl
  have e2 := bA.cell (i := 2) rfl
  have e3 := bA.cell (i := 3) rfl
  have e4 := bA.cell (i := 4) rfl
  have f0 := bA.frozen 0
  have f3 := bA.frozen 3
  have f4 := bA.frozen 4
  have lA := bA.lt
  replace hbE := Lib.hid hbE
  replace bE := Lib.hid bE
  clear hvr hb1 bA hbA
  go_upto_region 7 with fail
  generalize (((wA.setCell ⟨y, 0, none⟩ (.string k)).setCell ⟨y, 3, none⟩ (.bool e)).setCell ⟨y, 4, none⟩ (.bool true)) = wE at hbE bE ⊢
  clear e0 e1 e2 e3 e4 f0 f3 f4 lA
  have e0 := bE.out.cell (i := 0) rfl
  have e1 := bE.out.cell (i := 1) rfl
  have e2 := bE.out.cell (i := 2) rfl
  have e3 := bE.out.cell (i := 3) rfl
  have e4 := bE.out.cell (i := 4) rfl
  have lA := bE.out.lt
  have hp := put_any (hH.out wE hbE.out) hl k x1 x2 e true
  unfold ptrV at hp
  go_wp2_with fail
  refine hp.mono ?_
  rintro d w3 ⟨rfl, hR, hS⟩
  have hfin := Lib.hid (And.intro hR (stpB hbE.out hS))
  clear hp hR hS e0 e1 e2 e3 e4 lA bE
  go_wp2
  go_ret
  exact ⟨rfl, hfin.out⟩
set_option maxRecDepth 100000 in
set_option maxHeartbeats 8000000 in
theorem rMark_tf (h : RfA W rb r) (hl : r.v.length ≤ 89999) (k : ByteArray) (e f : Bool) (hk : k.size ≤ 1000000) (hgd : nameB k = true) (he : (fndV r k).e = true) (hf : (fndV r k).f = false) :
    Calls Tryz.prog 52 #[ptrV rb, .string k, .bool e, .bool f] W fun d w' => d = .returned (.int .i64 0) ∧ RfA w' rb { r with v := putL (!(fndV r k).s && !true && !f) k ⟨(fndV r k).v, (fndV r k).s, true, f⟩ r.v } ∧ Stp (fun b => b = rb) W w' := by
  have hvr := rVar_any h k
  have hX : (look r.v k).getD noV = fndV r k := rfl
  obtain ⟨X, hXe⟩ : ∃ X, fndV r k = X := ⟨_, rfl⟩
  rw [hX, hXe] at hvr
  obtain ⟨x1, x2, x3, x4⟩ := X
  obtain ⟨x0, hx0⟩ : ∃ x0, (if (look r.v k).isSome then k else (⟨#[]⟩ : ByteArray)) = x0 := ⟨_, rfl⟩
  rw [hx0] at hvr
  dsimp only at hvr
  unfold ptrV at hvr
  rw [hXe] at hf he ⊢
  obtain rfl : x4 = false := hf
  obtain rfl : x3 = true := he
  dsimp only
  clear hXe
  have hg := rName_yes hk hgd W
  have hH := fun (w2 : World) (hb : Below W.heap.size W w2) => h.below hb
  unfold ptrV
  replace hH := Lib.hid hH
  clear h hX hx0
  go_enter Tryz.func52, Tryz.ntmps52
  go_wp2_with fail
  refine hg.mono ?_
  rintro e w' ⟨rfl, hwq⟩
  obtain rfl := hwq.symm
  clear hg hwq
  go_wp2_with fail
  refine hvr.mono ?_
  rintro e w1 ⟨rfl, hb1⟩
  go_upto_region 4 with fail
  have hbA : Below W.heap.size W (w1.alloc (.cells #[.string x0, .string x1, .bool x2, .bool true, .bool false] 80)) := hb1.alloc hb1.size _
  have bA : Blk (w1.alloc (.cells #[.string x0, .string x1, .bool x2, .bool true, .bool false] 80)) w1.heap.size [.string x0, .string x1, .bool x2, .bool true, .bool false] 80 := Blk.new w1 _ _
  generalize (w1.alloc (.cells #[.string x0, .string x1, .bool x2, .bool true, .bool false] 80)) = wA at hbA bA ⊢
  have hyW : W.heap.size ≤ w1.heap.size := hb1.size
  generalize w1.heap.size = y at bA hyW ⊢
  have bE : Blk (((wA.setCell ⟨y, 0, none⟩ (.string k)).setCell ⟨y, 3, none⟩ (.bool true)).setCell ⟨y, 4, none⟩ (.bool f)) y [.string k, .string x1, .bool x2, .bool true, .bool f] 80 := ((bA.set 0 (.string k)).set 3 (.bool true)).set 4 (.bool f)
  have hbE : Below W.heap.size W (((wA.setCell ⟨y, 0, none⟩ (.string k)).setCell ⟨y, 3, none⟩ (.bool true)).setCell ⟨y, 4, none⟩ (.bool f)) := ((hbA.setCell hyW _).setCell hyW _).setCell hyW _
  have e0 := bA.cell (i := 0) rfl
  have e1 := bA.cell (i := 1) rfl
  have e2 := bA.cell (i := 2) rfl
  have e3 := bA.cell (i := 3) rfl
  have e4 := bA.cell (i := 4) rfl
  have f0 := bA.frozen 0
  have f3 := bA.frozen 3
  have f4 := bA.frozen 4
  have lA := bA.lt
  replace hbE := Lib.hid hbE
  replace bE := Lib.hid bE
  clear hvr hb1 bA hbA
  go_upto_region 7 with fail
  generalize (((wA.setCell ⟨y, 0, none⟩ (.string k)).setCell ⟨y, 3, none⟩ (.bool true)).setCell ⟨y, 4, none⟩ (.bool f)) = wE at hbE bE ⊢
  clear e0 e1 e2 e3 e4 f0 f3 f4 lA
  have e0 := bE.out.cell (i := 0) rfl
  have e1 := bE.out.cell (i := 1) rfl
  have e2 := bE.out.cell (i := 2) rfl
  have e3 := bE.out.cell (i := 3) rfl
  have e4 := bE.out.cell (i := 4) rfl
  have lA := bE.out.lt
  have hp := put_any (hH.out wE hbE.out) hl k x1 x2 true f
  unfold ptrV at hp
  go_wp2_with fail
  refine hp.mono ?_
  rintro d w3 ⟨rfl, hR, hS⟩
  have hfin := Lib.hid (And.intro hR (stpB hbE.out hS))
  clear hp hR hS e0 e1 e2 e3 e4 lA bE
  go_wp2
  go_ret
  exact ⟨rfl, hfin.out⟩
set_option maxRecDepth 100000 in
set_option maxHeartbeats 8000000 in
theorem rMark_tt (h : RfA W rb r) (hl : r.v.length ≤ 89999) (k : ByteArray) (e f : Bool) (hk : k.size ≤ 1000000) (hgd : nameB k = true) (he : (fndV r k).e = true) (hf : (fndV r k).f = true) :
    Calls Tryz.prog 52 #[ptrV rb, .string k, .bool e, .bool f] W fun d w' => d = .returned (.int .i64 0) ∧ RfA w' rb { r with v := putL (!(fndV r k).s && !true && !true) k ⟨(fndV r k).v, (fndV r k).s, true, true⟩ r.v } ∧ Stp (fun b => b = rb) W w' := by
  have hvr := rVar_any h k
  have hX : (look r.v k).getD noV = fndV r k := rfl
  obtain ⟨X, hXe⟩ : ∃ X, fndV r k = X := ⟨_, rfl⟩
  rw [hX, hXe] at hvr
  obtain ⟨x1, x2, x3, x4⟩ := X
  obtain ⟨x0, hx0⟩ : ∃ x0, (if (look r.v k).isSome then k else (⟨#[]⟩ : ByteArray)) = x0 := ⟨_, rfl⟩
  rw [hx0] at hvr
  dsimp only at hvr
  unfold ptrV at hvr
  rw [hXe] at hf he ⊢
  obtain rfl : x4 = true := hf
  obtain rfl : x3 = true := he
  dsimp only
  clear hXe
  have hg := rName_yes hk hgd W
  have hH := fun (w2 : World) (hb : Below W.heap.size W w2) => h.below hb
  unfold ptrV
  replace hH := Lib.hid hH
  clear h hX hx0
  go_enter Tryz.func52, Tryz.ntmps52
  go_wp2_with fail
  refine hg.mono ?_
  rintro e w' ⟨rfl, hwq⟩
  obtain rfl := hwq.symm
  clear hg hwq
  go_wp2_with fail
  refine hvr.mono ?_
  rintro e w1 ⟨rfl, hb1⟩
  go_upto_region 4 with fail
  have hbA : Below W.heap.size W (w1.alloc (.cells #[.string x0, .string x1, .bool x2, .bool true, .bool true] 80)) := hb1.alloc hb1.size _
  have bA : Blk (w1.alloc (.cells #[.string x0, .string x1, .bool x2, .bool true, .bool true] 80)) w1.heap.size [.string x0, .string x1, .bool x2, .bool true, .bool true] 80 := Blk.new w1 _ _
  generalize (w1.alloc (.cells #[.string x0, .string x1, .bool x2, .bool true, .bool true] 80)) = wA at hbA bA ⊢
  have hyW : W.heap.size ≤ w1.heap.size := hb1.size
  generalize w1.heap.size = y at bA hyW ⊢
  have bE : Blk (((wA.setCell ⟨y, 0, none⟩ (.string k)).setCell ⟨y, 3, none⟩ (.bool true)).setCell ⟨y, 4, none⟩ (.bool true)) y [.string k, .string x1, .bool x2, .bool true, .bool true] 80 := ((bA.set 0 (.string k)).set 3 (.bool true)).set 4 (.bool true)
  have hbE : Below W.heap.size W (((wA.setCell ⟨y, 0, none⟩ (.string k)).setCell ⟨y, 3, none⟩ (.bool true)).setCell ⟨y, 4, none⟩ (.bool true)) := ((hbA.setCell hyW _).setCell hyW _).setCell hyW _
  have e0 := bA.cell (i := 0) rfl
  have e1 := bA.cell (i := 1) rfl
  have e2 := bA.cell (i := 2) rfl
  have e3 := bA.cell (i := 3) rfl
  have e4 := bA.cell (i := 4) rfl
  have f0 := bA.frozen 0
  have f3 := bA.frozen 3
  have f4 := bA.frozen 4
  have lA := bA.lt
  replace hbE := Lib.hid hbE
  replace bE := Lib.hid bE
  clear hvr hb1 bA hbA
  go_upto_region 7 with fail
  generalize (((wA.setCell ⟨y, 0, none⟩ (.string k)).setCell ⟨y, 3, none⟩ (.bool true)).setCell ⟨y, 4, none⟩ (.bool true)) = wE at hbE bE ⊢
  clear e0 e1 e2 e3 e4 f0 f3 f4 lA
  have e0 := bE.out.cell (i := 0) rfl
  have e1 := bE.out.cell (i := 1) rfl
  have e2 := bE.out.cell (i := 2) rfl
  have e3 := bE.out.cell (i := 3) rfl
  have e4 := bE.out.cell (i := 4) rfl
  have lA := bE.out.lt
  have hp := put_any (hH.out wE hbE.out) hl k x1 x2 true true
  unfold ptrV at hp
  go_wp2_with fail
  refine hp.mono ?_
  rintro d w3 ⟨rfl, hR, hS⟩
  have hfin := Lib.hid (And.intro hR (stpB hbE.out hS))
  clear hp hR hS e0 e1 e2 e3 e4 lA bE
  go_wp2
  go_ret
  exact ⟨rfl, hfin.out⟩
set_option maxRecDepth 100000 in
set_option maxHeartbeats 8000000 in
theorem rPut_set (h : RfA W rb r) (hl : r.v.length ≤ 89999) (k x0 x1 : ByteArray) (b2 b3 : Bool) (hk : k.size ≤ 1000000) (hgd : nameB k = true) :
    Calls Tryz.prog 40 #[ptrV rb, .string k, .agg #[.string x0, .string x1, .bool true, .bool b2, .bool b3]] W fun d w' => d = .returned (.int .i64 0) ∧ RfA w' rb { r with v := putL (!true && !b2 && !b3) k ⟨x1, true, b2, b3⟩ r.v } ∧ Stp (fun b => b = rb) W w' := by
  obtain ⟨y, hy⟩ : ∃ y, W.heap.size = y := ⟨_, rfl⟩
  have hbA : Below W.heap.size W (W.alloc (.cells #[.string x0, .string x1, .bool true, .bool b2, .bool b3] 80)) := Below.of_alloc W _
  have bA : Blk (W.alloc (.cells #[.string x0, .string x1, .bool true, .bool b2, .bool b3] 80)) y [.string x0, .string x1, .bool true, .bool b2, .bool b3] 80 := by rw [← hy]; exact Blk.new W _ _
  have hg := rName_yes hk hgd (W.alloc (.cells #[.string x0, .string x1, .bool true, .bool b2, .bool b3] 80))
  have hH := fun (w2 : World) (hb : Below W.heap.size W w2) => h.below hb
  have hyW : W.heap.size ≤ y := Nat.le_of_eq hy
  unfold ptrV
  replace hH := Lib.hid hH
  replace hy := Lib.hid hy
  clear h
  go_enter Tryz.func40, Tryz.ntmps40
  go_upto_region 1 with fail
  try rw [hy.out]
  generalize (W.alloc (.cells #[.string x0, .string x1, .bool true, .bool b2, .bool b3] 80)) = wA at hbA bA hg ⊢
  have bE : Blk (wA.setCell ⟨y, 0, none⟩ (.string k)) y [.string k, .string x1, .bool true, .bool b2, .bool b3] 80 := bA.set 0 (.string k)
  have hbE : Below W.heap.size W (wA.setCell ⟨y, 0, none⟩ (.string k)) := hbA.setCell hyW _
  have e0 := bA.cell (i := 0) rfl
  have e1 := bA.cell (i := 1) rfl
  have e2 := bA.cell (i := 2) rfl
  have f0 := bA.frozen 0
  have f1 := bA.frozen 1
  have lA := bA.lt
  replace hbE := Lib.hid hbE
  replace bE := Lib.hid bE
  clear bA hbA
  go_wp2_with fail
  refine hg.mono ?_
  rintro d w' ⟨rfl, hwq⟩
  obtain rfl := hwq.symm
  clear hg hwq
  go_upto_region 6 with fail
  generalize (wA.setCell ⟨y, 0, none⟩ (.string k)) = wE at hbE bE ⊢
  clear e0 e1 e2 f0 f1 lA
  have e0 := bE.out.cell (i := 0) rfl
  have e1 := bE.out.cell (i := 1) rfl
  have e2 := bE.out.cell (i := 2) rfl
  have e3 := bE.out.cell (i := 3) rfl
  have e4 := bE.out.cell (i := 4) rfl
  have lA := bE.out.lt
  have hp := put_any (hH.out wE hbE.out) hl k x1 true b2 b3
  unfold ptrV at hp
  go_wp2_with fail
  refine hp.mono ?_
  rintro d w3 ⟨rfl, hR, hS⟩
  have hfin := Lib.hid (And.intro hR (stpB hbE.out hS))
  clear hp hR hS e0 e1 e2 e3 e4 lA bE
  go_wp2
  go_ret
  exact ⟨rfl, hfin.out⟩
set_option maxRecDepth 100000 in
set_option maxHeartbeats 8000000 in
theorem rPut_not (h : RfA W rb r) (hl : r.v.length ≤ 89999) (k x0 x1 : ByteArray) (b2 b3 : Bool) (hk : k.size ≤ 1000000) (hgd : nameB k = true) :
    Calls Tryz.prog 40 #[ptrV rb, .string k, .agg #[.string x0, .string x1, .bool false, .bool b2, .bool b3]] W fun d w' => d = .returned (.int .i64 0) ∧ RfA w' rb { r with v := putL (!false && !b2 && !b3) k ⟨⟨#[]⟩, false, b2, b3⟩ r.v } ∧ Stp (fun b => b = rb) W w' := by
  obtain ⟨y, hy⟩ : ∃ y, W.heap.size = y := ⟨_, rfl⟩
  have hbA : Below W.heap.size W (W.alloc (.cells #[.string x0, .string x1, .bool false, .bool b2, .bool b3] 80)) := Below.of_alloc W _
  have bA : Blk (W.alloc (.cells #[.string x0, .string x1, .bool false, .bool b2, .bool b3] 80)) y [.string x0, .string x1, .bool false, .bool b2, .bool b3] 80 := by rw [← hy]; exact Blk.new W _ _
  have hg := rName_yes hk hgd (W.alloc (.cells #[.string x0, .string x1, .bool false, .bool b2, .bool b3] 80))
  have hH := fun (w2 : World) (hb : Below W.heap.size W w2) => h.below hb
  have hyW : W.heap.size ≤ y := Nat.le_of_eq hy
  unfold ptrV
  replace hH := Lib.hid hH
  replace hy := Lib.hid hy
  clear h
  go_enter Tryz.func40, Tryz.ntmps40
  go_upto_region 1 with fail
  try rw [hy.out]
  generalize (W.alloc (.cells #[.string x0, .string x1, .bool false, .bool b2, .bool b3] 80)) = wA at hbA bA hg ⊢
  have bE : Blk ((wA.setCell ⟨y, 0, none⟩ (.string k)).setCell ⟨y, 1, none⟩ (.string ⟨#[]⟩)) y [.string k, .string ⟨#[]⟩, .bool false, .bool b2, .bool b3] 80 := (bA.set 0 (.string k)).set 1 (.string ⟨#[]⟩)
  have hbE : Below W.heap.size W ((wA.setCell ⟨y, 0, none⟩ (.string k)).setCell ⟨y, 1, none⟩ (.string ⟨#[]⟩)) := (hbA.setCell hyW _).setCell hyW _
  have e0 := bA.cell (i := 0) rfl
  have e1 := bA.cell (i := 1) rfl
  have e2 := bA.cell (i := 2) rfl
  have f0 := bA.frozen 0
  have f1 := bA.frozen 1
  have lA := bA.lt
  replace hbE := Lib.hid hbE
  replace bE := Lib.hid bE
  clear bA hbA
  go_wp2_with fail
  refine hg.mono ?_
  rintro d w' ⟨rfl, hwq⟩
  obtain rfl := hwq.symm
  clear hg hwq
  go_upto_region 6 with fail
  generalize ((wA.setCell ⟨y, 0, none⟩ (.string k)).setCell ⟨y, 1, none⟩ (.string ⟨#[]⟩)) = wE at hbE bE ⊢
  clear e0 e1 e2 f0 f1 lA
  have e0 := bE.out.cell (i := 0) rfl
  have e1 := bE.out.cell (i := 1) rfl
  have e2 := bE.out.cell (i := 2) rfl
  have e3 := bE.out.cell (i := 3) rfl
  have e4 := bE.out.cell (i := 4) rfl
  have lA := bE.out.lt
  have hp := put_any (hH.out wE hbE.out) hl k ⟨#[]⟩ false b2 b3
  unfold ptrV at hp
  go_wp2_with fail
  refine hp.mono ?_
  rintro d w3 ⟨rfl, hR, hS⟩
  have hfin := Lib.hid (And.intro hR (stpB hbE.out hS))
  clear hp hR hS e0 e1 e2 e3 e4 lA bE
  go_wp2
  go_ret
  exact ⟨rfl, hfin.out⟩
set_option maxRecDepth 100000 in
set_option maxHeartbeats 4000000 in
theorem rGet_any (h : RfA W rb r) (k : ByteArray) :
    Calls Tryz.prog 75 #[ptrV rb, .string k] W fun e w' => e = .returned (.tuple #[.string (fndV r k).v, .bool (fndV r k).s]) ∧ Below W.heap.size W w' := by
  have hvr := rVar_any h k
  have hX : (look r.v k).getD noV = fndV r k := rfl
  obtain ⟨X, hXe⟩ : ∃ X, fndV r k = X := ⟨_, rfl⟩
  rw [hX, hXe] at hvr
  obtain ⟨x1, x2, x3, x4⟩ := X
  obtain ⟨x0, hx0⟩ : ∃ x0, (if (look r.v k).isSome then k else (⟨#[]⟩ : ByteArray)) = x0 := ⟨_, rfl⟩
  rw [hx0] at hvr
  dsimp only at hvr
  unfold ptrV at hvr
  rw [hXe]
  dsimp only
  unfold ptrV
  clear h hX hx0 hXe
  go_enter Tryz.func75, Tryz.ntmps75
  go_wp2_with fail
  refine hvr.mono ?_
  rintro e w1 ⟨rfl, hb1⟩
  go_upto_region 2 with fail
  have hbA : Below W.heap.size W (w1.alloc (.cells #[.string x0, .string x1, .bool x2, .bool x3, .bool x4] 80)) := hb1.alloc hb1.size _
  have bA : Blk (w1.alloc (.cells #[.string x0, .string x1, .bool x2, .bool x3, .bool x4] 80)) w1.heap.size [.string x0, .string x1, .bool x2, .bool x3, .bool x4] 80 := Blk.new w1 _ _
  generalize (w1.alloc (.cells #[.string x0, .string x1, .bool x2, .bool x3, .bool x4] 80)) = wA at hbA bA ⊢
  generalize w1.heap.size = y at bA ⊢
  have e1 := bA.cell (i := 1) rfl
  have e2 := bA.cell (i := 2) rfl
  have lA := bA.lt
  have hbq : ∀ q, Hid (Below W.heap.size W (wA.drewN q)) := fun q => Lib.hid (drewB hbA q)
  clear hvr hb1 bA hbA
  go_quiet (fail)
  go_wp2
  go_ret2
  exact ⟨rfl, (hbq _).out⟩
end
end Go.Proofs.YtigmdfdcflkggaaGreat
/-
  The document's answer: arguments, the cursor, the status; a new one, and a copy. Conditions: numbers of 64 bits.
-/
set_option linter.unusedSimpArgs false
set_option linter.unusedVariables false
namespace Go.Proofs.YtigmdfdcflkggaaGreat
open Go Go.RowKit Go.ChangeMaps

section
variable {W w w' : World} {rb : Nat} {r : Rf}
theorem gv_own {z m c : Nat} {A : Option Addr} {l : List ByteArray} {x y : Int} (hm : l.length = m) (h : W.ownsRow z 9 1 (.slice A m c) m (l.map .string)) : GvAt W ⟨A, m, c, x, y, l⟩ := by
  obtain ⟨_, _, e9, q1, q2⟩ := own_form h
  cases e9
  refine ⟨hm, q1, q2, fun hn => ?_⟩
  rcases h.2 with ⟨_, h0⟩ | ⟨g, cap, cur, e, hb, hg, h1, h2, h3, h4⟩
  · exact absurd hn (by show ¬ 0 < m; omega)
  · cases e
    refine ⟨g, 0, cur.toList, rfl, by unfold Blk; simpa using hg, fun j x hx => ?_⟩
    have e : (cur.toList.take (m * 1))[j]? = some (Value.string x) := by
      rw [h4, List.getElem?_map, hx]; rfl
    rw [Nat.zero_add]
    rw [List.getElem?_take] at e
    split at e
    · exact e
    · cases e
theorem GvAt.ai {g : Gv} (h : GvAt W g) (x y : Int) : GvAt W ⟨g.A, g.n, g.c, x, y, g.l⟩ := h
theorem RfA.gv (h : RfA W rb r) : GvAt W r.g := by obtain ⟨_, _, _, _, h⟩ := h; exact h.ga
set_option maxRecDepth 100000 in
theorem rSetStatus_any (h : RfA W rb r) (q : Int) (hq : In64 q) :
    Calls Tryz.prog 64 #[ptrV rb, .int .i64 q] W fun e w' => e = .returned (.tuple #[]) ∧ RfA w' rb { r with n := q.tmod 256 % 256 } ∧ Stp (fun b => b = rb) W w' := by
  obtain ⟨sv, sf, sa, st, h⟩ := h
  have c8 : W.cell? ⟨rb, 8, none⟩ = some (.int .i64 r.n) := h.blk.cell (i := 8) rfl
  have f8 := h.blk.frozen 8
  have hlt := h.blk.lt
  have h1 := Int.tmod_lt_of_pos q (show (0 : Int) < 256 by decide)
  have h2 := Int.lt_tmod_of_pos q (show (0 : Int) < 256 by decide)
  obtain ⟨hR, hS⟩ := h.set (r' := { r with n := q.tmod 256 % 256 }) 8 (.int .i64 (q.tmod 256 % 256)) rfl h.rv h.rf h.ra h.rt h.ga
  have hfin := Lib.hid (And.intro hR hS)
  unfold In64 at hq
  unfold ptrV
  clear h hR hS
  go_enter Tryz.func64, Tryz.ntmps64
  go_wp2
  exact bodyPost_end (v := .tuple #[]) (results_none rfl _ _ _) rfl ⟨rfl, ⟨_, _, _, _, hfin.out.1⟩, hfin.out.2⟩
set_option maxRecDepth 100000 in
theorem rSetCursor_no (h : RfA W rb r) (p q : Int) (hpq : p < 0 ∨ q < 0) :
    Calls Tryz.prog 63 #[ptrV rb, .int .i64 p, .int .i64 q] W fun e w' => e = .returned (.int .i64 1) ∧ w' = W := by
  unfold ptrV
  clear h
  by_cases hp : p < 0
  · go_enter Tryz.func63, Tryz.ntmps63
    go_wp2
    go_ret
    exact ⟨rfl, rfl⟩
  · have hq : q < 0 := hpq.resolve_left hp
    clear hpq
    go_enter Tryz.func63, Tryz.ntmps63
    go_wp2
    go_ret
    exact ⟨rfl, rfl⟩
set_option maxRecDepth 100000 in
theorem rSetCursor_ok (h : RfA W rb r) (p q : Int) (hp : ¬ p < 0) (hq : ¬ q < 0) :
    Calls Tryz.prog 63 #[ptrV rb, .int .i64 p, .int .i64 q] W fun e w' => e = .returned (.int .i64 0) ∧ RfA w' rb { r with g := ⟨r.g.A, r.g.n, r.g.c, p, q, r.g.l⟩ } ∧ Stp (fun b => b = rb) W w' := by
  obtain ⟨sv, sf, sa, st, h⟩ := h
  obtain ⟨hR1, hS1⟩ := h.set (r' := { r with g := ⟨r.g.A, r.g.n, r.g.c, p, r.g.i, r.g.l⟩ }) 6 (.int .i64 p) rfl h.rv h.rf h.ra h.rt (h.ga.ai _ _)
  obtain ⟨hR2, hS2⟩ := hR1.set (r' := { r with g := ⟨r.g.A, r.g.n, r.g.c, p, q, r.g.l⟩ }) 7 (.int .i64 q) rfl hR1.rv hR1.rf hR1.ra hR1.rt (hR1.ga.ai _ _)
  have hfin := Lib.hid (And.intro hR2 (Stp.trans (S := fun b => b = rb) (S' := fun b => b = rb) hS1 hS2 (fun _ _ h => h)))
  have c6 : W.cell? ⟨rb, 6, none⟩ = some (.int .i64 r.g.a) := h.blk.cell (i := 6) rfl
  have f6 := h.blk.frozen 6
  have c7 : W.cell? ⟨rb, 7, none⟩ = some (.int .i64 r.g.i) := h.blk.cell (i := 7) rfl
  have f7 := h.blk.frozen 7
  have hlt := h.blk.lt
  unfold ptrV
  clear h hR1 hS1 hR2 hS2
  go_enter Tryz.func63, Tryz.ntmps63
  go_wp2
  go_ret
  exact ⟨rfl, ⟨_, _, _, _, hfin.out.1⟩, hfin.out.2⟩
set_option maxRecDepth 100000 in
theorem rShift_no (h : RfA W rb r) (p : Int) (hpq : p < 0 ∨ (r.g.n : Int) < p) :
    Calls Tryz.prog 62 #[ptrV rb, .int .i64 p] W fun e w' => e = .returned (.int .i64 1) ∧ w' = W := by
  obtain ⟨sv, sf, sa, st, h⟩ := h
  have c5 : W.cell? ⟨rb, 5, none⟩ = some (.slice r.g.A r.g.n r.g.c) := h.blk.cell (i := 5) rfl
  have hlt := h.blk.lt
  unfold ptrV
  clear h
  by_cases hp : p < 0
  · go_enter Tryz.func62, Tryz.ntmps62
    go_wp2
    go_ret
    exact ⟨rfl, rfl⟩
  · have hq : (r.g.n : Int) < p := hpq.resolve_left hp
    clear hpq
    go_enter Tryz.func62, Tryz.ntmps62
    go_wp2
    go_ret
    exact ⟨rfl, rfl⟩
set_option maxRecDepth 100000 in
theorem rShift_ok (h : RfA W rb r) (p : Int) (h0 : ¬ p < 0) (hm : ¬ (r.g.n : Int) < p) :
    Calls Tryz.prog 62 #[ptrV rb, .int .i64 p] W fun e w' => e = .returned (.int .i64 0) ∧ (∃ A' c', RfA w' rb { r with g := ⟨A', r.g.n - p.toNat, c', r.g.a, r.g.i, r.g.l.drop p.toNat⟩ }) ∧ Stp (fun b => b = rb) W w' := by
  obtain ⟨sv, sf, sa, st, h⟩ := h
  obtain ⟨k, rfl⟩ : ∃ k : Nat, p = (k : Int) := ⟨p.toNat, by omega⟩
  have hkm : k ≤ r.g.n := by omega
  have hgd := GvAt.drop (show GvAt W ⟨r.g.A, r.g.n, r.g.c, r.g.a, r.g.i, r.g.l⟩ from h.ga) hkm
  have hmc : r.g.n ≤ r.g.c := h.ga.2.1
  have hcm : r.g.c ≤ 2 ^ 63 - 1 := h.ga.2.2.1
  obtain ⟨A', hA'⟩ : ∃ A', (if r.g.c = k then r.g.A else Option.map (fun x => x.add k) r.g.A) = A' := ⟨_, rfl⟩
  rw [hA'] at hgd
  have c5 : W.cell? ⟨rb, 5, none⟩ = some (.slice r.g.A r.g.n r.g.c) := h.blk.cell (i := 5) rfl
  have f5 := h.blk.frozen 5
  have hlt := h.blk.lt
  rw [Int.toNat_natCast]
  obtain ⟨hR, hS⟩ := h.set (r' := { r with g := ⟨A', r.g.n - k, r.g.c - k, r.g.a, r.g.i, r.g.l.drop k⟩ }) 5 (.slice A' (r.g.n - k) (r.g.c - k)) rfl h.rv h.rf h.ra h.rt hgd
  have hfin := Lib.hid (And.intro hR hS)
  unfold ptrV
  replace hA' := Lib.hid hA'
  clear h hR hS hgd
  generalize r.g.n = m at hm hkm hmc hA' c5 hfin ⊢
  generalize r.g.c = c at hmc hcm hA' c5 hfin
  generalize r.g.A = A at hA' c5
  go_enter Tryz.func62, Tryz.ntmps62
  go_upto_region 4 with fail
  rw [hA'.out]
  generalize W.setCell ⟨rb, 5, none⟩ (.slice A' (m - k) (c - k)) = wE at hfin ⊢
  clear c5 f5 hlt
  go_wp2
  go_ret
  exact ⟨rfl, ⟨A', c - k, ⟨_, _, _, _, hfin.out.1⟩⟩, hfin.out.2⟩
/-- A new one. -/
def rf0 : Rf := ⟨[], [], [], [], ⟨#[]⟩, ⟨none, 0, 0, 1, 0, []⟩, 0⟩
theorem rNew_any (W : World) : Calls Tryz.prog 10 #[] W fun e w' => ∃ p, e = .returned (ptrV p) ∧ RfA w' p rf0 ∧ W.heap.size ≤ p ∧ Below W.heap.size W w' := by
  have hb : Below W.heap.size W (W.alloc (.cells #[.slice none 0 0, .slice none 0 0, .slice none 0 0, .slice none 0 0, .string ⟨#[]⟩, .slice none 0 0, .int .i64 1, .int .i64 0, .int .i64 0] 76)) := Below.of_alloc W _
  have hk : Blk (W.alloc (.cells #[.slice none 0 0, .slice none 0 0, .slice none 0 0, .slice none 0 0, .string ⟨#[]⟩, .slice none 0 0, .int .i64 1, .int .i64 0, .int .i64 0] 76)) W.heap.size [.slice none 0 0, .slice none 0 0, .slice none 0 0, .slice none 0 0, .string ⟨#[]⟩, .slice none 0 0, .int .i64 1, .int .i64 0, .int .i64 0] 76 := Blk.new W _ _
  have hR : RfA (W.alloc (.cells #[.slice none 0 0, .slice none 0 0, .slice none 0 0, .slice none 0 0, .string ⟨#[]⟩, .slice none 0 0, .int .i64 1, .int .i64 0, .int .i64 0] 76)) W.heap.size rf0 :=
    ⟨_, _, _, _, ⟨hk, World.ownsRow_nil _ _ _ _, World.ownsRow_nil _ _ _ _, World.ownsRow_nil _ _ _ _, World.ownsRow_nil _ _ _ _, rfl, Nat.le_refl _, Nat.zero_le _, fun h => absurd h (Nat.lt_irrefl _)⟩⟩
  have hfin := Lib.hid (And.intro hR hb)
  clear hb hk hR
  go_enter Tryz.func10, Tryz.ntmps10
  go_wp2
  go_ret
  exact ⟨_, rfl, hfin.out.1, Nat.le_refl _, hfin.out.2⟩
set_option maxRecDepth 100000 in
theorem rCopy_any (h : RfA W rb r) : Calls Tryz.prog 65 #[ptrV rb] W fun e w' => ∃ p, e = .returned (ptrV p) ∧ RfA w' p r ∧ W.heap.size ≤ p ∧ Below W.heap.size W w' := by
  obtain ⟨sv, sf, sa, st, h⟩ := h
  have hk : Blk (W.alloc (.cells #[sv, sf, sa, st, .string r.o, .slice r.g.A r.g.n r.g.c, .int .i64 r.g.a, .int .i64 r.g.i, .int .i64 r.n] 76)) W.heap.size [sv, sf, sa, st, .string r.o, .slice r.g.A r.g.n r.g.c, .int .i64 r.g.a, .int .i64 r.g.i, .int .i64 r.n] 76 := Blk.new W _ _
  have hb : Below W.heap.size W (W.alloc (.cells #[sv, sf, sa, st, .string r.o, .slice r.g.A r.g.n r.g.c, .int .i64 r.g.a, .int .i64 r.g.i, .int .i64 r.n] 76)) := Below.of_alloc W _
  have h2 := h.below hb
  have hR : RfA (W.alloc (.cells #[sv, sf, sa, st, .string r.o, .slice r.g.A r.g.n r.g.c, .int .i64 r.g.a, .int .i64 r.g.i, .int .i64 r.n] 76)) W.heap.size r := ⟨_, _, _, _, ⟨hk, h2.rv, h2.rf, h2.ra, h2.rt, h2.ga⟩⟩
  have hfin := Lib.hid (And.intro hR hb)
  have c0 := h.blk.cell (i := 0) rfl
  have c1 := h.blk.cell (i := 1) rfl
  have c2 := h.blk.cell (i := 2) rfl
  have c3 := h.blk.cell (i := 3) rfl
  have c4 := h.blk.cell (i := 4) rfl
  have c5 := h.blk.cell (i := 5) rfl
  have c6 := h.blk.cell (i := 6) rfl
  have c7 := h.blk.cell (i := 7) rfl
  have c8 := h.blk.cell (i := 8) rfl
  have hlt := h.blk.lt
  obtain ⟨Av, cv, hsv, _, _⟩ := own_form h.rv
  obtain ⟨Af, cf, hsf, _, _⟩ := own_form h.rf
  obtain ⟨Aa, ca, hsa, _, _⟩ := own_form h.ra
  obtain ⟨At, ct, hst, _, _⟩ := own_form h.rt
  subst hsv hsf hsa hst
  unfold ptrV
  clear h h2 hk hb hR
  go_enter Tryz.func65, Tryz.ntmps65
  go_wp2
  go_ret
  exact ⟨_, rfl, hfin.out.1, Nat.le_refl _, hfin.out.2⟩
set_option maxRecDepth 100000 in
theorem rSetArgs_many (h : RfA W rb r) {A : Option Addr} {m c : Nat} (hm : 1000 < m) :
    Calls Tryz.prog 61 #[ptrV rb, .slice A m c] W fun e w' => e = .returned (.int .i64 20) ∧ w' = W := by
  have hm2 : (1000 : Int) < (m : Int) := by omega
  unfold ptrV
  clear h hm
  go_enter Tryz.func61, Tryz.ntmps61
  go_wp2
  go_ret
  exact ⟨rfl, rfl⟩
set_option maxRecDepth 100000 in
set_option maxHeartbeats 8000000 in
theorem rSetArgs_any (h : RfA W rb r) {A : Option Addr} {m c : Nat} {l : List ByteArray} (htx : Txs W A m c l) (hm : ¬ 1000 < m) (hl : ∀ s ∈ l, s.size ≤ 1000000) :
    Calls Tryz.prog 61 #[ptrV rb, .slice A m c] W fun e w' => (greatL l = true ∧ e = .returned (.int .i64 21) ∧ w' = W) ∨ (greatL l = false ∧ e = .returned (.int .i64 0) ∧ (∃ A' c', RfA w' rb { r with g := ⟨A', m, c', 1, 0, l⟩ }) ∧ Stp (fun b => b = rb) W w') := by
  obtain ⟨i0, hi0, hz0, hz1, hz2⟩ := info_parts infoStr
  obtain ⟨sv, sf, sa, st, h⟩ := h
  have hm2 : ¬ (1000 : Int) < (m : Int) := by omega
  have hmc := htx.2.1
  have hcm : c ≤ 2 ^ 63 - 1 := htx.2.2.1
  have hlm := htx.1
  obtain ⟨R, hR0⟩ : ∃ R, greatL l = R := ⟨_, rfl⟩
  rw [hR0]
  obtain ⟨A2, c2, w2, hrun, hown, hb2⟩ := append_rows (w := W) (W := W) (z := W.heap.size) (A := none) (m := 0) (c := 0) (xs := []) (World.ownsRow_nil _ _ _ _) rfl (Below.refl _ _) (Nat.le_refl _) htx (by omega) hi0 hz0 hz1 hz2
  rw [Nat.zero_add, List.nil_append] at hown
  rw [Nat.zero_add] at hrun
  have h2 := h.below hb2
  obtain ⟨hR1, hS1⟩ := h2.set (r' := { r with g := ⟨A2, m, c2, r.g.a, r.g.i, l⟩ }) 5 (.slice A2 m c2) rfl h2.rv h2.rf h2.ra h2.rt (gv_own hlm hown)
  obtain ⟨hR2, hS2⟩ := hR1.set (r' := { r with g := ⟨A2, m, c2, 1, r.g.i, l⟩ }) 6 (.int .i64 1) rfl hR1.rv hR1.rf hR1.ra hR1.rt (hR1.ga.ai _ _)
  obtain ⟨hR3, hS3⟩ := hR2.set (r' := { r with g := ⟨A2, m, c2, 1, 0, l⟩ }) 7 (.int .i64 0) rfl hR2.rv hR2.rf hR2.ra hR2.rt (hR2.ga.ai _ _)
  have hfin := Lib.hid (And.intro hR3 (stpB hb2 (Stp.trans (S := fun b => b = rb) (S' := fun b => b = rb) (Stp.trans (S := fun b => b = rb) (S' := fun b => b = rb) hS1 hS2 (fun _ _ h => h)) hS3 (fun _ _ h => h))))
  have g5 : w2.cell? ⟨rb, 5, none⟩ = some (.slice r.g.A r.g.n r.g.c) := h2.blk.cell (i := 5) rfl
  have g6 : w2.cell? ⟨rb, 6, none⟩ = some (.int .i64 r.g.a) := h2.blk.cell (i := 6) rfl
  have g7 : w2.cell? ⟨rb, 7, none⟩ = some (.int .i64 r.g.i) := h2.blk.cell (i := 7) rfl
  have f5 := h2.blk.frozen 5
  have f6 := h2.blk.frozen 6
  have f7 := h2.blk.frozen 7
  have l2 := h2.blk.lt
  have hgr : greatL l = true ↔ ∃ s ∈ l, 4096 < s.size := by unfold greatL; simp
  replace hrun := Lib.hid hrun
  replace hgr := Lib.hid hgr
  replace htx := Lib.hid htx
  replace hlm := Lib.hid hlm
  replace hl := Lib.hid hl
  replace hR0 := Lib.hid hR0
  replace hi0 := Lib.hid hi0
  unfold ptrV
  clear h h2 hR1 hS1 hR2 hS2 hR3 hS3 hown hb2
  go_enter Tryz.func61, Tryz.ntmps61
  go_wp2
  go_loopw [5] (fun iv wr => ∃ j : Nat, j ≤ m ∧ iv = .int .i64 (j : Int) ∧ Hid (∀ i (hi : i < l.length), i < j → ¬ 4096 < l[i].size) ∧ Hid (wr = W)) (fun iv _ => m - (intOf iv).toNat)
  case atStart => exact ⟨0, Nat.zero_le _, rfl, Lib.hid (fun _ _ h => absurd h (Nat.not_lt_zero _)), Lib.hid rfl⟩
  case round =>
    obtain ⟨j, hj, rfl, hall, hw⟩ := hrel
    obtain rfl := hw.out
    clear hw
    by_cases hlt : j < m
    · have hjn : j < l.length := by rw [hlm.out]; exact hlt
      obtain ⟨g, go, rfl, hgl, hgc⟩ := htx.out.2.2.2 (by omega)
      have ck := hgc j l[j] (List.getElem?_eq_getElem hjn)
      have hj1 : (0 : Int) ≤ (j : Int) := by omega
      have hj2 : (j : Int) < (m : Int) := by omega
      have hs := hl.out _ (List.getElem_mem hjn)
      have hyes : ¬ 4096 < l[j].size → Hid (∀ i (hi : i < l.length), i < j + 1 → ¬ 4096 < l[i].size) := fun e => Lib.hid (fun i hi h => by
        rcases Nat.lt_succ_iff_lt_or_eq.1 h with h | h
        · exact hall.out i hi h
        · subst h; exact e)
      have hno : 4096 < l[j].size → Hid (R = true) := fun e => Lib.hid (by rw [← hR0.out]; exact hgr.out.2 ⟨_, List.getElem_mem hjn, e⟩)
      generalize l[j] = s at ck hs hyes hno
      replace hyes := Lib.hid hyes
      replace hno := Lib.hid hno
      clear hgc
      by_cases hg : 4096 < s.size
      · have hg2 : (4096 : Int) < (s.size : Int) := by omega
        have hf := hno.out hg
        clear hyes hno hall
        go_wp2
        go_ret
        exact .inl ⟨hf.out, rfl, rfl⟩
      · have hg2 : ¬ (4096 : Int) < (s.size : Int) := by omega
        have hy := hyes.out hg
        clear hyes hno hall
        go_wp2
        go_roundw
        case rel => exact ⟨j + 1, by omega, by go_num, hy, Lib.hid trivial⟩
        case measure => simp [intOf]; omega
    · obtain rfl : j = m := by omega
      have hj2 : ¬ (j : Int) < (j : Int) := by omega
      have hf : Hid (R = false) := Lib.hid (by
        rw [← hR0.out]
        refine Bool.eq_false_iff.2 fun e => ?_
        obtain ⟨s, hs, hg⟩ := hgr.out.1 e
        obtain ⟨i, hi, rfl⟩ := List.getElem_of_mem hs
        exact hall.out i hi (by rw [← hlm.out]; exact hi) hg)
      clear hall
      go_wp2_with (at_builtin; refine wpList_append_of rfl _ _ 35 35 rfl _ _ _ w2 rfl rfl hrun.out ?_)
      go_ret
      exact .inr ⟨hf.out, rfl, ⟨A2, c2, ⟨_, _, _, _, hfin.out.1⟩⟩, hfin.out.2⟩
end
end Go.Proofs.YtigmdfdcflkggaaGreat
