/-
  Set, Unset and Mark of a state's variables. Conditions: keys of at most 200 bytes, values of at most a million.
-/
import Derived.Test.YtigmdfdcflkggaaGreatStVars
namespace Go.Proofs.YtigmdfdcflkggaaGreat
open Go Go.RowKit Go.ChangeMaps

section
variable {w w' : World} {B sb : Nat} {a : Ad} {pot : Nat} {t : Tg} {n : Int}
def Tg.setV (t : Tg) (k v : ByteArray) : Int × Tg :=
  if nameB k = true then (if 4096 < v.size then (21, t) else if (valV t k).f = true then (26, t) else t.putv k ⟨v, true, (valV t k).e || optB t 97, false⟩) else (16, t)
def Tg.unsetV (t : Tg) (k : ByteArray) : Int × Tg := if nameB k = true then (if (valV t k).f = true then (26, t) else t.delv k) else (16, t)
def Tg.markV (t : Tg) (k : ByteArray) (e f : Bool) : Int × Tg := t.put k ⟨(valV t k).v, (valV t k).s, (valV t k).e || e, (valV t k).f || f⟩
set_option maxRecDepth 100000 in
set_option maxHeartbeats 2000000 in
theorem Set_bad (h : StAt w B sb a pot t n) (k v : ByteArray) (hk : k.size ≤ 200) (hv1 : v.size ≤ 1000000) (hnm : ¬ nameB k = true) :
    Calls Tryz.prog 24 #[ptrV sb, .string k, .string v] w fun e w' => e = .returned (.int .i64 16) ∧ Below w.heap.size w w' := by
  have hc := checkName_any h.blk k (by omega)
  unfold checkE at hc
  rw [if_neg hnm] at hc
  have hvar := Var_any h k
  obtain ⟨V, hV⟩ : ∃ V, valV t k = V := ⟨_, rfl⟩
  rw [hV] at hvar
  obtain ⟨x0, x1, x2, x3⟩ := V
  unfold encV at hvar
  dsimp only at hvar
  unfold ptrV at hc hvar ⊢
  replace hV := Lib.hid hV
  clear h hnm
  go_enter Tryz.func24, Tryz.ntmps24
  go_wp2_with fail
  refine hc.mono ?_
  rintro e w' ⟨rfl, hw⟩
  obtain rfl := hw.symm
  clear hc hw
  go_wp2_with fail
  refine hvar.mono ?_
  rintro e w1 ⟨rfl, hb1⟩
  clear hvar
  go_upto_region 3 with fail
  have hbB : Below w.heap.size w (w1.alloc (.cells #[.string x0, .bool x1, .bool x2, .bool x3] 59)) := hb1.alloc hb1.size _
  have bB : Blk (w1.alloc (.cells #[.string x0, .bool x1, .bool x2, .bool x3] 59)) w1.heap.size [.string x0, .bool x1, .bool x2, .bool x3] 59 := Blk.new w1 _ _
  generalize (w1.alloc (.cells #[.string x0, .bool x1, .bool x2, .bool x3] 59)) = wB at hbB bB ⊢
  generalize w1.heap.size = z at bB ⊢
  replace hbB := Lib.hid hbB
  clear hb1
  clear bB
  go_wp2
  go_ret
  exact ⟨rfl, hbB.out⟩
set_option maxRecDepth 100000 in
set_option maxHeartbeats 2000000 in
theorem Set_big (h : StAt w B sb a pot t n) (k v : ByteArray) (hk : k.size ≤ 200) (hv1 : v.size ≤ 1000000) (hnm : nameB k = true) (hv : 4096 < v.size) :
    Calls Tryz.prog 24 #[ptrV sb, .string k, .string v] w fun e w' => e = .returned (.int .i64 21) ∧ Below w.heap.size w w' := by
  have hc := checkName_any h.blk k (by omega)
  unfold checkE at hc
  rw [if_pos hnm] at hc
  have hvar := Var_any h k
  obtain ⟨V, hV⟩ : ∃ V, valV t k = V := ⟨_, rfl⟩
  rw [hV] at hvar
  obtain ⟨x0, x1, x2, x3⟩ := V
  unfold encV at hvar
  dsimp only at hvar
  unfold ptrV at hc hvar ⊢
  replace hV := Lib.hid hV
  clear h hnm
  go_enter Tryz.func24, Tryz.ntmps24
  go_wp2_with fail
  refine hc.mono ?_
  rintro e w' ⟨rfl, hw⟩
  obtain rfl := hw.symm
  clear hc hw
  go_wp2_with fail
  refine hvar.mono ?_
  rintro e w1 ⟨rfl, hb1⟩
  clear hvar
  go_upto_region 3 with fail
  have hbB : Below w.heap.size w (w1.alloc (.cells #[.string x0, .bool x1, .bool x2, .bool x3] 59)) := hb1.alloc hb1.size _
  have bB : Blk (w1.alloc (.cells #[.string x0, .bool x1, .bool x2, .bool x3] 59)) w1.heap.size [.string x0, .bool x1, .bool x2, .bool x3] 59 := Blk.new w1 _ _
  generalize (w1.alloc (.cells #[.string x0, .bool x1, .bool x2, .bool x3] 59)) = wB at hbB bB ⊢
  generalize w1.heap.size = z at bB ⊢
  replace hbB := Lib.hid hbB
  clear hb1
  have hbC : Below w.heap.size w (wB.alloc (.cells #[.string v] 9)) := hbB.out.alloc hbB.out.size _
  have bC : Blk (wB.alloc (.cells #[.string v] 9)) wB.heap.size [.string v] 9 := Blk.new wB _ _
  have bB2 := bB.alloc (.cells #[.string v] 9)
  have htx : Txs (wB.alloc (.cells #[.string v] 9)) (some ⟨wB.heap.size, 0, none⟩) 1 1 [v] := ⟨rfl, Nat.le_refl _, by decide, fun _ => ⟨wB.heap.size, 0, rfl, bC.lt, fun j x hx => by
    cases j with
    | zero => cases hx; exact bC.cell (i := 0) rfl
    | succ j => cases hx⟩⟩
  have hg := tooGreat_any htx (fun s hs => by rw [List.mem_singleton] at hs; rw [hs]; exact hv1) (by decide)
  have hgr : greatL [v] = true := by unfold greatL; simp [hv]
  rw [hgr] at hg
  clear htx bC hgr
  have y3 := bB2.cell (i := 3) rfl
  have y2 := bB2.cell (i := 2) rfl
  have yl := bB2.lt
  have hbe3 := bB.cell (i := 3) rfl
  have hble := bB.lt
  unfold ptrV at *
  replace hbC := Lib.hid hbC
  go_wp2_with fail
  refine hg.mono ?_
  rintro e w' ⟨rfl, hw⟩
  obtain rfl := hw.symm
  generalize (wB.alloc (.cells #[.string v] 9)) = wC at hbC bB2 y3 y2 yl ⊢
  replace bB2 := Lib.hid bB2
  clear hg hw hbe3 hble bB
  go_wp2
  go_ret
  exact ⟨rfl, hbC.out⟩
set_option maxRecDepth 100000 in
set_option maxHeartbeats 2000000 in
theorem Set_fix (h : StAt w B sb a pot t n) (k v : ByteArray) (hk : k.size ≤ 200) (hv1 : v.size ≤ 1000000) (hnm : nameB k = true) (hv : ¬ 4096 < v.size) (hf : (valV t k).f = true) :
    Calls Tryz.prog 24 #[ptrV sb, .string k, .string v] w fun e w' => e = .returned (.int .i64 26) ∧ Below w.heap.size w w' := by
  have hc := checkName_any h.blk k (by omega)
  unfold checkE at hc
  rw [if_pos hnm] at hc
  have hvar := Var_any h k
  obtain ⟨V, hV⟩ : ∃ V, valV t k = V := ⟨_, rfl⟩
  rw [hV] at hf
  rw [hV] at hvar
  obtain ⟨x0, x1, x2, x3⟩ := V
  obtain rfl : x3 = _ := hf
  unfold encV at hvar
  dsimp only at hvar
  unfold ptrV at hc hvar ⊢
  replace hV := Lib.hid hV
  clear h hnm
  go_enter Tryz.func24, Tryz.ntmps24
  go_wp2_with fail
  refine hc.mono ?_
  rintro e w' ⟨rfl, hw⟩
  obtain rfl := hw.symm
  clear hc hw
  go_wp2_with fail
  refine hvar.mono ?_
  rintro e w1 ⟨rfl, hb1⟩
  clear hvar
  go_upto_region 3 with fail
  have hbB : Below w.heap.size w (w1.alloc (.cells #[.string x0, .bool x1, .bool x2, .bool true] 59)) := hb1.alloc hb1.size _
  have bB : Blk (w1.alloc (.cells #[.string x0, .bool x1, .bool x2, .bool true] 59)) w1.heap.size [.string x0, .bool x1, .bool x2, .bool true] 59 := Blk.new w1 _ _
  generalize (w1.alloc (.cells #[.string x0, .bool x1, .bool x2, .bool true] 59)) = wB at hbB bB ⊢
  generalize w1.heap.size = z at bB ⊢
  replace hbB := Lib.hid hbB
  clear hb1
  have hbC : Below w.heap.size w (wB.alloc (.cells #[.string v] 9)) := hbB.out.alloc hbB.out.size _
  have bC : Blk (wB.alloc (.cells #[.string v] 9)) wB.heap.size [.string v] 9 := Blk.new wB _ _
  have bB2 := bB.alloc (.cells #[.string v] 9)
  have htx : Txs (wB.alloc (.cells #[.string v] 9)) (some ⟨wB.heap.size, 0, none⟩) 1 1 [v] := ⟨rfl, Nat.le_refl _, by decide, fun _ => ⟨wB.heap.size, 0, rfl, bC.lt, fun j x hx => by
    cases j with
    | zero => cases hx; exact bC.cell (i := 0) rfl
    | succ j => cases hx⟩⟩
  have hg := tooGreat_any htx (fun s hs => by rw [List.mem_singleton] at hs; rw [hs]; exact hv1) (by decide)
  have hgr : greatL [v] = false := by unfold greatL; simp [hv]
  rw [hgr] at hg
  clear htx bC hgr
  have y3 := bB2.cell (i := 3) rfl
  have y2 := bB2.cell (i := 2) rfl
  have yl := bB2.lt
  have hbe3 := bB.cell (i := 3) rfl
  have hble := bB.lt
  unfold ptrV at *
  replace hbC := Lib.hid hbC
  go_wp2_with fail
  refine hg.mono ?_
  rintro e w' ⟨rfl, hw⟩
  obtain rfl := hw.symm
  generalize (wB.alloc (.cells #[.string v] 9)) = wC at hbC bB2 y3 y2 yl ⊢
  replace bB2 := Lib.hid bB2
  clear hg hw hbe3 hble bB
  go_wp2
  go_ret
  exact ⟨rfl, hbC.out⟩
set_option maxRecDepth 100000 in
set_option maxHeartbeats 2000000 in
theorem Set_exp (h : StAt w B sb a pot t n) (k v : ByteArray) (hk : k.size ≤ 200) (hv1 : v.size ≤ 1000000) (hnm : nameB k = true) (hv : ¬ 4096 < v.size) (hf : (valV t k).f = false) (he : (valV t k).e = true) :
    Calls Tryz.prog 24 #[ptrV sb, .string k, .string v] w fun e w' => e = .returned (.int .i64 (t.putv k ⟨v, true, true, false⟩).1) ∧ StAt w' B sb a (pot + 2) (t.putv k ⟨v, true, true, false⟩).2 n ∧ FrT B a w w' := by
  have hc := checkName_any h.blk k (by omega)
  unfold checkE at hc
  rw [if_pos hnm] at hc
  have hvar := Var_any h k
  have hput := fun (W : World) (hb : Below w.heap.size w W) (e : Bool) => Put_set (h.below hb) k hk hnm v (by omega) e false
  obtain ⟨V, hV⟩ : ∃ V, valV t k = V := ⟨_, rfl⟩
  rw [hV] at hf
  rw [hV] at he
  rw [hV] at hvar
  obtain ⟨x0, x1, x2, x3⟩ := V
  obtain rfl : x3 = _ := hf
  obtain rfl : x2 = _ := he
  unfold encV at hvar
  dsimp only at hvar
  unfold ptrV at hc hvar hput ⊢
  replace hput := Lib.hid hput
  replace hV := Lib.hid hV
  clear h hnm
  go_enter Tryz.func24, Tryz.ntmps24
  go_wp2_with fail
  refine hc.mono ?_
  rintro e w' ⟨rfl, hw⟩
  obtain rfl := hw.symm
  clear hc hw
  go_wp2_with fail
  refine hvar.mono ?_
  rintro e w1 ⟨rfl, hb1⟩
  clear hvar
  go_upto_region 3 with fail
  have hbB : Below w.heap.size w (w1.alloc (.cells #[.string x0, .bool x1, .bool true, .bool false] 59)) := hb1.alloc hb1.size _
  have bB : Blk (w1.alloc (.cells #[.string x0, .bool x1, .bool true, .bool false] 59)) w1.heap.size [.string x0, .bool x1, .bool true, .bool false] 59 := Blk.new w1 _ _
  generalize (w1.alloc (.cells #[.string x0, .bool x1, .bool true, .bool false] 59)) = wB at hbB bB ⊢
  generalize w1.heap.size = z at bB ⊢
  replace hbB := Lib.hid hbB
  clear hb1
  have hbC : Below w.heap.size w (wB.alloc (.cells #[.string v] 9)) := hbB.out.alloc hbB.out.size _
  have bC : Blk (wB.alloc (.cells #[.string v] 9)) wB.heap.size [.string v] 9 := Blk.new wB _ _
  have bB2 := bB.alloc (.cells #[.string v] 9)
  have htx : Txs (wB.alloc (.cells #[.string v] 9)) (some ⟨wB.heap.size, 0, none⟩) 1 1 [v] := ⟨rfl, Nat.le_refl _, by decide, fun _ => ⟨wB.heap.size, 0, rfl, bC.lt, fun j x hx => by
    cases j with
    | zero => cases hx; exact bC.cell (i := 0) rfl
    | succ j => cases hx⟩⟩
  have hg := tooGreat_any htx (fun s hs => by rw [List.mem_singleton] at hs; rw [hs]; exact hv1) (by decide)
  have hgr : greatL [v] = false := by unfold greatL; simp [hv]
  rw [hgr] at hg
  clear htx bC hgr
  have y3 := bB2.cell (i := 3) rfl
  have y2 := bB2.cell (i := 2) rfl
  have yl := bB2.lt
  have hbe3 := bB.cell (i := 3) rfl
  have hble := bB.lt
  unfold ptrV at *
  replace hbC := Lib.hid hbC
  go_wp2_with fail
  refine hg.mono ?_
  rintro e w' ⟨rfl, hw⟩
  obtain rfl := hw.symm
  generalize (wB.alloc (.cells #[.string v] 9)) = wC at hbC bB2 y3 y2 yl ⊢
  replace bB2 := Lib.hid bB2
  clear hg hw hbe3 hble bB
  have hp := hput.out wC hbC.out true
  go_wp2_with fail
  refine hp.mono ?_
  rintro e w5 ⟨rfl, q1, q2⟩
  have hfin := Lib.hid (And.intro q1 ((FrT.of_below hbC.out).trans q2))
  clear hp q1 q2
  go_wp2
  go_ret
  exact ⟨rfl, hfin.out⟩
set_option maxRecDepth 100000 in
set_option maxHeartbeats 2000000 in
theorem Set_opt (h : StAt w B sb a pot t n) (k v : ByteArray) (hk : k.size ≤ 200) (hv1 : v.size ≤ 1000000) (hnm : nameB k = true) (hv : ¬ 4096 < v.size) (hf : (valV t k).f = false) (he : (valV t k).e = false) :
    Calls Tryz.prog 24 #[ptrV sb, .string k, .string v] w fun e w' => e = .returned (.int .i64 (t.putv k ⟨v, true, optB t 97, false⟩).1) ∧ StAt w' B sb a (pot + 2) (t.putv k ⟨v, true, optB t 97, false⟩).2 n ∧ FrT B a w w' := by
  have hc := checkName_any h.blk k (by omega)
  unfold checkE at hc
  rw [if_pos hnm] at hc
  have hvar := Var_any h k
  have hput := fun (W : World) (hb : Below w.heap.size w W) (e : Bool) => Put_set (h.below hb) k hk hnm v (by omega) e false
  have hopt := fun (W : World) (hb : Below w.heap.size w W) => Option_any (h.below hb) 97
  obtain ⟨V, hV⟩ : ∃ V, valV t k = V := ⟨_, rfl⟩
  rw [hV] at hf
  rw [hV] at he
  rw [hV] at hvar
  obtain ⟨x0, x1, x2, x3⟩ := V
  obtain rfl : x3 = _ := hf
  obtain rfl : x2 = _ := he
  generalize optB t 97 = R at hopt hput ⊢
  unfold encV at hvar
  dsimp only at hvar
  unfold ptrV at hc hvar hput hopt ⊢
  replace hput := Lib.hid hput
  replace hopt := Lib.hid hopt
  replace hV := Lib.hid hV
  clear h hnm
  go_enter Tryz.func24, Tryz.ntmps24
  go_wp2_with fail
  refine hc.mono ?_
  rintro e w' ⟨rfl, hw⟩
  obtain rfl := hw.symm
  clear hc hw
  go_wp2_with fail
  refine hvar.mono ?_
  rintro e w1 ⟨rfl, hb1⟩
  clear hvar
  go_upto_region 3 with fail
  have hbB : Below w.heap.size w (w1.alloc (.cells #[.string x0, .bool x1, .bool false, .bool false] 59)) := hb1.alloc hb1.size _
  have bB : Blk (w1.alloc (.cells #[.string x0, .bool x1, .bool false, .bool false] 59)) w1.heap.size [.string x0, .bool x1, .bool false, .bool false] 59 := Blk.new w1 _ _
  generalize (w1.alloc (.cells #[.string x0, .bool x1, .bool false, .bool false] 59)) = wB at hbB bB ⊢
  generalize w1.heap.size = z at bB ⊢
  replace hbB := Lib.hid hbB
  clear hb1
  have hbC : Below w.heap.size w (wB.alloc (.cells #[.string v] 9)) := hbB.out.alloc hbB.out.size _
  have bC : Blk (wB.alloc (.cells #[.string v] 9)) wB.heap.size [.string v] 9 := Blk.new wB _ _
  have bB2 := bB.alloc (.cells #[.string v] 9)
  have htx : Txs (wB.alloc (.cells #[.string v] 9)) (some ⟨wB.heap.size, 0, none⟩) 1 1 [v] := ⟨rfl, Nat.le_refl _, by decide, fun _ => ⟨wB.heap.size, 0, rfl, bC.lt, fun j x hx => by
    cases j with
    | zero => cases hx; exact bC.cell (i := 0) rfl
    | succ j => cases hx⟩⟩
  have hg := tooGreat_any htx (fun s hs => by rw [List.mem_singleton] at hs; rw [hs]; exact hv1) (by decide)
  have hgr : greatL [v] = false := by unfold greatL; simp [hv]
  rw [hgr] at hg
  clear htx bC hgr
  have y3 := bB2.cell (i := 3) rfl
  have y2 := bB2.cell (i := 2) rfl
  have yl := bB2.lt
  have hbe3 := bB.cell (i := 3) rfl
  have hble := bB.lt
  unfold ptrV at *
  replace hbC := Lib.hid hbC
  go_wp2_with fail
  refine hg.mono ?_
  rintro e w' ⟨rfl, hw⟩
  obtain rfl := hw.symm
  generalize (wB.alloc (.cells #[.string v] 9)) = wC at hbC bB2 y3 y2 yl ⊢
  replace bB2 := Lib.hid bB2
  clear hg hw hbe3 hble bB
  have ho := hopt.out wC hbC.out
  go_wp2_with fail
  refine ho.mono ?_
  rintro e wD ⟨rfl, hbD⟩
  have hbE := Lib.hid (hbC.out.trans (hbD.mono hbC.out.size))
  have hp := hput.out wD hbE.out R
  clear ho hbD y3 y2 yl
  go_wp2_with fail
  refine hp.mono ?_
  rintro e w5 ⟨rfl, q1, q2⟩
  have hfin := Lib.hid (And.intro q1 ((FrT.of_below hbE.out).trans q2))
  clear hp q1 q2
  go_wp2
  go_ret
  exact ⟨rfl, hfin.out⟩
theorem Set_any (h : StAt w B sb a pot t n) (k v : ByteArray) (hk : k.size ≤ 200) (hv1 : v.size ≤ 1000000) :
    Calls Tryz.prog 24 #[ptrV sb, .string k, .string v] w fun e w' => e = .returned (.int .i64 (t.setV k v).1) ∧ StAt w' B sb a (pot + 2) (t.setV k v).2 n ∧ FrT B a w w' := by
  have no : ∀ er, t.setV k v = (er, t) → (Calls Tryz.prog 24 #[ptrV sb, .string k, .string v] w fun e w' => e = .returned (.int .i64 er) ∧ Below w.heap.size w w') → Calls Tryz.prog 24 #[ptrV sb, .string k, .string v] w fun e w' => e = .returned (.int .i64 (t.setV k v).1) ∧ StAt w' B sb a (pot + 2) (t.setV k v).2 n ∧ FrT B a w w' := fun er he hc => by
    rw [he]
    refine hc.mono ?_
    rintro e w' ⟨rfl, hb⟩
    exact ⟨rfl, (h.below hb).mono (by omega), FrT.of_below hb⟩
  by_cases hnm : nameB k = true
  · by_cases hv : 4096 < v.size
    · exact no 21 (by unfold Tg.setV; rw [if_pos hnm, if_pos hv]) (Set_big h k v hk hv1 hnm hv)
    · cases hf : (valV t k).f
      · have hT : t.setV k v = t.putv k ⟨v, true, (valV t k).e || optB t 97, false⟩ := by unfold Tg.setV; rw [if_pos hnm, if_neg hv, hf]; rfl
        rw [hT]
        cases he : (valV t k).e
        · rw [Bool.false_or]; exact Set_opt h k v hk hv1 hnm hv hf he
        · rw [Bool.true_or]; exact Set_exp h k v hk hv1 hnm hv hf he
      · exact no 26 (by unfold Tg.setV; rw [if_pos hnm, if_neg hv, hf]; rfl) (Set_fix h k v hk hv1 hnm hv hf)
  · exact no 16 (by unfold Tg.setV; rw [if_neg hnm]) (Set_bad h k v hk hv1 hnm)
set_option maxRecDepth 100000 in
set_option maxHeartbeats 2000000 in
theorem Mark_tt (h : StAt w B sb a pot t n) (k : ByteArray) (hk : k.size ≤ 200) (e f : Bool) (he : (valV t k).e = true) (hf : (valV t k).f = true) :
    Calls Tryz.prog 26 #[ptrV sb, .string k, .bool e, .bool f] w fun r w' => r = .returned (.int .i64 (t.markV k e f).1) ∧ StAt w' B sb a (pot + 2) (t.markV k e f).2 n ∧ FrT B a w w' := by
  have hvar := Var_any h k
  have hvb := h.vb k
  have hput := fun (W : World) (hb : Below w.heap.size w W) (x : Vr) (hx : x.v.size ≤ 5000) => Put_any (h.below hb) k hk x hx
  unfold Tg.markV
  obtain ⟨V, hV⟩ : ∃ V, valV t k = V := ⟨_, rfl⟩
  rw [hV] at hvar he hf hvb ⊢
  obtain ⟨x0, x1, x2, x3⟩ := V
  obtain rfl : x2 = _ := he
  obtain rfl : x3 = _ := hf
  unfold encV at hvar hput
  dsimp only at hvar hput ⊢
  unfold ptrV at hvar hput ⊢
  replace hput := Lib.hid hput
  replace hV := Lib.hid hV
  clear h
  obtain ⟨E, hE⟩ : ∃ E, (true || e) = E := ⟨_, rfl⟩
  obtain ⟨G, hG⟩ : ∃ G, (true || f) = G := ⟨_, rfl⟩
  rw [hE, hG]
  obtain rfl : E = true := hE.symm
  obtain rfl : G = true := hG.symm
  clear hE hG
  go_enter Tryz.func26, Tryz.ntmps26
  go_wp2_with fail
  refine hvar.mono ?_
  rintro r w1 ⟨rfl, hb1⟩
  clear hvar
  go_upto_region 2 with fail
  have hbB : Below w.heap.size w (w1.alloc (.cells #[.string x0, .bool x1, .bool true, .bool true] 59)) := hb1.alloc hb1.size _
  have bB : Blk (w1.alloc (.cells #[.string x0, .bool x1, .bool true, .bool true] 59)) w1.heap.size [.string x0, .bool x1, .bool true, .bool true] 59 := Blk.new w1 _ _
  have hsz := hb1.size
  generalize (w1.alloc (.cells #[.string x0, .bool x1, .bool true, .bool true] 59)) = wB at hbB bB ⊢
  generalize w1.heap.size = z at bB hsz ⊢
  have bC := bB.set 2 (.bool true)
  have hbC : Below w.heap.size w (wB.setCell ⟨z, 2, none⟩ (.bool true)) := hbB.setCell hsz _
  have bD := bC.set 3 (.bool true)
  have hbD : Hid (Below w.heap.size w ((wB.setCell ⟨z, 2, none⟩ (.bool true)).setCell ⟨z, 3, none⟩ (.bool true))) := Lib.hid (hbC.setCell hsz _)
  have y0 := bB.cell (i := 0) rfl
  have y1 := bB.cell (i := 1) rfl
  have y2 := bB.cell (i := 2) rfl
  have y3 := bB.cell (i := 3) rfl
  have f2 := bB.frozen 2
  have f3 := bB.frozen 3
  have yl := bB.lt
  replace bD := Lib.hid bD
  clear hb1 bB bC hbB hbC
  go_upto_region 4 with fail
  generalize ((wB.setCell ⟨z, 2, none⟩ (.bool true)).setCell ⟨z, 3, none⟩ (.bool true)) = wD at bD hbD ⊢
  clear y0 y1 y2 y3 f2 f3 yl
  have y0 := bD.out.cell (i := 0) rfl
  have y1 := bD.out.cell (i := 1) rfl
  have y2 := bD.out.cell (i := 2) rfl
  have y3 := bD.out.cell (i := 3) rfl
  have yl := bD.out.lt
  have hp := hput.out wD hbD.out ⟨x0, x1, true, true⟩ hvb
  go_wp2_with fail
  refine hp.mono ?_
  rintro r w5 ⟨rfl, q1, q2⟩
  have hfin := Lib.hid (And.intro q1 ((FrT.of_below hbD.out).trans q2))
  clear hp q1 q2 y0 y1 y2 y3 yl
  go_wp2
  go_ret
  exact ⟨rfl, hfin.out⟩
set_option maxRecDepth 100000 in
set_option maxHeartbeats 2000000 in
theorem Mark_tf (h : StAt w B sb a pot t n) (k : ByteArray) (hk : k.size ≤ 200) (e f : Bool) (he : (valV t k).e = true) (hf : (valV t k).f = false) :
    Calls Tryz.prog 26 #[ptrV sb, .string k, .bool e, .bool f] w fun r w' => r = .returned (.int .i64 (t.markV k e f).1) ∧ StAt w' B sb a (pot + 2) (t.markV k e f).2 n ∧ FrT B a w w' := by
  have hvar := Var_any h k
  have hvb := h.vb k
  have hput := fun (W : World) (hb : Below w.heap.size w W) (x : Vr) (hx : x.v.size ≤ 5000) => Put_any (h.below hb) k hk x hx
  unfold Tg.markV
  obtain ⟨V, hV⟩ : ∃ V, valV t k = V := ⟨_, rfl⟩
  rw [hV] at hvar he hf hvb ⊢
  obtain ⟨x0, x1, x2, x3⟩ := V
  obtain rfl : x2 = _ := he
  obtain rfl : x3 = _ := hf
  unfold encV at hvar hput
  dsimp only at hvar hput ⊢
  unfold ptrV at hvar hput ⊢
  replace hput := Lib.hid hput
  replace hV := Lib.hid hV
  clear h
  obtain ⟨E, hE⟩ : ∃ E, (true || e) = E := ⟨_, rfl⟩
  obtain ⟨G, hG⟩ : ∃ G, (false || f) = G := ⟨_, rfl⟩
  rw [hE, hG]
  obtain rfl : E = true := hE.symm
  obtain rfl : f = G := by rw [← hG]; rfl
  clear hE hG
  go_enter Tryz.func26, Tryz.ntmps26
  go_wp2_with fail
  refine hvar.mono ?_
  rintro r w1 ⟨rfl, hb1⟩
  clear hvar
  go_upto_region 2 with fail
  have hbB : Below w.heap.size w (w1.alloc (.cells #[.string x0, .bool x1, .bool true, .bool false] 59)) := hb1.alloc hb1.size _
  have bB : Blk (w1.alloc (.cells #[.string x0, .bool x1, .bool true, .bool false] 59)) w1.heap.size [.string x0, .bool x1, .bool true, .bool false] 59 := Blk.new w1 _ _
  have hsz := hb1.size
  generalize (w1.alloc (.cells #[.string x0, .bool x1, .bool true, .bool false] 59)) = wB at hbB bB ⊢
  generalize w1.heap.size = z at bB hsz ⊢
  have bC := bB.set 2 (.bool true)
  have hbC : Below w.heap.size w (wB.setCell ⟨z, 2, none⟩ (.bool true)) := hbB.setCell hsz _
  have bD := bC.set 3 (.bool f)
  have hbD : Hid (Below w.heap.size w ((wB.setCell ⟨z, 2, none⟩ (.bool true)).setCell ⟨z, 3, none⟩ (.bool f))) := Lib.hid (hbC.setCell hsz _)
  have y0 := bB.cell (i := 0) rfl
  have y1 := bB.cell (i := 1) rfl
  have y2 := bB.cell (i := 2) rfl
  have y3 := bB.cell (i := 3) rfl
  have f2 := bB.frozen 2
  have f3 := bB.frozen 3
  have yl := bB.lt
  replace bD := Lib.hid bD
  clear hb1 bB bC hbB hbC
  go_upto_region 4 with fail
  generalize ((wB.setCell ⟨z, 2, none⟩ (.bool true)).setCell ⟨z, 3, none⟩ (.bool f)) = wD at bD hbD ⊢
  clear y0 y1 y2 y3 f2 f3 yl
  have y0 := bD.out.cell (i := 0) rfl
  have y1 := bD.out.cell (i := 1) rfl
  have y2 := bD.out.cell (i := 2) rfl
  have y3 := bD.out.cell (i := 3) rfl
  have yl := bD.out.lt
  have hp := hput.out wD hbD.out ⟨x0, x1, true, f⟩ hvb
  go_wp2_with fail
  refine hp.mono ?_
  rintro r w5 ⟨rfl, q1, q2⟩
  have hfin := Lib.hid (And.intro q1 ((FrT.of_below hbD.out).trans q2))
  clear hp q1 q2 y0 y1 y2 y3 yl
  go_wp2
  go_ret
  exact ⟨rfl, hfin.out⟩
set_option maxRecDepth 100000 in
set_option maxHeartbeats 2000000 in
theorem Mark_ft (h : StAt w B sb a pot t n) (k : ByteArray) (hk : k.size ≤ 200) (e f : Bool) (he : (valV t k).e = false) (hf : (valV t k).f = true) :
    Calls Tryz.prog 26 #[ptrV sb, .string k, .bool e, .bool f] w fun r w' => r = .returned (.int .i64 (t.markV k e f).1) ∧ StAt w' B sb a (pot + 2) (t.markV k e f).2 n ∧ FrT B a w w' := by
  have hvar := Var_any h k
  have hvb := h.vb k
  have hput := fun (W : World) (hb : Below w.heap.size w W) (x : Vr) (hx : x.v.size ≤ 5000) => Put_any (h.below hb) k hk x hx
  unfold Tg.markV
  obtain ⟨V, hV⟩ : ∃ V, valV t k = V := ⟨_, rfl⟩
  rw [hV] at hvar he hf hvb ⊢
  obtain ⟨x0, x1, x2, x3⟩ := V
  obtain rfl : x2 = _ := he
  obtain rfl : x3 = _ := hf
  unfold encV at hvar hput
  dsimp only at hvar hput ⊢
  unfold ptrV at hvar hput ⊢
  replace hput := Lib.hid hput
  replace hV := Lib.hid hV
  clear h
  obtain ⟨E, hE⟩ : ∃ E, (false || e) = E := ⟨_, rfl⟩
  obtain ⟨G, hG⟩ : ∃ G, (true || f) = G := ⟨_, rfl⟩
  rw [hE, hG]
  obtain rfl : e = E := by rw [← hE]; rfl
  obtain rfl : G = true := hG.symm
  clear hE hG
  go_enter Tryz.func26, Tryz.ntmps26
  go_wp2_with fail
  refine hvar.mono ?_
  rintro r w1 ⟨rfl, hb1⟩
  clear hvar
  go_upto_region 2 with fail
  have hbB : Below w.heap.size w (w1.alloc (.cells #[.string x0, .bool x1, .bool false, .bool true] 59)) := hb1.alloc hb1.size _
  have bB : Blk (w1.alloc (.cells #[.string x0, .bool x1, .bool false, .bool true] 59)) w1.heap.size [.string x0, .bool x1, .bool false, .bool true] 59 := Blk.new w1 _ _
  have hsz := hb1.size
  generalize (w1.alloc (.cells #[.string x0, .bool x1, .bool false, .bool true] 59)) = wB at hbB bB ⊢
  generalize w1.heap.size = z at bB hsz ⊢
  have bC := bB.set 2 (.bool e)
  have hbC : Below w.heap.size w (wB.setCell ⟨z, 2, none⟩ (.bool e)) := hbB.setCell hsz _
  have bD := bC.set 3 (.bool true)
  have hbD : Hid (Below w.heap.size w ((wB.setCell ⟨z, 2, none⟩ (.bool e)).setCell ⟨z, 3, none⟩ (.bool true))) := Lib.hid (hbC.setCell hsz _)
  have y0 := bB.cell (i := 0) rfl
  have y1 := bB.cell (i := 1) rfl
  have y2 := bB.cell (i := 2) rfl
  have y3 := bB.cell (i := 3) rfl
  have f2 := bB.frozen 2
  have f3 := bB.frozen 3
  have yl := bB.lt
  replace bD := Lib.hid bD
  clear hb1 bB bC hbB hbC
  go_upto_region 4 with fail
  generalize ((wB.setCell ⟨z, 2, none⟩ (.bool e)).setCell ⟨z, 3, none⟩ (.bool true)) = wD at bD hbD ⊢
  clear y0 y1 y2 y3 f2 f3 yl
  have y0 := bD.out.cell (i := 0) rfl
  have y1 := bD.out.cell (i := 1) rfl
  have y2 := bD.out.cell (i := 2) rfl
  have y3 := bD.out.cell (i := 3) rfl
  have yl := bD.out.lt
  have hp := hput.out wD hbD.out ⟨x0, x1, e, true⟩ hvb
  go_wp2_with fail
  refine hp.mono ?_
  rintro r w5 ⟨rfl, q1, q2⟩
  have hfin := Lib.hid (And.intro q1 ((FrT.of_below hbD.out).trans q2))
  clear hp q1 q2 y0 y1 y2 y3 yl
  go_wp2
  go_ret
  exact ⟨rfl, hfin.out⟩
set_option maxRecDepth 100000 in
set_option maxHeartbeats 2000000 in
theorem Mark_ff (h : StAt w B sb a pot t n) (k : ByteArray) (hk : k.size ≤ 200) (e f : Bool) (he : (valV t k).e = false) (hf : (valV t k).f = false) :
    Calls Tryz.prog 26 #[ptrV sb, .string k, .bool e, .bool f] w fun r w' => r = .returned (.int .i64 (t.markV k e f).1) ∧ StAt w' B sb a (pot + 2) (t.markV k e f).2 n ∧ FrT B a w w' := by
  have hvar := Var_any h k
  have hvb := h.vb k
  have hput := fun (W : World) (hb : Below w.heap.size w W) (x : Vr) (hx : x.v.size ≤ 5000) => Put_any (h.below hb) k hk x hx
  unfold Tg.markV
  obtain ⟨V, hV⟩ : ∃ V, valV t k = V := ⟨_, rfl⟩
  rw [hV] at hvar he hf hvb ⊢
  obtain ⟨x0, x1, x2, x3⟩ := V
  obtain rfl : x2 = _ := he
  obtain rfl : x3 = _ := hf
  unfold encV at hvar hput
  dsimp only at hvar hput ⊢
  unfold ptrV at hvar hput ⊢
  replace hput := Lib.hid hput
  replace hV := Lib.hid hV
  clear h
  obtain ⟨E, hE⟩ : ∃ E, (false || e) = E := ⟨_, rfl⟩
  obtain ⟨G, hG⟩ : ∃ G, (false || f) = G := ⟨_, rfl⟩
  rw [hE, hG]
  obtain rfl : e = E := by rw [← hE]; rfl
  obtain rfl : f = G := by rw [← hG]; rfl
  clear hE hG
  go_enter Tryz.func26, Tryz.ntmps26
  go_wp2_with fail
  refine hvar.mono ?_
  rintro r w1 ⟨rfl, hb1⟩
  clear hvar
  go_upto_region 2 with fail
  have hbB : Below w.heap.size w (w1.alloc (.cells #[.string x0, .bool x1, .bool false, .bool false] 59)) := hb1.alloc hb1.size _
  have bB : Blk (w1.alloc (.cells #[.string x0, .bool x1, .bool false, .bool false] 59)) w1.heap.size [.string x0, .bool x1, .bool false, .bool false] 59 := Blk.new w1 _ _
  have hsz := hb1.size
  generalize (w1.alloc (.cells #[.string x0, .bool x1, .bool false, .bool false] 59)) = wB at hbB bB ⊢
  generalize w1.heap.size = z at bB hsz ⊢
  have bC := bB.set 2 (.bool e)
  have hbC : Below w.heap.size w (wB.setCell ⟨z, 2, none⟩ (.bool e)) := hbB.setCell hsz _
  have bD := bC.set 3 (.bool f)
  have hbD : Hid (Below w.heap.size w ((wB.setCell ⟨z, 2, none⟩ (.bool e)).setCell ⟨z, 3, none⟩ (.bool f))) := Lib.hid (hbC.setCell hsz _)
  have y0 := bB.cell (i := 0) rfl
  have y1 := bB.cell (i := 1) rfl
  have y2 := bB.cell (i := 2) rfl
  have y3 := bB.cell (i := 3) rfl
  have f2 := bB.frozen 2
  have f3 := bB.frozen 3
  have yl := bB.lt
  replace bD := Lib.hid bD
  clear hb1 bB bC hbB hbC
  go_upto_region 4 with fail
  generalize ((wB.setCell ⟨z, 2, none⟩ (.bool e)).setCell ⟨z, 3, none⟩ (.bool f)) = wD at bD hbD ⊢
  clear y0 y1 y2 y3 f2 f3 yl
  have y0 := bD.out.cell (i := 0) rfl
  have y1 := bD.out.cell (i := 1) rfl
  have y2 := bD.out.cell (i := 2) rfl
  have y3 := bD.out.cell (i := 3) rfl
  have yl := bD.out.lt
  have hp := hput.out wD hbD.out ⟨x0, x1, e, f⟩ hvb
  go_wp2_with fail
  refine hp.mono ?_
  rintro r w5 ⟨rfl, q1, q2⟩
  have hfin := Lib.hid (And.intro q1 ((FrT.of_below hbD.out).trans q2))
  clear hp q1 q2 y0 y1 y2 y3 yl
  go_wp2
  go_ret
  exact ⟨rfl, hfin.out⟩
theorem fieldF (x0 : ByteArray) (x1 x2 x3 : Bool) (W : World) : (Instr.field 59 (.agg #[.string x0, .bool x1, .bool x2, .bool x3]) 3).run Tryz.prog W = .ok (.bool x3) W := by kernel_rfl
theorem Mark_any (h : StAt w B sb a pot t n) (k : ByteArray) (hk : k.size ≤ 200) (e f : Bool) :
    Calls Tryz.prog 26 #[ptrV sb, .string k, .bool e, .bool f] w fun r w' => r = .returned (.int .i64 (t.markV k e f).1) ∧ StAt w' B sb a (pot + 2) (t.markV k e f).2 n ∧ FrT B a w w' := by
  cases he : (valV t k).e <;> cases hf : (valV t k).f
  · exact Mark_ff h k hk e f he hf
  · exact Mark_ft h k hk e f he hf
  · exact Mark_tf h k hk e f he hf
  · exact Mark_tt h k hk e f he hf
set_option maxRecDepth 100000 in
theorem Unset_any (h : StAt w B sb a pot t n) (k : ByteArray) (hk : k.size ≤ 200) :
    Calls Tryz.prog 27 #[ptrV sb, .string k] w fun e w' => e = .returned (.int .i64 (t.unsetV k).1) ∧ StAt w' B sb a (pot + 2) (t.unsetV k).2 n ∧ FrT B a w w' := by
  have hc := checkName_any h.blk k (by omega)
  unfold checkE at hc
  have hno := fun (W : World) (hb : Below w.heap.size w W) => (show StAt W B sb a (pot + 2) t n ∧ FrT B a w W from ⟨(h.below hb).mono (by omega), FrT.of_below hb⟩)
  replace hno := Lib.hid hno
  have hbw : Hid (Below w.heap.size w w) := Lib.hid (Below.refl _ w)
  by_cases hnm : nameB k = true
  · rw [if_pos hnm] at hc
    have hvar := Var_any h k
    have hdel := fun (W : World) (hb : Below w.heap.size w W) => th_delv (h.below hb).th k
    have hs := fun (W : World) (hb : Below w.heap.size w W) => h.below hb
    have hT : t.unsetV k = if (valV t k).f = true then (26, t) else t.delv k := by unfold Tg.unsetV; rw [if_pos hnm]
    rw [hT]
    obtain ⟨V, hV⟩ : ∃ V, valV t k = V := ⟨_, rfl⟩
    rw [hV] at hvar ⊢
    obtain ⟨x0, x1, x2, x3⟩ := V
    unfold encV at hvar
    dsimp only at hvar ⊢
    unfold ptrV at hc hvar hdel ⊢
    replace hdel := Lib.hid hdel
    replace hs := Lib.hid hs
    replace hV := Lib.hid hV
    clear h hnm hT
    have hfl := fieldF x0 x1 x2 x3
    cases x3
    · rw [if_neg (by decide)]
      go_enter Tryz.func27, Tryz.ntmps27
      go_wp2_with fail
      refine hc.mono ?_
      rintro e w' ⟨rfl, hw⟩
      obtain rfl := hw.symm
      clear hc hw
      go_wp2_with fail
      refine hvar.mono ?_
      rintro e w1 ⟨rfl, hb1⟩
      clear hvar
      have hS1 := hs.out w1 hb1
      have c0 := hS1.blk.cell (i := 0) rfl
      have cl := hS1.blk.lt
      have hd := hdel.out w1 hb1
      unfold ptrV at c0
      replace hb1 := Lib.hid hb1
      replace hS1 := Lib.hid hS1
      go_wp2_with fail
      refine hd.mono ?_
      rintro e w5 ⟨rfl, q1, q2⟩
      have hfin := Lib.hid (And.intro (hS1.out.next q1 q2) ((FrT.of_below hb1.out).trans q2))
      clear hd q1 q2 c0 cl
      go_wp2
      go_ret
      exact ⟨rfl, hfin.out⟩
    · rw [if_pos rfl]
      go_enter Tryz.func27, Tryz.ntmps27
      go_wp2_with fail
      refine hc.mono ?_
      rintro e w' ⟨rfl, hw⟩
      obtain rfl := hw.symm
      clear hc hw
      go_wp2_with fail
      refine hvar.mono ?_
      rintro e w1 ⟨rfl, hb1⟩
      have hfin := Lib.hid (hno.out w1 hb1)
      clear hvar hb1
      go_wp2
      go_ret
      exact ⟨rfl, hfin.out⟩
  · rw [if_neg hnm] at hc
    have hT : t.unsetV k = (16, t) := by unfold Tg.unsetV; rw [if_neg hnm]
    rw [hT]
    unfold ptrV at hc ⊢
    clear h hnm hT
    go_enter Tryz.func27, Tryz.ntmps27
    go_wp2_with fail
    refine hc.mono ?_
    rintro e w' ⟨rfl, hw⟩
    obtain rfl := hw.symm
    clear hc hw
    have hfin := Lib.hid (hno.out _ hbw.out)
    go_wp2
    go_ret
    exact ⟨rfl, hfin.out⟩
end
end Go.Proofs.YtigmdfdcflkggaaGreat
