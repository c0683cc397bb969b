/-
  SetAlias of a state, and what is too great for SetTrap. Conditions: names of at most 200 bytes, texts of at most a million.
-/
import Derived.Test.YtigmdfdcflkggaaGreatStSetF
namespace Go.Proofs.YtigmdfdcflkggaaGreat
open Go Go.RowKit Go.ChangeMaps

section
variable {w w' : World} {B sb : Nat} {a : Ad} {pot : Nat} {t : Tg} {n : Int}
def others : ByteArray := ⟨#[95, 33, 37, 44, 64]⟩
def aliasB (k : ByteArray) : Bool := decide (0 < k.size) && allB k others
def Tg.setA (t : Tg) (k v : ByteArray) : Int × Tg := if aliasB k = true then (if 4096 < v.size then (21, t) else t.puta k v) else (16, t)
def Tg.setT (t : Tg) (k v : ByteArray) : Int × Tg := if trapB k = true then (if 4096 < v.size then (21, t) else t.putt k v) else (16, t)
theorem one_txs (w : World) (v : ByteArray) : Txs (w.alloc (.cells #[.string v] 9)) (some ⟨w.heap.size, 0, none⟩) 1 1 [v] :=
  have bC : Blk (w.alloc (.cells #[.string v] 9)) w.heap.size [.string v] 9 := Blk.new w _ _
  ⟨rfl, Nat.le_refl _, by decide, fun _ => ⟨w.heap.size, 0, rfl, bC.lt, fun j x hx => by
    cases j with
    | zero => cases hx; exact bC.cell (i := 0) rfl
    | succ j => cases hx⟩⟩
set_option maxRecDepth 100000 in
set_option maxHeartbeats 2000000 in
theorem SetAlias_ok (h : StAt w B sb a pot t n) (k v : ByteArray) (hk : k.size ≤ 200) (hv1 : v.size ≤ 1000000) (h0 : 0 < k.size) (hal : allB k others = true) (hv : ¬ 4096 < v.size) :
    Calls Tryz.prog 44 #[ptrV sb, .string k, .string v] w fun e w' => e = .returned (.int .i64 (t.puta k v).1) ∧ StAt w' B sb a (pot + 2) (t.puta k v).2 n ∧ FrT B a w w' := by
  have hi := sisNil_no h.blk
  have ha := allOf_any k others (by omega) w
  rw [hal] at ha
  unfold others at ha
  have hie := bytesIs h0
  have hput := fun (W : World) (hb : Below w.heap.size w W) => th_puta (h.below hb).th k v hk
  have hst := fun (W : World) (hb : Below w.heap.size w W) => h.below hb
  unfold encW at hput
  have hbC : Below w.heap.size w (w.alloc (.cells #[.string v] 9)) := Below.of_alloc w _
  have hg := tooGreat_any (one_txs w v) (fun s hs => by rw [List.mem_singleton] at hs; rw [hs]; exact hv1) (by decide)
  have hgr : greatL [v] = false := by unfold greatL; simp [hv]
  rw [hgr] at hg
  unfold ptrV at *
  replace hput := Lib.hid hput
  replace hst := Lib.hid hst
  replace hbC := Lib.hid hbC
  clear hgr h
  go_enter Tryz.func44, Tryz.ntmps44
  go_wp2_with fail
  refine hi.mono ?_
  rintro e w' ⟨rfl, hw⟩
  obtain rfl := hw.symm
  clear hi hw
  go_wp2_with fail
  refine ha.mono ?_
  rintro e w' ⟨rfl, hw⟩
  obtain rfl := hw.symm
  clear ha hw
  go_wp2_with fail
  refine hg.mono ?_
  rintro e w' ⟨rfl, hw⟩
  obtain rfl := hw.symm
  generalize (w.alloc (.cells #[.string v] 9)) = wC at hbC ⊢
  have hSC := hst.out wC hbC.out
  have c0 := hSC.blk.cell (i := 2) rfl
  have cl := hSC.blk.lt
  unfold ptrV at c0
  have hp := hput.out wC hbC.out
  replace hSC := Lib.hid hSC
  clear hg hw
  go_wp2_with fail
  refine hp.mono ?_
  rintro e w5 ⟨rfl, q1, q2⟩
  have hfin := Lib.hid (And.intro (hSC.out.next q1 q2) ((FrT.of_below hbC.out).trans q2))
  clear hp q1 q2 c0 cl
  go_wp2
  go_ret
  exact ⟨rfl, hfin.out⟩
set_option maxRecDepth 100000 in
set_option maxHeartbeats 2000000 in
theorem SetAlias_big (h : StAt w B sb a pot t n) (k v : ByteArray) (hk : k.size ≤ 200) (hv1 : v.size ≤ 1000000) (h0 : 0 < k.size) (hal : allB k others = true) (hv : 4096 < v.size) :
    Calls Tryz.prog 44 #[ptrV sb, .string k, .string v] w fun e w' => e = .returned (.int .i64 21) ∧ Below w.heap.size w w' := by
  have hi := sisNil_no h.blk
  have ha := allOf_any k others (by omega) w
  rw [hal] at ha
  unfold others at ha
  have hie := bytesIs h0
  have hbC : Below w.heap.size w (w.alloc (.cells #[.string v] 9)) := Below.of_alloc w _
  have hg := tooGreat_any (one_txs w v) (fun s hs => by rw [List.mem_singleton] at hs; rw [hs]; exact hv1) (by decide)
  have hgr : greatL [v] = true := by unfold greatL; simp [hv]
  rw [hgr] at hg
  unfold ptrV at *
  replace hbC := Lib.hid hbC
  clear hgr h
  go_enter Tryz.func44, Tryz.ntmps44
  go_wp2_with fail
  refine hi.mono ?_
  rintro e w' ⟨rfl, hw⟩
  obtain rfl := hw.symm
  clear hi hw
  go_wp2_with fail
  refine ha.mono ?_
  rintro e w' ⟨rfl, hw⟩
  obtain rfl := hw.symm
  clear ha hw
  go_wp2_with fail
  refine hg.mono ?_
  rintro e w' ⟨rfl, hw⟩
  obtain rfl := hw.symm
  clear hg hw
  go_wp2
  go_ret
  exact ⟨rfl, hbC.out⟩
set_option maxRecDepth 100000 in
theorem SetAlias_bad (h : StAt w B sb a pot t n) (k v : ByteArray) (hk : k.size ≤ 200) (hno : ¬ aliasB k = true) :
    Calls Tryz.prog 44 #[ptrV sb, .string k, .string v] w fun e w' => e = .returned (.int .i64 16) ∧ w' = w := by
  have hi := sisNil_no h.blk
  unfold ptrV at hi ⊢
  clear h
  by_cases h0 : 0 < k.size
  · have ha := allOf_any k others (by omega) w
    have hal : allB k others = false := by
      cases e : allB k others with
      | false => rfl
      | true => exact absurd (by unfold aliasB; rw [e, decide_eq_true h0]; rfl) hno
    rw [hal] at ha
    unfold others at ha
    have hie := bytesIs h0
    clear hal hno
    go_enter Tryz.func44, Tryz.ntmps44
    go_wp2_with fail
    refine hi.mono ?_
    rintro e w' ⟨rfl, hw⟩
    obtain rfl := hw.symm
    clear hi hw
    go_wp2_with fail
    refine ha.mono ?_
    rintro e w' ⟨rfl, hw⟩
    obtain rfl := hw.symm
    clear ha hw
    go_wp2
    go_ret
    exact ⟨rfl, rfl⟩
  · obtain rfl := noBytes h0
    clear h0 hno
    go_enter Tryz.func44, Tryz.ntmps44
    go_wp2_with fail
    refine hi.mono ?_
    rintro e w' ⟨rfl, hw⟩
    obtain rfl := hw.symm
    clear hi hw
    go_wp2
    go_ret
    exact ⟨rfl, rfl⟩
theorem SetAlias_any (h : StAt w B sb a pot t n) (k v : ByteArray) (hk : k.size ≤ 200) (hv1 : v.size ≤ 1000000) :
    Calls Tryz.prog 44 #[ptrV sb, .string k, .string v] w fun e w' => e = .returned (.int .i64 (t.setA k v).1) ∧ StAt w' B sb a (pot + 2) (t.setA k v).2 n ∧ FrT B a w w' := by
  by_cases hb : aliasB k = true
  · have hb2 := hb
    unfold aliasB at hb2
    rw [Bool.and_eq_true, decide_eq_true_eq] at hb2
    by_cases hv : 4096 < v.size
    · rw [show t.setA k v = (21, t) by unfold Tg.setA; rw [if_pos hb, if_pos hv]]
      refine (SetAlias_big h k v hk hv1 hb2.1 hb2.2 hv).mono ?_
      rintro e w' ⟨rfl, hb⟩
      exact ⟨rfl, (h.below hb).mono (Nat.le_add_right pot 2), FrT.of_below hb⟩
    · rw [show t.setA k v = t.puta k v by unfold Tg.setA; rw [if_pos hb, if_neg hv]]
      exact SetAlias_ok h k v hk hv1 hb2.1 hb2.2 hv
  · rw [show t.setA k v = (16, t) by unfold Tg.setA; rw [if_neg hb]]
    refine (SetAlias_bad h k v hk hb).mono ?_
    rintro e w' ⟨rfl, rfl⟩
    exact ⟨rfl, h.mono (Nat.le_add_right pot 2), FrT.of_below (Below.refl _ _)⟩
set_option maxRecDepth 100000 in
theorem SetTrap_big (h : StAt w B sb a pot t n) (k v : ByteArray) (hv1 : v.size ≤ 1000000) (hnm : trapB k = true) (hv : 4096 < v.size) :
    Calls Tryz.prog 35 #[ptrV sb, .string k, .string v] w fun e w' => e = .returned (.int .i64 21) ∧ Below w.heap.size w w' := by
  have hc := checkTrap_any h.blk k
  unfold trapE at hc
  rw [if_pos hnm] at hc
  have hbC : Below w.heap.size w (w.alloc (.cells #[.string v] 9)) := Below.of_alloc w _
  have hg := tooGreat_any (one_txs w v) (fun s hs => by rw [List.mem_singleton] at hs; rw [hs]; exact hv1) (by decide)
  have hgr : greatL [v] = true := by unfold greatL; simp [hv]
  rw [hgr] at hg
  unfold ptrV at *
  replace hbC := Lib.hid hbC
  clear hgr h
  go_enter Tryz.func35, Tryz.ntmps35
  go_wp2_with fail
  refine hc.mono ?_
  rintro e w' ⟨rfl, hw⟩
  obtain rfl := hw.symm
  clear hc hw
  go_wp2_with fail
  refine hg.mono ?_
  rintro e w' ⟨rfl, hw⟩
  obtain rfl := hw.symm
  clear hg hw
  go_wp2
  go_ret
  exact ⟨rfl, hbC.out⟩
theorem SetTrap_any (h : StAt w B sb a pot t n) (k v : ByteArray) (hk : k.size ≤ 200) (hv1 : v.size ≤ 1000000) :
    Calls Tryz.prog 35 #[ptrV sb, .string k, .string v] w fun e w' => e = .returned (.int .i64 (t.setT k v).1) ∧ StAt w' B sb a (pot + 2) (t.setT k v).2 n ∧ FrT B a w w' := by
  by_cases hb : trapB k = true
  · by_cases hv : 4096 < v.size
    · rw [show t.setT k v = (21, t) by unfold Tg.setT; rw [if_pos hb, if_pos hv]]
      refine (SetTrap_big h k v hv1 hb hv).mono ?_
      rintro e w' ⟨rfl, hb⟩
      exact ⟨rfl, (h.below hb).mono (Nat.le_add_right pot 2), FrT.of_below hb⟩
    · rw [show t.setT k v = t.putt k v by unfold Tg.setT; rw [if_pos hb, if_neg hv]]
      exact SetTrap_ok h k v hk hv1 hb hv
  · rw [show t.setT k v = (16, t) by unfold Tg.setT; rw [if_neg hb]]
    refine (SetTrap_bad h k v hb).mono ?_
    rintro e w' ⟨rfl, rfl⟩
    exact ⟨rfl, h.mono (Nat.le_add_right pot 2), FrT.of_below (Below.refl _ _)⟩
end
end Go.Proofs.YtigmdfdcflkggaaGreat
