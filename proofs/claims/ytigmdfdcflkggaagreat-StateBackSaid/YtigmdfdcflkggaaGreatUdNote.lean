/-
  Note: where there is no log, where there is no room, of nothing, without a mark, and else. Conditions: none.
-/
import Derived.Test.YtigmdfdcflkggaaGreatUdState
import Derived.OwnWalk
import Derived.WalkSpells
namespace Go.Proofs.YtigmdfdcflkggaaGreat
open Go Go.RowKit Go.ChangeMaps

section
variable {P : Program} {w : World}
theorem wpList_append_of {ops : Array Oper} {rest : List Oper} {o : Oper} {a : Act} {Q : Exit → Act → World → Prop} (hgd : o.guard = none) (s x : Operand) (t tx : TypeId)
    (ho : o.op = .call { callee := .builtin .append, args := #[s, x], argTypes := #[t, tx] }) (v y r : Value) (w1 : World) (hs : a.eval s = v) (hx : a.eval x = y)
    (hrun : (Builtin.append_ #[t, tx] o.type #[v, y]).run P w = .ok r w1) (h : wpList P ops Q rest (a.put o.dst r) w1) : wpList P ops Q (o :: rest) a w :=
  wpList_plain hgd fun _ hK => by
    unfold Oper.wp execOp
    simp only [ho, resolve, invoke, builtin, Sem.run_bind, Sem.run_pure, Result.andThen_ok, List.map_toArray, List.map_cons, List.map_nil, hs, hx, hrun]
    exact hK _ _ h
theorem wp_append_of {o : Oper} {a : Act} {K : Act → World → Prop} {Q : Exit → Act → World → Prop} (s x : Operand) (t tx : TypeId)
    (ho : o.op = .call { callee := .builtin .append, args := #[s, x], argTypes := #[t, tx] }) (v y r : Value) (w1 : World) (hs : a.eval s = v) (hx : a.eval x = y)
    (hrun : (Builtin.append_ #[t, tx] o.type #[v, y]).run P w = .ok r w1) (h : K (a.put o.dst r) w1) : o.wp P a w K Q := by
  unfold Oper.wp execOp
  simp only [ho, resolve, invoke, builtin, Sem.run_bind, Sem.run_pure, Result.andThen_ok, List.map_toArray, List.map_cons, List.map_nil, hs, hx, hrun]
  exact h
end
theorem info_parts {P : Program} {t : TypeId} {z : Value} {s b : Nat} (h : (P.info? t).map (fun i => (i.zero, i.size, i.bytes)) = some (some z, s, b)) : ∃ i, P.info? t = some i ∧ i.zero = some z ∧ i.size = s ∧ i.bytes = b := by
  cases hi : P.info? t with
  | none => rw [hi] at h; cases h
  | some i =>
    rw [hi] at h
    simp only [Option.map_some, Option.some.injEq, Prod.mk.injEq] at h
    exact ⟨i, rfl, h.1, h.2.1, h.2.2⟩
theorem infoFn : (Tryz.prog.info? 1).map (fun i => (i.zero, i.size, i.bytes)) = some (some .nilFunc, 1, 8) := by kernel_rfl
theorem infoMk : (Tryz.prog.info? 112).map (fun i => (i.zero, i.size, i.bytes)) = some (some (.pointer none), 1, 8) := by kernel_rfl
theorem fn_eql_nil (k : Nat) (cap : Array Value) (w : World) : (binOp BinOp.eql 1 (.func (.func k) #[] cap) .nilFunc).run Tryz.prog w = .ok (.bool false) w := by kernel_rfl
theorem nil_eql_nil (w : World) : (binOp BinOp.eql 1 .nilFunc .nilFunc).run Tryz.prog w = .ok (.bool true) w := by kernel_rfl

theorem set3L (most nest : Nat) (mv nv nv' : Value) (c : Nat) : (logC most nest mv nv c).set 3 nv' = logC most nest mv nv' c := rfl
theorem set4L (most nest : Nat) (mv nv : Value) (c c' : Nat) : (logC most nest mv nv c).set 4 (.int .i64 (c' : Int)) = logC most nest mv nv c' := rfl
theorem set2L (most nest : Nat) (mv mv' nv : Value) (c : Nat) : (logC most nest mv nv c).set 2 mv' = logC most nest mv' nv c := rfl

section
variable {w w' : World} {B lb most nest c : Nat} {mv nv : Value} {ms : List Mk} {fs : List Value}
set_option maxRecDepth 100000 in
theorem Note_nil (back : Value) (w : World) :
    Calls Tryz.prog 126 #[.pointer none, back] w fun e w' => e = .returned (.int .i64 2) ∧ w' = w := by
  go_enter Tryz.func126, Tryz.ntmps126
  go_wp2_with fail
  refine (refusal_nil _).mono ?_
  rintro e w' ⟨rfl, rfl⟩
  go_wp2
  go_ret
  exact ⟨rfl, rfl⟩
set_option maxRecDepth 100000 in
theorem Note_full (back : Value) (h : LogAt w B lb most nest ms fs c) (hE : refE most ms c = 43) :
    Calls Tryz.prog 126 #[ptrV lb, back] w fun e w' => e = .returned (.int .i64 43) ∧ ∃ n, w' = w.drewN n := by
  have hr := refusal_any h
  rw [hE] at hr
  unfold ptrV at hr ⊢
  clear h hE
  go_enter Tryz.func126, Tryz.ntmps126
  go_wp2_with fail
  refine hr.mono ?_
  rintro e w' ⟨rfl, n, rfl⟩
  go_wp2
  go_ret
  exact ⟨rfl, _, rfl⟩
set_option maxRecDepth 100000 in
theorem Note_arg (h : LogAt w B lb most nest ms fs c) (hE : refE most ms c = 0) :
    Calls Tryz.prog 126 #[ptrV lb, .nilFunc] w fun e w' => e = .returned (.int .i64 1) ∧ ∃ n, w' = w.drewN n := by
  have hr := refusal_any h
  rw [hE] at hr
  unfold ptrV at hr ⊢
  have hnn := nil_eql_nil
  clear h hE
  go_enter Tryz.func126, Tryz.ntmps126
  go_wp2_with fail
  refine hr.mono ?_
  rintro e w' ⟨rfl, n, rfl⟩
  go_wp2
  go_ret
  exact ⟨rfl, _, rfl⟩
set_option maxRecDepth 100000 in
theorem Note_none (k : Nat) (cap : Array Value) (h : LogAt w B lb most nest [] fs c) :
    Calls Tryz.prog 126 #[ptrV lb, .func (.func k) #[] cap] w fun e w' => e = .returned (.int .i64 0) ∧ ∃ n, w' = w.drewN n := by
  have hr := refusal_any h
  rw [show refE most [] c = 0 from if_neg (by simp)] at hr
  obtain ⟨mv, nv, h⟩ := h
  obtain ⟨A, cc, rfl, hc, hcm⟩ := h.mrow.form
  simp only [List.length_nil] at hc
  have c2 := h.blk.cell (i := 2) rfl
  simp only [List.length_nil] at c2
  have hlt := h.blk.lt
  unfold ptrV at hr ⊢
  have hnn := fn_eql_nil k cap
  clear h
  go_enter Tryz.func126, Tryz.ntmps126
  go_wp2_with fail
  refine hr.mono ?_
  rintro e w' ⟨rfl, n, rfl⟩
  go_wp2
  go_ret
  exact ⟨rfl, _, rfl⟩
set_option maxRecDepth 100000 in
set_option maxHeartbeats 1000000 in
theorem Note_add (k : Nat) (cap : Array Value) (h : LogAt w B lb most nest ms fs c) (hms : ms ≠ []) (hcm : c < most) (hBw : B ≤ w.heap.size) :
    Calls Tryz.prog 126 #[ptrV lb, .func (.func k) #[] cap] w fun e w' => e = .returned (.int .i64 0) ∧ LogAt w' B lb most nest ms (fs ++ [.func (.func k) #[] cap]) (c + 1) ∧ Fr B LogT (fun _ => False) w w' := by
  have hr := refusal_any h
  rw [show refE most ms c = 0 from if_neg (by omega)] at hr
  have hK0 : 0 < ms.length := by cases ms with | nil => exact absurd rfl hms | cons => simp
  replace h : ∀ n, LogAt (w.drewN n) B lb most nest ms fs c := fun n => h.keep (KeepL.drewN w n)
  have hnn := fn_eql_nil k cap
  obtain ⟨i0, hi, hz0, hz1, hz2⟩ := info_parts infoFn
  unfold ptrV at hr ⊢
  replace h := Lib.hid h
  clear hms
  go_enter Tryz.func126, Tryz.ntmps126
  go_wp2_with fail
  refine hr.mono ?_
  rintro e w1 ⟨rfl, n, hw1⟩
  obtain ⟨mv, nv, h1⟩ := h.out n
  have hf1 : Fr B LogT (fun _ => False) w (w.drewN n) := Fr.drewN _ _ _ _ _
  have hBw1 : B ≤ (w.drewN n).heap.size := hBw
  rw [← hw1] at h1 hf1 hBw1
  clear hw1 hr h hBw
  obtain ⟨A, cc, rfl, hc, hcm1⟩ := h1.mrow.form
  obtain ⟨A2, cc2, rfl, hc2, hcm2⟩ := h1.nrow.form
  have c2 := h1.blk.cell (i := 2) rfl
  have c3 := h1.blk.cell (i := 3) rfl
  have c4 := h1.blk.cell (i := 4) rfl
  have f3 := h1.blk.frozen 3
  have hlt := h1.blk.lt
  have hml := h1.most2
  have hcp := h1.cp
  have hfc := h1.fc
  have hL1 := h1
  obtain ⟨KM, hKM⟩ : ∃ K, ms.length = K := ⟨_, rfl⟩
  obtain ⟨KF, hKF⟩ : ∃ K, fs.length = K := ⟨_, rfl⟩
  rw [hKM] at c2 hc hK0
  rw [hKF] at c3 hc2 hfc
  have hd : decide (0 < KM) = true := by simpa using hK0
  replace hKM := Lib.hid hKM
  -- the row of notes
  have hb2 : Blk (w1.alloc (.cells #[.func (.func k) #[] cap] 1)) w1.heap.size [.func (.func k) #[] cap] 1 := Blk.new w1 _ _
  have hL2 := hL1.keep (KeepL.alloc w1 (.cells #[.func (.func k) #[] cap] 1))
  obtain ⟨nv', w3, hrun, hrow, hst, how⟩ := run_append_row (P := Tryz.prog) (w1.alloc (.cells #[.func (.func k) #[] cap] 1)) B 99 99 99 1 i0 _ Tryz.underlying99 hi hz0 hz1 rfl (.slice A2 fs.length cc2) fs.length fs hL2.nrow (.slice (some ⟨w1.heap.size, 0, none⟩) 1 1) 1 [.func (.func k) #[] cap]
    (Src.ofSlice _ Tryz.underlying99 _ 1 1 _ rfl (fun j u hu => by rw [add_plain0, Nat.zero_add]; exact hb2.cell hu) (by simp [Value.oneCell'])) (by rw [hz2, hKF]; omega) (by rw [hKF]; omega) (by simp; omega)
  rw [hKF] at hrun hrow hst how
  obtain ⟨A3, cc3, rfl, hc3, hcm3⟩ := hrow.form
  have hne : ∀ g, (Value.slice A2 KF cc2).ownBlock = some g → g ≠ lb := fun g hg => Row.ne hL2.nrow hL2.blk (by decide) (by rw [hKF]; exact hg)
  have hb3 : Blk w3 lb _ _ := hL2.blk.stp hst fun e => hne lb e rfl
  have hst3 := (Stp.alloc (fun b => (Value.slice A2 KF cc2).ownBlock = some b) w1 (.cells #[.func (.func k) #[] cap] 1)).trans hst (fun _ _ h => h)
  have hne3 : ∀ g, (Value.slice A3 (KF + 1) cc3).ownBlock = some g → g ≠ lb := fun g hg => Row.ne hrow hb3 (by decide) hg
  have hb4 := hb3.set 3 (.slice A3 (KF + 1) cc3)
  rw [set3L] at hb4
  have hb5 := hb4.set 4 (.int .i64 ((c + 1 : Nat) : Int))
  rw [set4L] at hb5
  have hS : Stp (fun b => b = lb ∨ (Value.slice A2 KF cc2).ownBlock = some b) w1 ((w3.setCell ⟨lb, 3, none⟩ (.slice A3 (KF + 1) cc3)).setCell ⟨lb, 4, none⟩ (.int .i64 ((c + 1 : Nat) : Int))) :=
    ((hst3.mono (S' := fun b => b = lb ∨ (Value.slice A2 KF cc2).ownBlock = some b) (fun _ _ h => .inr h)).trans (Stp.set (S := fun b => b = lb) rfl 3 _) (fun _ _ h => .inl h)).trans (Stp.set (S := fun b => b = lb) rfl 4 _) (fun _ _ h => .inl h)
  have hfr := hf1.trans (Fr.of_stp (B := B) (T := LogT) (M := fun _ => False) hS (by
    intro b _ hb
    rcases hb with rfl | hb
    · exact ⟨hL1.hB, .inr ⟨_, _, _, hL1.blk, .inl rfl⟩⟩
    · obtain ⟨h1, _, cur, h2⟩ := hL1.nrow.lt (by rw [hKF]; exact hb)
      exact ⟨h1, .inr ⟨_, _, _, h2, .inr (.inr (.inl rfl))⟩⟩))
  have hrow5 := ((hrow.keep (w' := (w3.setCell ⟨lb, 3, none⟩ (.slice A3 (KF + 1) cc3)).setCell ⟨lb, 4, none⟩ (.int .i64 ((c + 1 : Nat) : Int))) fun g hg => (heap_setCell_other _ _ g _ (hne3 g hg)).trans (heap_setCell_other w3 _ g _ (hne3 g hg))))
  have hmr5 : Row _ B 112 _ _ _ := hL1.mrow.stp hS (fun g hg hb => by
    rcases hb with hb | hb
    · exact Row.ne hL1.mrow hL1.blk (by decide) hg hb
    · exact Row.ne2 hL1.mrow hL1.nrow (by decide) hg (by rw [hKF]; exact hb) rfl)
  have hmk5 : ∀ m ∈ ms, B ≤ m.blk ∧ Blk _ m.blk (mkC m false) 114 := fun m hm => ⟨(hL1.mks m hm).1, (hL1.mks m hm).2.stp hS (fun hb => by
    rcases hb with hb | hb
    · exact (hL1.mks m hm).2.ne hL1.blk (by decide) hb
    · exact Row.ne hL1.nrow (hL1.mks m hm).2 (by decide) (by rw [hKF]; exact hb) rfl)⟩
  have hlog : LogAt ((w3.setCell ⟨lb, 3, none⟩ (.slice A3 (KF + 1) cc3)).setCell ⟨lb, 4, none⟩ (.int .i64 ((c + 1 : Nat) : Int))) B lb most nest ms (fs ++ [.func (.func k) #[] cap]) (c + 1) :=
    ⟨_, _, hL1.hB, hb5, hmr5, (by rw [List.length_append, hKF]; exact hrow5), hmk5, hL1.ap, hL1.nest1, hL1.nest2, hL1.most2, (by omega), hL1.mp, (by rw [List.length_append, hKF]; simp; omega), (fun v hv => by
      rcases List.mem_append.1 hv with hv | hv
      · exact hL1.fn v hv
      · rw [List.mem_singleton.1 hv]; exact ⟨k, cap, rfl⟩), hL1.mc⟩
  have d3 := hb3.cell (i := 3) rfl
  have g3 := hb3.frozen 3
  have d4 := hb4.cell (i := 4) rfl
  have g4 := hb4.frozen 4
  have hl3 := hb3.lt
  have hl4 := hb4.lt
  replace hlog := Lib.hid hlog
  replace hfr := Lib.hid hfr
  replace hrun := Lib.hid hrun
  clear hmk5 hmr5 hrow5 hS hb5 hb4 hne3 hst3 hb3 hne how hst hrow hL2 hb2 hL1 h1 hf1 hi hz0 hz1 hz2 hKF
  go_wp2_with (at_builtin; refine wpList_append_of rfl _ _ 99 99 rfl _ _ _ w3 rfl rfl hrun.out ?_)
  go_ret
  exact ⟨rfl, hlog.out, hfr.out⟩
end
end Go.Proofs.YtigmdfdcflkggaaGreat
