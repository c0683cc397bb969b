/-
  UndoBack answers true, and leaves memory as it was. Conditions: numbers of 64 bits.
-/
import Derived.Test.YtcobfimafpfbpaaUdLawFull
namespace Go.Proofs.Ytcobfimafpfbpaa
open Go Go.Proofs Go.RowKit Go.ChangeMaps

/-- How many marks a log has, read off its block. -/
def lenM (lb : Nat) (w : World) : Nat := match w.cell? ⟨lb, 2, none⟩ with | some (.slice _ n _) => n | _ => 0
theorem ThAt.lenM {w : World} {B : Nat} {Q : Nat → Prop} {a : Ad} {pot : Nat} {t : Tg} (h : ThAt w B Q a pot t) : lenM a.l w = t.was.length := by
  obtain ⟨ms, fs, es, h1, h2, h3, h4, h5, h6, h7, h8, h9⟩ := h
  rw [← th_len h7]
  obtain ⟨mv, nv, h⟩ := h1
  obtain ⟨A, cc, rfl, hc, hcm⟩ := h.mrow.form
  have c2 : w.cell? ⟨a.l, 2, none⟩ = some (.slice A ms.length cc) := h.blk.cell (i := 2) rfl
  unfold Proofs.Ytcobfimafpfbpaa.lenM
  rw [c2]
theorem put_was (t : Tg) (k : ByteArray) (v : Int) : (t.put k v).2.was = t.was := by unfold Tg.put; split <;> rfl
theorem del_was (t : Tg) (k : ByteArray) : (t.del k).2.was = t.was := by unfold Tg.del; repeat' split
                                                                         all_goals rfl
theorem cellS_was (t : Tg) (k : ByteArray) : (t.cellS k).2.was = t.was := by unfold Tg.cellS; split <;> rfl
theorem undo_was (t : Tg) : t.undo.2.was = t.was.dropLast := by
  unfold Tg.undo
  cases h : t.was.getLast? with
  | none =>
    have := List.getLast?_eq_none_iff.1 h
    rw [this]; rfl
  | some p => rfl
theorem step_was (t : Tg) (o : Opd) : (t.step o).2.2.was = t.was ∨ (∃ x, (t.step o).2.2.was = t.was ++ [x]) ∨ kind o.1 = 1 ∧ (t.step o).2.2.was = t.was.dropLast := by
  unfold Tg.step
  split
  · unfold Tg.mark
    split
    · exact .inl rfl
    · exact .inr (.inl ⟨_, rfl⟩)
  · split
    · exact .inr (.inr ⟨by assumption, undo_was t⟩)
    · split
      · exact .inl (del_was ..)
      · split
        · exact .inl (cellS_was ..)
        · exact .inl (put_was ..)
theorem step_was_le (t : Tg) (o : Opd) : (t.step o).2.2.was.length ≤ t.was.length + 1 := by
  rcases step_was t o with h | ⟨x, h⟩ | ⟨_, h⟩
  · rw [h]; omega
  · rw [h, List.length_append]; simp
  · rw [h, List.length_dropLast]; omega
/-- The mark stays. -/
theorem step_hold {t : Tg} {o : Opd} {W0 : List (Nat × St)} {p : Nat × St} {ws : List (Nat × St)} (h : t.was = W0 ++ p :: ws) (hk : kind o.1 = 1 → ws ≠ []) : ∃ ws', (t.step o).2.2.was = W0 ++ p :: ws' := by
  rcases step_was t o with e | ⟨x, e⟩ | ⟨e1, e⟩
  · exact ⟨ws, e.trans h⟩
  · exact ⟨ws ++ [x], by rw [e, h, List.append_assoc, List.cons_append]⟩
  · refine ⟨ws.dropLast, ?_⟩
    rw [e, h, List.dropLast_append_of_ne_nil (by simp), List.dropLast_cons_of_ne_nil (hk e1)]
theorem undo_hold {t : Tg} {W0 : List (Nat × St)} {p : Nat × St} {ws : List (Nat × St)} (h : t.was = W0 ++ p :: ws) (hk : ws ≠ []) : t.undo.1 = 0 ∧ t.undo.2.was = W0 ++ p :: ws.dropLast ∧ t.undo.2.was.length < t.was.length ∧ t.undo.2.most = t.most ∧ t.undo.2.nest = t.nest := by
  have e : t.undo.2.was = W0 ++ p :: ws.dropLast := by rw [undo_was, h, List.dropLast_append_of_ne_nil (by simp), List.dropLast_cons_of_ne_nil hk]
  refine ⟨?_, e, ?_, ?_⟩
  · unfold Tg.undo
    cases hl : t.was.getLast? with
    | none => rw [List.getLast?_eq_none_iff.1 hl] at h; simp at h
    | some q => rfl
  · rw [undo_was, List.length_dropLast, h]; simp
  · unfold Tg.undo
    split <;> exact ⟨rfl, rfl⟩
theorem undo_last {t : Tg} {W0 : List (Nat × St)} {p : Nat × St} (h : t.was = W0 ++ [p]) : t.undo = (0, t.undone W0 p) := by
  unfold Tg.undo; rw [h]; simp

set_option maxHeartbeats 4000000 in
set_option maxRecDepth 100000 in
theorem lawBack_far (l m : List Opd) (v u : Value) (w : World) (h : Ops w v l) (k : Ops w u m) (hn : fewB l = false ∨ fewB m = false) :
    Calls Try.prog 4 #[v, u] w fun e w' => e = .returned (.bool true) ∧ Below w.heap.size w w' := by
  have haw := awake_any w
  have hfw := few_any l v w h
  have hfm := few_any m u w k
  obtain ⟨A, c, rfl, hc, hcm⟩ := h.form
  obtain ⟨A2, c2, rfl, hc2, hcm2⟩ := k.form
  clear h k
  cases hf : fewB l with
  | false =>
    rw [hf] at hfw
    go_enter Try.func4, Try.ntmps4
    go_wp2_with fail
    refine hfw.mono ?_
    rintro e w' ⟨rfl, hw⟩
    obtain rfl := hw.symm
    clear hfw hw
    go_wp2_with fail
    refine haw.mono ?_
    rintro e w' ⟨rfl, hb⟩
    replace hb := Lib.hid hb
    go_wp2
    go_ret
    exact ⟨rfl, hb.out⟩
  | true =>
    rw [hf] at hfw
    replace hn := hn.resolve_left (by rw [hf]; simp)
    rw [hn] at hfm
    go_enter Try.func4, Try.ntmps4
    go_wp2_with fail
    refine hfw.mono ?_
    rintro e w' ⟨rfl, hw⟩
    obtain rfl := hw.symm
    clear hfw hw
    go_wp2_with fail
    refine hfm.mono ?_
    rintro e w' ⟨rfl, hw⟩
    obtain rfl := hw.symm
    clear hfm hw
    go_wp2_with fail
    refine haw.mono ?_
    rintro e w' ⟨rfl, hb⟩
    replace hb := Lib.hid hb
    go_wp2
    go_ret
    exact ⟨rfl, hb.out⟩

set_option maxHeartbeats 8000000 in
set_option maxRecDepth 100000 in
theorem lawBack_ok (l m : List Opd) (v u : Value) (w : World) (h : Ops w v l) (k : Ops w u m) (hf : fewB l = true) (hfm : fewB m = true) :
    Calls Try.prog 4 #[v, u] w fun e w' => e = .returned (.bool true) ∧ Below w.heap.size w w' := by
  have haw := fun W => awake_any W
  have hfw := few_any l v w h
  have hfx := few_any m u w k
  rw [hf] at hfw
  rw [hfm] at hfx
  obtain ⟨hl60, hkeys⟩ := few_true hf
  obtain ⟨hm60, hkeym⟩ := few_true hfm
  have hin : ∀ k (hk : k < l.length), In64 l[k].1 := fun k hk => (h.2 _ (List.getElem_mem hk)).1
  have hinm : ∀ j (hk : j < m.length), In64 m[j].1 := fun j hk => (k.2 _ (List.getElem_mem hk)).1
  obtain ⟨A, c, rfl, hc, hcm⟩ := h.form
  obtain ⟨A2, cM, rfl, hcM, hcmM⟩ := k.form
  have hat := fun w' i hi (hb : Below w.heap.size w w') => h.at_ hb i hi
  have hatm := fun w' i hi (hb : Below w.heap.size w w') => k.at_ hb i hi
  have hnew := begun_ok 200 100 (fun _ => True) w (by decide) (by decide) (by decide)
  clear h k hf hfm
  obtain ⟨KL, hKL⟩ : ∃ K, l.length = K := ⟨_, rfl⟩
  obtain ⟨KB, hKB⟩ : ∃ K, m.length = K := ⟨_, rfl⟩
  rw [hKL] at hc hl60 hfw ⊢
  rw [hKB] at hcM hm60 hfx ⊢
  unfold maxLen at hcm hcmM
  unfold thV ptrV at hnew
  replace haw := Lib.hid haw
  replace hat := Lib.hid hat
  replace hatm := Lib.hid hatm
  replace hnew := Lib.hid hnew
  replace hKL := Lib.hid hKL
  replace hKB := Lib.hid hKB
  replace hkeys := Lib.hid hkeys
  replace hkeym := Lib.hid hkeym
  replace hin := Lib.hid hin
  replace hinm := Lib.hid hinm
  go_enter Try.func4, Try.ntmps4
  go_wp2_with fail
  refine hfw.mono ?_
  rintro e w' ⟨rfl, hw⟩
  obtain rfl := hw.symm
  clear hfw hw
  go_wp2_with fail
  refine hfx.mono ?_
  rintro e w' ⟨rfl, hw⟩
  obtain rfl := hw.symm
  clear hfx hw
  go_wp2_with fail
  refine hnew.out.mono ?_
  rintro e w1 ⟨a, rfl, hT1, hb1⟩
  have hL0 := ThL.start hT1 hb1
  unfold ptrV at hL0
  clear hnew hT1 hb1
  go_upto_region 4 with fail
  obtain ⟨z, hz⟩ : ∃ z, w1.heap.size = z := ⟨_, rfl⟩
  rw [hz] at hL0 ⊢
  generalize w1.alloc (.cells #[.pointer (some ⟨a.l, 0, none⟩), .pointer (some ⟨a.m, 0, none⟩), .pointer (some ⟨a.c, 0, none⟩)] 29) = v0 at hL0 ⊢
  have c0 := hL0.c0
  have hzl := hL0.zb.lt
  clear hz
  replace hL0 := Lib.hid hL0
  go_wp2
  clear c0 hzl
  go_loopw [7] (fun nv wr => ∃ (i pot : Nat) (Q : Nat → Prop) (t : Tg), i ≤ KL ∧ nv = .int .i64 (i : Int) ∧ pot ≤ 2 * i ∧ t.most = 200 ∧ t.nest = 100 ∧ t.was.length ≤ i ∧ Hid (ThL w wr Q a z pot t)) (fun nv _ => KL - (intOf nv).toNat)
  case atStart => exact ⟨0, 0, _, _, Nat.zero_le _, rfl, Nat.zero_le _, rfl, rfl, Nat.zero_le _, hL0⟩
  case round =>
    clear hL0
    obtain ⟨i, pot, Q, t, hi, rfl, hpot, hmost, hnest, hwl, hL⟩ := hrel
    have c0 := hL.out.c0
    have c1 := hL.out.c1
    have c2 := hL.out.c2
    have hzl := hL.out.zb.lt
    by_cases hlt : i < KL
    · have hlt' : i < l.length := by rw [hKL.out]; exact hlt
      have hio := hin.out i hlt'
      have hko := hkeys.out i hlt'
      have hati := fun w' hb => hat.out w' i hlt' hb
      generalize l[i] = o at hio hko hati
      obtain ⟨b, off, rfl, hbl, e0, e1, e2⟩ := hati wr hL.out.below
      have hdo := fun n => does_any (hL.out.th.below (drewN_below wr n)) o hio hko
      have hkp : ∀ w', Below w.heap.size w w' → ThL w w' (moreQ Q wr) a z (pot + 2) (t.step o).2.2 → OpAt w' z a b off i o := fun w' hb hT => by
        obtain ⟨b', off', he, _, h0, h1, h2⟩ := hati w' hb
        cases he
        exact ⟨hT.c0, hT.c1, hT.c2, h0, h1, h2⟩
      obtain ⟨q0, q1, q2⟩ := o
      unfold opV thV ptrV at hdo
      unfold OpAt at hkp
      simp only at e0 e1 e2 hdo hkp
      have hstep : ∀ n w', ThAt w' w.heap.size (moreQ Q (wr.drewN n)) a (pot + 2) (t.step (q0, q1, q2)).2.2 → FrT w.heap.size a.o (wr.drewN n) w' → ThL w w' (moreQ Q wr) a z (pot + 2) (t.step (q0, q1, q2)).2.2 := fun n w' h1 h2 => (hL.out.same (drewN_below wr n)).step h1 h2
      replace hdo := Lib.hid hdo
      replace hkp := Lib.hid hkp
      replace hstep := Lib.hid hstep
      clear hati
      go_upto_region 9 with fail
      go_region_held3 (fun w' => w'.cell? ⟨z, 0, none⟩ = some (.pointer (some ⟨a.l, 0, none⟩)) ∧ w'.cell? ⟨z, 1, none⟩ = some (.pointer (some ⟨a.m, 0, none⟩)) ∧ w'.cell? ⟨z, 2, none⟩ = some (.pointer (some ⟨a.c, 0, none⟩)) ∧ w'.cell? ⟨b, off + i * 3, none⟩ = some (.int .i64 q0) ∧ w'.cell? ⟨b, off + i * 3 + 1, none⟩ = some (.string q1) ∧ w'.cell? ⟨b, off + i * 3 + 2, none⟩ = some (.int .i64 q2))
        (first | go_keep | exact hk)
        ((go_at_call 12; refine (hdo.out _).mono ?_; rintro e w5 ⟨rfl, hT5, hF5⟩; have hL5 := hstep.out _ w5 hT5 hF5; have hk := hkp.out w5 hL5.below hL5))
      have hpar := step_par t (q0, q1, q2)
      have hwl5 := step_was_le t (q0, q1, q2)
      rw [hmost, hnest] at hpar
      generalize (t.step (q0, q1, q2)).2.2 = t' at hL5 hpar hwl5
      obtain ⟨hpm, hpn⟩ := hpar
      replace hL5 := Lib.hid hL5
      clear hstep hdo hkp hk hT5 hF5 hL c0 c1 c2 e0 e1 e2
      go_wp2
      go_roundw
      case rel => exact ⟨i + 1, pot + 2, _, t', by omega, by go_num, by omega, hpm, hpn, by omega, hL5⟩
      case measure => simp [intOf]; omega
    · obtain rfl : i = KL := by omega
      obtain ⟨L, hcan, hLl⟩ := th_canon hL.out.th
      have hno := now_any hL.out.th hcan (by omega) (by omega)
      have hmk := th_marks hL.out.th
      have hln := th_lenN hL.out.th
      have hg0 := hL.out.th.good
      obtain ⟨KM, hKM⟩ : ∃ K, t.was.length = K := ⟨_, rfl⟩
      obtain ⟨KN, hKN⟩ : ∃ K, t.ns.length = K := ⟨_, rfl⟩
      rw [hKM] at hmk hwl
      rw [hKN] at hln
      have hK00 : KM = 0 → KN = 0 := fun e => by rw [← hKN, hg0.none (List.eq_nil_of_length_eq_zero (by omega))]; rfl
      unfold thV at hno
      unfold ptrV at hno hmk hln
      replace hno := Lib.hid hno
      replace hmk := Lib.hid hmk
      replace hln := Lib.hid hln
      replace hKM := Lib.hid hKM
      replace hKN := Lib.hid hKN
      replace hg0 := Lib.hid hg0
      replace hK00 := Lib.hid hK00
      go_wp2_with fail
      refine hmk.out.mono ?_
      rintro e w' ⟨rfl, hw⟩
      obtain rfl := hw.symm
      clear hmk hw
      go_wp2_with fail
      refine hln.out.mono ?_
      rintro e w' ⟨rfl, hw⟩
      obtain rfl := hw.symm
      clear hln hw
      go_wp2_with fail
      refine hno.out.mono ?_
      rintro e w2 ⟨vS, rfl, hP2, hb2⟩
      obtain ⟨AS, cS, rfl, hcS, hcSm⟩ := own_form hP2
      have hL2 := hL.out.same hb2
      -- the box of was
      have hP3 : PairsAt (w2.alloc (.cells #[.slice AS L.length cS, .string t.cur.s] 44)) wr.heap.size (.slice AS L.length cS) L := World.ownsRow.alloc hP2 _
      have hZ3 : Blk (w2.alloc (.cells #[.slice AS L.length cS, .string t.cur.s] 44)) w2.heap.size [.slice AS L.length cS, .string t.cur.s] 44 := Blk.new w2 _ _
      have hL3 := hL2.same ((Below.refl _ w2).alloc (Nat.le_refl _) (.cells #[.slice AS L.length cS, .string t.cur.s] 44))
      obtain ⟨zs, hzs⟩ : ∃ zs, w2.heap.size = zs := ⟨_, rfl⟩
      obtain ⟨w3, hw3⟩ : ∃ w3, w2.alloc (.cells #[.slice AS L.length cS, .string t.cur.s] 44) = w3 := ⟨_, rfl⟩
      rw [hzs] at hZ3
      rw [hw3] at hP3 hZ3 hL3
      replace hw3 := Lib.hid hw3
      replace hzs := Lib.hid hzs
      unfold maxLen at hcSm
      clear hno hP2 hb2 hL2 hL c0 c1 c2 hzl
      go_upto_region 13 with fail
      rw [hzs.out, hw3.out]
      have c0 := hL3.c0
      have c1 := hL3.c1
      have c2 := hL3.c2
      have hzl := hL3.zb.lt
      have hmk := th_mark hL3.th
      have hnf : ¬ t.was.length = t.nest := by have := hKM.out; omega
      rw [show t.mark = ((t.was.length : Int) + 1, 0, t.marked) from if_neg hnf, hKM.out] at hmk
      have hwas : t.marked.was = t.was ++ [(t.ns.length, t.cur)] := rfl
      rw [hKN.out] at hwas
      have hmks : t.marked.most = 200 ∧ t.marked.nest = 100 := ⟨hmost, hnest⟩
      unfold ptrV at hmk
      replace hmk := Lib.hid hmk
      replace hwas := Lib.hid hwas
      go_wp2_with fail
      refine hmk.out.mono ?_
      rintro e w4 ⟨rfl, hT4, hF4⟩
      have hP4 : PairsAt w4 wr.heap.size (.slice AS L.length cS) L := own_fr hP3 hF4 (not_thT (by decide)) (fun g hg => hL3.th.ne_o (own_block hP3 hg).2.choose_spec)
      have hZ4 : Blk w4 zs [.slice AS L.length cS, .string t.cur.s] 44 := Blk.fr hZ3 hF4 (not_thT (by decide)) (hL3.th.ne_o hZ3)
      have hL4 := hL3.step hT4 hF4
      replace hL4 : ThL w w4 Q a z pot t.marked := hL4
      generalize t.marked = tm at hL4 hwas hmks
      generalize t.cur = st at hZ4 hcan hwas
      obtain ⟨sF, sS⟩ := st
      simp only at hZ4 hcan
      obtain ⟨base, hbase⟩ : ∃ b, wr.heap.size = b := ⟨_, rfl⟩
      rw [hbase] at hP4
      clear hbase
      replace hP4 := Lib.hid hP4
      replace hZ4 := Lib.hid hZ4
      replace hL4 := Lib.hid hL4
      replace hcan := Lib.hid hcan
      clear hmk hP3 hZ3 hL3 hT4 hF4 c0 c1 c2 hzl hnf
      go_wp2
      go_loopw [13] (fun nv wq => ∃ (j pot' : Nat) (Q' : Nat → Prop) (t' : Tg) (ws : List (Nat × St)), j ≤ KB ∧ nv = .int .i64 (j : Int) ∧ pot' ≤ 120 + 2 * j ∧ Hid (t'.was = t.was ++ (KN, ⟨sF, sS⟩) :: ws) ∧ Hid (PairsAt wq base (.slice AS L.length cS) L) ∧ Hid (Blk wq zs [.slice AS L.length cS, .string sS] 44) ∧ Hid (ThL w wq Q' a z pot' t')) (fun nv _ => KB - (intOf nv).toNat)
      case atStart => exact ⟨0, pot, _, _, [], Nat.zero_le _, rfl, by omega, hwas, hP4, hZ4, hL4⟩
      case round =>
        clear hL4 hZ4 hP4
        obtain ⟨j, pot', Q', t', ws, hj, rfl, hpot', hws, hP, hZ, hL⟩ := hrel
        have c0 := hL.out.c0
        have c1 := hL.out.c1
        have c2 := hL.out.c2
        have hzl := hL.out.zb.lt
        by_cases hlt2 : j < KB
        · have hlt' : j < m.length := by rw [hKB.out]; exact hlt2
          have hio := hinm.out j hlt'
          have hko := hkeym.out j hlt'
          have hati := fun w' hb => hatm.out w' j hlt' hb
          generalize m[j] = o at hio hko hati
          obtain ⟨b, off, rfl, hbl, e0, e1, e2⟩ := hati wr hL.out.below
          have hdo := fun n => does_any (hL.out.th.below (drewN_below wr n)) o hio hko
          have hkp : ∀ w', Below w.heap.size w w' → ThL w w' (moreQ Q' wr) a z (pot' + 2) (t'.step o).2.2 → OpAt w' z a b off j o := fun w' hb hT => by
            obtain ⟨b', off', he, _, h0, h1, h2⟩ := hati w' hb
            cases he
            exact ⟨hT.c0, hT.c1, hT.c2, h0, h1, h2⟩
          have hmk := th_marks hL.out.th
          have hmw : t'.was.length = KM + 1 + ws.length := by rw [hws.out, List.length_append, hKM.out, List.length_cons]; omega
          have hhold := fun hk => step_hold (o := o) hws.out hk
          obtain ⟨KW, hKW⟩ : ∃ K, t'.was.length = K := ⟨_, rfl⟩
          rw [hKW] at hmk hmw
          obtain ⟨q0, q1, q2⟩ := o
          unfold opV thV ptrV at hdo
          unfold OpAt at hkp
          unfold ptrV at hmk
          simp only at e0 e1 e2 hdo hkp hhold hio
          have hstep : ∀ n w', ThAt w' w.heap.size (moreQ Q' (wr.drewN n)) a (pot' + 2) (t'.step (q0, q1, q2)).2.2 → FrT w.heap.size a.o (wr.drewN n) w' → ThL w w' (moreQ Q' wr) a z (pot' + 2) (t'.step (q0, q1, q2)).2.2 := fun n w' h1 h2 => (hL.out.same (drewN_below wr n)).step h1 h2
          obtain ⟨hx1, hx2⟩ := kind_lt q0
          unfold In64 at hio
          unfold kind at hhold
          replace hdo := Lib.hid hdo
          replace hkp := Lib.hid hkp
          replace hstep := Lib.hid hstep
          replace hhold := Lib.hid hhold
          replace hmk := Lib.hid hmk
          replace hKW := Lib.hid hKW
          clear hati
          by_cases hk1 : (q0.tmod 6 + 6).tmod 6 = 1
          · by_cases hw1 : KW = KM + 1
            · have hb1 : ((KW : Int) == (KM : Int) + 1) = true := by rw [beq_iff_eq]; omega
              subst hw1
              clear hmw
              go_wp2_with fail
              refine hmk.out.mono ?_
              rintro e w' ⟨rfl, hw⟩
              obtain rfl := hw.symm
              clear hdo hkp hstep hhold hmk hw c0 c1 c2 e0 e1 e2
              go_wp2
              go_roundw
              case rel => exact ⟨j + 1, pot', Q', t', ws, by omega, by go_num, by omega, hws, hP, hZ, hL⟩
              case measure => simp [intOf]; omega
            · have hb1 : ((KW : Int) == (KM : Int) + 1) = false := by rw [beq_eq_false_iff_ne]; omega
              have hne : ws ≠ [] := by
                rintro rfl
                simp only [List.length_nil] at hmw
                omega
              obtain ⟨ws', hws'⟩ := hhold.out (fun _ => hne)
              replace hws' := Lib.hid hws'
              go_wp2_with fail
              refine hmk.out.mono ?_
              rintro e w' ⟨rfl, hw⟩
              obtain rfl := hw.symm
              clear hmk hw
              go_upto_region 20 with fail
              go_region_held3 (fun w' => w'.cell? ⟨z, 0, none⟩ = some (.pointer (some ⟨a.l, 0, none⟩)) ∧ w'.cell? ⟨z, 1, none⟩ = some (.pointer (some ⟨a.m, 0, none⟩)) ∧ w'.cell? ⟨z, 2, none⟩ = some (.pointer (some ⟨a.c, 0, none⟩)) ∧ w'.cell? ⟨b, off + j * 3, none⟩ = some (.int .i64 q0) ∧ w'.cell? ⟨b, off + j * 3 + 1, none⟩ = some (.string q1) ∧ w'.cell? ⟨b, off + j * 3 + 2, none⟩ = some (.int .i64 q2))
                (first | go_keep | exact hk)
                ((go_at_call 12; refine (hdo.out _).mono ?_; rintro e w5 ⟨rfl, hT5, hF5⟩; have hL5 := hstep.out _ w5 hT5 hF5; have hk := hkp.out w5 hL5.below hL5))
              replace hF5 : FrT w.heap.size a.o wr w5 := Fr.trans (Fr.drewN _ _ _ wr _) hF5
              have hP5 := own_fr hP.out hF5 (not_thT (by decide)) (fun g hg => hL.out.th.ne_o (own_block hP.out hg).2.choose_spec)
              have hZ5 := Blk.fr hZ.out hF5 (not_thT (by decide)) (hL.out.th.ne_o hZ.out)
              generalize (t'.step (q0, q1, q2)).2.2 = t2 at hL5 hws'
              replace hL5 := Lib.hid hL5
              replace hP5 := Lib.hid hP5
              replace hZ5 := Lib.hid hZ5
              clear hstep hdo hkp hk hT5 hF5 hL hhold c0 c1 c2 e0 e1 e2
              go_wp2
              go_roundw
              case rel => exact ⟨j + 1, pot' + 2, _, t2, ws', by omega, by go_num, by omega, hws', hP5, hZ5, hL5⟩
              case measure => simp [intOf]; omega
          · obtain ⟨K, hK⟩ : ∃ K, (q0.tmod 6 + 6).tmod 6 = K := ⟨_, rfl⟩
            have hk1' : (K == 1) = false := by rw [beq_eq_false_iff_ne]; omega
            obtain ⟨ws', hws'⟩ := hhold.out (fun e => absurd e hk1)
            replace hws' := Lib.hid hws'
            clear hk1
            go_upto_region 20 with fail
            go_region_held3 (fun w' => w'.cell? ⟨z, 0, none⟩ = some (.pointer (some ⟨a.l, 0, none⟩)) ∧ w'.cell? ⟨z, 1, none⟩ = some (.pointer (some ⟨a.m, 0, none⟩)) ∧ w'.cell? ⟨z, 2, none⟩ = some (.pointer (some ⟨a.c, 0, none⟩)) ∧ w'.cell? ⟨b, off + j * 3, none⟩ = some (.int .i64 q0) ∧ w'.cell? ⟨b, off + j * 3 + 1, none⟩ = some (.string q1) ∧ w'.cell? ⟨b, off + j * 3 + 2, none⟩ = some (.int .i64 q2))
              (first | go_keep | exact hk)
              ((go_at_call 12; refine (hdo.out _).mono ?_; rintro e w5 ⟨rfl, hT5, hF5⟩; have hL5 := hstep.out _ w5 hT5 hF5; have hk := hkp.out w5 hL5.below hL5))
            replace hF5 : FrT w.heap.size a.o wr w5 := Fr.trans (Fr.drewN _ _ _ wr _) hF5
            have hP5 := own_fr hP.out hF5 (not_thT (by decide)) (fun g hg => hL.out.th.ne_o (own_block hP.out hg).2.choose_spec)
            have hZ5 := Blk.fr hZ.out hF5 (not_thT (by decide)) (hL.out.th.ne_o hZ.out)
            generalize (t'.step (q0, q1, q2)).2.2 = t2 at hL5 hws'
            replace hL5 := Lib.hid hL5
            replace hP5 := Lib.hid hP5
            replace hZ5 := Lib.hid hZ5
            clear hstep hdo hkp hk hT5 hF5 hL hhold c0 c1 c2 e0 e1 e2
            go_wp2
            go_roundw
            case rel => exact ⟨j + 1, pot' + 2, _, t2, ws', by omega, by go_num, by omega, hws', hP5, hZ5, hL5⟩
            case measure => simp [intOf]; omega
        · obtain rfl : j = KB := by omega
          replace hL := hL
          clear c0 c1 c2 hzl
          have d0 := hL.out.c0
          have dl := hL.out.zb.lt
          have hgr := hL.out.th.good
          replace hgr := Lib.hid hgr
          go_wp2
          clear d0 dl
          go_loopw [106] (fun _ wx => ∃ (pot2 : Nat) (Q2 : Nat → Prop) (t2 : Tg) (ws2 : List (Nat × St)), pot2 ≤ 240 ∧ Hid (t2.was = t.was ++ (KN, ⟨sF, sS⟩) :: ws2) ∧ Hid (PairsAt wx base (.slice AS L.length cS) L) ∧ Hid (Blk wx zs [.slice AS L.length cS, .string sS] 44) ∧ Hid (ThL w wx Q2 a z pot2 t2)) (fun _ wx => lenM a.l wx)
          case atStart => exact ⟨pot', Q', t', ws, by omega, hws, hP, hZ, hL⟩
          case round =>
            clear hws hP hZ hL
            obtain ⟨pot2, Q2, t2, ws2, hpot2, hws2, hP2, hZ2, hL2⟩ := hrel
            have c0 := hL2.out.c0
            have c1 := hL2.out.c1
            have c2 := hL2.out.c2
            have hzl := hL2.out.zb.lt
            have hmk := th_marks hL2.out.th
            have hmw : t2.was.length = KM + 1 + ws2.length := by rw [hws2.out, List.length_append, hKM.out, List.length_cons]; omega
            have hun := th_undo hL2.out.th
            by_cases hne : ws2 = []
            · subst hne
              rw [hmw, List.length_nil] at hmk
              have hw2 : t2.was = t.was ++ [(KN, ⟨sF, sS⟩)] := hws2.out
              rw [undo_last hw2] at hun
              have hgt : ¬ (KM : Int) + 1 < ((KM + 1 + 0 : Nat) : Int) := by omega
              have hpos := hL2.out.th.good.pos (KN, ⟨sF, sS⟩) (by rw [hw2]; simp)
              simp only at hpos
              unfold ptrV at hmk hun
              replace hmk := Lib.hid hmk
              replace hun := Lib.hid hun
              replace hpos := Lib.hid hpos
              replace hw2 := Lib.hid hw2
              go_wp2_with fail
              refine hmk.out.mono ?_
              rintro e w' ⟨rfl, hw⟩
              obtain rfl := hw.symm
              clear hmk hw
              go_wp2_with fail
              refine hun.out.mono ?_
              rintro e w5 ⟨rfl, hT5, hF5⟩
              have hP5 := own_fr hP2.out hF5 (not_thT (by decide)) (fun g hg => hL2.out.th.ne_o (own_block hP2.out hg).2.choose_spec)
              have hZ5 := Blk.fr hZ2.out hF5 (not_thT (by decide)) (hL2.out.th.ne_o hZ2.out)
              have hL5 := hL2.out.step hT5 hF5
              replace hL5 : ThL w w5 Q2 a z pot2 (t2.undone t.was (KN, ⟨sF, sS⟩)) := hL5
              have hsm := same_any (sc := sS) hL5.th (L := L) hcan.out (by omega) (by omega) hP5
              rw [show decide (L = L ∧ (t2.undone t.was (KN, ⟨sF, sS⟩)).cur.s = sS) = true by simp [Tg.undone]] at hsm
              have hmkW := fun W (hb : Below w5.heap.size w5 W) => th_marks (hL5.th.below hb)
              have hlnW := fun W (hb : Below w5.heap.size w5 W) => th_lenN (hL5.th.below hb)
              have ek : (t2.undone t.was (KN, ⟨sF, sS⟩)).was.length = KM := hKM.out
              have en : (t2.undone t.was (KN, ⟨sF, sS⟩)).ns.length = KN := by
                show (t2.ns.take KN).length = KN
                rw [List.length_take]
                have := hpos.out
                omega
              rw [ek] at hmkW
              rw [en] at hlnW
              have d0 := hL5.c0
              have d1 := hL5.c1
              have d2 := hL5.c2
              have dl := hL5.zb.lt
              have z0 : w5.cell? ⟨zs, 0, none⟩ = some (.slice AS L.length cS) := hZ5.cell (i := 0) rfl
              have z1 : w5.cell? ⟨zs, 1, none⟩ = some (.string sS) := hZ5.cell (i := 1) rfl
              have hzsl := hZ5.lt
              unfold ptrV at hmkW hlnW
              unfold thV ptrV at hsm
              replace hsm := Lib.hid hsm
              replace hmkW := Lib.hid hmkW
              replace hlnW := Lib.hid hlnW
              replace hL5 := Lib.hid hL5
              clear hun hT5 hF5 hP2 hZ2 hL2 hP5 hZ5 ek en c0 c1 c2 hzl
              go_wp2_with fail
              refine hsm.out.mono ?_
              rintro e w6 ⟨rfl, hb6⟩
              have hL6 := hL5.out.same hb6
              have hmk6 := hmkW.out w6 hb6
              have hln6 := hlnW.out w6 hb6
              have hbw := hL6.below
              have haw2 := haw.out w6
              clear d0 d1 d2 dl z0 z1 hzsl hsm hmkW hlnW hb6
              have c0 := hL6.c0
              have hzl6 := hL6.zb.lt
              replace hL6 := Lib.hid hL6
              replace hmk6 := Lib.hid hmk6
              replace hln6 := Lib.hid hln6
              replace haw2 := Lib.hid haw2
              replace hbw := Lib.hid hbw
              by_cases hk0 : KM = 0
              · have hn0 := hK00.out hk0
                subst hk0 hn0
                go_wp2_with (first | (go_at_call 16; refine hln6.out.mono ?_; rintro e w' ⟨rfl, hw⟩; obtain rfl := hw.symm; clear hw) | (go_at_call 15; refine hmk6.out.mono ?_; rintro e w' ⟨rfl, hw⟩; obtain rfl := hw.symm; clear hw) | (go_at_call 9; refine haw2.out.mono ?_; rintro e w' ⟨rfl, hb⟩; have hfin := hbw.out.trans (hb.mono hbw.out.size); replace hfin := Lib.hid hfin; clear hb))
                go_ret
                exact ⟨rfl, hfin.out⟩
              · have hk1 : (0 : Int) < (KM : Int) := by omega
                go_wp2_with (first | (go_at_call 16; refine hln6.out.mono ?_; rintro e w' ⟨rfl, hw⟩; obtain rfl := hw.symm; clear hw) | (go_at_call 15; refine hmk6.out.mono ?_; rintro e w' ⟨rfl, hw⟩; obtain rfl := hw.symm; clear hw) | (go_at_call 9; refine haw2.out.mono ?_; rintro e w' ⟨rfl, hb⟩; have hfin := hbw.out.trans (hb.mono hbw.out.size); replace hfin := Lib.hid hfin; clear hb))
                go_ret
                exact ⟨rfl, hfin.out⟩
            · obtain ⟨u1, u2, u3, u4, u5⟩ := undo_hold hws2.out hne
              rw [u1] at hun
              have hlM := hL2.out.th.lenM
              obtain ⟨KW, hKW⟩ : ∃ K, t2.was.length = K := ⟨_, rfl⟩
              rw [hKW] at hmk hmw
              have hpl : 0 < ws2.length := List.length_pos_iff.2 hne
              have hgt : (KM : Int) + 1 < (KW : Int) := by omega
              unfold ptrV at hmk hun
              replace hmk := Lib.hid hmk
              replace hun := Lib.hid hun
              replace hlM := Lib.hid hlM
              replace hKW := Lib.hid hKW
              replace u2 := Lib.hid u2
              replace u3 := Lib.hid u3
              clear u1 u4 u5
              go_wp2_with fail
              refine hmk.out.mono ?_
              rintro e w' ⟨rfl, hw⟩
              obtain rfl := hw.symm
              clear hmk hw
              go_wp2_with fail
              refine hun.out.mono ?_
              rintro e w5 ⟨rfl, hT5, hF5⟩
              have hP5 := own_fr hP2.out hF5 (not_thT (by decide)) (fun g hg => hL2.out.th.ne_o (own_block hP2.out hg).2.choose_spec)
              have hZ5 := Blk.fr hZ2.out hF5 (not_thT (by decide)) (hL2.out.th.ne_o hZ2.out)
              have hL5 := hL2.out.step hT5 hF5
              have hlM5 : lenM a.l w5 < lenM a.l wr := by rw [hL5.th.lenM, hlM.out]; exact u3.out
              replace hL5 := Lib.hid hL5
              replace hP5 := Lib.hid hP5
              replace hZ5 := Lib.hid hZ5
              clear hun hT5 hF5 hP2 hZ2 hL2 c0 c1 c2 hzl
              go_wp2
              go_roundw
              case rel => exact ⟨pot2, Q2, _, _, hpot2, u2, hP5, hZ5, hL5⟩
              case measure => exact hlM5
/-- All ways. -/
theorem lawBack_any (l m : List Opd) (v u : Value) (w : World) (h : Ops w v l) (k : Ops w u m) :
    Calls Try.prog 4 #[v, u] w fun e w' => e = .returned (.bool true) ∧ Below w.heap.size w w' := by
  cases hf : fewB l with
  | false => exact lawBack_far l m v u w h k (.inl hf)
  | true =>
    cases hm : fewB m with
    | false => exact lawBack_far l m v u w h k (.inr hm)
    | true => exact lawBack_ok l m v u w h k hf hm
end Go.Proofs.Ytcobfimafpfbpaa
