/-
  UndoFull answers true, and leaves memory as it was. Conditions: numbers of 64 bits.
-/
import Derived.Test.YtcobfimafpfbpaaUdDoes
namespace Go.Proofs.Ytcobfimafpfbpaa
open Go Go.Proofs Go.RowKit Go.ChangeMaps

theorem put_cases (t : Tg) (k : ByteArray) (v : Int) : (t.put k v).1 = 0 ∨ (t.put k v).1 = 43 ∧ (t.put k v).2 = t ∧ t.full := by
  unfold Tg.put
  by_cases h : t.full
  · rw [if_pos h]; exact .inr ⟨rfl, rfl, h⟩
  · rw [if_neg h]; exact .inl rfl
theorem del_cases (t : Tg) (k : ByteArray) : (t.del k).1 = 0 ∨ (t.del k).1 = 43 ∧ (t.del k).2 = t ∧ t.full := by
  unfold Tg.del
  by_cases h0 : t.cur.f k = none
  · rw [if_pos h0]; exact .inl rfl
  · rw [if_neg h0]
    by_cases h : t.full
    · rw [if_pos h]; exact .inr ⟨rfl, rfl, h⟩
    · rw [if_neg h]; exact .inl rfl
theorem cellS_cases (t : Tg) (k : ByteArray) : (t.cellS k).1 = 0 ∨ (t.cellS k).1 = 43 ∧ (t.cellS k).2 = t ∧ t.full := by
  unfold Tg.cellS
  by_cases h : t.full
  · rw [if_pos h]; exact .inr ⟨rfl, rfl, h⟩
  · rw [if_neg h]; exact .inl rfl
theorem step_cases (t : Tg) (o : Opd) : (t.step o).2.1 = 0 ∨ ((t.step o).2.1 = 43 ∧ (t.step o).2.2 = t ∧ t.full) ∨ ((t.step o).2.1 = 42 ∧ (t.step o).2.2 = t ∧ t.was.length = t.nest) ∨ ((t.step o).2.1 = 1 ∧ (t.step o).2.2 = t ∧ t.was = []) := by
  unfold Tg.step
  split
  · unfold Tg.mark
    by_cases h : t.was.length = t.nest
    · rw [if_pos h]; exact .inr (.inr (.inl ⟨rfl, rfl, h⟩))
    · rw [if_neg h]; exact .inl rfl
  · split
    · unfold Tg.undo
      cases h : t.was.getLast? with
      | none => exact .inr (.inr (.inr ⟨rfl, rfl, List.getLast?_eq_none_iff.1 h⟩))
      | some p => exact .inl rfl
    · split
      · rcases del_cases t o.2.1 with h | h
        · exact .inl h
        · exact .inr (.inl h)
      · split
        · rcases cellS_cases t o.2.1 with h | h
          · exact .inl h
          · exact .inr (.inl h)
        · rcases put_cases t o.2.1 o.2.2 with h | h
          · exact .inl h
          · exact .inr (.inl h)
theorem step_par (t : Tg) (o : Opd) : (t.step o).2.2.most = t.most ∧ (t.step o).2.2.nest = t.nest := by
  unfold Tg.step Tg.mark Tg.undo Tg.del Tg.cellS Tg.put
  repeat' split
  all_goals exact ⟨rfl, rfl⟩

theorem ThAt.ne_o {w : World} {B : Nat} {Q : Nat → Prop} {a : Ad} {pot : Nat} {t : Tg} (h : ThAt w B Q a pot t) {g : Nat} {cur : List Value} {ty : TypeId} (k : Blk w g cur ty) : g ≠ a.o := fun e => by
  obtain ⟨_, _, _, _, h2, _⟩ := h
  subst e
  exact h2.map.no_cells k
/-- A call's cells, and the box of things. -/
def OpAt (w : World) (z : Nat) (a : Ad) (b off n : Nat) (o : Opd) : Prop :=
  w.cell? ⟨z, 0, none⟩ = some (.pointer (some ⟨a.l, 0, none⟩)) ∧ w.cell? ⟨z, 1, none⟩ = some (.pointer (some ⟨a.m, 0, none⟩)) ∧ w.cell? ⟨z, 2, none⟩ = some (.pointer (some ⟨a.c, 0, none⟩)) ∧
  w.cell? ⟨b, off + n * 3, none⟩ = some (.int .i64 o.1) ∧ w.cell? ⟨b, off + n * 3 + 1, none⟩ = some (.string o.2.1) ∧ w.cell? ⟨b, off + n * 3 + 2, none⟩ = some (.int .i64 o.2.2)

set_option maxHeartbeats 4000000 in
set_option maxRecDepth 100000 in
theorem lawFull_far (l : List Opd) (n : Int) (v : Value) (w : World) (h : Ops w v l) (hn : fewB l = false ∨ n < 0 ∨ 100 < n) :
    Calls Try.prog 5 #[v, .int .i64 n] w fun e w' => e = .returned (.bool true) ∧ Below w.heap.size w w' := by
  have haw := awake_any w
  have hfw := few_any l v w h
  obtain ⟨A, c, rfl, hc, hcm⟩ := h.form
  clear h
  cases hf : fewB l with
  | false =>
    rw [hf] at hfw
    go_enter Try.func5, Try.ntmps5
    go_wp2_with fail
    refine hfw.mono ?_
    rintro e w' ⟨rfl, hw⟩
    obtain rfl := hw.symm
    clear hfw hw
    go_wp2_with fail
    refine haw.mono ?_
    rintro e w' ⟨rfl, hb⟩
    replace hb := Lib.hid hb
    go_wp2
    go_ret
    exact ⟨rfl, hb.out⟩
  | true =>
    rw [hf] at hfw
    replace hn := hn.resolve_left (by rw [hf]; simp)
    by_cases h2 : n < 0
    · go_enter Try.func5, Try.ntmps5
      go_wp2_with fail
      refine hfw.mono ?_
      rintro e w' ⟨rfl, hw⟩
      obtain rfl := hw.symm
      clear hfw hw
      go_wp2_with fail
      refine haw.mono ?_
      rintro e w' ⟨rfl, hb⟩
      replace hb := Lib.hid hb
      go_wp2
      go_ret
      exact ⟨rfl, hb.out⟩
    · have h3 : 100 < n := by omega
      go_enter Try.func5, Try.ntmps5
      go_wp2_with fail
      refine hfw.mono ?_
      rintro e w' ⟨rfl, hw⟩
      obtain rfl := hw.symm
      clear hfw hw
      go_wp2_with fail
      refine haw.mono ?_
      rintro e w' ⟨rfl, hb⟩
      replace hb := Lib.hid hb
      go_wp2
      go_ret
      exact ⟨rfl, hb.out⟩

set_option maxHeartbeats 8000000 in
set_option maxRecDepth 100000 in
theorem lawFull_ok (l : List Opd) (M : Nat) (v : Value) (w : World) (h : Ops w v l) (hf : fewB l = true) (hM : M ≤ 100) :
    Calls Try.prog 5 #[v, .int .i64 (M : Int)] w fun e w' => e = .returned (.bool true) ∧ Below w.heap.size w w' := by
  have haw := fun W => awake_any W
  have hfw := few_any l v w h
  rw [hf] at hfw
  have hlim := few_true hf
  obtain ⟨hl60, hkeys⟩ := hlim
  have hin : ∀ k (hk : k < l.length), In64 l[k].1 := fun k hk => (h.2 _ (List.getElem_mem hk)).1
  obtain ⟨A, c, rfl, hc, hcm⟩ := h.form
  have hat := fun w' k hk (hb : Below w.heap.size w w') => h.at_ hb k hk
  have hnew := begun_ok M 3 (fun _ => True) w (by omega) (by decide) (by decide)
  clear h hf
  obtain ⟨KL, hKL⟩ : ∃ K, l.length = K := ⟨_, rfl⟩
  rw [hKL] at hc hl60 hfw ⊢
  have i2 : ¬ (M : Int) < 0 := by omega
  have i3 : ¬ (100 : Int) < (M : Int) := by omega
  unfold maxLen at hcm
  unfold thV ptrV at hnew
  replace haw := Lib.hid haw
  replace hat := Lib.hid hat
  replace hnew := Lib.hid hnew
  replace hKL := Lib.hid hKL
  replace hkeys := Lib.hid hkeys
  replace hin := Lib.hid hin
  go_enter Try.func5, Try.ntmps5
  go_wp2_with fail
  refine hfw.mono ?_
  rintro e w' ⟨rfl, hw⟩
  obtain rfl := hw.symm
  clear hfw hw
  go_wp2_with fail
  refine hnew.out.mono ?_
  rintro e w1 ⟨a, rfl, hT1, hb1⟩
  have hL0 := ThL.start hT1 hb1
  unfold ptrV at hL0
  clear hnew hT1 hb1
  go_upto_region 4 with fail
  obtain ⟨z, hz⟩ : ∃ z, w1.heap.size = z := ⟨_, rfl⟩
  rw [hz] at hL0 ⊢
  generalize w1.alloc (.cells #[.pointer (some ⟨a.l, 0, none⟩), .pointer (some ⟨a.m, 0, none⟩), .pointer (some ⟨a.c, 0, none⟩)] 29) = v0 at hL0 ⊢
  have c0 := hL0.c0
  have hzl := hL0.zb.lt
  clear hz
  replace hL0 := Lib.hid hL0
  go_wp2
  clear c0 hzl
  go_loopw [7] (fun nv wr => ∃ (i pot : Nat) (Q : Nat → Prop) (t : Tg), i ≤ KL ∧ nv = .int .i64 (i : Int) ∧ pot ≤ 2 * i ∧ t.most = M ∧ t.nest = 3 ∧ Hid (ThL w wr Q a z pot t)) (fun nv _ => KL - (intOf nv).toNat)
  case atStart => exact ⟨0, 0, _, _, Nat.zero_le _, rfl, Nat.zero_le _, rfl, rfl, hL0⟩
  case round =>
    clear hL0
    obtain ⟨i, pot, Q, t, hi, rfl, hpot, hmost, hnest, hL⟩ := hrel
    have c0 := hL.out.c0
    have c1 := hL.out.c1
    have c2 := hL.out.c2
    have hzl := hL.out.zb.lt
    by_cases hlt : i < KL
    · have hlt' : i < l.length := by rw [hKL.out]; exact hlt
      obtain ⟨L, hcan, hLl⟩ := th_canon hL.out.th
      have hno := now_any hL.out.th hcan (by omega) (by omega)
      have hio := hin.out i hlt'
      have hko := hkeys.out i hlt'
      have hati := fun w' hb => hat.out w' i hlt' hb
      generalize l[i] = o at hio hko hati
      unfold thV ptrV at hno
      replace hno := Lib.hid hno
      replace hati := Lib.hid hati
      go_wp2_with fail
      refine hno.out.mono ?_
      rintro e w2 ⟨vS, rfl, hP2, hb2⟩
      obtain ⟨AS, cS, rfl, hcS, hcSm⟩ := own_form hP2
      have hL2 := hL.out.same hb2
      -- the box of was
      have hP3 : PairsAt (w2.alloc (.cells #[.slice AS L.length cS, .string t.cur.s] 44)) wr.heap.size (.slice AS L.length cS) L := World.ownsRow.alloc hP2 _
      have hZ3 : Blk (w2.alloc (.cells #[.slice AS L.length cS, .string t.cur.s] 44)) w2.heap.size [.slice AS L.length cS, .string t.cur.s] 44 := Blk.new w2 _ _
      have hL3 := hL2.same ((Below.refl _ w2).alloc (Nat.le_refl _) (.cells #[.slice AS L.length cS, .string t.cur.s] 44))
      obtain ⟨zs, hzs⟩ : ∃ zs, w2.heap.size = zs := ⟨_, rfl⟩
      obtain ⟨w3, hw3⟩ : ∃ w3, w2.alloc (.cells #[.slice AS L.length cS, .string t.cur.s] 44) = w3 := ⟨_, rfl⟩
      rw [hzs] at hZ3
      rw [hw3] at hP3 hZ3 hL3
      replace hw3 := Lib.hid hw3
      replace hzs := Lib.hid hzs
      unfold maxLen at hcSm
      clear hno hP2 hb2 hL2 hL c0 c1 c2 hzl
      go_upto_region 10 with fail
      rw [hzs.out, hw3.out]
      have c0 := hL3.c0
      have c1 := hL3.c1
      have c2 := hL3.c2
      have hzl := hL3.zb.lt
      have hmk := th_marks hL3.th
      have hln := th_lenN hL3.th
      have hg3 := hL3.th.good
      obtain ⟨KM, hKM⟩ : ∃ K, t.was.length = K := ⟨_, rfl⟩
      obtain ⟨KN, hKN⟩ : ∃ K, t.ns.length = K := ⟨_, rfl⟩
      rw [hKM] at hmk
      rw [hKN] at hln
      have hKNM : KN ≤ M := by have := hg3.most1; omega
      replace hg3 := Lib.hid hg3
      replace hKM := Lib.hid hKM
      replace hKN := Lib.hid hKN
      unfold ptrV at hmk hln
      replace hmk := Lib.hid hmk
      replace hln := Lib.hid hln
      go_wp2_with fail
      refine hmk.out.mono ?_
      rintro e w' ⟨rfl, hw⟩
      obtain rfl := hw.symm
      clear hmk hw
      go_wp2_with fail
      refine hln.out.mono ?_
      rintro e w' ⟨rfl, hw⟩
      obtain rfl := hw.symm
      clear hln hw
      obtain ⟨b, off, rfl, hbl, e0, e1, e2⟩ := hati.out w3 hL3.below
      have hdo := fun n => does_any (hL3.th.below (drewN_below w3 n)) o hio hko
      have hkp : ∀ w', Below w.heap.size w w' → ThL w w' (moreQ Q w3) a z (pot + 2) (t.step o).2.2 → OpAt w' z a b off i o := fun w' hb hT => by
        obtain ⟨b', off', he, _, h0, h1, h2⟩ := hati.out w' hb
        cases he
        exact ⟨hT.c0, hT.c1, hT.c2, h0, h1, h2⟩
      obtain ⟨q0, q1, q2⟩ := o
      unfold opV thV ptrV at hdo
      unfold OpAt at hkp
      simp only at e0 e1 e2 hdo hkp
      have hstep : ∀ n w', ThAt w' w.heap.size (moreQ Q (w3.drewN n)) a (pot + 2) (t.step (q0, q1, q2)).2.2 → FrT w.heap.size a.o (w3.drewN n) w' → ThL w w' (moreQ Q w3) a z (pot + 2) (t.step (q0, q1, q2)).2.2 := fun n w' h1 h2 => (hL3.same (drewN_below w3 n)).step h1 h2
      replace hdo := Lib.hid hdo
      replace hkp := Lib.hid hkp
      replace hstep := Lib.hid hstep
      replace hL3 := Lib.hid hL3
      replace hP3 := Lib.hid hP3
      replace hZ3 := Lib.hid hZ3
      replace hw3 := Lib.hid hw3
      clear hati
      go_upto_region 12 with fail
      go_region_held3 (fun w' => w'.cell? ⟨z, 0, none⟩ = some (.pointer (some ⟨a.l, 0, none⟩)) ∧ w'.cell? ⟨z, 1, none⟩ = some (.pointer (some ⟨a.m, 0, none⟩)) ∧ w'.cell? ⟨z, 2, none⟩ = some (.pointer (some ⟨a.c, 0, none⟩)) ∧ w'.cell? ⟨b, off + i * 3, none⟩ = some (.int .i64 q0) ∧ w'.cell? ⟨b, off + i * 3 + 1, none⟩ = some (.string q1) ∧ w'.cell? ⟨b, off + i * 3 + 2, none⟩ = some (.int .i64 q2))
        (first | go_keep | exact hk)
        ((go_at_call 12; refine (hdo.out _).mono ?_; rintro e w5 ⟨rfl, hT5, hF5⟩; have hL5 := hstep.out _ w5 hT5 hF5; have hk := hkp.out w5 hL5.below hL5))
      replace hF5 : FrT w.heap.size a.o w3 w5 := Fr.trans (Fr.drewN _ _ _ w3 _) hF5
      have hP5 : PairsAt w5 wr.heap.size (.slice AS L.length cS) L := own_fr hP3.out hF5 (not_thT (by decide)) (fun g hg => hL3.out.th.ne_o (own_block hP3.out hg).2.choose_spec)
      have hZ5 : Blk w5 zs [.slice AS L.length cS, .string t.cur.s] 44 := Blk.fr hZ3.out hF5 (not_thT (by decide)) (hL3.out.th.ne_o hZ3.out)
      have hpar := step_par t (q0, q1, q2)
      have hcs := step_cases t (q0, q1, q2)
      rw [hmost, hnest] at hpar
      generalize (t.step (q0, q1, q2)).2.2 = t' at hL5 hpar hcs
      generalize (t.step (q0, q1, q2)).2.1 = f at hcs ⊢
      obtain ⟨hpm, hpn⟩ := hpar
      clear hstep hdo hkp hk hT5 hF5 hZ3 hP3 hL3 c0 c1 c2 e0 e1 e2
      have c0 := hL5.c0
      have c1 := hL5.c1
      have c2 := hL5.c2
      have hzl5 := hL5.zb.lt
      have hg5 := hL5.th.good
      have hl5 : t'.ns.length ≤ M := by rw [← hpm]; exact hg5.most1
      rcases hcs with rfl | ⟨rfl, rfl, hfu⟩ | ⟨rfl, rfl, hnf⟩ | ⟨rfl, rfl, hwe⟩
      · have hmk6 := th_marks hL5.th
        have hln6 := th_lenN hL5.th
        unfold ptrV at hmk6 hln6
        by_cases hw0 : t'.was = []
        · rw [hw0] at hmk6
          rw [hg5.none hw0] at hln6
          simp only [List.length_nil] at hmk6 hln6
          have hm0 : ¬ (M : Int) < ((0 : Nat) : Int) := by omega
          replace hmk6 := Lib.hid hmk6
          replace hln6 := Lib.hid hln6
          replace hL5 := Lib.hid hL5
          replace hg5 := Lib.hid hg5
          go_wp2_with (first | (go_at_call 16; refine hln6.out.mono ?_; rintro e w' ⟨rfl, hw⟩; obtain rfl := hw.symm; clear hw) | (go_at_call 15; refine hmk6.out.mono ?_; rintro e w' ⟨rfl, hw⟩; obtain rfl := hw.symm; clear hw))
          go_roundw
          case rel => exact ⟨i + 1, pot + 2, _, t', by omega, by go_num, by omega, hpm, hpn, hL5⟩
          case measure => simp [intOf]; omega
        · obtain ⟨KM', hKM'⟩ : ∃ K, t'.was.length = K := ⟨_, rfl⟩
          obtain ⟨KN', hKN'⟩ : ∃ K, t'.ns.length = K := ⟨_, rfl⟩
          rw [hKM'] at hmk6
          rw [hKN'] at hln6 hl5
          have hm0 : ¬ (M : Int) < (KN' : Int) := by omega
          have hk0 : ((KM' : Int) == 0) = false := by
            rw [beq_eq_false_iff_ne]
            intro e
            exact hw0 (List.eq_nil_of_length_eq_zero (by omega))
          replace hmk6 := Lib.hid hmk6
          replace hln6 := Lib.hid hln6
          replace hL5 := Lib.hid hL5
          replace hg5 := Lib.hid hg5
          replace hKM' := Lib.hid hKM'
          replace hKN' := Lib.hid hKN'
          go_wp2_with (first | (go_at_call 16; refine hln6.out.mono ?_; rintro e w' ⟨rfl, hw⟩; obtain rfl := hw.symm; clear hw) | (go_at_call 15; refine hmk6.out.mono ?_; rintro e w' ⟨rfl, hw⟩; obtain rfl := hw.symm; clear hw))
          go_roundw
          case rel => exact ⟨i + 1, pot + 2, _, t', by omega, by go_num, by omega, hpm, hpn, hL5⟩
          case measure => simp [intOf]; omega
      · have hnm : ((KN : Int) != (M : Int)) = false := by
          have h1 := hfu.2
          have h2 := hKN.out
          rw [bne_eq_false_iff_eq]; omega
        have hk0 : ((KM : Int) == 0) = false := by
          rw [beq_eq_false_iff_ne]
          intro e
          have h2 := hKM.out
          exact hfu.1 (List.eq_nil_of_length_eq_zero (by omega))
        have hm0 : ¬ (M : Int) < (KN : Int) := by omega
        clear hfu
        have hsm := same_any (sc := t'.cur.s) hL5.th hcan (by omega) (by omega) hP5
        rw [show decide (L = L ∧ t'.cur.s = t'.cur.s) = true by simp] at hsm
        have hmkW := fun W (hb : Below w5.heap.size w5 W) => th_marks (hL5.th.below hb)
        have hlnW := fun W (hb : Below w5.heap.size w5 W) => th_lenN (hL5.th.below hb)
        rw [hKM.out] at hmkW
        rw [hKN.out] at hlnW
        have z0 : w5.cell? ⟨zs, 0, none⟩ = some (.slice AS L.length cS) := hZ5.cell (i := 0) rfl
        have z1 : w5.cell? ⟨zs, 1, none⟩ = some (.string t'.cur.s) := hZ5.cell (i := 1) rfl
        have hzsl := hZ5.lt
        unfold ptrV at hmkW hlnW
        unfold thV ptrV at hsm
        replace hsm := Lib.hid hsm
        replace hmkW := Lib.hid hmkW
        replace hlnW := Lib.hid hlnW
        replace hL5 := Lib.hid hL5
        replace hg5 := Lib.hid hg5
        replace hP5 := Lib.hid hP5
        replace hZ5 := Lib.hid hZ5
        go_wp2_with fail
        refine hsm.out.mono ?_
        rintro e w6 ⟨rfl, hb6⟩
        have hL6 := hL5.out.same hb6
        have hmk6 := hmkW.out w6 hb6
        have hln6 := hlnW.out w6 hb6
        clear c0 c1 c2 z0 z1 hzl5 hzsl hsm hmkW hlnW hb6
        have c0 := hL6.c0
        have hzl6 := hL6.zb.lt
        replace hL6 := Lib.hid hL6
        replace hmk6 := Lib.hid hmk6
        replace hln6 := Lib.hid hln6
        go_wp2_with (first | (go_at_call 16; refine hln6.out.mono ?_; rintro e w' ⟨rfl, hw⟩; obtain rfl := hw.symm; clear hw) | (go_at_call 15; refine hmk6.out.mono ?_; rintro e w' ⟨rfl, hw⟩; obtain rfl := hw.symm; clear hw))
        go_roundw
        case rel => exact ⟨i + 1, pot + 2, _, t', by omega, by go_num, by omega, hpm, hpn, hL6⟩
        case measure => simp [intOf]; omega
      · obtain rfl : 3 = KM := by have h2 := hKM.out; omega
        have hm0 : ¬ (M : Int) < (KN : Int) := by omega
        clear hnf
        have hsm := same_any (sc := t'.cur.s) hL5.th hcan (by omega) (by omega) hP5
        rw [show decide (L = L ∧ t'.cur.s = t'.cur.s) = true by simp] at hsm
        have hmkW := fun W (hb : Below w5.heap.size w5 W) => th_marks (hL5.th.below hb)
        have hlnW := fun W (hb : Below w5.heap.size w5 W) => th_lenN (hL5.th.below hb)
        rw [hKM.out] at hmkW
        rw [hKN.out] at hlnW
        have z0 : w5.cell? ⟨zs, 0, none⟩ = some (.slice AS L.length cS) := hZ5.cell (i := 0) rfl
        have z1 : w5.cell? ⟨zs, 1, none⟩ = some (.string t'.cur.s) := hZ5.cell (i := 1) rfl
        have hzsl := hZ5.lt
        unfold ptrV at hmkW hlnW
        unfold thV ptrV at hsm
        replace hsm := Lib.hid hsm
        replace hmkW := Lib.hid hmkW
        replace hlnW := Lib.hid hlnW
        replace hL5 := Lib.hid hL5
        replace hg5 := Lib.hid hg5
        replace hP5 := Lib.hid hP5
        replace hZ5 := Lib.hid hZ5
        go_wp2_with fail
        refine hsm.out.mono ?_
        rintro e w6 ⟨rfl, hb6⟩
        have hL6 := hL5.out.same hb6
        have hmk6 := hmkW.out w6 hb6
        have hln6 := hlnW.out w6 hb6
        clear c0 c1 c2 z0 z1 hzl5 hzsl hsm hmkW hlnW hb6
        have c0 := hL6.c0
        have hzl6 := hL6.zb.lt
        replace hL6 := Lib.hid hL6
        replace hmk6 := Lib.hid hmk6
        replace hln6 := Lib.hid hln6
        go_wp2_with (first | (go_at_call 16; refine hln6.out.mono ?_; rintro e w' ⟨rfl, hw⟩; obtain rfl := hw.symm; clear hw) | (go_at_call 15; refine hmk6.out.mono ?_; rintro e w' ⟨rfl, hw⟩; obtain rfl := hw.symm; clear hw))
        go_roundw
        case rel => exact ⟨i + 1, pot + 2, _, t', by omega, by go_num, by omega, hpm, hpn, hL6⟩
        case measure => simp [intOf]; omega
      · obtain rfl : 0 = KM := by
          have h2 := hKM.out
          rw [hwe] at h2; exact h2
        obtain rfl : 0 = KN := by
          have h2 := hKN.out
          rw [hg5.none hwe] at h2; exact h2
        have hm0 : ¬ (M : Int) < ((0 : Nat) : Int) := by omega
        clear hwe
        have hsm := same_any (sc := t'.cur.s) hL5.th hcan (by omega) (by omega) hP5
        rw [show decide (L = L ∧ t'.cur.s = t'.cur.s) = true by simp] at hsm
        have hmkW := fun W (hb : Below w5.heap.size w5 W) => th_marks (hL5.th.below hb)
        have hlnW := fun W (hb : Below w5.heap.size w5 W) => th_lenN (hL5.th.below hb)
        rw [hKM.out] at hmkW
        rw [hKN.out] at hlnW
        have z0 : w5.cell? ⟨zs, 0, none⟩ = some (.slice AS L.length cS) := hZ5.cell (i := 0) rfl
        have z1 : w5.cell? ⟨zs, 1, none⟩ = some (.string t'.cur.s) := hZ5.cell (i := 1) rfl
        have hzsl := hZ5.lt
        unfold ptrV at hmkW hlnW
        unfold thV ptrV at hsm
        replace hsm := Lib.hid hsm
        replace hmkW := Lib.hid hmkW
        replace hlnW := Lib.hid hlnW
        replace hL5 := Lib.hid hL5
        replace hg5 := Lib.hid hg5
        replace hP5 := Lib.hid hP5
        replace hZ5 := Lib.hid hZ5
        go_wp2_with fail
        refine hsm.out.mono ?_
        rintro e w6 ⟨rfl, hb6⟩
        have hL6 := hL5.out.same hb6
        have hmk6 := hmkW.out w6 hb6
        have hln6 := hlnW.out w6 hb6
        clear c0 c1 c2 z0 z1 hzl5 hzsl hsm hmkW hlnW hb6
        have c0 := hL6.c0
        have hzl6 := hL6.zb.lt
        replace hL6 := Lib.hid hL6
        replace hmk6 := Lib.hid hmk6
        replace hln6 := Lib.hid hln6
        go_wp2_with (first | (go_at_call 16; refine hln6.out.mono ?_; rintro e w' ⟨rfl, hw⟩; obtain rfl := hw.symm; clear hw) | (go_at_call 15; refine hmk6.out.mono ?_; rintro e w' ⟨rfl, hw⟩; obtain rfl := hw.symm; clear hw))
        go_roundw
        case rel => exact ⟨i + 1, pot + 2, _, t', by omega, by go_num, by omega, hpm, hpn, hL6⟩
        case measure => simp [intOf]; omega
    · obtain rfl : i = KL := by omega
      have haw2 := haw.out wr
      have hbw := hL.out.below
      replace haw2 := Lib.hid haw2
      replace hbw := Lib.hid hbw
      clear c0 c1 c2
      go_wp2_with fail
      refine haw2.out.mono ?_
      rintro e w' ⟨rfl, hb⟩
      have hfin := hbw.out.trans (hb.mono hbw.out.size)
      replace hfin := Lib.hid hfin
      clear haw2 hb
      go_wp2
      go_ret
      exact ⟨rfl, hfin.out⟩
/-- All ways. -/
theorem lawFull_any (l : List Opd) (n : Int) (v : Value) (w : World) (h : Ops w v l) (_ : In64 n) :
    Calls Try.prog 5 #[v, .int .i64 n] w fun e w' => e = .returned (.bool true) ∧ Below w.heap.size w w' := by
  by_cases hn : fewB l = false ∨ n < 0 ∨ 100 < n
  · exact lawFull_far l n v w h hn
  · obtain ⟨N, rfl⟩ : ∃ N : Nat, n = (N : Int) := ⟨n.toNat, by omega⟩
    exact lawFull_ok l N v w h (by cases hf : fewB l with | true => rfl | false => exact absurd (.inl hf) hn) (by omega)
end Go.Proofs.Ytcobfimafpfbpaa
