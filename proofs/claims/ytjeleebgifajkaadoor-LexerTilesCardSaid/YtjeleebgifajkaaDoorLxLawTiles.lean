/-
  The walk of LexerTiles: it answers true and leaves what was there. Conditions: none.
-/
import Derived.Test.YtjeleebgifajkaaDoorLxNoth
import Derived.Test.YtjeleebgifajkaaDoorLxAwake
set_option linter.unusedSimpArgs false
set_option linter.unusedVariables false
namespace Go.Proofs.YtjeleebgifajkaaDoor
open Go Go.RowKit

theorem seqF_parts (n : Nat) (l : List UInt8) (k : Nat) : ∃ pre : List Tk, (∀ t ∈ pre, t.1 ≠ 5) ∧ (seqF n l k = pre ∨ ∃ t : Tk, t.1 = 5 ∧ seqF n l k = pre ++ [t]) := by
  induction n generalizing k with
  | zero => exact ⟨[], by simp, .inl rfl⟩
  | succ n ih =>
    unfold seqF
    by_cases h5 : (nextP l k).1 = 5
    · rw [if_pos h5]; exact ⟨[], by simp, .inr ⟨_, h5, rfl⟩⟩
    · rw [if_neg h5]
      by_cases h0 : (nextP l k).1 = 0
      · rw [if_pos h0]; exact ⟨[], by simp, .inl rfl⟩
      · rw [if_neg h0]
        obtain ⟨pre, hp, h | ⟨t, ht, h⟩⟩ := ih (nextP l k).2.2
        · exact ⟨nextP l k :: pre, (fun t ht => by
            rcases List.mem_cons.1 ht with rfl | ht
            · exact h5
            · exact hp t ht), .inl (by rw [h])⟩
        · exact ⟨nextP l k :: pre, (fun t ht => by
            rcases List.mem_cons.1 ht with rfl | ht
            · exact h5
            · exact hp t ht), .inr ⟨t, ht, by rw [h]; rfl⟩⟩
theorem seqF_none {l : List UInt8} {k m : Nat} (h : (nextP l k).1 = 0) : seqF m l k = [] := by
  cases m with
  | zero => rfl
  | succ m => unfold seqF; rw [if_neg (by rw [h]; decide), if_pos h]
theorem allP_alone {s : ByteArray} {q : Nat} (h4 : s.size ≤ 4096) (h0 : q ≠ 0) (h5 : q ≠ 5) (h : nextP (bl s) 0 = (q, 0, s.size)) : allP s = ([(q, 0, s.size)], 0, 0) := by
  refine all_ok h4 ?_ (by simpa using h5)
  have h2 : (nextP (bl s) s.size).1 = 0 := by
    unfold nextP
    have e : (bl s).drop s.size = [] := bl_end s _ (Nat.le_refl _)
    rw [e, skip_nil]
    dsimp only
    rw [Nat.add_zero, e]
    simp
  unfold seqL seqF
  rw [h]
  simp only [h5, h0, if_false]
  rw [seqF_none h2]
theorem extract_all (s : ByteArray) : s.extract 0 s.size = s := by
  apply ByteArray.ext
  apply Array.toList_inj.1
  rw [bl_extract, List.drop_zero, List.take_of_length_le (by rw [bl_len]; exact Nat.le_refl _)]
theorem bl_cut (s : ByteArray) (i j : Nat) : bl (s.extract i j) = ((bl s).drop i).take (j - i) := by
  show (s.extract i j).data.toList = _
  rw [bl_extract, List.drop_take]
/-- What is asked of a thing. -/
def TileAt (s : ByteArray) (e : Nat) (x : Tk) : Prop :=
  e ≤ x.2.1 ∧ x.2.1 < x.2.2 ∧ x.2.2 ≤ s.size ∧ nothB (bl (s.extract e x.2.1)) = true ∧ ∃ q : Nat, allP (s.extract x.2.1 x.2.2) = ([(q, 0, (s.extract x.2.1 x.2.2).size)], 0, 0)
theorem noth_next (s : ByteArray) (e : Nat) : nothB (bl (s.extract e (nextP (bl s) e).2.1)) = true := by
  rw [bl_cut, nextP_at, Nat.add_sub_cancel_left]
  exact noth_skip _
theorem tile_at {s : ByteArray} (hs : s.size ≤ 500) {pre rest : List Tk} {x : Tk} (h : seqL s = pre ++ x :: rest) (hp : ∀ t ∈ pre, t.1 ≠ 5) (hx : x.1 ≠ 5) : TileAt s (endP 0 pre) x := by
  obtain ⟨e1, e2, e3⟩ := seqF_at (Nat.zero_le _) h hp
  have hle := nextP_le (bl s) (endP 0 pre) e2
  have hno := noth_next s (endP 0 pre)
  rw [← e1, bl_len] at hle
  rw [← e1] at hno
  have hpos := hle.2.2.2.1 e3 hx
  refine ⟨hle.1, hpos, hle.2.2.1, hno, ?_⟩
  obtain ⟨q, q0, q5, hq⟩ := nextP_alone e2 (by rw [← e1]; exact e3) (by rw [← e1]; exact hx)
  rw [← e1, ← bl_cut] at hq
  have hsz : (s.extract x.2.1 x.2.2).size = x.2.2 - x.2.1 := by rw [ByteArray.size_extract]; omega
  exact ⟨q, allP_alone (by omega) q0 q5 (by rw [hq, hsz])⟩
theorem tile_all {s : ByteArray} (hs : s.size ≤ 500) : (∀ (i : Nat) (hi : i < (allP s).1.length), TileAt s (endP 0 ((allP s).1.take i)) ((allP s).1[i])) ∧ endP 0 (allP s).1 ≤ s.size ∧
    ((allP s).2.2 = 0 ∧ (allP s).2.1 = 0 ∧ nothB (bl (s.extract (endP 0 (allP s).1) s.size)) = true ∨
     (allP s).2.2 = 30 ∧ ∃ a : Nat, (allP s).2.1 = (a : Int) ∧ endP 0 (allP s).1 ≤ a ∧ a < s.size ∧ nothB (bl (s.extract (endP 0 (allP s).1) a)) = true) := by
  obtain ⟨pre, hp, h⟩ := seqF_parts (s.size + 1) (bl s) 0
  have hcut : ∀ (i : Nat) (hi : i < pre.length) (rest : List Tk), seqL s = pre ++ rest → TileAt s (endP 0 (pre.take i)) (pre[i]) := by
    intro i hi rest hr
    refine tile_at hs (rest := pre.drop (i + 1) ++ rest) ?_ (fun t ht => hp t (List.mem_of_mem_take ht)) (hp _ (List.getElem_mem _))
    rw [hr, ← List.cons_append, ← List.append_assoc]
    congr 1
    rw [← List.drop_eq_getElem_cons hi, List.take_append_drop]
  rcases h with h | ⟨t, ht, h⟩
  · have hP := all_ok (s := s) (by omega) h hp
    have hl := seqF_last (Nat.zero_le _) (by rw [bl_len]; omega) h hp
    rw [hP]
    refine ⟨fun i hi => hcut i hi [] (by rw [List.append_nil]; exact h), by rw [← bl_len]; exact hl.2, .inl ⟨rfl, rfl, ?_⟩⟩
    have hz := nextP_zero hl.2 hl.1
    have := noth_next s (endP 0 pre)
    rw [nextP_at, hz, bl_len] at this
    exact this
  · have hP := all_err (s := s) (pre := pre) (rest := []) (t := t) (by omega) (by rw [List.append_nil]; exact h) hp ht rfl
    obtain ⟨e1, e2, e3⟩ := seqF_at (Nat.zero_le _) h hp
    rw [hP]
    refine ⟨fun i hi => hcut i hi [t] h, by rw [← bl_len]; exact e2, .inr ⟨rfl, t.2.1, rfl, ?_, ?_, ?_⟩⟩
    · have := (nextP_le (bl s) (endP 0 pre) e2).1; rw [← e1] at this; exact this
    · have := nextP_five e2 (by rw [← e1]; exact ht)
      rw [← nextP_at, ← e1, bl_len] at this; exact this
    · have := noth_next s (endP 0 pre); rw [← e1] at this; exact this

set_option maxHeartbeats 8000000 in
set_option maxRecDepth 100000 in
theorem lawTiles_any (s : ByteArray) (w : World) :
    Calls Tryd.prog 7 #[.string s] w fun e w' => e = .returned (.bool true) ∧ Below w.heap.size w w' := by
  have haw := fun W => awake_any W
  replace haw := Lib.hid haw
  by_cases g1 : (500 : Int) < (s.size : Int)
  · go_enter Tryd.func7, Tryd.ntmps7
    go_wp2_with fail
    refine (haw.out _).mono ?_
    rintro e w' ⟨rfl, hb⟩
    go_wp2
    go_ret
    exact ⟨rfl, hb⟩
  · have hs : s.size ≤ 500 := by omega
    obtain ⟨hT, hE, hF⟩ := tile_all hs
    have hall := fun W => All_any s W
    have hlen : (allP s).1.length ≤ 1000000 ∨ True := .inr trivial
    generalize allP s = P at hT hE hF hall
    obtain ⟨L, pa, pe⟩ := P
    dsimp only at hT hE hF hall
    replace hT := Lib.hid hT
    replace hF := Lib.hid hF
    replace hE := Lib.hid hE
    replace hall := Lib.hid hall
    go_enter Tryd.func7, Tryd.ntmps7
    go_wp2_with fail
    refine (hall.out _).mono ?_
    rintro e w1 ⟨v, rfl, hb1, row⟩
    clear hall
    obtain ⟨A, c, rfl, hKc⟩ : ∃ A c, v = .slice A L.length c ∧ (0 < L.length → ∃ g, A = some ⟨g, 0, none⟩) := by
      rcases row.2 with ⟨rfl, h0⟩ | ⟨g, cap, _, rfl, _⟩
      · exact ⟨_, _, by rw [h0], fun h => by omega⟩
      · exact ⟨_, _, rfl, fun _ => ⟨g, rfl⟩⟩
    have hrow := fun W (h : Below w1.heap.size w1 W) => own_below row h
    replace hrow := Lib.hid hrow
    replace hKc := Lib.hid hKc
    replace hb1 := Lib.hid hb1
    have hK4 : L.length ≤ maxLen := by
      obtain ⟨A2, c2, hv2, k1, k2, _⟩ := Sl.of_own row
      injection hv2 with _ _ e3
      omega
    unfold maxLen at hK4
    clear row
    obtain ⟨K, hK⟩ : ∃ K, L.length = K := ⟨_, rfl⟩
    rw [hK] at hrow hKc hK4 ⊢
    replace hK := Lib.hid hK
    go_wp2
    go_loopw [6, 7] (fun ev iv wr => ∃ i : Nat, i ≤ K ∧ iv = .int .i64 (i : Int) ∧ ev = .int .i64 ((endP 0 (L.take i) : Nat) : Int) ∧ Hid (Below w1.heap.size w1 wr)) (fun _ iv _ => K - (intOf iv).toNat)
    case atStart => exact ⟨0, Nat.zero_le _, rfl, rfl, Lib.hid (Below.refl _ _)⟩
    case round =>
      obtain ⟨i, hi, rfl, rfl, hbr⟩ := hrel
      by_cases hlt : i < K
      · have hli : (i : Int) < (K : Int) := by omega
        have hil : i < L.length := by rw [hK.out]; exact hlt
        obtain ⟨t1, t2, t3, t4, q, t5⟩ := hT.out i hil
        obtain ⟨g, rfl⟩ := hKc.out (by omega)
        have hr := hrow.out wr hbr.out
        have hnx : Hid (endP 0 (L.take (i + 1)) = (L[i]).2.2) := Lib.hid (by rw [List.take_add_one, List.getElem?_eq_getElem hil]; exact endP_snoc _ _ _)
        have hcl : ∀ j u, (cellTk s L[i])[j]? = some u → wr.cell? ⟨g, i * 4 + j, none⟩ = some u := by
          intro j u hu
          have hj : (cellsTk s L)[i * 4 + j]? = some u := by
            have hd : (cellsTk s L).drop (i * 4) = cellsTk s (L.drop i) := by
              have : ∀ (l : List Tk) (n : Nat), (cellsTk s l).drop (n * 4) = cellsTk s (l.drop n) := by
                intro l
                induction l with
                | nil => intro n; simp [cellsTk]
                | cons a l ih =>
                  intro n
                  cases n with
                  | zero => simp
                  | succ n =>
                    have e : (n + 1) * 4 = n * 4 + 1 + 1 + 1 + 1 := by omega
                    simp only [cellsTk, List.flatMap_cons, cellTk, e, List.cons_append, List.nil_append, List.drop_succ_cons] at ih ⊢
                    exact ih n
              exact this L i
            have : (cellsTk s L)[i * 4 + j]? = ((cellsTk s L).drop (i * 4))[j]? := by rw [List.getElem?_drop]
            rw [this, hd, List.drop_eq_getElem_cons hil, cellsTk, List.flatMap_cons]
            rw [List.getElem?_append_left (List.getElem?_eq_some_iff.1 hu).1]
            exact hu
          have := hr.cells (g := g) rfl (i * 4 + j) u hj
          rwa [add_plain0, Nat.zero_add] at this
        generalize L[i] = x at t1 t2 t3 t4 t5 hnx hcl
        generalize endP 0 (L.take i) = en at t1 t4 ⊢
        have k0 := hcl 0 _ rfl
        have k1 := hcl 1 _ rfl
        have k2 := hcl 2 _ rfl
        have k3 := hcl 3 _ rfl
        obtain ⟨x1, a, b⟩ := x
        dsimp only at t1 t2 t3 t4 t5 k0 k1 k2 k3 hnx
        rw [Nat.add_zero] at k0
        have hno := fun W => nothing_any (s.extract en a) (by rw [ByteArray.size_extract]; omega) W
        rw [t4] at hno
        have hal := fun W => All_any (s.extract a b) W
        rw [t5] at hal
        have hxx := extract_all (s.extract a b)
        dsimp only at hal
        have n1 : ¬ (a : Int) < (en : Int) := by omega
        have n2 : ¬ (b : Int) ≤ (a : Int) := by omega
        have n3 : ¬ (s.size : Int) < (b : Int) := by omega
        have n4 : (a : Int) ≤ (b : Int) := by omega
        have n5 : (b : Int) ≤ (s.size : Int) := by omega
        have n6 : (en : Int) ≤ (a : Int) := by omega
        have n7 : (a : Int) ≤ (s.size : Int) := by omega
        replace hno := Lib.hid hno
        replace hal := Lib.hid hal
        replace hxx := Lib.hid hxx
        clear hcl t1 t2 t3 t4 t5 hr
        have hz0 := Below.refl w1.heap.size wr
        obtain ⟨wz, hwz⟩ : ∃ wz, wr.alloc (.cells #[.int .i64 (x1 : Int), .string (s.extract a b), .int .i64 (a : Int), .int .i64 (b : Int)] 24) = wz := ⟨_, rfl⟩
        have bz := Blk.new wr [.int .i64 (x1 : Int), .string (s.extract a b), .int .i64 (a : Int), .int .i64 (b : Int)] 24
        have hbz : Below w1.heap.size w1 (wr.alloc (.cells #[.int .i64 (x1 : Int), .string (s.extract a b), .int .i64 (a : Int), .int .i64 (b : Int)] 24)) := hbr.out.alloc hbr.out.size _
        obtain ⟨z, hz⟩ : ∃ z, wr.heap.size = z := ⟨_, rfl⟩
        rw [hz] at bz
        rw [hwz] at bz hbz
        generalize hTT : s.extract a b = T at *
        have hTT2 : Hid (s.extract a b = T) := Lib.hid hTT
        go_upto_region 9 with fail
        try rw [hz]
        try rw [hTT]
        replace hz := Lib.hid hz
        have z0 := bz.cell (i := 0) rfl
        have z1 := bz.cell (i := 1) rfl
        have z2 := bz.cell (i := 2) rfl
        have z3 := bz.cell (i := 3) rfl
        replace hTT := Lib.hid hTT
        replace bz := Lib.hid bz
        replace hbz := Lib.hid hbz
        clear k0 k1 k2 k3 hwz hz0
        have hno := hno.out
        have hTe := hTT2.out
        go_quiet ((go_at_call 21; refine Calls.quiet_of_same (hno _)))
        clear hTe hno
        go_wp2_with fail
        refine (hal.out _).mono ?_
        rintro e w3 ⟨v3, rfl, hb3, row3⟩
        obtain ⟨g3, c3, rfl⟩ := ownsRow_succ (k := 0) row3
        have y1 := row3.cells (g := g3) rfl 1 (.string T) (by simp only [cellsTk, cellTk, List.flatMap_cons, List.flatMap_nil]; rw [hxx.out]; rfl)
        rw [add_plain0, Nat.zero_add] at y1
        have bz3 : Hid (Blk w3 z _ _) := Lib.hid ((hb3.block z bz.out.lt).trans bz.out)
        have hb13 : Hid (Below w1.heap.size w1 w3) := Lib.hid ((below_drewN hbz.out _).trans (hb3.mono hbz.out.size))
        have x1' := bz3.out.cell (i := 1) rfl
        have x3' := bz3.out.cell (i := 3) rfl
        clear hal hb3 row3 z0 z1 z2 z3 bz hbz hxx
        go_upto_region 12 with fail
        go_quiet (fail)
        go_wp2
        go_roundw
        case rel => exact ⟨i + 1, by omega, by go_num, by rw [hnx.out], Lib.hid (below_drewN hb13.out _)⟩
        case measure => simp [intOf]; omega
      · obtain rfl : K = i := by omega
        have hli : ¬ (K : Int) < (K : Int) := by omega
        have htk : Hid (L.take K = L) := Lib.hid (List.take_of_length_le (by rw [hK.out]; exact Nat.le_refl _))
        rw [htk.out]
        have hE2 := hE.out
        have hbw : Hid (Below w.heap.size w wr) := Lib.hid (hb1.out.trans (hbr.out.mono hb1.out.size))
        have hend : Hid (∀ W d, W = wr.drewN d → Calls Tryd.prog 9 #[] W fun e w' => e = .returned (.bool true) ∧ Below w.heap.size w w') := Lib.hid (fun W d h => (haw.out W).mono fun e w' ⟨he, hb⟩ => ⟨he, by subst h; exact (below_drewN hbw.out d).trans (hb.mono hbw.out.size)⟩)
        rcases hF.out with ⟨hpe, hpa, hn⟩ | ⟨hpe, a, hpa, ha1, ha2, hn⟩
        · subst hpe hpa
          have hno := fun W => nothing_any (s.extract (endP 0 L) s.size) (by rw [ByteArray.size_extract]; omega) W
          rw [hn] at hno
          generalize endP 0 L = en at hE2 hno ⊢
          have n1 : (en : Int) ≤ (s.size : Int) := by omega
          replace hno := Lib.hid hno
          clear hn hF hE hT haw
          go_wp2_with fail
          refine (hno.out _).mono ?_
          rintro e w' ⟨rfl, hwq⟩
          obtain rfl := hwq.symm
          clear hno hwq
          go_wp2_with fail
          refine (hend.out _ 0 rfl).mono ?_
          rintro e w4 ⟨rfl, hb⟩
          replace hb := Lib.hid hb
          go_wp2
          go_ret
          exact ⟨rfl, hb.out⟩
        · subst hpe hpa
          have hno := fun W => nothing_any (s.extract (endP 0 L) a) (by rw [ByteArray.size_extract]; omega) W
          rw [hn] at hno
          generalize endP 0 L = en at hE2 hno ha1 ⊢
          have n1 : (en : Int) ≤ (a : Int) := by omega
          have n2 : (a : Int) < (s.size : Int) := by omega
          have n3 : (a : Int) ≤ (s.size : Int) := by omega
          replace hno := Lib.hid hno
          clear hn hF hE hT haw
          go_wp2_with fail
          refine (hno.out _).mono ?_
          rintro e w' ⟨rfl, hwq⟩
          obtain rfl := hwq.symm
          clear hno hwq
          go_wp2_with fail
          refine (hend.out _ 0 rfl).mono ?_
          rintro e w4 ⟨rfl, hb⟩
          replace hb := Lib.hid hb
          go_wp2
          go_ret
          exact ⟨rfl, hb.out⟩
end Go.Proofs.YtjeleebgifajkaaDoor
