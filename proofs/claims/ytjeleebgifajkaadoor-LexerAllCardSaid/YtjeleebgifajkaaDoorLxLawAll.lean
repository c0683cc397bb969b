/-
  The walk of LexerAll: it answers true and leaves what was there. Conditions: none.
-/
import Derived.Deep.RegionHeld3
import Derived.Test.YtjeleebgifajkaaDoorLxRefAll
set_option linter.unusedSimpArgs false
set_option linter.unusedVariables false
namespace Go.Proofs.YtjeleebgifajkaaDoor
open Go Go.RowKit

theorem cells_at {s : ByteArray} {L : List Tk} {i : Nat} (hil : i < L.length) {j : Nat} {u : Value} (hu : (cellTk s L[i])[j]? = some u) : (cellsTk s L)[i * 4 + j]? = some u := by
  have hd : (cellsTk s L).drop (i * 4) = cellsTk s (L.drop i) := by
    have : ∀ (l : List Tk) (n : Nat), (cellsTk s l).drop (n * 4) = cellsTk s (l.drop n) := by
      intro l
      induction l with
      | nil => intro n; simp [cellsTk]
      | cons a l ih =>
        intro n
        cases n with
        | zero => simp
        | succ n =>
          have e : (n + 1) * 4 = n * 4 + 1 + 1 + 1 + 1 := by omega
          simp only [cellsTk, List.flatMap_cons, cellTk, e, List.cons_append, List.nil_append, List.drop_succ_cons] at ih ⊢
          exact ih n
    exact this L i
  have : (cellsTk s L)[i * 4 + j]? = ((cellsTk s L).drop (i * 4))[j]? := by rw [List.getElem?_drop]
  rw [this, hd, List.drop_eq_getElem_cons hil, cellsTk, List.flatMap_cons]
  rw [List.getElem?_append_left (List.getElem?_eq_some_iff.1 hu).1]
  exact hu
theorem slice_form {w : World} {base size n : Nat} {e : TypeId} {v : Value} {xs : List Value} (row : w.ownsRow base e size v n xs) : ∃ A c, v = .slice A n c ∧ (0 < n → ∃ g, A = some ⟨g, 0, none⟩) ∧ n ≤ maxLen := by
  have hf : ∃ A c, v = .slice A n c ∧ (0 < n → ∃ g, A = some ⟨g, 0, none⟩) := by
    rcases row.2 with ⟨rfl, h0⟩ | ⟨g, cap, _, rfl, _⟩
    · exact ⟨_, _, by rw [h0], fun h => by omega⟩
    · exact ⟨_, _, rfl, fun _ => ⟨g, rfl⟩⟩
  obtain ⟨A, c, rfl, h⟩ := hf
  refine ⟨A, c, rfl, h, ?_⟩
  obtain ⟨A2, c2, hv2, k1, k2, _⟩ := Sl.of_own row
  injection hv2 with _ _ e3
  omega
set_option maxHeartbeats 8000000 in
set_option maxRecDepth 100000 in
theorem lawAll_any (s : ByteArray) (w : World) :
    Calls Tryd.prog 4 #[.string s] w fun e w' => e = .returned (.bool true) ∧ Below w.heap.size w w' := by
  have haw := fun W => awake_any W
  replace haw := Lib.hid haw
  by_cases g1 : (1000 : Int) < (s.size : Int) ∧ (s.size : Int) ≤ 4096
  · obtain ⟨g1, g2⟩ := g1
    go_enter Tryd.func4, Tryd.ntmps4
    go_wp2_with fail
    refine (haw.out _).mono ?_
    rintro e w' ⟨rfl, hb⟩
    replace hb := Lib.hid hb
    go_wp2
    go_ret
    exact ⟨rfl, hb.out⟩
  · have g4 : ¬ (1000 : Int) < (s.size : Int) ∨ (1000 : Int) < (s.size : Int) ∧ ¬ (s.size : Int) ≤ 4096 := by omega
    have h1 := fun W => All_any s W
    have h2 := fun W => rAll_any s W
    generalize allP s = P at h1 h2
    obtain ⟨L, pa, pe⟩ := P
    dsimp only at h1 h2
    replace h1 := Lib.hid h1
    replace h2 := Lib.hid h2
    clear g1
    rcases g4 with g4 | ⟨g4, g5⟩
    all_goals (
      go_enter Tryd.func4, Tryd.ntmps4
      go_wp2_with fail
      refine (h1.out _).mono ?_
      rintro e w1 ⟨v1, rfl, hb1, row1⟩
      obtain ⟨A1, c1, rfl, hK1, hmax⟩ := slice_form row1
      replace hb1 := Lib.hid hb1
      replace row1 := Lib.hid row1
      replace hK1 := Lib.hid hK1
      clear h1
      go_wp2_with fail
      refine (h2.out _).mono ?_
      rintro e w2 ⟨v2, rfl, hb2, row2⟩
      obtain ⟨A2, c2, rfl, hK2, _⟩ := slice_form row2
      have hrow1 := fun W (h : Below w2.heap.size w2 W) => own_below (own_below row1.out hb2) h
      have hrow2 := fun W (h : Below w2.heap.size w2 W) => own_below row2 h
      have hbA : Hid (Below w.heap.size w w2) := Lib.hid (hb1.out.trans (hb2.mono hb1.out.size))
      replace hrow1 := Lib.hid hrow1
      replace hrow2 := Lib.hid hrow2
      replace hK2 := Lib.hid hK2
      clear h2 hb1 hb2 row1 row2
      unfold maxLen at hmax
      obtain ⟨K, hK⟩ : ∃ K, L.length = K := ⟨_, rfl⟩
      rw [hK] at hrow1 hrow2 hK1 hK2 hmax ⊢
      replace hK := Lib.hid hK
      go_wp2
      go_loopw [9] (fun iv wr => ∃ i : Nat, i ≤ K ∧ iv = .int .i64 (i : Int) ∧ Hid (Below w2.heap.size w2 wr)) (fun iv _ => K - (intOf iv).toNat)
      case atStart => exact ⟨0, Nat.zero_le _, rfl, Lib.hid (Below.refl _ _)⟩
      case round =>
        obtain ⟨i, hi, rfl, hbr⟩ := hrel
        by_cases hlt : i < K
        · have hli : (i : Int) < (K : Int) := by omega
          have hil : i < L.length := by rw [hK.out]; exact hlt
          obtain ⟨ga, rfl⟩ := hK1.out (by omega)
          obtain ⟨gb, rfl⟩ := hK2.out (by omega)
          have hcl1 : ∀ W, Below w2.heap.size w2 W → ∀ j u, (cellTk s L[i])[j]? = some u → W.cell? ⟨ga, i * 4 + j, none⟩ = some u := by
            intro W hW j u hu
            have := (hrow1.out W hW).cells (g := ga) rfl (i * 4 + j) u (cells_at hil hu)
            rwa [add_plain0, Nat.zero_add] at this
          have hcl2 : ∀ W, Below w2.heap.size w2 W → ∀ j u, (cellTk s L[i])[j]? = some u → W.cell? ⟨gb, i * 4 + j, none⟩ = some u := by
            intro W hW j u hu
            have := (hrow2.out W hW).cells (g := gb) rfl (i * 4 + j) u (cells_at hil hu)
            rwa [add_plain0, Nat.zero_add] at this
          generalize L[i] = x at hcl1 hcl2
          obtain ⟨x1, xb, xc⟩ := x
          unfold cellTk at hcl1 hcl2
          dsimp only at hcl1 hcl2
          have hr1 := fun W => Reserved_any (s.extract xb xc) W
          have hr2 := fun W => rReserved_any (s.extract xb xc) W
          generalize wordsL.contains (bl (s.extract xb xc)) = rb at hr1 hr2
          generalize s.extract xb xc = tx at hcl1 hcl2 hr1 hr2
          have hsm := fun W => same_any (x1 : Int) (xb : Int) (xc : Int) tx W
          have hkp : ∀ W, Below w2.heap.size w2 W → (W.cell? ⟨ga, i * 4, none⟩ = some (.int .i64 (x1 : Int)) ∧ W.cell? ⟨ga, i * 4 + 1, none⟩ = some (.string tx) ∧ W.cell? ⟨ga, i * 4 + 2, none⟩ = some (.int .i64 (xb : Int)) ∧ W.cell? ⟨ga, i * 4 + 3, none⟩ = some (.int .i64 (xc : Int)) ∧
              W.cell? ⟨gb, i * 4, none⟩ = some (.int .i64 (x1 : Int)) ∧ W.cell? ⟨gb, i * 4 + 1, none⟩ = some (.string tx) ∧ W.cell? ⟨gb, i * 4 + 2, none⟩ = some (.int .i64 (xb : Int)) ∧ W.cell? ⟨gb, i * 4 + 3, none⟩ = some (.int .i64 (xc : Int))) := fun W hW =>
            ⟨hcl1 W hW 0 _ rfl, hcl1 W hW 1 _ rfl, hcl1 W hW 2 _ rfl, hcl1 W hW 3 _ rfl, hcl2 W hW 0 _ rfl, hcl2 W hW 1 _ rfl, hcl2 W hW 2 _ rfl, hcl2 W hW 3 _ rfl⟩
          have hst1 : ∀ n W, Below (wr.drewN n).heap.size (wr.drewN n) W → Below w2.heap.size w2 W := fun n W h => hbr.out.trans (Below.mono (B := wr.heap.size) ⟨h.os, h.tape, h.output, h.size, h.block⟩ hbr.out.size)
          have hst2 : ∀ W W', Below w2.heap.size w2 W → Below W.heap.size W W' → Below w2.heap.size w2 W' := fun W W' h1 h2 => h1.trans (h2.mono h1.size)
          obtain ⟨c10, c11, c12, c13, c20, c21, c22, c23⟩ := hkp wr hbr.out
          replace hkp := Lib.hid hkp
          replace hst1 := Lib.hid hst1
          replace hst2 := Lib.hid hst2
          replace hr1 := Lib.hid hr1
          replace hr2 := Lib.hid hr2
          replace hsm := Lib.hid hsm
          clear hcl1 hcl2
          go_upto_region 10 with fail
          go_region_held3 (fun w' => w'.cell? ⟨ga, i * 4, none⟩ = some (.int .i64 (x1 : Int)) ∧ w'.cell? ⟨ga, i * 4 + 1, none⟩ = some (.string tx) ∧ w'.cell? ⟨ga, i * 4 + 2, none⟩ = some (.int .i64 (xb : Int)) ∧ w'.cell? ⟨ga, i * 4 + 3, none⟩ = some (.int .i64 (xc : Int)) ∧
              w'.cell? ⟨gb, i * 4, none⟩ = some (.int .i64 (x1 : Int)) ∧ w'.cell? ⟨gb, i * 4 + 1, none⟩ = some (.string tx) ∧ w'.cell? ⟨gb, i * 4 + 2, none⟩ = some (.int .i64 (xb : Int)) ∧ w'.cell? ⟨gb, i * 4 + 3, none⟩ = some (.int .i64 (xc : Int)))
            (first | go_keep | exact hk)
            ((first
              | (go_at_call 14; refine (hsm.out _).mono ?_; rintro e w5 ⟨rfl, hb5⟩; have hI := hst1.out _ w5 hb5; have hk := hkp.out w5 hI)
              | (go_at_call 17; refine (hr1.out _).mono ?_; rintro e w6 ⟨rfl, hwq⟩; obtain rfl := hwq.symm)
              | (go_at_call 18; refine (hr2.out _).mono ?_; rintro e w7 ⟨rfl, hb7⟩; have hI := hst2.out _ w7 hI hb7; have hk := hkp.out w7 hI)))
          replace hI := Lib.hid hI
          clear hkp hst1 hst2 hr1 hr2 hsm hk c10 c11 c12 c13 c20 c21 c22 c23
          go_wp2
          go_roundw
          case rel => exact ⟨i + 1, by omega, by go_num, hI⟩
          case measure => simp [intOf]; omega
        · obtain rfl : i = K := by omega
          have hli : ¬ (i : Int) < (i : Int) := by omega
          go_wp2_with fail
          refine (haw.out _).mono ?_
          rintro e w9 ⟨rfl, hb9⟩
          have hbE : Hid (Below w.heap.size w w9) := Lib.hid (hbA.out.trans ((hbr.out.trans (hb9.mono hbr.out.size)).mono hbA.out.size))
          go_wp2
          go_ret
          exact ⟨rfl, hbE.out⟩)
end Go.Proofs.YtjeleebgifajkaaDoor
