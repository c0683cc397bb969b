/-
  The document's All and Reserved tell what All and Reserved tell. Conditions: none.
-/
import Derived.Deep.QuietTactic
import Derived.BigQuiet
import Derived.Test.YtjeleebgifajkaaDoorLxRefNext3
set_option linter.unusedSimpArgs false
set_option linter.unusedVariables false
namespace Go.Proofs.YtjeleebgifajkaaDoor
open Go Go.Shelf Go.RowKit Go.ChangeMaps

def wordsA : List ByteArray := [⟨#[105, 102]⟩, ⟨#[116, 104, 101, 110]⟩, ⟨#[101, 108, 115, 101]⟩, ⟨#[101, 108, 105, 102]⟩, ⟨#[102, 105]⟩, ⟨#[100, 111]⟩, ⟨#[100, 111, 110, 101]⟩, ⟨#[119, 104, 105, 108, 101]⟩, ⟨#[117, 110, 116, 105, 108]⟩, ⟨#[102, 111, 114]⟩, ⟨#[99, 97, 115, 101]⟩, ⟨#[101, 115, 97, 99]⟩, ⟨#[105, 110]⟩, ⟨#[123]⟩, ⟨#[125]⟩, ⟨#[33]⟩]
theorem wordsA_len : wordsA.length = 16 := rfl
theorem wordsA_bl : wordsA.map bl = wordsL := rfl
theorem infoRTok : (Tryd.prog.info? 28).map (fun i => (i.zero, i.size, i.bytes)) = some (some (.agg #[.int .i64 0, .string ⟨#[]⟩, .int .i64 0, .int .i64 0]), 4, 40) := by kernel_rfl
theorem chk_okR {s : ByteArray} {k : Nat} (h1 : s.size ≤ 4096) (h2 : k ≤ s.size) : chk s (k : Int) = 0 := by
  unfold chk; rw [if_neg (by omega), if_neg (by omega)]
theorem own_drewN {w : World} {base n m size : Nat} {e : TypeId} {v : Value} {xs : List Value} (h : w.ownsRow base e size v n xs) : (w.drewN m).ownsRow base e size v n xs :=
  h.kept (row := none) ⟨rfl, rfl, rfl, Nat.le_refl _, fun i hi _ => rfl⟩ (by cases hv : v.ownBlock <;> simp)
theorem seqF_cons (n : Nat) (l : List UInt8) (k : Nat) : seqF (n + 1) l k = if (nextP l k).1 = 5 then [nextP l k] else if (nextP l k).1 = 0 then [] else nextP l k :: seqF n l (nextP l k).2.2 := rfl
section
set_option maxRecDepth 100000
set_option maxHeartbeats 4000000
theorem rReserved_any (s : ByteArray) (w : World) :
    Calls Tryd.prog 18 #[.string s] w fun e w' => e = .returned (.bool (wordsL.contains (bl s))) ∧ Below w.heap.size w w' := by
  obtain ⟨R, hR⟩ : ∃ R : Bool, wordsL.contains (bl s) = R := ⟨_, rfl⟩
  rw [hR]
  have hnew := new_cells w #[.string ⟨#[105, 102]⟩, .string ⟨#[116, 104, 101, 110]⟩, .string ⟨#[101, 108, 115, 101]⟩, .string ⟨#[101, 108, 105, 102]⟩, .string ⟨#[102, 105]⟩, .string ⟨#[100, 111]⟩, .string ⟨#[100, 111, 110, 101]⟩, .string ⟨#[119, 104, 105, 108, 101]⟩, .string ⟨#[117, 110, 116, 105, 108]⟩, .string ⟨#[102, 111, 114]⟩, .string ⟨#[99, 97, 115, 101]⟩, .string ⟨#[101, 115, 97, 99]⟩, .string ⟨#[105, 110]⟩, .string ⟨#[123]⟩, .string ⟨#[125]⟩, .string ⟨#[33]⟩] 9
  have hb : Below w.heap.size w (w.alloc (.cells #[.string ⟨#[105, 102]⟩, .string ⟨#[116, 104, 101, 110]⟩, .string ⟨#[101, 108, 115, 101]⟩, .string ⟨#[101, 108, 105, 102]⟩, .string ⟨#[102, 105]⟩, .string ⟨#[100, 111]⟩, .string ⟨#[100, 111, 110, 101]⟩, .string ⟨#[119, 104, 105, 108, 101]⟩, .string ⟨#[117, 110, 116, 105, 108]⟩, .string ⟨#[102, 111, 114]⟩, .string ⟨#[99, 97, 115, 101]⟩, .string ⟨#[101, 115, 97, 99]⟩, .string ⟨#[105, 110]⟩, .string ⟨#[123]⟩, .string ⟨#[125]⟩, .string ⟨#[33]⟩] 9)) := (Below.refl _ w).alloc (Nat.le_refl _) _
  obtain ⟨w1, hw1⟩ : ∃ w1, w.alloc (.cells #[.string ⟨#[105, 102]⟩, .string ⟨#[116, 104, 101, 110]⟩, .string ⟨#[101, 108, 115, 101]⟩, .string ⟨#[101, 108, 105, 102]⟩, .string ⟨#[102, 105]⟩, .string ⟨#[100, 111]⟩, .string ⟨#[100, 111, 110, 101]⟩, .string ⟨#[119, 104, 105, 108, 101]⟩, .string ⟨#[117, 110, 116, 105, 108]⟩, .string ⟨#[102, 111, 114]⟩, .string ⟨#[99, 97, 115, 101]⟩, .string ⟨#[101, 115, 97, 99]⟩, .string ⟨#[105, 110]⟩, .string ⟨#[123]⟩, .string ⟨#[125]⟩, .string ⟨#[33]⟩] 9) = w1 := ⟨_, rfl⟩
  obtain ⟨z, hz⟩ : ∃ z, w.heap.size = z := ⟨_, rfl⟩
  rw [hz, hw1] at hnew
  rw [hw1] at hb
  have hcell : ∀ (j : Nat) (h : j < 16), w1.cell? ⟨z, j, none⟩ = some (.string (wordsA[j]'(by rw [wordsA_len]; exact h))) := by
    intro j h
    have := hnew j (.string (wordsA[j]'(by rw [wordsA_len]; exact h))) (by
      have : (#[.string ⟨#[105, 102]⟩, .string ⟨#[116, 104, 101, 110]⟩, .string ⟨#[101, 108, 115, 101]⟩, .string ⟨#[101, 108, 105, 102]⟩, .string ⟨#[102, 105]⟩, .string ⟨#[100, 111]⟩, .string ⟨#[100, 111, 110, 101]⟩, .string ⟨#[119, 104, 105, 108, 101]⟩, .string ⟨#[117, 110, 116, 105, 108]⟩, .string ⟨#[102, 111, 114]⟩, .string ⟨#[99, 97, 115, 101]⟩, .string ⟨#[101, 115, 97, 99]⟩, .string ⟨#[105, 110]⟩, .string ⟨#[123]⟩, .string ⟨#[125]⟩, .string ⟨#[33]⟩] : Array Value).toList = wordsA.map Value.string := rfl
      rw [this, List.getElem?_map, List.getElem?_eq_getElem (by rw [wordsA_len]; exact h)]; rfl)
    rwa [add_plain0, Nat.zero_add] at this
  replace hR := Lib.hid hR
  replace hcell := Lib.hid hcell
  replace hb := Lib.hid hb
  clear hnew
  go_enter Tryd.func18, Tryd.ntmps18
  go_upto_region 2 with fail
  try rw [hz]
  try rw [hw1]
  clear hw1
  replace hz := Lib.hid hz
  go_wp2
  go_loopw [4] (fun iv wr => ∃ j : Nat, j ≤ 16 ∧ iv = .int .i64 (j : Int) ∧ Hid (∀ i, i < j → wordsL[i]? ≠ some (bl s)) ∧ Hid (wr = w1)) (fun iv _ => 16 - (intOf iv).toNat)
  case atStart => exact ⟨0, by omega, rfl, Lib.hid (fun i h => absurd h (Nat.not_lt_zero _)), Lib.hid rfl⟩
  case round =>
    obtain ⟨j, hj, rfl, hno, hw⟩ := hrel
    obtain rfl := hw.out
    clear hw
    by_cases hlt : j < 16
    · have hli : (j : Int) < 16 := by omega
      have hc := hcell.out j hlt
      have hoj : wordsL[j]? = some (bl (wordsA[j]'(by rw [wordsA_len]; exact hlt))) := by rw [← wordsA_bl, List.getElem?_map, List.getElem?_eq_getElem (by rw [wordsA_len]; exact hlt)]; rfl
      generalize wordsA[j]'(by rw [wordsA_len]; exact hlt) = t at hc hoj
      by_cases hB : bl t = bl s
      · have hRR : Hid (R = true) := Lib.hid (by
          rw [← hR.out, List.contains_iff_mem, ← hB]
          exact List.mem_of_getElem? hoj)
        have hcmp : (t.toList == s.toList) = true := by rw [ByteArray.toList_eq, ByteArray.toList_eq]; exact beq_iff_eq.2 hB
        clear hB hno hoj hR hcell
        go_wp2
        go_ret
        exact ⟨by rw [hRR.out]; rfl, by rw [hz.out]; exact hz.out ▸ hb.out⟩
      · have hcmp : (t.toList == s.toList) = false := by rw [ByteArray.toList_eq, ByteArray.toList_eq]; exact beq_eq_false_iff_ne.2 hB
        have hno2 : Hid (∀ i, i < j + 1 → wordsL[i]? ≠ some (bl s)) := Lib.hid (fun i hi2 => by
          by_cases e : i = j
          · subst e; rw [hoj]; exact fun h => hB (Option.some.inj h)
          · exact hno.out i (by omega))
        clear hB hno hoj
        go_wp2
        go_roundw
        case rel => exact ⟨j + 1, by omega, by go_num, hno2, Lib.hid (by trivial)⟩
        case measure => simp [intOf]; omega
    · obtain rfl : j = 16 := by omega
      have hRR : Hid (R = false) := Lib.hid (by
        rw [← hR.out, ← Bool.not_eq_true, List.contains_iff_mem]
        intro hm
        obtain ⟨i, hi, he⟩ := List.getElem_of_mem hm
        exact hno.out i hi (by rw [List.getElem?_eq_getElem hi, he]))
      clear hno hR hcell
      go_wp2
      go_ret
      exact ⟨by rw [hRR.out]; rfl, by rw [hz.out]; exact hz.out ▸ hb.out⟩

theorem rall_main (s : ByteArray) (hs : s.size ≤ 4096) (w : World) :
    Calls Tryd.prog 16 #[.string s] w fun e w' => ∃ v, e = .returned (.tuple #[v, .int .i64 (allP s).2.1, .int .i64 (allP s).2.2]) ∧ Below w.heap.size w w' ∧
      w'.ownsRow w.heap.size 28 4 v (allP s).1.length (cellsTk s (allP s).1) := by
  obtain ⟨P, hP0⟩ : ∃ P, allP s = P := ⟨_, rfl⟩
  rw [hP0]
  obtain ⟨P1, P2, P3⟩ := P
  dsimp only
  replace hP0 := Lib.hid hP0
  obtain ⟨i0, hi, hz0, hz1, hz2⟩ := info_parts infoRTok
  have hn := fun k (hk : k ≤ s.size) W => rnext_any s k hk hs (chk_okR hs hk) W
  replace hn := Lib.hid hn
  obtain ⟨B, hB⟩ : ∃ B, w.heap.size = B := ⟨_, rfl⟩
  rw [hB]
  have hown0 : w.ownsRow B 28 4 (.slice none 0 0) 0 [] := World.ownsRow_nil _ _ _ _
  have hb0 : Below B w w := Below.refl _ _
  have hB0 : B ≤ w.heap.size := by omega
  replace hown0 := Lib.hid hown0
  replace hb0 := Lib.hid hb0
  replace hB0 := Lib.hid hB0
  replace hB := Lib.hid hB
  go_enter Tryd.func16, Tryd.ntmps16
  go_wp2
  go_loopw [5, 6] (fun ov iv wr => ∃ (k n : Nat) (pre : List Tk) (A : Option Addr) (K c : Nat), k ≤ s.size ∧ iv = .int .i64 (k : Int) ∧ ov = .slice A K c ∧ Hid (wr.ownsRow B 28 4 (.slice A K c) pre.length (cellsTk s pre)) ∧ Hid (∀ t ∈ pre, t.1 ≠ 5) ∧ Hid (pre.length ≤ k) ∧ Hid (s.size - k < n) ∧ Hid (seqL s = pre ++ seqF n (bl s) k) ∧ Hid (Below B w wr) ∧ Hid (B ≤ wr.heap.size)) (fun _ iv _ => s.size - (intOf iv).toNat)
  case atStart => exact ⟨0, s.size + 1, [], none, 0, 0, Nat.zero_le _, rfl, rfl, hown0, Lib.hid (fun t h => by cases h), Lib.hid (Nat.le_refl _), Lib.hid (by omega), Lib.hid rfl, hb0, hB0⟩
  case round =>
    obtain ⟨k, n, pre, vA, vK, vc, hk, rfl, rfl, hown, hpre, hpl, hnk, hseq, hbel, hBs⟩ := hrel
    obtain ⟨m, rfl⟩ : ∃ m, n = m + 1 := ⟨n - 1, by have := hnk.out; omega⟩
    have hsq := hseq.out
    rw [seqF_cons] at hsq
    have hnx := hn.out k hk wr
    have hle := nextP_le (bl s) k (by rw [bl_len]; exact hk)
    rw [bl_len] at hle
    have hpl2 := hpl.out
    have hnk2 := hnk.out
    clear hseq hown0 hb0 hB0 hn
    generalize nextP (bl s) k = T at hsq hnx hle
    by_cases h5 : T.1 = 5
    · have e1 : tokE s T = .agg #[.int .i64 0, .string ⟨#[]⟩, .int .i64 (T.2.1 : Int), .int .i64 0] := by unfold tokE; rw [if_pos h5]
      have e2 : errE T = 30 := by unfold errE; rw [if_pos h5]
      rw [if_pos h5] at hsq
      have hP := all_err (s := s) (pre := pre) (t := T) (rest := []) hs (by rw [List.append_nil]; exact hsq) hpre.out h5 rfl
      rw [e1, e2] at hnx
      have hPe := hP0.out.symm.trans hP
      have hp1 : Hid (P1 = pre) := Lib.hid (congrArg (fun x => x.1) hPe)
      have hp2 : Hid (P2 = (T.2.1 : Int)) := Lib.hid (congrArg (fun x => x.2.1) hPe)
      have hp3 : Hid (P3 = 30) := Lib.hid (congrArg (fun x => x.2.2) hPe)
      clear hPe hP0
      replace hnx := Lib.hid hnx
      clear hsq hP h5 e1 e2 hle
      go_wp2_with fail
      refine hnx.out.mono ?_
      rintro e w2 ⟨rfl, hb2⟩
      have bz := Blk.new w2 [.int .i64 0, .string ⟨#[]⟩, .int .i64 (T.2.1 : Int), .int .i64 0] 28
      have hbA : Below B w (w2.alloc (.cells #[.int .i64 0, .string ⟨#[]⟩, .int .i64 (T.2.1 : Int), .int .i64 0] 28)) := (hbel.out.trans (hb2.mono hBs.out)).alloc (Nat.le_trans hBs.out hb2.size) _
      have hsA : B ≤ (w2.alloc (.cells #[.int .i64 0, .string ⟨#[]⟩, .int .i64 (T.2.1 : Int), .int .i64 0] 28)).heap.size := Nat.le_trans hBs.out (Nat.le_trans hb2.size (by simp))
      have hwA := (own_below hown.out hb2).alloc (.cells #[.int .i64 0, .string ⟨#[]⟩, .int .i64 (T.2.1 : Int), .int .i64 0] 28)
      obtain ⟨z, hz⟩ : ∃ z, w2.heap.size = z := ⟨_, rfl⟩
      have hzr : ∀ g, (Value.slice vA vK vc).ownBlock = some g → g ≠ z := fun g hg => by have := ((own_below hown.out hb2).lt g hg).2; omega
      rw [hz] at bz
      replace bz := Lib.hid bz
      replace hbA := Lib.hid hbA
      replace hsA := Lib.hid hsA
      replace hwA := Lib.hid hwA
      replace hzr := Lib.hid hzr
      clear hnx hb2 hown hbel hBs
      go_upto_region 4 with fail
      try rw [hz]
      generalize (w2.alloc (.cells #[.int .i64 0, .string ⟨#[]⟩, .int .i64 (T.2.1 : Int), .int .i64 0] 28)) = wA at bz hbA hsA hwA ⊢
      clear hz
      have p2 := bz.out.cell (i := 2) rfl
      go_wp2
      go_quiet (fail)
      go_wp2
      exact bodyPost_ret (v := .tuple #[.slice vA vK vc, .int .i64 (T.2.1 : Int), .int .i64 30]) (by simp [results, Tryd.results16, go_sem]) rfl ⟨.slice vA vK vc, by rw [hp2.out, hp3.out], below_drewN hbA.out _, by rw [hp1.out]; exact own_drewN hwA.out⟩
    · have e1 : tokE s T = .agg #[.int .i64 (T.1 : Int), .string (s.extract T.2.1 T.2.2), .int .i64 (T.2.1 : Int), .int .i64 (T.2.2 : Int)] := by rw [tokE_ne s h5]; rfl
      have e2 : errE T = 0 := by unfold errE; rw [if_neg h5]
      rw [if_neg h5] at hsq
      rw [e1, e2] at hnx
      replace hnx := Lib.hid hnx
      by_cases h0 : T.1 = 0
      · rw [if_pos h0, List.append_nil] at hsq
        have hP := all_ok hs hsq hpre.out
        have hPe := hP0.out.symm.trans hP
        have hp1 : Hid (P1 = pre) := Lib.hid (congrArg (fun x => x.1) hPe)
        have hp2 : Hid (P2 = 0) := Lib.hid (congrArg (fun x => x.2.1) hPe)
        have hp3 : Hid (P3 = 0) := Lib.hid (congrArg (fun x => x.2.2) hPe)
        clear hPe hP0
        have h0i : (T.1 : Int) = 0 := by omega
        rw [h0i] at hnx
        clear hsq hP h5 e1 e2 hle h0 h0i
        go_wp2_with fail
        refine hnx.out.mono ?_
        rintro e w2 ⟨rfl, hb2⟩
        have bz := Blk.new w2 [.int .i64 0, .string (s.extract T.2.1 T.2.2), .int .i64 (T.2.1 : Int), .int .i64 (T.2.2 : Int)] 28
        have hbA : Below B w (w2.alloc (.cells #[.int .i64 0, .string (s.extract T.2.1 T.2.2), .int .i64 (T.2.1 : Int), .int .i64 (T.2.2 : Int)] 28)) := (hbel.out.trans (hb2.mono hBs.out)).alloc (Nat.le_trans hBs.out hb2.size) _
        have hsA : B ≤ (w2.alloc (.cells #[.int .i64 0, .string (s.extract T.2.1 T.2.2), .int .i64 (T.2.1 : Int), .int .i64 (T.2.2 : Int)] 28)).heap.size := Nat.le_trans hBs.out (Nat.le_trans hb2.size (by simp))
        have hwA := (own_below hown.out hb2).alloc (.cells #[.int .i64 0, .string (s.extract T.2.1 T.2.2), .int .i64 (T.2.1 : Int), .int .i64 (T.2.2 : Int)] 28)
        obtain ⟨z, hz⟩ : ∃ z, w2.heap.size = z := ⟨_, rfl⟩
        have hzr : ∀ g, (Value.slice vA vK vc).ownBlock = some g → g ≠ z := fun g hg => by have := ((own_below hown.out hb2).lt g hg).2; omega
        rw [hz] at bz
        replace bz := Lib.hid bz
        replace hbA := Lib.hid hbA
        replace hsA := Lib.hid hsA
        replace hwA := Lib.hid hwA
        replace hzr := Lib.hid hzr
        clear hnx hb2 hown hbel hBs
        go_upto_region 4 with fail
        try rw [hz]
        generalize (w2.alloc (.cells #[.int .i64 0, .string (s.extract T.2.1 T.2.2), .int .i64 (T.2.1 : Int), .int .i64 (T.2.2 : Int)] 28)) = wA at bz hbA hsA hwA ⊢
        clear hz
        have p0 := bz.out.cell (i := 0) rfl
        go_wp2
        exact bodyPost_ret (v := .tuple #[.slice vA vK vc, .int .i64 0, .int .i64 0]) (by simp [results, Tryd.results16, go_sem]) rfl ⟨.slice vA vK vc, by rw [hp2.out, hp3.out], hbA.out, by rw [hp1.out]; exact hwA.out⟩
      · rw [if_neg h0] at hsq
        obtain ⟨q1, q2, q3, q4, _⟩ := hle
        have q5 := q4 h0 h5
        have h0i : ¬ (T.1 : Int) = 0 := by omega
        have hsq2 : Hid (seqL s = (pre ++ [T]) ++ seqF m (bl s) T.2.2) := Lib.hid (by rw [List.append_assoc]; exact hsq)
        have hpre2 : Hid (∀ t ∈ pre ++ [T], t.1 ≠ 5) := Lib.hid (fun t ht => by
          rcases List.mem_append.1 ht with ht | ht
          · exact hpre.out t ht
          · simp at ht; subst ht; exact h5)
        have hnk3 : Hid (s.size - T.2.2 < m) := Lib.hid (by omega)
        have hpl3 : Hid ((pre ++ [T]).length ≤ T.2.2) := Lib.hid (by rw [List.length_append, List.length_singleton]; omega)
        clear hsq e1 e2 hpre h5 h0 q4
        obtain ⟨t1, t2, t3⟩ := T
        dsimp only at *
        go_wp2_with fail
        refine hnx.out.mono ?_
        rintro e w2 ⟨rfl, hb2⟩
        have bz := Blk.new w2 [.int .i64 (t1 : Int), .string (s.extract t2 t3), .int .i64 (t2 : Int), .int .i64 (t3 : Int)] 28
        have hbA : Below B w (w2.alloc (.cells #[.int .i64 (t1 : Int), .string (s.extract t2 t3), .int .i64 (t2 : Int), .int .i64 (t3 : Int)] 28)) := (hbel.out.trans (hb2.mono hBs.out)).alloc (Nat.le_trans hBs.out hb2.size) _
        have hsA : B ≤ (w2.alloc (.cells #[.int .i64 (t1 : Int), .string (s.extract t2 t3), .int .i64 (t2 : Int), .int .i64 (t3 : Int)] 28)).heap.size := Nat.le_trans hBs.out (Nat.le_trans hb2.size (by simp))
        have hwA := (own_below hown.out hb2).alloc (.cells #[.int .i64 (t1 : Int), .string (s.extract t2 t3), .int .i64 (t2 : Int), .int .i64 (t3 : Int)] 28)
        obtain ⟨z, hz⟩ : ∃ z, w2.heap.size = z := ⟨_, rfl⟩
        have hzr : ∀ g, (Value.slice vA vK vc).ownBlock = some g → g ≠ z := fun g hg => by have := ((own_below hown.out hb2).lt g hg).2; omega
        rw [hz] at bz
        replace bz := Lib.hid bz
        replace hbA := Lib.hid hbA
        replace hsA := Lib.hid hsA
        replace hwA := Lib.hid hwA
        replace hzr := Lib.hid hzr
        clear hnx hb2 hown hbel hBs
        go_upto_region 4 with fail
        try rw [hz]
        generalize (w2.alloc (.cells #[.int .i64 (t1 : Int), .string (s.extract t2 t3), .int .i64 (t2 : Int), .int .i64 (t3 : Int)] 28)) = wA at bz hbA hsA hwA ⊢
        clear hz
        have p0 := bz.out.cell (i := 0) rfl
        have p1 := bz.out.cell (i := 1) rfl
        have p2 := bz.out.cell (i := 2) rfl
        have p3 := bz.out.cell (i := 3) rfl
        go_wp2_with (at_builtin; refine wpList_append_own _ rfl _ _ 38 rfl B 28 i0 _ 4 40 Tryd.underlying38 hi hz0 hz1 hz2 rfl (by decide) _ _ _ rfl (hwA.out.alloc _) ⟨wA.heap.size, 0, none⟩ 1 1 [.int .i64 (t1 : Int), .string (s.extract t2 t3), .int .i64 (t2 : Int), .int .i64 (t3 : Int)] rfl ?qc1 ?qc2 ?qc3 ?qc4 ?qc5 ?qc6 ?_)
        case qc1 => rfl
        case qc2 => exact new_cells wA _ _
        case qc3 => intro u hu; simp at hu; rcases hu with rfl | rfl | rfl | rfl <;> rfl
        case qc4 => simp only [maxLen]; omega
        case qc5 => omega
        case qc6 => have := hsA.out; simp; omega
        intro v2 w4 hown2 hgrow _
        obtain ⟨g', cap', rfl⟩ := ownsRow_succ hown2
        have hbF : Hid (Below B w w4) := Lib.hid ((hbA.out.alloc hsA.out _).grown hgrow (by simp; have := hsA.out; omega) (fun g h => (hwA.out.lt g h).1))
        have hsF : Hid (B ≤ w4.heap.size) := Lib.hid (Nat.le_trans hsA.out (Nat.le_trans (by simp) hgrow.size))
        have hownF : Hid (w4.ownsRow B 28 4 (.slice (some ⟨g', 0, none⟩) (pre.length + 1) cap') (pre ++ [(t1, t2, t3)]).length (cellsTk s (pre ++ [(t1, t2, t3)]))) := Lib.hid (by rw [cellsTk_app, cellsTk_one, List.length_append]; exact hown2)
        have hz4 : Hid (Blk w4 z _ _) := Lib.hid ((hgrow.block z (Nat.lt_of_lt_of_le bz.out.lt (by simp)) (fun e => hzr.out z e.symm rfl)).trans (bz.out.alloc _))
        have r3 := hz4.out.cell (i := 3) rfl
        clear p0 p1 p2 p3 bz
        clear hown2 hgrow hbA hsA hwA
        go_wp2
        go_roundw
        case rel => exact ⟨t3, m, pre ++ [(t1, t2, t3)], _, _, _, q3, by go_num, rfl, hownF, hpre2, hpl3, hnk3, hsq2, hbF, hsF⟩
        case measure => simp [intOf]; omega
theorem rAll_any (s : ByteArray) (w : World) :
    Calls Tryd.prog 16 #[.string s] w fun e w' => ∃ v, e = .returned (.tuple #[v, .int .i64 (allP s).2.1, .int .i64 (allP s).2.2]) ∧ Below w.heap.size w w' ∧
      w'.ownsRow w.heap.size 28 4 v (allP s).1.length (cellsTk s (allP s).1) := by
  by_cases hs : s.size ≤ 4096
  · exact rall_main s hs w
  · have hck := fun W => rNext_any s 0 W
    have hc0 : chk s 0 = 21 := by unfold chk; rw [if_pos (by omega)]
    have hP : allP s = ([], 0, 21) := by unfold allP; rw [if_pos (by omega)]
    have hv : nextV s 0 = .tuple #[.agg #[.int .i64 0, .string ⟨#[]⟩, .int .i64 0, .int .i64 0], .int .i64 21] := by unfold nextV; rw [hc0, if_pos (by decide)]
    rw [hv] at hck
    rw [hP]
    replace hck := Lib.hid hck
    clear hP hc0 hv
    obtain ⟨B, hB⟩ : ∃ B, w.heap.size = B := ⟨_, rfl⟩
    rw [hB]
    replace hB := Lib.hid hB
    go_enter Tryd.func16, Tryd.ntmps16
    go_wp2
    go_loopw [5, 6] (fun ov iv wr => ov = .slice none 0 0 ∧ iv = .int .i64 0 ∧ Hid (wr = w)) (fun _ iv _ => 0)
    case atStart => exact ⟨rfl, rfl, Lib.hid rfl⟩
    case round =>
      obtain ⟨rfl, rfl, hw⟩ := hrel
      obtain rfl := hw.out
      clear hw
      have hown : Hid (wr.ownsRow B 28 4 (.slice none 0 0) 0 []) := Lib.hid (World.ownsRow_nil _ _ _ _)
      have hbel : Hid (Below B wr wr) := Lib.hid (Below.refl _ _)
      have hBs : Hid (B ≤ wr.heap.size) := Lib.hid (by have := hB.out; omega)
      go_wp2_with fail
      refine (hck.out _).mono ?_
      rintro e w2 ⟨rfl, hb2⟩
      have bz := Blk.new w2 [.int .i64 0, .string ⟨#[]⟩, .int .i64 0, .int .i64 0] 28
      have hbA : Below B wr (w2.alloc (.cells #[.int .i64 0, .string ⟨#[]⟩, .int .i64 0, .int .i64 0] 28)) := (hbel.out.trans (hb2.mono hBs.out)).alloc (Nat.le_trans hBs.out hb2.size) _
      have hsA : B ≤ (w2.alloc (.cells #[.int .i64 0, .string ⟨#[]⟩, .int .i64 0, .int .i64 0] 28)).heap.size := Nat.le_trans hBs.out (Nat.le_trans hb2.size (by simp))
      have hwA := (own_below hown.out hb2).alloc (.cells #[.int .i64 0, .string ⟨#[]⟩, .int .i64 0, .int .i64 0] 28)
      obtain ⟨z, hz⟩ : ∃ z, w2.heap.size = z := ⟨_, rfl⟩
      have hzr : ∀ g, (Value.slice none 0 0).ownBlock = some g → g ≠ z := fun g hg => by have := ((own_below hown.out hb2).lt g hg).2; omega
      rw [hz] at bz
      replace bz := Lib.hid bz
      replace hbA := Lib.hid hbA
      replace hsA := Lib.hid hsA
      replace hwA := Lib.hid hwA
      replace hzr := Lib.hid hzr
      clear hb2 hown hbel hBs
      go_upto_region 4 with fail
      try rw [hz]
      generalize (w2.alloc (.cells #[.int .i64 0, .string ⟨#[]⟩, .int .i64 0, .int .i64 0] 28)) = wA at bz hbA hsA hwA ⊢
      clear hz
      have p2 := bz.out.cell (i := 2) rfl
      go_wp2
      go_quiet (fail)
      go_wp2
      exact bodyPost_ret (v := .tuple #[.slice none 0 0, .int .i64 0, .int .i64 21]) (by simp [results, Tryd.results16, go_sem]) rfl ⟨_, rfl, below_drewN hbA.out _, own_drewN hwA.out⟩
end
end Go.Proofs.YtjeleebgifajkaaDoor
