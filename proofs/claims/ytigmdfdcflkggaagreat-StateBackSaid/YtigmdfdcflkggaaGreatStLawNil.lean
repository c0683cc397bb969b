/-
  The walk of StateNil: it answers true and leaves what was there. Conditions: none.
-/
import Derived.Test.YtigmdfdcflkggaaGreatStAwake
import Derived.Test.YtigmdfdcflkggaaGreatStNil3
import Derived.Test.YtigmdfdcflkggaaGreatStFew
set_option linter.unusedSimpArgs false
set_option linter.unusedVariables false
namespace Go.Proofs.YtigmdfdcflkggaaGreat
open Go Go.RowKit Go.ChangeMaps

theorem txs_of_own {w : World} {base : Nat} {v : Value} {l : List ByteArray} {m : Nat} (hm : l.length = m) (h : w.ownsRow base 9 1 v m (l.map .string)) : ∃ A c, v = .slice A m c ∧ Txs w A m c l := by
  obtain ⟨A, c, rfl, h1, h2⟩ := own_form h
  refine ⟨A, c, rfl, hm, h1, h2, fun hn => ?_⟩
  rcases h.2 with ⟨_, h0⟩ | ⟨g, cap, _, e, _⟩
  · omega
  · injection e with e1 e2 e3
    subst e1 e3
    refine ⟨g, 0, rfl, (h.lt g rfl).2, fun j x hx => ?_⟩
    have := h.cells (g := g) rfl j (.string x) (by rw [List.getElem?_map, hx]; rfl)
    rwa [add_plain0] at this
set_option maxHeartbeats 4000000 in
set_option maxRecDepth 100000 in
theorem lawNil_any {A : Option Addr} {m c : Nat} {l : List Od} (w : World) (h : OpsC w A m c l) (hL : ∀ o ∈ l, Txs w o.A o.m o.c o.l) (h64 : ∀ o ∈ l, In64 o.x ∧ In64 o.n) :
    Calls Tryz.prog 6 #[.slice A m c] w fun e w' => e = .returned (.bool true) ∧ Below w.heap.size w w' := by
  have haw := fun W => awake_any W
  have hfew := Few_any w h hL
  have hnw := fun W => New_n W
  have hcu := fun W => Cursor_n W
  have hst := fun W => Status_n W
  have hcm := h.2.2.1
  have hmc := h.2.1
  unfold maxLen at hcm
  replace haw := Lib.hid haw
  replace hfew := Lib.hid hfew
  replace hnw := Lib.hid hnw
  replace hcu := Lib.hid hcu
  replace hst := Lib.hid hst
  replace h := Lib.hid h
  replace h64 := Lib.hid h64
  clear hL
  go_enter Tryz.func6, Tryz.ntmps6
  go_wp2_with fail
  refine hfew.out.mono ?_
  rintro e w' (⟨rfl, hwq, hm, hok⟩ | ⟨rfl, hwq⟩)
  · obtain rfl := hwq.symm
    replace hok := Lib.hid hok
    clear hwq hfew
    go_wp2
    go_loopw [5] (fun iv wr => ∃ i : Nat, i ≤ m ∧ iv = .int .i64 (i : Int) ∧ Hid (Below w.heap.size w wr)) (fun iv _ => m - (intOf iv).toNat)
    case atStart => exact ⟨0, Nat.zero_le _, rfl, Lib.hid (Below.refl _ _)⟩
    case round =>
      obtain ⟨i, hi, rfl, hbr⟩ := hrel
      by_cases hlt : i < m
      · obtain ⟨hlen, _, _, hcell⟩ := h.out
        have hil : i < l.length := by omega
        obtain ⟨b, off, rfl, hbl, hcc⟩ := hcell (by omega)
        have hx := h64.out l[i] (List.getElem_mem hil)
        have hko := hok.out l[i] (List.getElem_mem hil)
        have hce := fun W (hW : Below w.heap.size w W) => (⟨(World.cell?_of_block (a := ⟨b, off + i * 5, none⟩) (hW.block b hbl)).trans (hcc i l[i] (List.getElem?_eq_getElem hil)).1, (World.cell?_of_block (a := ⟨b, off + i * 5 + 1, none⟩) (hW.block b hbl)).trans (hcc i l[i] (List.getElem?_eq_getElem hil)).2.1,
          (World.cell?_of_block (a := ⟨b, off + i * 5 + 2, none⟩) (hW.block b hbl)).trans (hcc i l[i] (List.getElem?_eq_getElem hil)).2.2.1, (World.cell?_of_block (a := ⟨b, off + i * 5 + 3, none⟩) (hW.block b hbl)).trans (hcc i l[i] (List.getElem?_eq_getElem hil)).2.2.2.1,
          (World.cell?_of_block (a := ⟨b, off + i * 5 + 4, none⟩) (hW.block b hbl)).trans (hcc i l[i] (List.getElem?_eq_getElem hil)).2.2.2.2⟩ : _ ∧ _ ∧ _ ∧ _ ∧ _)
        generalize l[i] = o at hx hko hce
        obtain ⟨x, k, s, n, Ao, mo, co, lo⟩ := o
        dsimp only at hx hce
        have hs : s.size ≤ 1000000 := by have := hko.2.1; dsimp only at this; omega
        have hdo := fun W => does_n x k s n Ao mo co hx.1 hx.2 hs W
        have hak := fun W => ask_any x k s n (.slice Ao mo co) ⟨Ao, mo, co, rfl⟩ hx.1 W
        obtain ⟨d0, d1, d2, d3, d4⟩ := hce wr hbr.out
        have hi1 : (0 : Int) ≤ (i : Int) := by omega
        have hi2 : (i : Int) < (m : Int) := by omega
        replace hce := Lib.hid hce
        replace hdo := Lib.hid hdo
        replace hak := Lib.hid hak
        clear hcc hcell hx hko hs
        go_wp2_with fail
        refine (hdo.out _).mono ?_
        rintro e w5 ⟨rfl, hb5⟩
        have hbB : Below w.heap.size w w5 := hbr.out.trans (hb5.mono hbr.out.size)
        obtain ⟨f0, f1, f2, f3, f4⟩ := hce.out w5 hbB
        replace hbB := Lib.hid hbB
        clear hce hdo hb5 d0 d1 d2 d3 d4 hbr
        by_cases h15 : askI x = 15
        · rw [if_pos h15]
          rw [h15] at hak
          go_wp2_with fail
          refine (hak.out _).mono ?_
          rintro e w6 ⟨rfl, hb6⟩
          have hbC : Hid (Below w.heap.size w w6) := Lib.hid (hbB.out.trans (hb6.mono hbB.out.size))
          clear hb6 hak hbB
          go_wp2
          go_roundw
          case rel => exact ⟨i + 1, by omega, by go_num, hbC⟩
          case measure => simp [intOf]; omega
        · rw [if_neg h15]
          clear hak
          go_wp2
          go_roundw
          case rel => exact ⟨i + 1, by omega, by go_num, hbB⟩
          case measure => simp [intOf]; omega
      · obtain rfl : i = m := by omega
        have hi2 : ¬ (i : Int) < (i : Int) := by omega
        have hnm := named_any wr (h.out.below hbr.out) (by omega)
        have hll : (l.map (·.k)).length = i := by rw [List.length_map]; exact h.out.1
        have hno : namesO l = (l.map (·.k)).map .string := by unfold namesO; rw [List.map_map]; rfl
        rw [hno] at hnm
        replace hnm := Lib.hid hnm
        clear h h64 hok hno
        go_wp2_with fail
        refine (hnw.out _).mono ?_
        rintro e w' ⟨rfl, hwq⟩
        obtain rfl := hwq.symm
        clear hnw hwq
        go_wp2_with fail
        refine (hcu.out _).mono ?_
        rintro e w' ⟨rfl, hwq⟩
        obtain rfl := hwq.symm
        clear hcu hwq
        go_wp2_with fail
        refine hnm.out.mono ?_
        rintro e w5 ⟨v, rfl, hown, hb5⟩
        obtain ⟨A5, c5, rfl, htx⟩ := txs_of_own hll hown
        have htd := told_n w5 htx
        have hbB : Hid (Below w.heap.size w w5) := Lib.hid (hbr.out.trans (hb5.mono hbr.out.size))
        replace htd := Lib.hid htd
        clear hnm hown hb5 htx hbr
        go_wp2_with fail
        refine htd.out.mono ?_
        rintro e w6 ⟨v6, rfl, hown6, hb6⟩
        obtain ⟨A6, c6, rfl, _, _⟩ := own_form hown6
        have hbC : Hid (Below w.heap.size w w6) := Lib.hid (hbB.out.trans (hb6.mono hbB.out.size))
        clear htd hown6 hb6 hbB
        go_wp2_with fail
        refine (hst.out _).mono ?_
        rintro e w' ⟨rfl, hwq⟩
        obtain rfl := hwq.symm
        clear hst hwq
        go_wp2_with fail
        refine (haw.out _).mono ?_
        rintro e w9 ⟨rfl, hb9⟩
        have hbE : Hid (Below w.heap.size w w9) := Lib.hid (hbC.out.trans (hb9.mono hbC.out.size))
        clear hb9 hbC haw
        go_wp2
        go_ret
        exact ⟨rfl, hbE.out⟩
  · obtain rfl := hwq.symm
    go_wp2_with fail
    refine (haw.out _).mono ?_
    rintro e w9 ⟨rfl, hb9⟩
    replace hb9 := Lib.hid hb9
    clear haw hwq
    go_wp2
    go_ret
    exact ⟨rfl, hb9.out⟩
end Go.Proofs.YtigmdfdcflkggaaGreat
