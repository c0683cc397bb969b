/-
  told of no state. Conditions: names are a row of texts.
-/
import Derived.Test.YtigmdfdcflkggaaGreatStNil3
namespace Go.Proofs.YtigmdfdcflkggaaGreat
open Go Go.RowKit Go.ChangeMaps

section
variable {w w' : World}
theorem own_one (w : World) (v : Value) (e : TypeId) (hv : (v.ownBlock).isNone = true) : (w.alloc (.cells #[v] e)).ownsRow w.heap.size e 1 (.slice (some ⟨w.heap.size, 0, none⟩) 1 1) 1 [v] :=
  ⟨rfl, .inr ⟨w.heap.size, 1, #[v], rfl, Nat.le_refl _, heap_alloc_new w _, Nat.le_refl _, by decide, rfl, rfl⟩⟩
set_option maxRecDepth 100000 in
set_option maxHeartbeats 8000000 in
theorem told_n {A : Option Addr} {m c : Nat} {l : List ByteArray} (w : World) (htx : Txs w A m c l) :
    Calls Tryz.prog 17 #[.pointer none, .slice A m c] w fun e w' => ∃ v, e = .returned v ∧ w'.ownsRow w.heap.size 9 1 v 2 [.string ⟨#[]⟩, .string ⟨#[97, 114, 103, 115]⟩] ∧ Below w.heap.size w w' := by
  obtain ⟨i0, hi, hz0, hz1, hz2⟩ := info_parts infoStr
  have ho := Options_n w
  have hrA := own_one w (.string ⟨#[]⟩) 9 rfl
  have hbA : Below w.heap.size w (w.alloc (.cells #[.string ⟨#[]⟩] 9)) := Below.of_alloc w _
  replace hrA := Lib.hid hrA
  replace hbA := Lib.hid hbA
  replace hi := Lib.hid hi
  replace htx := Lib.hid htx
  go_enter Tryz.func17, Tryz.ntmps17
  go_wp2_with fail
  refine ho.mono ?_
  rintro e w' ⟨rfl, hw⟩
  obtain rfl := hw.symm
  clear ho hw
  have he := Environ_n (w.alloc (.cells #[.string ⟨#[]⟩] 9))
  go_wp2_with fail
  refine he.mono ?_
  rintro e w' ⟨rfl, hw⟩
  obtain rfl := hw.symm
  clear he hw
  go_upto_region 2 with fail
  obtain ⟨z, hz⟩ : ∃ z, w.heap.size = z := ⟨_, rfl⟩
  rw [hz] at hrA hbA ⊢
  generalize (w.alloc (.cells #[.string ⟨#[]⟩] 9)) = wA at hrA hbA ⊢
  replace hz := Lib.hid hz
  have hn := Names_n wA
  go_wp2_with fail
  refine hn.mono ?_
  rintro e w' ⟨rfl, hw⟩
  obtain rfl := hw.symm
  clear hn hw
  go_wp2
  go_loopw [7, 5] (fun iv ov wr => iv = .int .i64 0 ∧ ov = .slice (some ⟨z, 0, none⟩) 1 1 ∧ wr = wA) (fun _ _ _ => 0)
  case atStart => exact ⟨rfl, rfl, rfl⟩
  case round =>
    obtain ⟨rfl, rfl, rfl⟩ := hrel
    obtain ⟨wX, hwX⟩ : ∃ wX, wX = wr := ⟨_, rfl⟩
    have hBn : ∀ i u, ([.string ⟨#[97, 114, 103, 115]⟩] : List Value)[i]? = some u → (wr.alloc (.cells #[.string ⟨#[97, 114, 103, 115]⟩] 9)).cell? ((⟨wr.heap.size, 0, none⟩ : Addr).add i) = some u := by
      intro i u hu
      rw [add_plain0, Nat.zero_add]
      exact (Blk.new wr [.string ⟨#[97, 114, 103, 115]⟩] 9).cell hu
    obtain ⟨gg, cap, w5, hrun, hrow5, hgr5, hat, hgl5⟩ := run_append_lies (P := Tryz.prog) (wr.alloc (.cells #[.string ⟨#[97, 114, 103, 115]⟩] 9)) 35 35 z 9 i0 _ 1 16 Tryz.underlying35 hi.out hz0 hz1 hz2 rfl (by decide)
      (.slice (some ⟨z, 0, none⟩) 1 1) 1 _ (hrA.out.alloc _) ⟨wr.heap.size, 0, none⟩ 1 1 [.string ⟨#[97, 114, 103, 115]⟩] rfl hBn (by simp [Value.oneCell']) (by decide) (by decide) (by decide) (by have := hbA.out.size; rw [hz.out] at this; simp; omega) (wr.heap.size + 1) (by simp)
    have hlt5 := hrA.out.lt
    have hb5 : Hid (Below z w w5) := Lib.hid ((hbA.out.alloc (by have := hbA.out.size; rw [hz.out] at this; omega) _).grown hgr5 (by have := hbA.out.size; rw [hz.out] at this; simp; omega) (fun k hk => (hlt5 k hk).1))
    have hrE : Hid (w5.ownsRow z 9 1 (.slice (some ⟨gg, 0, none⟩) (1 + 1) cap) 2 [.string ⟨#[]⟩, .string ⟨#[97, 114, 103, 115]⟩]) := Lib.hid hrow5
    have hcap : 2 ≤ cap ∧ cap ≤ maxLen := by
      obtain ⟨A9, c9, e9, q1, q2⟩ := own_form hrow5
      cases e9
      exact ⟨q1, q2⟩
    replace hrun := Lib.hid hrun
    clear hrow5 hgr5 hat hgl5 hlt5 hBn hrA hwX
    go_wp2_with (at_builtin; refine wpList_append_of rfl _ _ 35 35 rfl _ _ _ w5 rfl rfl hrun.out ?_)
    have ha := Args_n w5
    go_wp2_with fail
    refine ha.mono ?_
    rintro e w' ⟨rfl, hw⟩
    obtain rfl := hw.symm
    clear ha hw hrun hbA
    go_upto_region 15 with fail
    have hal := Aliases_n w5
    go_wp2_with fail
    refine hal.mono ?_
    rintro e w' ⟨rfl, hw⟩
    obtain rfl := hw.symm
    clear hal hw
    go_wp2
    go_loopw [9, 5] (fun iv ov w6 => iv = .int .i64 0 ∧ ov = .slice (some ⟨gg, 0, none⟩) 2 cap ∧ w6 = w5) (fun _ _ _ => 0)
    case atStart => exact ⟨rfl, rfl, rfl⟩
    case round =>
      obtain ⟨rfl, rfl, hw5⟩ := hrel
      obtain rfl := hw5.symm
      clear hw5
      have bT : Blk (w5.alloc (.cells #[.string ⟨#[69, 88, 73, 84]⟩, .string ⟨#[72, 85, 80]⟩, .string ⟨#[73, 78, 84]⟩, .string ⟨#[84, 69, 82, 77]⟩, .string ⟨#[85, 83, 82, 49]⟩] 9)) w5.heap.size [.string ⟨#[69, 88, 73, 84]⟩, .string ⟨#[72, 85, 80]⟩, .string ⟨#[73, 78, 84]⟩, .string ⟨#[84, 69, 82, 77]⟩, .string ⟨#[85, 83, 82, 49]⟩] 9 := Blk.new w5 _ _
      have hb6 : Below z w (w5.alloc (.cells #[.string ⟨#[69, 88, 73, 84]⟩, .string ⟨#[72, 85, 80]⟩, .string ⟨#[73, 78, 84]⟩, .string ⟨#[84, 69, 82, 77]⟩, .string ⟨#[85, 83, 82, 49]⟩] 9)) := hb5.out.alloc (by have := hb5.out.size; rw [hz.out] at this; exact this) _
      have hr6 := ownBelow hrE.out (Below.of_alloc w5 (.cells #[.string ⟨#[69, 88, 73, 84]⟩, .string ⟨#[72, 85, 80]⟩, .string ⟨#[73, 78, 84]⟩, .string ⟨#[84, 69, 82, 77]⟩, .string ⟨#[85, 83, 82, 49]⟩] 9))
      go_upto_region 22 with fail
      generalize (w5.alloc (.cells #[.string ⟨#[69, 88, 73, 84]⟩, .string ⟨#[72, 85, 80]⟩, .string ⟨#[73, 78, 84]⟩, .string ⟨#[84, 69, 82, 77]⟩, .string ⟨#[85, 83, 82, 49]⟩] 9)) = w6 at bT hb6 hr6 ⊢
      generalize w5.heap.size = zT at bT ⊢
      clear hb5 hrE
      replace hb6 := Lib.hid hb6
      replace hr6 := Lib.hid hr6
      replace bT := Lib.hid bT
      go_wp2
      go_loopw [13, 5] (fun iv ov w7 => ∃ j : Nat, j ≤ 5 ∧ iv = .int .i64 (j : Int) ∧ ov = .slice (some ⟨gg, 0, none⟩) 2 cap ∧ w7 = w6) (fun iv _ _ => 5 - (intOf iv).toNat)
      case atStart => exact ⟨0, by decide, rfl, rfl, rfl⟩
      case round =>
        obtain ⟨j, hj, rfl, rfl, hw7⟩ := hrel
        obtain rfl := hw7.symm
        clear hw7
        by_cases hlt : j < 5
        · obtain ⟨k, hk⟩ : ∃ k : ByteArray, ([.string ⟨#[69, 88, 73, 84]⟩, .string ⟨#[72, 85, 80]⟩, .string ⟨#[73, 78, 84]⟩, .string ⟨#[84, 69, 82, 77]⟩, .string ⟨#[85, 83, 82, 49]⟩] : List Value)[j]? = some (.string k) := by
            match j, hlt with
            | 0, _ => exact ⟨_, rfl⟩
            | 1, _ => exact ⟨_, rfl⟩
            | 2, _ => exact ⟨_, rfl⟩
            | 3, _ => exact ⟨_, rfl⟩
            | 4, _ => exact ⟨_, rfl⟩
          have ck := bT.out.cell hk
          have cl := bT.out.lt
          have hj1 : (0 : Int) ≤ (j : Int) := by omega
          have hj2 : (j : Int) < 5 := by omega
          have ht := Trap_n k w6
          go_wp2_with fail
          refine ht.mono ?_
          rintro e w' ⟨rfl, hw⟩
          obtain rfl := hw.symm
          clear ht hw ck hk
          go_wp2
          go_roundw
          case rel => exact ⟨j + 1, by omega, by go_num, rfl, trivial⟩
          case measure => simp [intOf]; omega
        · obtain rfl : j = 5 := by omega
          have hj2 : ¬ (5 : Int) < (5 : Int) := by omega
          clear hlt hj bT
          obtain ⟨hlen, hmc, hcm, hcell⟩ := htx.out
          unfold maxLen at hcm
          have hr7 : Hid (w6.ownsRow z 9 1 (.slice (some ⟨gg, 0, none⟩) 2 cap) 2 [.string ⟨#[]⟩, .string ⟨#[97, 114, 103, 115]⟩]) := hr6
          replace hcell := Lib.hid hcell
          clear hr6
          go_wp2
          go_loopw [16, 5] (fun iv ov w7 => ∃ j : Nat, j ≤ m ∧ iv = .int .i64 (j : Int) ∧ ov = .slice (some ⟨gg, 0, none⟩) 2 cap ∧ Hid (Below z w w7) ∧ Hid (w7.ownsRow z 9 1 (.slice (some ⟨gg, 0, none⟩) 2 cap) 2 [.string ⟨#[]⟩, .string ⟨#[97, 114, 103, 115]⟩])) (fun iv _ _ => m - (intOf iv).toNat)
          case atStart => exact ⟨0, Nat.zero_le _, rfl, rfl, hb6, hr7⟩
          case round =>
            clear hb6 hr7
            obtain ⟨j, hj, rfl, rfl, hb7, hr7⟩ := hrel
            by_cases hlt : j < m
            · obtain ⟨b, off, rfl, hbl, hcc⟩ := hcell.out (by omega)
              have ck0 := hcc j l[j] (List.getElem?_eq_getElem (by omega))
              have hbz : b < z := by rw [← hz.out]; exact hbl
              have ck := fun (W : World) (hb : Below z w W) => (World.cell?_of_block (a := ⟨b, off + j, none⟩) (hb.block b hbz)).trans ck0
              replace ck := ck _ hb7.out
              have cl := Nat.lt_of_lt_of_le hbl hb7.out.size
              have hj1 : (0 : Int) ≤ (j : Int) := by omega
              have hj2 : (j : Int) < (m : Int) := by omega
              generalize l[j] = k at ck ck0
              have hf := Func_n k
              go_wp2_with fail
              refine (hf _).mono ?_
              rintro e w8 ⟨rfl, hb8⟩
              have hb9 := Lib.hid ((hb7.out.trans (hb8.mono (by have := hb7.out.size; rw [hz.out] at this; exact this))).alloc (by have := hb7.out.size; rw [hz.out] at this; exact Nat.le_trans this hb8.size) (.cells #[.int .i64 0, .bool false, .string ⟨#[]⟩, .bool false, .slice none 0 0, .slice none 0 0, .slice none 0 0, .slice none 0 0, .slice none 0 0] 88))
              have hr9 := Lib.hid (ownBelow (ownBelow hr7.out hb8) (Below.of_alloc w8 (.cells #[.int .i64 0, .bool false, .string ⟨#[]⟩, .bool false, .slice none 0 0, .slice none 0 0, .slice none 0 0, .slice none 0 0, .slice none 0 0] 88)))
              clear hf hb8 ck ck0 cl hcc hb7 hr7
              go_wp2
              go_roundw
              case rel => exact ⟨j + 1, by omega, by go_num, rfl, hb9, hr9⟩
              case measure => simp [intOf]; omega
            · obtain rfl : j = m := by omega
              have hj2 : ¬ (j : Int) < (j : Int) := by omega
              have hfin : Hid (World.ownsRow _ w.heap.size 9 1 (.slice (some ⟨gg, 0, none⟩) 2 cap) 2 [.string ⟨#[]⟩, .string ⟨#[97, 114, 103, 115]⟩] ∧ Below w.heap.size w _) := Lib.hid (by rw [hz.out]; exact ⟨hr7.out, hb7.out⟩)
              clear hb7 hr7 hcell
              go_wp2
              go_ret
              exact ⟨_, rfl, hfin.out⟩
end
end Go.Proofs.YtigmdfdcflkggaaGreat
