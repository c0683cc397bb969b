/-
  The walk of StateOwn: it answers true and leaves what was there. Conditions: none.
-/
import Derived.Test.YtigmdfdcflkggaaStAway
set_option linter.unusedSimpArgs false
set_option linter.unusedVariables false
namespace Go.Proofs.Ytigmdfdcflkggaa
open Go Go.RowKit Go.ChangeMaps

/-- A row of texts from the i-th on, in a block that is none of the state's texts. -/
def MineR (w : World) (B : Nat) (A : Option Addr) (m i : Nat) (G : Gv) (l : List ByteArray) : Prop := 0 < m → ∃ (g : Nat) (cur : List Value), A = some ⟨g, 0, none⟩ ∧ B ≤ g ∧ Blk w g cur 9 ∧ GvAway g G ∧ ∀ (k : Nat) (x : ByteArray), i ≤ k → l[k]? = some x → cur[k]? = some (Value.string x)
theorem MineR.set {w : World} {B m i g : Nat} {A : Option Addr} {G : Gv} {l : List ByteArray} {cur : List Value} (hA : A = some ⟨g, 0, none⟩) (hB : B ≤ g) (hb : Blk w g cur 9) (ha : GvAway g G) (hc : ∀ (k : Nat) (x : ByteArray), i ≤ k → l[k]? = some x → cur[k]? = some (Value.string x)) (v : Value) :
    MineR (w.setCell ⟨g, i, none⟩ v) B A m (i + 1) G l := fun _ =>
  ⟨g, _, hA, hB, hb.set i v, ha, fun k x hk hx => by rw [List.getElem?_set_ne (by omega)]; exact hc k x (by omega) hx⟩
set_option maxRecDepth 100000 in
set_option maxHeartbeats 8000000 in
theorem lawOwn_any {A : Option Addr} {m c : Nat} {l : List ByteArray} (w : World) (h : Txs w A m c l) :
    Calls Try.prog 3 #[.slice A m c] w fun e w' => e = .returned (.bool true) ∧ Below w.heap.size w w' := by
  obtain ⟨i0, hi, hz0, hz1, hz2⟩ := info_parts infoStr
  have haw := fun W => awake_any W
  have hbg := begun_any 10 w (by decide)
  have hlen := h.1
  have hmc := h.2.1
  have hcm := h.2.2.1
  unfold maxLen at hcm
  obtain ⟨B, hB⟩ : ∃ B, w.heap.size = B := ⟨_, rfl⟩
  rw [hB] at hbg ⊢
  unfold ptrV at hbg
  replace hB := Lib.hid hB
  replace haw := Lib.hid haw
  replace h := Lib.hid h
  replace hi := Lib.hid hi
  replace hlen := Lib.hid hlen
  go_enter Try.func3, Try.ntmps3
  go_wp2_with fail
  refine hbg.mono ?_
  rintro e w1 ⟨a, sb, rfl, hS1, hb1⟩
  replace hS1 := Lib.hid hS1
  replace hb1 := Lib.hid hb1
  clear hbg
  by_cases h20 : (20 : Int) < (m : Int)
  · go_wp2_with fail
    refine (haw.out _).mono ?_
    rintro e w9 ⟨rfl, hb9⟩
    have hbE : Hid (Below B w w9) := Lib.hid (hb1.out.trans (hb9.mono (by rw [← hB.out]; exact hb1.out.size)))
    clear hb9
    go_wp2
    go_ret
    exact ⟨rfl, hbE.out⟩
  · obtain ⟨z, hz⟩ : ∃ z, w1.heap.size = z := ⟨_, rfl⟩
    have hBz : B ≤ z := by rw [← hz, ← hB.out]; exact hb1.out.size
    have hrow0 : Hid (w1.ownsRow z 9 1 (.slice none 0 0) 0 ((l.take 0).map .string)) := Lib.hid (World.ownsRow_nil _ _ _ _)
    have hb0 : Hid (Below z w1 w1) := Lib.hid (Below.refl _ _)
    replace hz := Lib.hid hz
    go_wp2
    go_loopw [7, 6] (fun iv ov wr => ∃ (j : Nat) (A2 : Option Addr) (c2 : Nat), j ≤ m ∧ iv = .int .i64 (j : Int) ∧ ov = .slice A2 j c2 ∧ j ≤ c2 ∧ c2 ≤ 9223372036854775807 ∧ Hid (wr.ownsRow z 9 1 (.slice A2 j c2) j ((l.take j).map .string)) ∧ Hid (Below z w1 wr) ∧ Hid (∀ (i : Nat) (x : ByteArray), i < j → l[i]? = some x → x.size ≤ 200)) (fun iv _ _ => m - (intOf iv).toNat)
    case atStart => exact ⟨0, none, 0, Nat.zero_le _, rfl, rfl, Nat.le_refl _, Nat.zero_le _, hrow0, hb0, Lib.hid (fun i x h => absurd h (Nat.not_lt_zero i))⟩
    case round =>
      clear hrow0 hb0
      obtain ⟨j, A2, c2, hj, rfl, rfl, hc2, hcm2, hrow, hbz, hsz⟩ := hrel
      by_cases hlt : j < m
      · have hjn : j < l.length := by rw [hlen.out]; exact hlt
        obtain ⟨b, off, rfl, hbl, hcc⟩ := h.out.2.2.2 (by omega)
        have hbw1 : b < w1.heap.size := Nat.lt_of_lt_of_le hbl hb1.out.size
        have ck := (World.cell?_of_block (a := ⟨b, off + j, none⟩) ((hbz.out.block b (by rw [← hz.out]; exact hbw1)).trans (hb1.out.block b (by rw [← hB.out]; exact hbl)))).trans (hcc j l[j] (List.getElem?_eq_getElem hjn))
        have cl : b < wr.heap.size := Nat.lt_of_lt_of_le hbw1 hbz.out.size
        have htk : l.take (j + 1) = l.take j ++ [l[j]] := List.take_succ_eq_append_getElem hjn
        have hno : (l.take (j + 1)).map Value.string = (l.take j).map Value.string ++ [.string l[j]] := by rw [htk, List.map_append]; rfl
        have hlj : l[j]? = some l[j] := List.getElem?_eq_getElem hjn
        have hj1 : (0 : Int) ≤ (j : Int) := by omega
        have hj2 : (j : Int) < (m : Int) := by omega
        generalize l[j] = k at ck hno hlj
        clear hcc htk
        by_cases h200 : (200 : Int) < (k.size : Int)
        · go_wp2_with fail
          refine (haw.out _).mono ?_
          rintro e w9 ⟨rfl, hb9⟩
          have hbE : Hid (Below B w w9) := Lib.hid ((hb1.out.trans (hbz.out.mono hBz)).trans (hb9.mono (by have := hbz.out.size; rw [hz.out] at this; omega)))
          clear hb9
          go_wp2
          go_ret
          exact ⟨rfl, hbE.out⟩
        · have hBn : ∀ i u, ([.string k] : List Value)[i]? = some u → (wr.alloc (.cells #[.string k] 9)).cell? ((⟨wr.heap.size, 0, none⟩ : Addr).add i) = some u := by
            intro i u hu
            rw [add_plain0, Nat.zero_add]
            exact (Blk.new wr [.string k] 9).cell hu
          have hzr : z ≤ wr.heap.size := by have := hbz.out.size; rw [hz.out] at this; exact this
          obtain ⟨gg, cap, w5, hrun, hrow5, hgr5, hat, hgl5⟩ := run_append_lies (P := Try.prog) (wr.alloc (.cells #[.string k] 9)) 22 22 z 9 i0 _ 1 16 Try.underlying22 hi.out hz0 hz1 hz2 rfl (by decide)
            (.slice A2 j c2) j _ (hrow.out.alloc _) ⟨wr.heap.size, 0, none⟩ 1 1 [.string k] rfl hBn (by simp [Value.oneCell']) (by decide) (by unfold maxLen; omega) (by omega) (by simp; omega) (wr.heap.size + 1) (by simp)
          have hlt5 := hrow.out.lt
          have hbz5 : Hid (Below z w1 w5) := Lib.hid ((hbz.out.alloc hzr _).grown hgr5 (by simp; omega) (fun k hk => (hlt5 k hk).1))
          obtain ⟨_, _, hv5, hc5, hcm5⟩ := own_form hrow5
          injection hv5 with e4 _ e5
          subst e4 e5
          unfold maxLen at hcm5
          have hrowE : Hid (w5.ownsRow z 9 1 (.slice (some ⟨gg, 0, none⟩) (j + 1) cap) (j + 1) ((l.take (j + 1)).map .string)) := Lib.hid (by rw [hno]; simpa using hrow5)
          have hszE : Hid (∀ (i : Nat) (x : ByteArray), i < j + 1 → l[i]? = some x → x.size ≤ 200) := Lib.hid (fun i x hi hx => by
            by_cases e : i = j
            · subst e; rw [hlj] at hx; cases hx; omega
            · exact hsz.out i x (by omega) hx)
          replace hrun := Lib.hid hrun
          clear hrow hrow5 hgr5 hat hgl5 hlt5 hBn hbz hno hlj hsz
          go_wp2_with (at_builtin; refine wpList_append_of rfl _ _ 22 22 rfl _ _ _ w5 rfl rfl hrun.out ?_)
          go_wp2
          go_roundw
          case rel => exact ⟨j + 1, _, _, by omega, by go_num, rfl, by omega, by omega, hrowE, hbz5, hszE⟩
          case measure => simp [intOf]; omega
      · obtain rfl : j = m := by omega
        have hj2 : ¬ (j : Int) < (j : Int) := by omega
        have htl : l.take j = l := by rw [← hlen.out, List.take_length]
        rw [htl] at hrow
        obtain ⟨_, _, hv5, htx⟩ := txs_own hlen.out hrow.out
        injection hv5 with e1 _ e3
        subst e1 e3
        have hzr : z ≤ wr.heap.size := by have := hbz.out.size; rw [hz.out] at this; exact this
        have hS2 : StAt wr B sb a 0 (new0 10 20) 0 := hS1.out.below (by rw [hz.out]; exact hbz.out)
        have hall : ∀ s ∈ l, s.size ≤ 200 := fun s hs => by
          obtain ⟨i, hi, rfl⟩ := List.getElem_of_mem hs
          exact hsz.out i _ (by rw [hlen.out] at hi; exact hi) (List.getElem?_eq_getElem hi)
        have hgr : greatL l = false := by
          unfold greatL
          rw [List.any_eq_false]
          intro s hs
          have := hall s hs
          simp; omega
        have c6 := SetArgs_ok hS2 htx (by omega) (fun s hs => by have := hall s hs; omega) hgr
        unfold ptrV at c6
        have hbA : Hid (Below B w wr) := Lib.hid (hb1.out.trans (hbz.out.mono hBz))
        replace hS2 := Lib.hid hS2
        replace c6 := Lib.hid c6
        replace hall := Lib.hid hall
        clear hS1 htx hbz hsz hgr htl
        go_wp2_with fail
        refine c6.out.mono ?_
        rintro e w8 ⟨A1, k1, rfl, hS8, hF8, hnew⟩
        have hr8 := ownKeepB hrow.out (hS2.out.th.keepB hF8) (nPk (by decide))
        have hbB : Hid (Below B w w8) := Lib.hid (hbA.out.trans (hF8.below (by rw [← hB.out]; exact hbA.out.size)))
        obtain ⟨G, hG⟩ : ∃ G : Gv, (⟨A1, j, k1, 1, 0, l⟩ : Gv) = G := ⟨_, rfl⟩
        have e8 : ((new0 10 20).setg G).2 = { new0 10 20 with cur := { sta0 with g := G } } := by
          unfold Tg.setg
          rw [if_neg (by simp [Tg.full, new0])]
          simp [Tg.noted, new0]
        rw [hG] at hS8
        rw [e8] at hS8
        have hGl : G.n = j := by rw [← hG]
        have hGA : ∀ g b off, G.A = some ⟨b, off, none⟩ → g < wr.heap.size → b ≠ g := fun g b off hh hg => by
          have := hnew b (by rw [← hG] at hh; dsimp only at hh; rw [hh]; rfl)
          omega
        have hMine : MineR w8 B A2 j 0 G l := fun hn => by
          obtain ⟨g, c9, cur, e, hz9, _, _, hbk, hcu⟩ := blk_own hr8 hn
          injection e with e1 _ _
          obtain ⟨g2, hg2⟩ : ∃ g2, g2 = g := ⟨_, rfl⟩
          refine ⟨g, cur, e1, by omega, hbk, .inr fun b off hh => hGA g b off hh ?_, fun k x _ hx => hcu k x hx⟩
          exact (hrow.out.lt g (by rw [e1]; rfl)).2
        replace hS8 := Lib.hid hS8
        replace hMine := Lib.hid hMine
        have hS8n : Hid (StAt w8 B sb a 2 { new0 10 20 with cur := { sta0 with g := G } } 0) := Lib.hid hS8.out
        obtain ⟨T8, hT8⟩ : ∃ T8 : Tg, { new0 10 20 with cur := { sta0 with g := G } } = T8 := ⟨_, rfl⟩
        rw [hT8] at hS8n
        have hTns : Hid (T8.ns = []) := Lib.hid (by rw [← hT8]; rfl)
        have hTg : Hid (T8.cur.g = G) := Lib.hid (by rw [← hT8])
        have hGL : Hid (G.l = l) := Lib.hid (by rw [← hG])
        have hcat : ∀ (x : ByteArray) (W : World), x.size ≤ 200 → (Op.stringOp .add x ⟨#[115, 112, 111, 105, 108, 116]⟩).run Try.prog W = .ok (.string (x ++ ⟨#[115, 112, 111, 105, 108, 116]⟩)) W := fun x W hx => run_string_add_sum W _ _ (by have e : (⟨#[115, 112, 111, 105, 108, 116]⟩ : ByteArray).size = 6 := rfl; omega)
        replace hcat := Lib.hid hcat
        replace hGl := Lib.hid hGl
        replace hGA := Lib.hid hGA
        have hBw : Hid (B ≤ w8.heap.size) := Lib.hid (by rw [← hB.out]; exact hbB.out.size)
        clear hS8 hS2 hr8 hrow hF8 hnew e8 hG hT8 c6 hbA hi hz hb1
        go_wp2
        go_loopw [8] (fun iv wx => ∃ i : Nat, i ≤ j ∧ iv = .int .i64 (i : Int) ∧ Hid (StAt wx B sb a 2 T8 0) ∧ Hid (Below B w wx) ∧ Hid (MineR wx B A2 j i G l)) (fun iv _ => j - (intOf iv).toNat)
        case atStart => exact ⟨0, Nat.zero_le _, rfl, hS8n, hbB, hMine⟩
        case round =>
          clear hS8n hbB hMine
          obtain ⟨i, hij, rfl, hS, hbx, hM⟩ := hrel
          by_cases hil : i < j
          · obtain ⟨g, cur, rfl, hgB, hbk, hga, hcu⟩ := hM.out (by omega)
            have hin : i < l.length := by rw [hlen.out]; exact hil
            have hli : l[i]? = some l[i] := List.getElem?_eq_getElem hin
            have hx := hall.out l[i] (List.getElem_mem hin)
            have hci := hcu i l[i] (Nat.le_refl _) hli
            generalize l[i] = x at hx hci
            have ci := hbk.cell hci
            have fi := hbk.frozen i
            have lg := hbk.lt
            have hct := fun W => hcat.out x W hx
            have hi1 : (0 : Int) ≤ (i : Int) := by omega
            have hi2 : (i : Int) < (j : Int) := by omega
            have hS' : Hid (StAt (wr.setCell ⟨g, i, none⟩ (.string (x ++ ⟨#[115, 112, 111, 105, 108, 116]⟩))) B sb a 2 T8 0) := Lib.hid (hS.out.away hbk (Stp.set (S := fun b => b = g) rfl i _) (by rw [hTg.out]; exact hga) hTns.out)
            have hM' : Hid (MineR (wr.setCell ⟨g, i, none⟩ (.string (x ++ ⟨#[115, 112, 111, 105, 108, 116]⟩))) B (some ⟨g, 0, none⟩) j (i + 1) G l) := Lib.hid (MineR.set rfl hgB hbk hga hcu _)
            have hb' : Hid (Below B w (wr.setCell ⟨g, i, none⟩ (.string (x ++ ⟨#[115, 112, 111, 105, 108, 116]⟩)))) := Lib.hid (hbx.out.setCell (p := ⟨g, i, none⟩) hgB _)
            clear hS hbx hM hbk hga hcu hci hli
            go_wp2
            go_roundw
            case rel => exact ⟨i + 1, by omega, by go_num, hS', hb', hM'⟩
            case measure => simp [intOf]; omega
          · obtain rfl : i = j := by omega
            have hi2 : ¬ (i : Int) < (i : Int) := by omega
            have cA := Args_any hS.out (by rw [hTg.out, hGl.out]; omega)
            rw [hTg.out, hGl.out, hGL.out] at cA
            unfold ptrV at cA
            have hBx : Hid (B ≤ wr.heap.size) := Lib.hid (by rw [← hB.out]; exact hbx.out.size)
            have hGb : Hid (∀ b off, G.A = some ⟨b, off, none⟩ → 0 < i → b < wr.heap.size) := Lib.hid (fun b off hh hn => by
              obtain ⟨_, _, _, _, _, _, _, h2, _⟩ := hS.out.th
              obtain ⟨b2, off2, cur2, q1, q2, _⟩ := h2.ga.2.2.2 (by rw [hTg.out, hGl.out]; exact hn)
              rw [hTg.out, hh] at q1
              injection q1 with q1
              injection q1 with q1 _ _
              subst q1
              exact q2.lt)
            replace cA := Lib.hid cA
            clear hM hcat hall
            go_wp2_with fail
            refine cA.out.mono ?_
            rintro e w9 ⟨v9, rfl, hown9, hb9⟩
            obtain ⟨A9, c9, rfl, htx9⟩ := txs_own hlen.out hown9
            have hc9 := htx9.2.1
            have hcm9 := htx9.2.2.1
            unfold maxLen at hcm9
            have hS9 : Hid (StAt w9 B sb a 2 T8 0) := Lib.hid (hS.out.below hb9)
            have hbC : Hid (Below B w w9) := Lib.hid (hbx.out.trans (hb9.mono hBx.out))
            have cT := texts_any w9 htx9 (h.out.below (by rw [hB.out]; exact hbC.out))
            have hM9 : Hid (∀ W, Below w9.heap.size w9 W → MineR W B A9 i 0 G l) := Lib.hid (fun W hW hn => by
              obtain ⟨g, c7, cur, e, hg7, _, _, hbk, hcu⟩ := blk_own hown9 hn
              injection e with e1 _ _
              exact ⟨g, cur, e1, Nat.le_trans hBx.out hg7, (hW.block g hbk.lt).trans hbk, .inr fun b off hh => by have := hGb.out b off hh hn; omega, fun k x _ hx => hcu k x hx⟩)
            have hB9 : Hid (B ≤ w9.heap.size) := Lib.hid (Nat.le_trans hBx.out hb9.size)
            replace cT := Lib.hid cT
            clear cA hown9 hb9 htx9 hS hbx hGb
            go_wp2_with fail
            refine cT.out.mono ?_
            rintro e w10 ⟨rfl, hb10⟩
            have hS10 : Hid (StAt w10 B sb a 2 T8 0) := Lib.hid (hS9.out.below hb10)
            have hbD : Hid (Below B w w10) := Lib.hid (hbC.out.trans (hb10.mono hB9.out))
            have hM10 : Hid (MineR w10 B A9 i 0 G l) := Lib.hid (hM9.out w10 hb10)
            clear cT hb10 hM9 hS9 hbC
            go_wp2
            go_loopw [10] (fun iv wy => ∃ q : Nat, q ≤ i ∧ iv = .int .i64 (q : Int) ∧ Hid (StAt wy B sb a 2 T8 0) ∧ Hid (Below B w wy) ∧ Hid (MineR wy B A9 i q G l)) (fun iv _ => i - (intOf iv).toNat)
            case atStart => exact ⟨0, Nat.zero_le _, rfl, hS10, hbD, hM10⟩
            case round =>
              clear hS10 hbD hM10
              obtain ⟨q, hqi, rfl, hS, hbx, hM⟩ := hrel
              by_cases hql : q < i
              · obtain ⟨g, cur, rfl, hgB, hbk, hga, hcu⟩ := hM.out (by omega)
                have hin : q < l.length := by rw [hlen.out]; exact hql
                have hci := hcu q l[q] (Nat.le_refl _) (List.getElem?_eq_getElem hin)
                generalize l[q] = x at hci
                have ci := hbk.cell hci
                have fi := hbk.frozen q
                have lg := hbk.lt
                have hi1 : (0 : Int) ≤ (q : Int) := by omega
                have hi3 : (q : Int) < (i : Int) := by omega
                have hS' : Hid (StAt (wr.setCell ⟨g, q, none⟩ (.string ⟨#[115, 112, 111, 105, 108, 116]⟩)) B sb a 2 T8 0) := Lib.hid (hS.out.away hbk (Stp.set (S := fun b => b = g) rfl q _) (by rw [hTg.out]; exact hga) hTns.out)
                have hM' : Hid (MineR (wr.setCell ⟨g, q, none⟩ (.string ⟨#[115, 112, 111, 105, 108, 116]⟩)) B (some ⟨g, 0, none⟩) i (q + 1) G l) := Lib.hid (MineR.set rfl hgB hbk hga hcu _)
                have hb' : Hid (Below B w (wr.setCell ⟨g, q, none⟩ (.string ⟨#[115, 112, 111, 105, 108, 116]⟩))) := Lib.hid (hbx.out.setCell (p := ⟨g, q, none⟩) hgB _)
                clear hS hbx hM hbk hga hcu hci
                go_wp2
                go_roundw
                case rel => exact ⟨q + 1, by omega, by go_num, hS', hb', hM'⟩
                case measure => simp [intOf]; omega
              · obtain rfl : q = i := by omega
                have hi3 : ¬ (q : Int) < (q : Int) := by omega
                have cA := Args_any hS.out (by rw [hTg.out, hGl.out]; omega)
                rw [hTg.out, hGl.out, hGL.out] at cA
                unfold ptrV at cA
                have hBy : Hid (B ≤ wr.heap.size) := Lib.hid (by rw [← hB.out]; exact hbx.out.size)
                replace cA := Lib.hid cA
                clear hM
                go_wp2_with fail
                refine cA.out.mono ?_
                rintro e w11 ⟨v11, rfl, hown11, hb11⟩
                obtain ⟨A11, c11, rfl, htx11⟩ := txs_own hlen.out hown11
                have hbF : Hid (Below B w w11) := Lib.hid (hbx.out.trans (hb11.mono hBy.out))
                have cT := texts_any w11 htx11 (h.out.below (by rw [hB.out]; exact hbF.out))
                have hBz2 : Hid (B ≤ w11.heap.size) := Lib.hid (Nat.le_trans hBy.out hb11.size)
                replace cT := Lib.hid cT
                clear cA hown11 hb11 htx11 hS hbx
                go_wp2_with fail
                refine cT.out.mono ?_
                rintro e w12 ⟨rfl, hb12⟩
                have hbH : Hid (Below B w w12) := Lib.hid (hbF.out.trans (hb12.mono hBz2.out))
                have hBq : Hid (B ≤ w12.heap.size) := Lib.hid (Nat.le_trans hBz2.out hb12.size)
                clear cT hb12 hbF
                go_wp2_with fail
                refine (haw.out _).mono ?_
                rintro e w13 ⟨rfl, hb13⟩
                have hbE : Hid (Below B w w13) := Lib.hid (hbH.out.trans (hb13.mono hBq.out))
                clear hb13 hbH
                go_wp2
                go_ret
                exact ⟨rfl, hbE.out⟩
end Go.Proofs.Ytigmdfdcflkggaa
