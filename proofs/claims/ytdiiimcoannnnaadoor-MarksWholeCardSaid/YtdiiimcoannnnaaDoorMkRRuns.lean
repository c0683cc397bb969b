/-
  The reference's Runs gives the same rows as marks.Runs. Conditions: at most a million bytes.
-/
import Derived.Test.YtdiiimcoannnnaaDoorMkRuns
import Derived.Deep.RegionHeld3
namespace Go.Proofs.YtdiiimcoannnnaaDoor
open Go Go.RowKit

theorem infoRRn : (Tryd.prog.info? 35).map (fun i => (i.zero, i.size, i.bytes)) = some (some (.agg #[.string ⟨#[]⟩, .bool false]), 2, 24) := by kernel_rfl
theorem elemRCh : Tryd.prog.underlying 25 = some (.slice (Tryd.prog.elem 25)) := by kernel_rfl
theorem sizeRCh (W : World) : (sizeOf (Tryd.prog.elem 25)).run Tryd.prog W = .ok 2 W := by kernel_rfl

theorem cut_lhR {w : World} {B : Nat} {A : Option Addr} {c lo hi : Nat} {l : List Ch} (h : Tx w B (.slice A l.length c) l) (hl : lo ≤ hi) (hh : hi ≤ l.length) :
    ∃ v', (∀ (W : World) (kl kh : IntKind), (Instr.slice 25 (.slice A l.length c) (some (.int kl (lo : Int))) (some (.int kh (hi : Int))) none).run Tryd.prog W = .ok v' W) ∧ Tx w B v' ((l.drop lo).take (hi - lo)) :=
  cut_lh elemRCh sizeRCh h hl hh
theorem runA_out {l : List Ch} {a k : Nat} (ha : a < k) (hk : k ≤ l.length) (h : ∀ h : k < l.length, ¬ l[a].2 = l[k].2) : runA (seg l a k) (l.drop k) = seg l a k :: runA [] (l.drop k) := by
  rcases Nat.lt_or_ge k l.length with hlt | hge
  · rw [runA_cut ha hlt (h hlt), ← seg_nil l k, runA_step (Nat.le_refl k) hlt rfl]
  · have e : k = l.length := by omega
    subst e
    rw [runA_end ha, List.drop_length]; rfl

set_option maxHeartbeats 1000000 in
set_option maxRecDepth 100000 in
theorem rruns_any (l : List Ch) (v : Value) (B : Nat) (w : World) (ht : Tx w B v l) (hB : B ≤ w.heap.size) (hl : l.length ≤ 1000000) :
    Calls Tryd.prog 15 #[v] w fun e w' => ∃ v', e = .returned v' ∧ w'.ownsRow w.heap.size 35 2 v' (runsL l).length (cellsRn (runsL l)) ∧ Below w.heap.size w w' := by
  obtain ⟨A, c, rfl, hc, hcm⟩ := ht.form
  unfold maxLen at hcm
  obtain ⟨i0, hi, hz0, hz1, hz2⟩ := info_parts infoRRn
  go_enter Tryd.func15, Tryd.ntmps15
  go_wp2_with fail
  go_loopw [3, 4] (fun o i wr => ∃ (a : Nat) (rs : List Rn), a ≤ l.length ∧ rs.length ≤ a ∧ i = .int .i64 a ∧ Below w.heap.size w wr ∧ wr.ownsRow w.heap.size 35 2 o rs.length (cellsRn rs) ∧ Hid (runsL l = rs ++ (runA [] (l.drop a)).map runOf)) (fun _ i _ => l.length - (intOf i).toNat)
  case atStart => exact ⟨0, [], Nat.zero_le _, Nat.le_refl _, rfl, Below.refl _ _, World.ownsRow_nil _ _ _ _, rfl⟩
  case round =>
    obtain ⟨a, rs, hal, hrs, rfl, hb, hown, hrun⟩ := hrel
    have hsz := hb.size
    by_cases hlt : a < l.length
    · have htw := (ht.more hB).below hb
      clear ht
      go_wp2_with fail
      go_loopw [5] (fun j w2 => ∃ k : Nat, a ≤ k ∧ k ≤ l.length ∧ j = .int .i64 k ∧ (∃ n, w2 = wr.drewN n) ∧ Hid (runA [] (l.drop a) = runA (seg l a k) (l.drop k))) (fun j _ => l.length - (intOf j).toNat)
      case atStart => exact ⟨a, Nat.le_refl _, by omega, rfl, ⟨0, rfl⟩, by rw [seg_nil]; exact rfl⟩
      case round =>
        obtain ⟨k, hak, hkl, rfl, ⟨n, rfl⟩, hg⟩ := hrel
        obtain ⟨blk, off, rfl, hblk, _, f1⟩ := htw.at_ hlt
        have hblkw := Nat.lt_of_lt_of_le hblk hsz
        by_cases hgo : ∃ h : k < l.length, l[a].2 = l[k].2
        · obtain ⟨hk, hq⟩ := hgo
          obtain ⟨blk2, off2, hA2, _, _, g1⟩ := htw.at_ hk
          injection hA2 with hA2
          injection hA2 with e1 e2 _
          subst e1 e2
          have h1 := Lib.hid (runA_step (l := l) (a := a) (k := k) hak hk hq)
          rw [hq] at f1
          clear hq
          generalize l[k].2 = q at f1 g1
          go_wp2_with fail
          go_quiet (fail)
          go_wp2
          go_roundw
          case rel => exact ⟨k + 1, by omega, by omega, by go_num, ⟨_, rfl⟩, by rw [Hid, hg.out, h1.out]⟩
          case measure => simp [intOf]; omega
        · have hlta : a < k := by
            rcases Nat.lt_or_eq_of_le hak with h | h
            · exact h
            · subst h; exact absurd ⟨hlt, rfl⟩ hgo
          have hout : Hid (runA [] (l.drop a) = seg l a k :: runA [] (l.drop k)) := hg.out.trans (runA_out hlta hkl (fun h e => hgo ⟨h, e⟩))
          obtain ⟨v1, hr1, ht1⟩ := cut_lhR htw (lo := a) (hi := k) (by omega) hkl
          have hseg : Tx wr w.heap.size v1 (seg l a k) := ht1
          have hhead := Lib.hid (headQ_seg (l := l) hlta hkl)
          have hsl := seg_length (l := l) (a := a) hkl
          clear ht1
          by_cases hk : k < l.length
          case' pos =>
            obtain ⟨blk2, off2, hA2, _, _, g1⟩ := htw.at_ hk
            injection hA2 with hA2
            injection hA2 with e1 e2 _
            subst e1 e2
            have hqq : (l[k].2 == l[a].2) = false := by simpa using fun h => hgo ⟨hk, h.symm⟩
            clear hgo
            generalize l[a].2 = qa at f1 hqq hhead
            generalize l[k].2 = q at g1 hqq
            go_wp2_with fail
            go_quiet (fail)
            go_wp2_with fail
          case' neg =>
            clear hgo
            generalize l[a].2 = qa at f1 hhead
            have hd : decide ((k : Int) < (l.length : Int)) = false := by simpa using hk
            go_wp2_with fail
            go_quiet (fail)
            go_wp2_with fail
          all_goals
            have hbW : Below wr.heap.size wr ((wr.drewN n).drewN nq) := below_drewN (below_drewN (Below.refl _ _) _) _
            have hbw : Below w.heap.size w ((wr.drewN n).drewN nq) := below_drewN (below_drewN hb _) _
            have f2 := (hbW.cell (p := ⟨blk, off + a * 2 + 1, none⟩) hblkw).trans f1
            have hownW := own_below hown hbW
            have hsegW := hseg.below (hbW.mono hsz)
            have hszW := hbw.size
            have hblkW := Nat.lt_of_lt_of_le hblk hszW
            clear hb hown hseg f1 hbW
            generalize (wr.drewN n).drewN nq = W at *
            go_region_held3 (fun w' => w'.cell? ⟨blk, off + a * 2 + 1, none⟩ = some (.bool qa))
              (first
                | go_keep
                | exact (hb1.cell (p := ⟨blk, off + a * 2 + 1, none⟩) hblkW).trans f2
                | exact (hb4.cell (p := ⟨blk, off + a * 2 + 1, none⟩) hblk).trans f2
                | exact ((hb1.alloc hb1.size _).cell (p := ⟨blk, off + a * 2 + 1, none⟩) hblkW).trans f2)
              (first
                | (go_at_call 17; refine (rplain_any (seg l a k) v1 w.heap.size _ (show Tx W.drew w.heap.size v1 (seg l a k) from hsegW) hszW (by omega)).mono ?_; rintro e w1 ⟨rfl, hb1'⟩; have hb1 : Below W.heap.size W w1 := ((Below.refl _ W).drew).trans hb1')
                | (refine step_append_lies _ (by rfl) _ _ _ (by rfl) w.heap.size 35 i0 _ 2 24 Tryd.underlying31 hi hz0 hz1 hz2 rfl (by omega) u3 rs.length (cellsRn rs) (by rfl) ((own_below hownW hb1).alloc _)
                    ⟨w1.heap.size, 0, none⟩ 1 1 [.string (plainS (seg l a k)), .bool qa] (by rfl) (by rfl) (new_cells w1 #[.string (plainS (seg l a k)), .bool qa] _) (by simp [Value.oneCell'])
                    (by omega) (by simp only [maxLen]; omega) (by omega) (by have := hb1.size; simp; omega) (w1.heap.size + 1) (by simp) ?_; intro gg cap w3 hown3 hgrow hat hlt1; have hb4 : Below w.heap.size W w3 := ((hb1.mono hszW).alloc (Nat.le_trans hszW hb1.size) _).grown hgrow (by have := hb1.size; simp; omega) (fun g h => ((own_below hownW hb1).lt g h).1)))
            have hb5 := hbw.trans hb4
            have hcells : cellsRn rs ++ [.string (plainS (seg l a k)), .bool qa] = cellsRn (rs ++ [runOf (seg l a k)]) := by
              rw [cellsRn_append, ← hhead.out]; rfl
            rw [hcells] at hown3
            have hlen : rs.length + 1 = (rs ++ [runOf (seg l a k)]).length := by simp
            have hrun2 : Hid (runsL l = (rs ++ [runOf (seg l a k)]) ++ (runA [] (l.drop k)).map runOf) := by rw [Hid, hrun.out, hout.out, List.map_cons, List.append_assoc]; rfl
            clear hb4 hb1 hb1' hat hgrow hcells hownW hsegW hr1 f2
            go_wp2
            go_roundw
            case rel => exact ⟨k, rs ++ [runOf (seg l a k)], hkl, by omega, rfl, hb5, by rw [← hlen]; exact hown3, hrun2⟩
            case measure => simp [intOf]; omega
    · have hres : Hid (runsL l = rs) := by
        rw [Hid, hrun.out, List.drop_of_length_le (by omega)]; simp [runA]
      rw [← hres.out] at hown
      clear hres hrun
      go_wp2
      go_ret
      exact ⟨_, rfl, hown, hb⟩
end Go.Proofs.YtdiiimcoannnnaaDoor
