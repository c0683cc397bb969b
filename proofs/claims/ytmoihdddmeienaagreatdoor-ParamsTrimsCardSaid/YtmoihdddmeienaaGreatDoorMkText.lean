/-
  Text turns a marked text into the reference's, byte by byte. Conditions: at most a million bytes.
-/
import Derived.Test.YtmoihdddmeienaaGreatDoorMkWords
import Derived.Test.YtmoihdddmeienaaGreatDoorProg
import Derived.StillTailTactics
import Derived.Deep.QuietTactic
import Derived.BigQuiet
import Derived.Deep.RegionHeld3
import Derived.Deep.AppendLies
namespace Go.Proofs.YtmoihdddmeienaaGreatDoor
open Go Go.RowKit

theorem infoRCh : (Tryz.prog.info? 45).map (fun i => (i.zero, i.size, i.bytes)) = some (some (.agg #[.int .u8 0, .bool false]), 2, 2) := by kernel_rfl
theorem infoCh : (Tryz.prog.info? 44).map (fun i => (i.zero, i.size, i.bytes)) = some (some (.agg #[.int .u8 0, .bool false]), 2, 2) := by kernel_rfl

theorem cellsCh_snoc (l : List Ch) (k : Nat) (h : k < l.length) : cellsCh (l.take (k + 1)) = cellsCh (l.take k) ++ [.int .u8 (l[k].1.toNat : Int), .bool l[k].2] := by
  rw [List.take_succ_eq_append_getElem h, cellsCh_append]; rfl

theorem own_ne {w : World} {base : Nat} {e : TypeId} {size n : Nat} {v : Value} {xs : List Value} (h : w.ownsRow base e size v n xs) {blk off : Nat} {sp : Option Nat} (hb : blk < base) : some (⟨blk, off, sp⟩ : Addr).block ≠ v.ownBlock := by
  intro hk
  have := (h.lt blk hk.symm).1
  omega

set_option maxHeartbeats 400000 in
set_option maxRecDepth 100000 in
theorem text_any (l : List Ch) (v : Value) (B : Nat) (w : World) (ht : Tx w B v l) (hB : B ≤ w.heap.size) (hl : l.length ≤ 1000000) :
    Calls Tryz.prog 7 #[v] w fun e w' => ∃ v', e = .returned v' ∧ Tx w' w'.heap.size v' l ∧ Below w.heap.size w w' := by
  obtain ⟨A, c, rfl, hc, hcm⟩ := ht.form
  unfold maxLen at hcm
  obtain ⟨i0, hi, hz0, hz1, hz2⟩ := info_parts infoRCh
  go_enter Tryz.func7, Tryz.ntmps7
  go_wp2
  go_loopw [3, 4] (fun o i wr => ∃ (k : Nat), k ≤ l.length ∧ i = .int .i64 k ∧ Below w.heap.size w wr ∧ wr.ownsRow w.heap.size 45 2 o k (cellsCh (l.take k))) (fun _ i _ => l.length - (intOf i).toNat)
  case atStart => exact ⟨0, Nat.zero_le _, rfl, Below.refl _ _, World.ownsRow_nil _ _ _ _⟩
  case round =>
    obtain ⟨k, hk, rfl, hb, hown⟩ := hrel
    have hsz := hb.size
    by_cases hlt : k < l.length
    · obtain ⟨blk, off, rfl, hblk, g0, g1⟩ := ((ht.more hB).below hb).at_ hlt
      have hs := Lib.hid (cellsCh_snoc l k hlt)
      generalize l[k] = z at g0 g1 hs
      obtain ⟨x, q⟩ := z
      simp only at g0 g1
      have hB0 := Nat.lt_of_lt_of_le hblk hsz
      go_wp2_with fail
      go_region_held3 (fun w' => w'.cell? ⟨blk, off + k * 2, none⟩ = some (.int .u8 (x.toNat : Int)) ∧ w'.cell? ⟨blk, off + k * 2 + 1, none⟩ = some (.bool q))
        (first
          | go_keep
          | (go_split_ands
             refine ⟨?_, ?_⟩
             · (rw [hgrow.cell_far _ (by simp; omega) (own_ne hown hblk)]; assumption)
             · (rw [hgrow.cell_far _ (by simp; omega) (own_ne hown hblk)]; assumption)))
        ((refine step_append_lies _ (by rfl) _ _ _ (by rfl) w.heap.size 45 i0 _ 2 2 Tryz.underlying28 hi hz0 hz1 hz2 rfl (by omega) u3 k (cellsCh (l.take k)) (by rfl) ((hown.alloc _).drew)
            ⟨wr.heap.size, 0, none⟩ 1 1 [.int .u8 (x.toNat : Int), .bool q] (by rfl) (by rfl) (World.news_of_block (cs := #[.int .u8 (x.toNat : Int), .bool q]) (t := 45) (fr := (0, 0)) (heap_alloc_new wr _)) (by simp [Value.oneCell'])
            (by omega) (by simp only [maxLen]; omega) (by omega) (by simp; omega) (wr.heap.size + 1) (by simp) ?_; intro gg cap w1 hown1 hgrow hat hlt1))
      clear hi hz0 hz1 hz2
      have hb1 : Below w.heap.size w w1 := ((hb.alloc hsz _).drew).grown hgrow (by simp; omega) (fun g h => (hown.lt g h).1)
      clear hgrow hat hown hb
      have hown2 : w1.ownsRow w.heap.size 45 2 (.slice (some ⟨gg, 0, none⟩) (k + 1) cap) (k + 1) (cellsCh (l.take (k + 1))) := by rw [hs.out]; exact hown1
      clear hown1
      go_wp2
      go_roundw
      case rel => exact ⟨k + 1, by omega, by go_num, hb1, hown2⟩
      case measure => simp [intOf]; omega
    · have hkl : k = l.length := by omega
      have ho : Tx wr wr.heap.size u3 l := by
        have := Sl.of_own hown
        subst hkl
        rw [List.take_length] at this
        exact this
      clear hkl
      go_wp2
      go_ret
      exact ⟨_, rfl, ho, hb⟩
end Go.Proofs.YtmoihdddmeienaaGreatDoor
