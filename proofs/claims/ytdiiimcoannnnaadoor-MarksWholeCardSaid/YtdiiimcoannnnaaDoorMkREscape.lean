/-
  The reference's Escape answers the same text. Conditions: at most a million bytes.
-/
import Derived.Test.YtdiiimcoannnnaaDoorMkEscape
import Derived.Deep.QuietTactic
import Derived.BigQuiet
namespace Go.Proofs.YtdiiimcoannnnaaDoor
open Go Go.RowKit

theorem u8_neb {x : UInt8} {n : Nat} (h : ¬ x = UInt8.ofNat n) : ((x.toNat : Int) == (n : Int)) = false := by
  rw [beq_eq_false_iff_ne]; exact u8_ne h
theorem new2 (w : World) (o : Obj) (cs : Array Value) (t : TypeId) : ∀ (j : Nat) (u : Value), cs.toList[j]? = some u → ((w.alloc o).alloc (.cells cs t)).cell? ((⟨w.heap.size + 1, 0, none⟩ : Addr).add j) = some u := by
  intro j u hu
  have := new_cells (w.alloc o) cs t j u hu
  rwa [World.size_alloc] at this

set_option maxHeartbeats 400000 in
set_option maxRecDepth 100000 in
theorem rescape_any (l : List Ch) (v : Value) (B : Nat) (w : World) (ht : Tx w B v l) (hB : B ≤ w.heap.size) (hl : l.length ≤ 1000000) :
    Calls Tryd.prog 31 #[v] w fun e w' => e = .returned (.string (escS l)) ∧ Below w.heap.size w w' := by
  obtain ⟨A, c, rfl, hc, hcm⟩ := ht.form
  unfold maxLen at hcm
  obtain ⟨i0, hi, hz0, hz1, hz2⟩ := info_parts infoByte
  go_enter Tryd.func31, Tryd.ntmps31
  go_wp2
  go_loopw [3, 4] (fun o i wr => ∃ (k : Nat), k ≤ l.length ∧ i = .int .i64 k ∧ Below w.heap.size w wr ∧ wr.ownsRow w.heap.size 5 1 o (escs (l.take k)).length (Lib.byteCells (escs (l.take k))) ∧ Hid ((l.take k).any bad = false)) (fun _ i _ => l.length - (intOf i).toNat)
  case atStart => exact ⟨0, Nat.zero_le _, rfl, Below.refl _ _, World.ownsRow_nil _ _ _ _, rfl⟩
  case round =>
    obtain ⟨k, hk, rfl, hb, hown, hg⟩ := hrel
    have hsz := hb.size
    by_cases hlt : k < l.length
    · obtain ⟨blk, off, rfl, hblk, g0, g1⟩ := ((ht.more hB).below hb).at_ hlt
      have hs := Lib.hid (escs_snoc l k hlt)
      have hbs := Lib.hid (@bad_snoc l k hlt hg.out)
      have hba := Lib.hid (@escS_bad l k hlt)
      have hlen := escs_take_length l k
      generalize l[k] = z at g0 g1 hs hbs hba
      obtain ⟨x, q⟩ := z
      simp only at g0 g1
      cases q
      · by_cases h92 : x = 92
        · subst h92
          go_wp2
          go_ret
          exact ⟨ret_str (hba.out rfl).symm, hb.alloc hsz _⟩
        · by_cases h39 : x = 39
          · subst h39
            go_wp2
            go_ret
            exact ⟨ret_str (hba.out rfl).symm, hb.alloc hsz _⟩
          · have e92 : ((x.toNat : Int) == 92) = false := u8_neb (n := 92) h92
            have e39 : ((x.toNat : Int) == 39) = false := u8_neb (n := 39) h39
            have hgood : Hid (bad (x, false) = false) := by simp [bad, h92, h39, Hid]
            have hesc : Hid (esc (x, false) = [x]) := rfl
            clear h92 h39
            go_wp2_with (at_builtin; refine wpList_append_own _ rfl _ _ 68 rfl w.heap.size 5 i0 (.int .u8 0) 1 1 Tryd.underlying68 hi hz0 hz1 hz2 rfl (by decide) _ _ _ rfl ((hown.alloc _).alloc _) ⟨wr.heap.size + 1, 0, none⟩ 1 1 [.int .u8 (x.toNat : Int)] rfl rfl ?c1 ?c2 ?c3 ?c4 ?c5 ?_)
            case c1 => exact new2 _ _ _ _
            case c2 => simp [Value.oneCell']
            case c3 => simp only [maxLen]; omega
            case c4 => omega
            case c5 => first | omega | (simp; omega)
            intro v' w1 hown1 hgrow _
            have hb1 : Below w.heap.size w w1 := ((hb.alloc hsz _).alloc (by simp; omega) _).grown hgrow (by simp; omega) (fun g h => (hown.lt g h).1)
            have hown2 : w1.ownsRow w.heap.size 5 1 v' (escs (l.take (k + 1))).length (Lib.byteCells (escs (l.take (k + 1)))) := by rw [hs.out, hesc.out, byteCells_append, List.length_append]; exact hown1
            clear hown hown1 hgrow hb
            go_wp2
            go_roundw
            case rel => exact ⟨k + 1, by omega, by go_num, hb1, hown2, hbs.out hgood.out⟩
            case measure => simp [intOf]; omega
      · have hgood : Hid (bad (x, true) = false) := rfl
        by_cases h10 : x = 10
        · subst h10
          have hesc : Hid (esc (10, true) = [39, 10, 39]) := rfl
          go_wp2_with (at_builtin; refine wpList_append_own _ rfl _ _ 68 rfl w.heap.size 5 i0 (.int .u8 0) 1 1 Tryd.underlying68 hi hz0 hz1 hz2 rfl (by decide) _ _ _ rfl ((hown.alloc _).alloc _) ⟨wr.heap.size + 1, 0, none⟩ 3 3 [.int .u8 39, .int .u8 10, .int .u8 39] rfl rfl ?c1 ?c2 ?c3 ?c4 ?c5 ?_)
          case c1 => exact new2 _ _ _ _
          case c2 => simp [Value.oneCell']
          case c3 => simp only [maxLen]; omega
          case c4 => omega
          case c5 => first | omega | (simp; omega)
          intro v' w1 hown1 hgrow _
          have hb1 : Below w.heap.size w w1 := ((hb.alloc hsz _).alloc (by simp; omega) _).grown hgrow (by simp; omega) (fun g h => (hown.lt g h).1)
          have hown2 : w1.ownsRow w.heap.size 5 1 v' (escs (l.take (k + 1))).length (Lib.byteCells (escs (l.take (k + 1)))) := by rw [hs.out, hesc.out, byteCells_append, List.length_append]; exact hown1
          clear hown hown1 hgrow hb
          go_wp2
          go_roundw
          case rel => exact ⟨k + 1, by omega, by go_num, hb1, hown2, hbs.out hgood.out⟩
          case measure => simp [intOf]; omega
        · have e10 : ((x.toNat : Int) == 10) = false := u8_neb (n := 10) h10
          have hesc : Hid (esc (x, true) = [92, x]) := by simp [esc, h10, Hid]
          clear h10
          go_wp2_with (at_builtin; refine wpList_append_own _ rfl _ _ 68 rfl w.heap.size 5 i0 (.int .u8 0) 1 1 Tryd.underlying68 hi hz0 hz1 hz2 rfl (by decide) _ _ _ rfl ((hown.alloc _).alloc _) ⟨wr.heap.size + 1, 0, none⟩ 2 2 [.int .u8 92, .int .u8 (x.toNat : Int)] rfl rfl ?c1 ?c2 ?c3 ?c4 ?c5 ?_)
          case c1 => exact new2 _ _ _ _
          case c2 => simp [Value.oneCell']
          case c3 => simp only [maxLen]; omega
          case c4 => omega
          case c5 => first | omega | (simp; omega)
          intro v' w1 hown1 hgrow _
          have hb1 : Below w.heap.size w w1 := ((hb.alloc hsz _).alloc (by simp; omega) _).grown hgrow (by simp; omega) (fun g h => (hown.lt g h).1)
          have hown2 : w1.ownsRow w.heap.size 5 1 v' (escs (l.take (k + 1))).length (Lib.byteCells (escs (l.take (k + 1)))) := by rw [hs.out, hesc.out, byteCells_append, List.length_append]; exact hown1
          clear hown hown1 hgrow hb
          go_wp2
          go_roundw
          case rel => exact ⟨k + 1, by omega, by go_num, hb1, hown2, hbs.out hgood.out⟩
          case measure => simp [intOf]; omega
    · have hcv : (convert 68 9 u3).run Tryd.prog wr = .ok (.string (escS l)) wr := by
        have := run_string_own hown
        rwa [escL_full (by omega) hg.out] at this
      clear hown
      go_wp2
      go_ret
      exact ⟨rfl, hb⟩
end Go.Proofs.YtdiiimcoannnnaaDoor
