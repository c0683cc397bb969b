/-
  The reference's ends tells of each place of a text whether a pattern fits what is ahead of it. Conditions: at most a million items and bytes.
-/
import Derived.Test.YtmoihdddmeienaaGreatDoorGbEndsPure
namespace Go.Proofs.YtmoihdddmeienaaGreatDoor
open Go Go.RowKit

theorem ends_first (w : World) (n : Nat) : rowAt (w.alloc (.cells ((Array.replicate (n + 1) (Value.bool false)).setIfInBounds 0 (Value.bool true)) 4)) w.heap.size (n + 1) (fun i => i == 0) := by
  unfold rowAt
  rw [heap_alloc_new, rowB_false, rowB_set]
  refine congrArg some (congrArg (fun r => Obj.cells r _ _) (rowB_congr fun j _ => ?_))
  by_cases h : j = 0 <;> simp [h]
/-- The world in which an item is held against the places: the row so far, the item's copy, the row that is next. -/
structure EndW (W : World) (B g gx n : Nat) (S f : Nat → Bool) (x : It) (u : Value) : Prop where
  at_ : rowAt W g n S
  item : W.heap[gx]? = some (.cells (ci x u).toArray 64 (0, 0))
  rgs : Rgs W B u x.2.2.2
  next : rowAt W (gx + 1) n f
  lt : g < gx
  low : B ≤ gx
section
variable {W W' : World} {B g gx n : Nat} {S f f' : Nat → Bool} {x : It} {u : Value}
theorem EndW.put (h : EndW W B g gx n S f x u) (k : Nat) (b : Bool) : EndW (W.setCell ⟨gx + 1, k, none⟩ (.bool b)) B g gx n S (fun j => if j = k then b else f j) x u := by
  have hb : Below (gx + 1) W (W.setCell ⟨gx + 1, k, none⟩ (.bool b)) := (Below.refl _ _).setCell (p := ⟨gx + 1, k, none⟩) (Nat.le_refl _) _
  have h1 := h.lt
  have h2 := h.low
  exact ⟨(hb.block _ (by omega)).trans h.at_, (hb.block _ (by omega)).trans h.item, h.rgs.below (hb.mono (by omega)), rowAt_set h.next k b, h.lt, h.low⟩
theorem EndW.congr (h : EndW W B g gx n S f x u) (e : ∀ j, f j = f' j) : EndW W B g gx n S f' x u := ⟨h.at_, h.item, h.rgs, rowAt_congr h.next fun j _ => e j, h.lt, h.low⟩
theorem EndW.c (h : EndW W B g gx n S f x u) : W.cell? ⟨gx, 0, none⟩ = some (.int .i64 x.1) ∧ W.cell? ⟨gx, 1, none⟩ = some (.int .u8 (x.2.1.toNat : Int)) ∧ W.cell? ⟨gx, 2, none⟩ = some (.bool x.2.2.1) ∧ W.cell? ⟨gx, 3, none⟩ = some u := by
  refine ⟨?_, ?_, ?_, ?_⟩ <;> (rw [cell_of_row W _ _ _ _ _ h.item]; rfl)
theorem EndW.stay {T : List Ch} {i : Nat} (h : EndW W B g gx n S (mid T S x i) x u) {v : Bool} (h1 : stepQ T S x i = v) (h2 : carry T S x (i + 1) = false) : EndW (W.setCell ⟨gx + 1, i, none⟩ (.bool v)) B g gx n S (mid T S x (i + 1)) x u :=
  (h.put i v).congr (mid_stay (by simp [h1]) h2 fun j hj => by simp [hj])
theorem EndW.go2 {T : List Ch} {i : Nat} (h : EndW W B g gx n S (mid T S x i) x u) (h1 : stepQ T S x i = true) (h2 : carry T S x (i + 1) = true) : EndW ((W.setCell ⟨gx + 1, i, none⟩ (.bool true)).setCell ⟨gx + 1, i + 1, none⟩ (.bool true)) B g gx n S (mid T S x (i + 1)) x u :=
  ((h.put i true).put (i + 1) true).congr (mid_put (by simp [h1]) h2 (fun j h3 h4 => by simp [h3, h4]) (by simp))
theorem EndW.stay0 {T : List Ch} {i : Nat} (h : EndW W B g gx n S (mid T S x i) x u) (h1 : ¬ x.1 = 3) (h2 : carry T S x (i + 1) = false) : EndW W B g gx n S (mid T S x (i + 1)) x u :=
  h.congr (mid_stay (by rw [mid_here, step_other T S h1]) h2 fun j hj => rfl)
theorem EndW.go1 {T : List Ch} {i : Nat} (h : EndW W B g gx n S (mid T S x i) x u) (h1 : ¬ x.1 = 3) (h2 : carry T S x (i + 1) = true) : EndW (W.setCell ⟨gx + 1, i + 1, none⟩ (.bool true)) B g gx n S (mid T S x (i + 1)) x u :=
  (h.put (i + 1) true).congr (mid_put (by rw [if_neg (by omega), mid_here, step_other T S h1]) h2 (fun j h3 h4 => by simp [h4]) (by simp))
theorem EndW.drewN (h : EndW W B g gx n S f x u) (k : Nat) : EndW (W.drewN k) B g gx n S f x u := ⟨h.at_, h.item, h.rgs, h.next, h.lt, h.low⟩
end

set_option maxHeartbeats 8000000 in
set_option maxRecDepth 100000 in
theorem ends_any (p : List It) (v : Value) (s : ByteArray) (path : Bool) (B : Nat) (w : World) (ht : Its w B v p) (hB : B ≤ w.heap.size) (_hl : p.length ≤ 1000000) (hs : s.size ≤ 999999) :
    Calls Tryz.prog 25 #[v, .string s, .bool path] w fun e w' => ∃ g, e = .returned (.slice (some ⟨g, 0, none⟩) (s.size + 1) (s.size + 1)) ∧ rowAt w' g (s.size + 1) (endQ (tM path (bl s)) p) ∧ Below w.heap.size w w' := by
  obtain ⟨A, c, rfl, hc, hcm⟩ := ht.form
  unfold maxLen at hcm
  have hmk : ∀ W : World, (Instr.makeSlice 53 (.int .i64 ((s.size : Int) + 1)) (.int .i64 ((s.size : Int) + 1))).run Tryz.prog W = .ok (.slice (some ⟨W.heap.size, 0, none⟩) (s.size + 1) (s.size + 1)) (W.alloc (.cells (Array.replicate (s.size + 1) (Value.bool false)) 4)) := fun W => by
    have := run_makeBool (s.size + 1) (by omega) W
    rwa [show ((s.size + 1 : Nat) : Int) = (s.size : Int) + 1 by omega] at this
  have hfirst := ends_first w s.size
  have hbf : Below w.heap.size w (w.alloc (.cells ((Array.replicate (s.size + 1) (Value.bool false)).setIfInBounds 0 (Value.bool true)) 4)) := (Below.refl _ w).alloc (Nat.le_refl _) _
  obtain ⟨T, hT⟩ : ∃ T, tM path (bl s) = T := ⟨_, rfl⟩
  have hTl : T.length = s.size := by rw [← hT, tM_len, bl_len]
  have hTg := Lib.hid (fun i hi => tM_get path s i hi)
  rw [hT] at hTg ⊢
  clear hT
  go_enter Tryz.func25, Tryz.ntmps25
  go_wp2
  go_loopw [7, 8] (fun at_ kv wr => ∃ (k g : Nat), k ≤ p.length ∧ at_ = .slice (some ⟨g, 0, none⟩) (s.size + 1) (s.size + 1) ∧ kv = .int .i64 k ∧ g < wr.heap.size ∧ Below w.heap.size w wr ∧ Hid (rowAt wr g (s.size + 1) (endQ T (p.take k)))) (fun _ kv _ => p.length - (intOf kv).toNat)
  case atStart => exact ⟨0, w.heap.size, Nat.zero_le _, rfl, rfl, by simp, hbf, hfirst⟩
  case round =>
    clear hfirst hbf
    obtain ⟨k, g, hk, rfl, rfl, hg, hb, hrow⟩ := hrel
    have hsz := hb.size
    by_cases hlt : k < p.length
    · obtain ⟨blk, off, u, rfl, hblk, g0, g1, g2, g3, hrg⟩ := ((ht.more hB).below hb).at_ hlt
      have hsn := Lib.hid (endQ_snoc T p k hlt)
      generalize p[k] = x at g0 g1 g2 g3 hrg hsn
      obtain ⟨kind, b, no, rs⟩ := x
      simp only at g0 g1 g2 g3 hrg
      obtain ⟨A2, c2, rfl, hc2, hcm2⟩ := hrg.form
      unfold maxLen at hcm2
      have hE : EndW ((wr.alloc (.cells #[.int .i64 kind, .int .u8 (b.toNat : Int), .bool no, .slice A2 rs.length c2] 64)).alloc (.cells (Array.replicate (s.size + 1) (Value.bool false)) 4)) w.heap.size g wr.heap.size (s.size + 1) (endQ T (p.take k)) (mid T (endQ T (p.take k)) (kind, b, no, rs) 0) (kind, b, no, rs) (.slice A2 rs.length c2) := by
        have hb1 : Below wr.heap.size wr ((wr.alloc (.cells #[.int .i64 kind, .int .u8 (b.toNat : Int), .bool no, .slice A2 rs.length c2] 64)).alloc (.cells (Array.replicate (s.size + 1) (Value.bool false)) 4)) := ((Below.refl _ wr).alloc (Nat.le_refl _) _).alloc (by simp) _
        refine ⟨(hb1.block _ hg).trans hrow.out, ?_, hrg.below (hb1.mono hsz), ?_, hg, hsz⟩
        · rw [Below.heap_alloc _ _ _ (by simp)]
          exact heap_alloc_new wr _
        · have := rowAt_new (wr.alloc (.cells #[.int .i64 kind, .int .u8 (b.toNat : Int), .bool no, .slice A2 rs.length c2] 64)) (s.size + 1)
          rw [World.size_alloc] at this
          exact rowAt_congr this fun j _ => (mid_zero _ _ _ j).symm
      have hbE : Below w.heap.size w ((wr.alloc (.cells #[.int .i64 kind, .int .u8 (b.toNat : Int), .bool no, .slice A2 rs.length c2] 64)).alloc (.cells (Array.replicate (s.size + 1) (Value.bool false)) 4)) := (hb.alloc hsz _).alloc (by simp; omega) _
      have hszE : ((wr.alloc (.cells #[.int .i64 kind, .int .u8 (b.toNat : Int), .bool no, .slice A2 rs.length c2] 64)).alloc (.cells (Array.replicate (s.size + 1) (Value.bool false)) 4)).heap.size = wr.heap.size + 1 + 1 := by simp
      clear hrow hb
      generalize endQ T (p.take k) = S at hE hsn
      go_wp2
      have hgx : w.heap.size ≤ wr.heap.size := hsz
      clear g0 g1 g2 g3 hmk hrg ht
      generalize wr.heap.size = gx at *
      generalize ((wr.alloc (.cells #[.int .i64 kind, .int .u8 (b.toNat : Int), .bool no, .slice A2 rs.length c2] 64)).alloc (.cells (Array.replicate (s.size + 1) (Value.bool false)) 4)) = W0 at *
      go_loopw [11] (fun iv w2 => ∃ (i : Nat), i ≤ s.size + 1 ∧ iv = .int .i64 i ∧ Below w.heap.size w w2 ∧ gx + 1 < w2.heap.size ∧ EndW w2 w.heap.size g gx (s.size + 1) S (mid T S (kind, b, no, rs) i) (kind, b, no, rs) (.slice A2 rs.length c2)) (fun iv _ => s.size + 1 - (intOf iv).toNat)
      case atStart => exact ⟨0, by omega, rfl, hbE, by omega, hE⟩
      case round =>
        clear hE hbE hszE
        obtain ⟨i, hi, rfl, hb2, hgn, hE⟩ := hrel
        by_cases hin : i < s.size + 1
        · have cA := rowAt_cell hE.at_ hin
          have cN := rowAt_cell hE.next hin
          rw [mid_here] at cN
          have fN := rowAt_frozen hE.next
          obtain ⟨x0, x1, x2, x3⟩ := hE.c
          simp only at x0 x1 x2 x3
          have hgS : ∀ (k : Nat) (v : Value), gx + 1 < (wr.setCell ⟨gx + 1, k, none⟩ v).heap.size := fun k v => by simpa [World.setCell] using hgn
          have hP : path = false ∨ (path = true ∧ hardB (bl s) i = false) ∨ (path = true ∧ hardB (bl s) i = true) := by cases path <;> cases hardB (bl s) i <;> simp
          by_cases h3 : kind = 3
          · subst h3
            have hst := step_star T S (x := (3, b, no, rs)) rfl i
            by_cases hlt2 : i < s.size
            · have hcs := carry_star (S := S) (x := (3, b, no, rs)) rfl (hTg.out i hlt2)
              have hhard := fun W => hardRef_any s i W hlt2 (by omega)
              have cM := rowAt_cell hE.next (k := i + 1) (by omega)
              generalize mid T S (3, b, no, rs) i (i + 1) = mv at cM
              generalize hardB (bl s) i = m at hcs hhard hP
              by_cases hz : carry T S (3, b, no, rs) i = false ∧ S i = false
              · have hE3 := hE.stay (v := false) (by rw [hst, hz.1, hz.2]; rfl) (by rw [hcs, hz.1, hz.2]; rfl)
                rw [hz.1] at cN
                rw [hz.2] at cA
                have hb3 := hb2.setCell (p := ⟨gx + 1, i, none⟩) (by simp; omega) (.bool false)
                have hgn3 := hgS i (.bool false)
                clear hst hcs hhard hE hb2 hgn hgS hz hP
                go_wp2
                go_roundw
                case rel => exact ⟨i + 1, by omega, by go_num, hb3, hgn3, hE3⟩
                case measure => simp [intOf]; omega
              · have hor : (carry T S (3, b, no, rs) i || S i) = true := by
                  cases h1 : carry T S (3, b, no, rs) i <;> cases h2 : S i <;> simp [h1, h2] at hz ⊢
                have hst2 : stepQ T S (3, b, no, rs) i = true := by rw [hst, hor]
                rw [hor, Bool.true_and] at hcs
                have hcN : carry T S (3, b, no, rs) i = true ∨ (carry T S (3, b, no, rs) i = false ∧ S i = true) := by
                  cases h1 : carry T S (3, b, no, rs) i <;> cases h2 : S i <;> simp [h1, h2] at hz ⊢
                clear hst hor hz
                have hb3a := hb2.setCell (p := ⟨gx + 1, i, none⟩) (by simp; omega) (.bool true)
                have hb3b := hb3a.setCell (p := ⟨gx + 1, i + 1, none⟩) (by simp; omega) (.bool true)
                have hgna := hgS i (.bool true)
                have hgnb : gx + 1 < ((wr.setCell ⟨gx + 1, i, none⟩ (.bool true)).setCell ⟨gx + 1, i + 1, none⟩ (.bool true)).heap.size := by simpa [World.setCell] using hgn
                rcases hP with hp | ⟨hp, hm⟩ | ⟨hp, hm⟩
                · subst hp
                  rw [Bool.false_and] at hcs
                  have hE3 := hE.go2 hst2 hcs
                  have hb3 := hb3b
                  have hgn3 := hgnb
                  clear hst2 hcs hhard hE hb2 hgn hgS hb3a hb3b hgna hgnb
                  rcases hcN with h1 | ⟨h1, h2⟩
                  · rw [h1] at cN
                    clear h1 cA
                    go_wp2
                    go_roundw
                    case rel => exact ⟨i + 1, by omega, by go_num, hb3, hgn3, hE3⟩
                    case measure => simp [intOf]; omega
                  · rw [h1] at cN
                    rw [h2] at cA
                    clear h1 h2
                    go_wp2
                    go_roundw
                    case rel => exact ⟨i + 1, by omega, by go_num, hb3, hgn3, hE3⟩
                    case measure => simp [intOf]; omega
                · subst hp
                  rw [hm] at hcs hhard
                  have hE3 := hE.go2 hst2 hcs
                  have hb3 := hb3b
                  have hgn3 := hgnb
                  clear hm hst2 hcs hE hb2 hgn hgS hb3a hb3b hgna hgnb
                  rcases hcN with h1 | ⟨h1, h2⟩
                  · rw [h1] at cN
                    clear h1 cA
                    go_wp2_with fail
                    refine (hhard _).mono ?_
                    rintro e w5 ⟨rfl, rfl⟩
                    go_wp2
                    go_roundw
                    case rel => exact ⟨i + 1, by omega, by go_num, hb3, hgn3, hE3⟩
                    case measure => simp [intOf]; omega
                  · rw [h1] at cN
                    rw [h2] at cA
                    clear h1 h2
                    go_wp2_with fail
                    refine (hhard _).mono ?_
                    rintro e w5 ⟨rfl, rfl⟩
                    go_wp2
                    go_roundw
                    case rel => exact ⟨i + 1, by omega, by go_num, hb3, hgn3, hE3⟩
                    case measure => simp [intOf]; omega
                · subst hp
                  rw [hm] at hcs hhard
                  have hE3 := hE.stay hst2 hcs
                  have hb3 := hb3a
                  have hgn3 := hgna
                  clear hm hst2 hcs hE hb2 hgn hgS hb3a hb3b hgna hgnb
                  rcases hcN with h1 | ⟨h1, h2⟩
                  · rw [h1] at cN
                    clear h1 cA
                    go_wp2_with fail
                    refine (hhard _).mono ?_
                    rintro e w5 ⟨rfl, rfl⟩
                    go_wp2
                    go_roundw
                    case rel => exact ⟨i + 1, by omega, by go_num, hb3, hgn3, hE3⟩
                    case measure => simp [intOf]; omega
                  · rw [h1] at cN
                    rw [h2] at cA
                    clear h1 h2
                    go_wp2_with fail
                    refine (hhard _).mono ?_
                    rintro e w5 ⟨rfl, rfl⟩
                    go_wp2
                    go_roundw
                    case rel => exact ⟨i + 1, by omega, by go_num, hb3, hgn3, hE3⟩
                    case measure => simp [intOf]; omega
            · have hcs := carry_none (S := S) (x := (3, b, no, rs)) (List.getElem?_eq_none (l := T) (i := i) (by omega))
              have hcN : carry T S (3, b, no, rs) i = true ∨ (carry T S (3, b, no, rs) i = false ∧ S i = true) ∨ (carry T S (3, b, no, rs) i = false ∧ S i = false) := by
                cases h1 : carry T S (3, b, no, rs) i <;> cases h2 : S i <;> simp
              rcases hcN with h1 | ⟨h1, h2⟩ | ⟨h1, h2⟩
              · have hE3 := hE.stay (v := true) (by rw [hst, h1]; rfl) hcs
                rw [h1] at cN
                have hb3 := hb2.setCell (p := ⟨gx + 1, i, none⟩) (by simp; omega) (.bool true)
                have hgn3 := hgS i (.bool true)
                clear hst hcs hE hb2 hgn hgS h1 hP cA
                go_wp2
                go_roundw
                case rel => exact ⟨i + 1, by omega, by go_num, hb3, hgn3, hE3⟩
                case measure => simp [intOf]; omega
              · have hE3 := hE.stay (v := true) (by rw [hst, h1, h2]; rfl) hcs
                rw [h1] at cN
                rw [h2] at cA
                have hb3 := hb2.setCell (p := ⟨gx + 1, i, none⟩) (by simp; omega) (.bool true)
                have hgn3 := hgS i (.bool true)
                clear hst hcs hE hb2 hgn hgS h1 h2 hP
                go_wp2
                go_roundw
                case rel => exact ⟨i + 1, by omega, by go_num, hb3, hgn3, hE3⟩
                case measure => simp [intOf]; omega
              · have hE3 := hE.stay (v := false) (by rw [hst, h1, h2]; rfl) hcs
                rw [h1] at cN
                rw [h2] at cA
                have hb3 := hb2.setCell (p := ⟨gx + 1, i, none⟩) (by simp; omega) (.bool false)
                have hgn3 := hgS i (.bool false)
                clear hst hcs hE hb2 hgn hgS h1 h2 hP
                go_wp2
                go_roundw
                case rel => exact ⟨i + 1, by omega, by go_num, hb3, hgn3, hE3⟩
                case measure => simp [intOf]; omega
          · clear cN
            by_cases hlt2 : i < s.size
            · have hco := carry_other (S := S) (x := (kind, b, no, rs)) h3 (hTg.out i hlt2)
              cases hSi : S i with
              | false =>
                rw [hSi] at hco cA
                rw [Bool.false_and] at hco
                have hE3 := hE.stay0 h3 hco
                have hb3 := hb2
                have hgn3 := hgn
                clear hco hE hb2 hgn hgS hSi hP
                go_wp2
                go_roundw
                case rel => exact ⟨i + 1, by omega, by go_num, hb3, hgn3, hE3⟩
                case measure => simp [intOf]; omega
              | true =>
                rw [hSi] at hco cA
                rw [Bool.true_and] at hco
                have hhard := fun W => hardRef_any s i W hlt2 (by omega)
                have cM := rowAt_cell hE.next (k := i + 1) (by omega)
                have hin0 := fun W hW => inRef_any rs s[i] (.slice A2 rs.length c2) w.heap.size W hW
                generalize hardB (bl s) i = m at hco hhard hP
                generalize hy : s[i] = y at hco hin0
                clear hSi
                by_cases k1 : kind = 1
                · subst k1
                  rw [fitM_one rfl] at hco
                  simp only at hco
                  clear hP hhard hin0
                  by_cases hby : b = y
                  · subst hby
                    rw [beq_self_eq_true] at hco
                    go_wp2_with fail
                    go_quiet (fail)
                    have hE2 := hE.drewN nq
                    have hbW := below_drewN hb2 nq
                    have hgW : gx + 1 < (wr.drewN nq).heap.size := hgn
                    clear hE hb2 hgn hgS cA cM fN x0 x1 x2 x3
                    generalize wr.drewN nq = W at *
                    obtain ⟨x0, x1, x2, x3⟩ := hE2.c
                    simp only at x0 x1 x2 x3
                    have fN := rowAt_frozen hE2.next
                    have cM := rowAt_cell hE2.next (k := i + 1) (by omega)
                    generalize mid T S (_, b, no, rs) i (i + 1) = mv at cM
                    have hgS : ∀ (k : Nat) (v : Value), gx + 1 < (W.setCell ⟨gx + 1, k, none⟩ v).heap.size := fun k v => by simpa [World.setCell] using hgW
                    have hE3 := hE2.go1 (by simp) hco
                    have hb3 := hbW.setCell (p := ⟨gx + 1, i + 1, none⟩) (by simp; omega) (.bool true)
                    have hgn3 := hgS (i + 1) (.bool true)
                    clear hco hE2 hbW hgW hgS
                    go_wp2_with fail
                    go_quiet (fail)
                    have hE4 := hE3.drewN nq
                    have hb4 := below_drewN hb3 nq
                    clear hE3 hb3
                    go_wp2
                    go_roundw
                    case rel => exact ⟨i + 1, by omega, by go_num, hb4, hgn3, hE4⟩
                    case measure => simp [intOf]; omega
                  · rw [beq_eq_false_iff_ne.2 hby] at hco
                    have i7 : ¬ (b.toNat : Int) = (y.toNat : Int) := fun e => hby (UInt8.toNat.inj (by omega))
                    have j7 : ((b.toNat : Int) == (y.toNat : Int)) = false := beq_eq_false_iff_ne.2 i7
                    clear hby
                    go_wp2_with fail
                    go_quiet (fail)
                    have hE2 := hE.drewN nq
                    have hbW := below_drewN hb2 nq
                    have hgW : gx + 1 < (wr.drewN nq).heap.size := hgn
                    clear hE hb2 hgn hgS cA cM fN x0 x1 x2 x3
                    generalize wr.drewN nq = W at *
                    obtain ⟨x0, x1, x2, x3⟩ := hE2.c
                    simp only at x0 x1 x2 x3
                    have fN := rowAt_frozen hE2.next
                    have cM := rowAt_cell hE2.next (k := i + 1) (by omega)
                    generalize mid T S (_, b, no, rs) i (i + 1) = mv at cM
                    have hgS : ∀ (k : Nat) (v : Value), gx + 1 < (W.setCell ⟨gx + 1, k, none⟩ v).heap.size := fun k v => by simpa [World.setCell] using hgW
                    have hE3 := hE2.stay0 (by simp) hco
                    have hb3 := hbW
                    have hgn3 := hgW
                    clear hco hE2 hbW hgW hgS
                    go_wp2_with fail
                    go_quiet (fail)
                    have hE4 := hE3.drewN nq
                    have hb4 := below_drewN hb3 nq
                    clear hE3 hb3
                    go_wp2
                    go_roundw
                    case rel => exact ⟨i + 1, by omega, by go_num, hb4, hgn3, hE4⟩
                    case measure => simp [intOf]; omega
                · by_cases k2 : kind = 2
                  · subst k2
                    rw [fitM_any rfl] at hco
                    clear hin0 k1
                    rcases hP with hp | ⟨hp, hm⟩ | ⟨hp, hm⟩
                    · subst hp
                      rw [Bool.false_and] at hco
                      rw [Bool.not_false] at hco
                      clear hhard
                      go_wp2_with fail
                      go_quiet (fail)
                      have hE2 := hE.drewN nq
                      have hbW := below_drewN hb2 nq
                      have hgW : gx + 1 < (wr.drewN nq).heap.size := hgn
                      clear hE hb2 hgn hgS cA cM fN x0 x1 x2 x3
                      generalize wr.drewN nq = W at *
                      obtain ⟨x0, x1, x2, x3⟩ := hE2.c
                      simp only at x0 x1 x2 x3
                      have fN := rowAt_frozen hE2.next
                      have cM := rowAt_cell hE2.next (k := i + 1) (by omega)
                      generalize mid T S (_, b, _, rs) i (i + 1) = mv at cM
                      go_wp2_with fail
                      go_quiet (fail)
                      have hE3 := (hE2.drewN nq).go1 (by simp) hco
                      have hb3 := (below_drewN hbW nq).setCell (p := ⟨gx + 1, i + 1, none⟩) (by simp; omega) (.bool true)
                      have hgn3 : gx + 1 < ((W.drewN nq).setCell ⟨gx + 1, i + 1, none⟩ (.bool true)).heap.size := by simpa [World.setCell] using hgW
                      clear hE2 hbW
                      go_wp2
                      go_roundw
                      case rel => exact ⟨i + 1, by omega, by go_num, hb3, hgn3, hE3⟩
                      case measure => simp [intOf]; omega
                    · subst hp
                      rw [hm] at hco hhard
                      rw [Bool.and_false, Bool.not_false] at hco
                      clear hm
                      go_wp2_with fail
                      go_quiet (fail)
                      have hE2 := hE.drewN nq
                      have hbW := below_drewN hb2 nq
                      have hgW : gx + 1 < (wr.drewN nq).heap.size := hgn
                      clear hE hb2 hgn hgS cA cM fN x0 x1 x2 x3
                      generalize wr.drewN nq = W at *
                      obtain ⟨x0, x1, x2, x3⟩ := hE2.c
                      simp only at x0 x1 x2 x3
                      have fN := rowAt_frozen hE2.next
                      have cM := rowAt_cell hE2.next (k := i + 1) (by omega)
                      generalize mid T S (_, b, _, rs) i (i + 1) = mv at cM
                      go_wp2_with fail
                      go_quiet ((go_at_call 41; refine Calls.quiet_of_same (hhard _)))
                      have hE3 := (hE2.drewN nq).go1 (by simp) hco
                      have hb3 := (below_drewN hbW nq).setCell (p := ⟨gx + 1, i + 1, none⟩) (by simp; omega) (.bool true)
                      have hgn3 : gx + 1 < ((W.drewN nq).setCell ⟨gx + 1, i + 1, none⟩ (.bool true)).heap.size := by simpa [World.setCell] using hgW
                      clear hE2 hbW
                      go_wp2
                      go_roundw
                      case rel => exact ⟨i + 1, by omega, by go_num, hb3, hgn3, hE3⟩
                      case measure => simp [intOf]; omega
                    · subst hp
                      rw [hm] at hco hhard
                      rw [Bool.and_true, Bool.not_true] at hco
                      clear hm
                      go_wp2_with fail
                      go_quiet (fail)
                      have hE2 := hE.drewN nq
                      have hbW := below_drewN hb2 nq
                      have hgW : gx + 1 < (wr.drewN nq).heap.size := hgn
                      clear hE hb2 hgn hgS cA cM fN x0 x1 x2 x3
                      generalize wr.drewN nq = W at *
                      obtain ⟨x0, x1, x2, x3⟩ := hE2.c
                      simp only at x0 x1 x2 x3
                      have fN := rowAt_frozen hE2.next
                      have cM := rowAt_cell hE2.next (k := i + 1) (by omega)
                      generalize mid T S (_, b, _, rs) i (i + 1) = mv at cM
                      go_wp2_with fail
                      go_quiet ((go_at_call 41; refine Calls.quiet_of_same (hhard _)))
                      have hE3 := (hE2.drewN nq).stay0 (by simp) hco
                      have hb3 := below_drewN hbW nq
                      clear hE2 hbW
                      go_wp2
                      go_roundw
                      case rel => exact ⟨i + 1, by omega, by go_num, hb3, hgW, hE3⟩
                      case measure => simp [intOf]; omega
                  · by_cases k4 : kind = 4
                    · subst k4
                      rw [fitM_group rfl] at hco
                      simp only at hco
                      generalize inR rs y = r at hco hin0
                      clear k1 k2
                      have hcr : (r = false ∧ no = false) ∨ (r = true ∧ no = true) ∨ (r = false ∧ no = true) ∨ (r = true ∧ no = false) := by cases r <;> cases no <;> simp
                      rcases hcr with ⟨rfl, rfl⟩ | ⟨rfl, rfl⟩ | ⟨rfl, rfl⟩ | ⟨rfl, rfl⟩
                      · have hco : carry T S (4, b, false, rs) (i + 1) = false := by rw [hco]; rfl
                        clear hP hhard
                        go_wp2_with fail
                        go_quiet (fail)
                        have hE2 := hE.drewN nq
                        have hbW := below_drewN hb2 nq
                        have hgW : gx + 1 < (wr.drewN nq).heap.size := hgn
                        clear hE hb2 hgn hgS cA cM fN x0 x1 x2 x3
                        generalize wr.drewN nq = W at *
                        obtain ⟨x0, x1, x2, x3⟩ := hE2.c
                        simp only at x0 x1 x2 x3
                        have fN := rowAt_frozen hE2.next
                        have cM := rowAt_cell hE2.next (k := i + 1) (by omega)
                        generalize mid T S (_, b, _, rs) i (i + 1) = mv at cM
                        go_wp2_with fail
                        go_quiet ((go_at_call 42; refine Calls.quiet_of_same (hin0 _ (show Rgs _ _ _ _ from hE2.rgs))))
                        have hE3 := (hE2.drewN nq).stay0 (by simp) hco
                        have hb3 := below_drewN hbW nq
                        clear hE2 hbW
                        go_wp2
                        go_roundw
                        case rel => exact ⟨i + 1, by omega, by go_num, hb3, hgW, hE3⟩
                        case measure => simp [intOf]; omega
                      · have hco : carry T S (4, b, true, rs) (i + 1) = false := by rw [hco]; rfl
                        clear hP hhard
                        go_wp2_with fail
                        go_quiet (fail)
                        have hE2 := hE.drewN nq
                        have hbW := below_drewN hb2 nq
                        have hgW : gx + 1 < (wr.drewN nq).heap.size := hgn
                        clear hE hb2 hgn hgS cA cM fN x0 x1 x2 x3
                        generalize wr.drewN nq = W at *
                        obtain ⟨x0, x1, x2, x3⟩ := hE2.c
                        simp only at x0 x1 x2 x3
                        have fN := rowAt_frozen hE2.next
                        have cM := rowAt_cell hE2.next (k := i + 1) (by omega)
                        generalize mid T S (_, b, _, rs) i (i + 1) = mv at cM
                        go_wp2_with fail
                        go_quiet ((go_at_call 42; refine Calls.quiet_of_same (hin0 _ (show Rgs _ _ _ _ from hE2.rgs))))
                        have hE3 := (hE2.drewN nq).stay0 (by simp) hco
                        have hb3 := below_drewN hbW nq
                        clear hE2 hbW
                        go_wp2
                        go_roundw
                        case rel => exact ⟨i + 1, by omega, by go_num, hb3, hgW, hE3⟩
                        case measure => simp [intOf]; omega
                      · have hco : carry T S (4, b, true, rs) (i + 1) = !(path && m) := by rw [hco]; cases path <;> cases m <;> rfl
                        rcases hP with hp | ⟨hp, hm⟩ | ⟨hp, hm⟩
                        · subst hp
                          rw [Bool.false_and] at hco
                          rw [Bool.not_false] at hco
                          clear hhard
                          go_wp2_with fail
                          go_quiet (fail)
                          have hE2 := hE.drewN nq
                          have hbW := below_drewN hb2 nq
                          have hgW : gx + 1 < (wr.drewN nq).heap.size := hgn
                          clear hE hb2 hgn hgS cA cM fN x0 x1 x2 x3
                          generalize wr.drewN nq = W at *
                          obtain ⟨x0, x1, x2, x3⟩ := hE2.c
                          simp only at x0 x1 x2 x3
                          have fN := rowAt_frozen hE2.next
                          have cM := rowAt_cell hE2.next (k := i + 1) (by omega)
                          generalize mid T S (_, b, _, rs) i (i + 1) = mv at cM
                          go_wp2_with fail
                          go_quiet ((go_at_call 42; refine Calls.quiet_of_same (hin0 _ (show Rgs _ _ _ _ from hE2.rgs))))
                          have hE3 := (hE2.drewN nq).go1 (by simp) hco
                          have hb3 := (below_drewN hbW nq).setCell (p := ⟨gx + 1, i + 1, none⟩) (by simp; omega) (.bool true)
                          have hgn3 : gx + 1 < ((W.drewN nq).setCell ⟨gx + 1, i + 1, none⟩ (.bool true)).heap.size := by simpa [World.setCell] using hgW
                          clear hE2 hbW
                          go_wp2
                          go_roundw
                          case rel => exact ⟨i + 1, by omega, by go_num, hb3, hgn3, hE3⟩
                          case measure => simp [intOf]; omega
                        · subst hp
                          rw [hm] at hco hhard
                          rw [Bool.and_false, Bool.not_false] at hco
                          clear hm
                          go_wp2_with fail
                          go_quiet (fail)
                          have hE2 := hE.drewN nq
                          have hbW := below_drewN hb2 nq
                          have hgW : gx + 1 < (wr.drewN nq).heap.size := hgn
                          clear hE hb2 hgn hgS cA cM fN x0 x1 x2 x3
                          generalize wr.drewN nq = W at *
                          obtain ⟨x0, x1, x2, x3⟩ := hE2.c
                          simp only at x0 x1 x2 x3
                          have fN := rowAt_frozen hE2.next
                          have cM := rowAt_cell hE2.next (k := i + 1) (by omega)
                          generalize mid T S (_, b, _, rs) i (i + 1) = mv at cM
                          go_wp2_with fail
                          go_quiet ((first | (go_at_call 42; refine Calls.quiet_of_same (hin0 _ (show Rgs _ _ _ _ from hE2.rgs))) | (go_at_call 41; refine Calls.quiet_of_same (hhard _))))
                          have hE3 := (hE2.drewN nq).go1 (by simp) hco
                          have hb3 := (below_drewN hbW nq).setCell (p := ⟨gx + 1, i + 1, none⟩) (by simp; omega) (.bool true)
                          have hgn3 : gx + 1 < ((W.drewN nq).setCell ⟨gx + 1, i + 1, none⟩ (.bool true)).heap.size := by simpa [World.setCell] using hgW
                          clear hE2 hbW
                          go_wp2
                          go_roundw
                          case rel => exact ⟨i + 1, by omega, by go_num, hb3, hgn3, hE3⟩
                          case measure => simp [intOf]; omega
                        · subst hp
                          rw [hm] at hco hhard
                          rw [Bool.and_true, Bool.not_true] at hco
                          clear hm
                          go_wp2_with fail
                          go_quiet (fail)
                          have hE2 := hE.drewN nq
                          have hbW := below_drewN hb2 nq
                          have hgW : gx + 1 < (wr.drewN nq).heap.size := hgn
                          clear hE hb2 hgn hgS cA cM fN x0 x1 x2 x3
                          generalize wr.drewN nq = W at *
                          obtain ⟨x0, x1, x2, x3⟩ := hE2.c
                          simp only at x0 x1 x2 x3
                          have fN := rowAt_frozen hE2.next
                          have cM := rowAt_cell hE2.next (k := i + 1) (by omega)
                          generalize mid T S (_, b, _, rs) i (i + 1) = mv at cM
                          go_wp2_with fail
                          go_quiet ((first | (go_at_call 42; refine Calls.quiet_of_same (hin0 _ (show Rgs _ _ _ _ from hE2.rgs))) | (go_at_call 41; refine Calls.quiet_of_same (hhard _))))
                          have hE3 := (hE2.drewN nq).stay0 (by simp) hco
                          have hb3 := below_drewN hbW nq
                          clear hE2 hbW
                          go_wp2
                          go_roundw
                          case rel => exact ⟨i + 1, by omega, by go_num, hb3, hgW, hE3⟩
                          case measure => simp [intOf]; omega
                      · have hco : carry T S (4, b, false, rs) (i + 1) = !(path && m) := by rw [hco]; cases path <;> cases m <;> rfl
                        rcases hP with hp | ⟨hp, hm⟩ | ⟨hp, hm⟩
                        · subst hp
                          rw [Bool.false_and] at hco
                          rw [Bool.not_false] at hco
                          clear hhard
                          go_wp2_with fail
                          go_quiet (fail)
                          have hE2 := hE.drewN nq
                          have hbW := below_drewN hb2 nq
                          have hgW : gx + 1 < (wr.drewN nq).heap.size := hgn
                          clear hE hb2 hgn hgS cA cM fN x0 x1 x2 x3
                          generalize wr.drewN nq = W at *
                          obtain ⟨x0, x1, x2, x3⟩ := hE2.c
                          simp only at x0 x1 x2 x3
                          have fN := rowAt_frozen hE2.next
                          have cM := rowAt_cell hE2.next (k := i + 1) (by omega)
                          generalize mid T S (_, b, _, rs) i (i + 1) = mv at cM
                          go_wp2_with fail
                          go_quiet ((go_at_call 42; refine Calls.quiet_of_same (hin0 _ (show Rgs _ _ _ _ from hE2.rgs))))
                          have hE3 := (hE2.drewN nq).go1 (by simp) hco
                          have hb3 := (below_drewN hbW nq).setCell (p := ⟨gx + 1, i + 1, none⟩) (by simp; omega) (.bool true)
                          have hgn3 : gx + 1 < ((W.drewN nq).setCell ⟨gx + 1, i + 1, none⟩ (.bool true)).heap.size := by simpa [World.setCell] using hgW
                          clear hE2 hbW
                          go_wp2
                          go_roundw
                          case rel => exact ⟨i + 1, by omega, by go_num, hb3, hgn3, hE3⟩
                          case measure => simp [intOf]; omega
                        · subst hp
                          rw [hm] at hco hhard
                          rw [Bool.and_false, Bool.not_false] at hco
                          clear hm
                          go_wp2_with fail
                          go_quiet (fail)
                          have hE2 := hE.drewN nq
                          have hbW := below_drewN hb2 nq
                          have hgW : gx + 1 < (wr.drewN nq).heap.size := hgn
                          clear hE hb2 hgn hgS cA cM fN x0 x1 x2 x3
                          generalize wr.drewN nq = W at *
                          obtain ⟨x0, x1, x2, x3⟩ := hE2.c
                          simp only at x0 x1 x2 x3
                          have fN := rowAt_frozen hE2.next
                          have cM := rowAt_cell hE2.next (k := i + 1) (by omega)
                          generalize mid T S (_, b, _, rs) i (i + 1) = mv at cM
                          go_wp2_with fail
                          go_quiet ((first | (go_at_call 42; refine Calls.quiet_of_same (hin0 _ (show Rgs _ _ _ _ from hE2.rgs))) | (go_at_call 41; refine Calls.quiet_of_same (hhard _))))
                          have hE3 := (hE2.drewN nq).go1 (by simp) hco
                          have hb3 := (below_drewN hbW nq).setCell (p := ⟨gx + 1, i + 1, none⟩) (by simp; omega) (.bool true)
                          have hgn3 : gx + 1 < ((W.drewN nq).setCell ⟨gx + 1, i + 1, none⟩ (.bool true)).heap.size := by simpa [World.setCell] using hgW
                          clear hE2 hbW
                          go_wp2
                          go_roundw
                          case rel => exact ⟨i + 1, by omega, by go_num, hb3, hgn3, hE3⟩
                          case measure => simp [intOf]; omega
                        · subst hp
                          rw [hm] at hco hhard
                          rw [Bool.and_true, Bool.not_true] at hco
                          clear hm
                          go_wp2_with fail
                          go_quiet (fail)
                          have hE2 := hE.drewN nq
                          have hbW := below_drewN hb2 nq
                          have hgW : gx + 1 < (wr.drewN nq).heap.size := hgn
                          clear hE hb2 hgn hgS cA cM fN x0 x1 x2 x3
                          generalize wr.drewN nq = W at *
                          obtain ⟨x0, x1, x2, x3⟩ := hE2.c
                          simp only at x0 x1 x2 x3
                          have fN := rowAt_frozen hE2.next
                          have cM := rowAt_cell hE2.next (k := i + 1) (by omega)
                          generalize mid T S (_, b, _, rs) i (i + 1) = mv at cM
                          go_wp2_with fail
                          go_quiet ((first | (go_at_call 42; refine Calls.quiet_of_same (hin0 _ (show Rgs _ _ _ _ from hE2.rgs))) | (go_at_call 41; refine Calls.quiet_of_same (hhard _))))
                          have hE3 := (hE2.drewN nq).stay0 (by simp) hco
                          have hb3 := below_drewN hbW nq
                          clear hE2 hbW
                          go_wp2
                          go_roundw
                          case rel => exact ⟨i + 1, by omega, by go_num, hb3, hgW, hE3⟩
                          case measure => simp [intOf]; omega
                    · rw [fitM_none k1 k2 k4] at hco
                      clear hP hhard hin0
                      have j1 : (kind == 1) = false := beq_eq_false_iff_ne.2 k1
                      have j2 : (kind == 2) = false := beq_eq_false_iff_ne.2 k2
                      have j4 : (kind == 4) = false := beq_eq_false_iff_ne.2 k4
                      go_wp2_with fail
                      go_quiet (fail)
                      have hE2 := hE.drewN nq
                      have hbW := below_drewN hb2 nq
                      have hgW : gx + 1 < (wr.drewN nq).heap.size := hgn
                      clear hE hb2 hgn hgS cA cM fN x0 x1 x2 x3
                      generalize wr.drewN nq = W at *
                      obtain ⟨x0, x1, x2, x3⟩ := hE2.c
                      simp only at x0 x1 x2 x3
                      have fN := rowAt_frozen hE2.next
                      have cM := rowAt_cell hE2.next (k := i + 1) (by omega)
                      generalize mid T S (_, b, _, rs) i (i + 1) = mv at cM
                      go_wp2_with fail
                      go_quiet (fail)
                      have hE3 := (hE2.drewN nq).stay0 h3 hco
                      have hb3 := below_drewN hbW nq
                      clear hE2 hbW
                      go_wp2
                      go_roundw
                      case rel => exact ⟨i + 1, by omega, by go_num, hb3, hgW, hE3⟩
                      case measure => simp [intOf]; omega
            · have hcs := carry_none (S := S) (x := (kind, b, no, rs)) (List.getElem?_eq_none (l := T) (i := i) (by omega))
              have hE3 := hE.stay0 h3 hcs
              have hb3 := hb2
              have hgn3 := hgn
              clear hcs hE hb2 hgn hgS hP cA
              go_wp2
              go_roundw
              case rel => exact ⟨i + 1, by omega, by go_num, hb3, hgn3, hE3⟩
              case measure => simp [intOf]; omega
        · have hfin : rowAt wr (gx + 1) (s.size + 1) (endQ T (p.take (k + 1))) := by
            rw [hsn.out]
            exact rowAt_congr hE.next fun j hj => mid_end _ _ _ _ _ (by omega)
          go_wp2
          go_roundw
          case rel => exact ⟨k + 1, gx + 1, by omega, by go_num, by go_num, hgn, hb2, hfin⟩
          case measure => simp [intOf]; omega
    · have hend := hrow.out
      rw [List.take_of_length_le (by omega)] at hend
      clear hrow
      go_wp2
      go_ret
      exact ⟨g, rfl, hend, hb⟩
end Go.Proofs.YtmoihdddmeienaaGreatDoor
