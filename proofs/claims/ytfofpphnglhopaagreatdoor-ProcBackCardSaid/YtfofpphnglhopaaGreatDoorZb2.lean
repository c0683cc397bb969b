/-
  A part. Conditions: each theorem's own.
-/
import Derived.WalkKit
import Derived.Deep.RegionHeld3
import Derived.BigQuiet
import Derived.StillTailTactics
import Derived.Handy
import Derived.Deep.Cut
import Derived.Deep.DeepCutAuto
import Derived.Test.YtfofpphnglhopaaGreatDoorZb0
import Derived.Test.YtfofpphnglhopaaGreatDoorZb1
set_option maxHeartbeats 8000000
set_option maxRecDepth 100000
namespace Go.Proofs.YtfofpphnglhopaaGreatDoor
def gt (ys : List Int) (k : Nat) : Int := ys.getD k 0
def swp (ys : List Int) (i j : Nat) : List Int := (ys.set i (gt ys j)).set j (gt ys i)
theorem gt_of {ys : List Int} {k : Nat} (h : k < ys.length) : gt ys k = ys[k] := by simp [gt, h]
theorem gt_some {ys : List Int} {k : Nat} (h : k < ys.length) : ys[k]? = some (gt ys k) := by simp [gt, h]
theorem gt_set {ys : List Int} {i : Nat} (h : i < ys.length) (v : Int) (k : Nat) : gt (ys.set i v) k = if k = i then v else gt ys k := by
  unfold gt
  rw [List.getD_eq_getElem?_getD, List.getD_eq_getElem?_getD, List.getElem?_set]
  by_cases e : i = k
  · subst e; simp [h]
  · rw [if_neg e, if_neg (fun h => e h.symm)]
theorem swp_len (ys : List Int) (i j : Nat) : (swp ys i j).length = ys.length := by simp [swp]
theorem gt_swp {ys : List Int} {i j : Nat} (hi : i < ys.length) (hj : j < ys.length) (k : Nat) : gt (swp ys i j) k = if k = j then gt ys i else if k = i then gt ys j else gt ys k := by
  unfold swp
  rw [gt_set (by simpa using hj), gt_set hi]
theorem swp_perm {ys : List Int} {i j : Nat} (hi : i < ys.length) (hj : j < ys.length) : (swp ys i j).Perm ys := by
  unfold swp
  rw [gt_of hi, gt_of hj]
  exact List.set_set_perm hi hj
def IsHp (ys : List Int) (n : Nat) : Prop := ∀ k, 0 < k → k < n → gt ys ((k - 1) / 2) ≤ gt ys k
structure UpInv (ys : List Int) (j n : Nat) : Prop where
  all : ∀ k, 0 < k → k < n → k ≠ j → gt ys ((k - 1) / 2) ≤ gt ys k
  kid : ∀ k, 0 < k → k < n → (k - 1) / 2 = j → 0 < j → gt ys ((j - 1) / 2) ≤ gt ys k
structure DnInv (ys : List Int) (i n : Nat) : Prop where
  all : ∀ k, 0 < k → k < n → (k - 1) / 2 ≠ i → gt ys ((k - 1) / 2) ≤ gt ys k
  kid : ∀ k, 0 < k → k < n → (k - 1) / 2 = i → 0 < i → gt ys ((i - 1) / 2) ≤ gt ys k
theorem IsHp.least {ys : List Int} {n : Nat} (h : IsHp ys n) : ∀ k, k < n → gt ys 0 ≤ gt ys k := by
  intro k
  induction k using Nat.strongRecOn with
  | _ k ih =>
    intro hk
    by_cases h0 : k = 0
    · subst h0; omega
    · have h1 := ih ((k - 1) / 2) (by omega) (by omega)
      have h2 := h k (by omega) hk
      omega
theorem IsHp.nil (ys : List Int) : IsHp ys 0 := fun k _ h => by omega
theorem gt_app {ys : List Int} {x : Int} {k : Nat} (h : k < ys.length) : gt (ys ++ [x]) k = gt ys k := by
  unfold gt
  rw [List.getD_eq_getElem?_getD, List.getD_eq_getElem?_getD, List.getElem?_append_left h]
theorem up_start {ys : List Int} (x : Int) (h : IsHp ys ys.length) : UpInv (ys ++ [x]) ys.length (ys.length + 1) := by
  refine ⟨fun k h0 h1 h2 => ?_, fun k h0 h1 h2 h3 => by omega⟩
  rw [gt_app (by omega), gt_app (by omega)]
  exact h k h0 (by omega)
theorem up_done {ys : List Int} {j n : Nat} (h : UpInv ys j n) (he : j = 0 ∨ gt ys ((j - 1) / 2) ≤ gt ys j) : IsHp ys n := by
  intro k h0 h1
  by_cases e : k = j
  · subst e
    rcases he with he | he
    · omega
    · exact he
  · exact h.all k h0 h1 e
theorem up_step {ys : List Int} {j n : Nat} (h : UpInv ys j n) (hn : n ≤ ys.length) (h0 : 0 < j) (hj : j < n) (hl : gt ys j < gt ys ((j - 1) / 2)) : UpInv (swp ys ((j - 1) / 2) j) ((j - 1) / 2) n := by
  have hp : (j - 1) / 2 < j := by omega
  have e := fun k => gt_swp (ys := ys) (i := (j - 1) / 2) (j := j) (by omega) (by omega) k
  refine ⟨fun k k0 k1 k2 => ?_, fun k k0 k1 k2 k3 => ?_⟩
  · rw [e, e]
    by_cases c1 : k = j
    · subst c1
      rw [if_neg (by omega), if_pos rfl, if_pos rfl]; omega
    · rw [if_neg c1, if_neg k2]
      have := h.all k k0 k1 c1
      by_cases c2 : (k - 1) / 2 = j
      · rw [if_pos c2]
        exact h.kid k k0 k1 c2 h0
      · rw [if_neg c2]
        by_cases c3 : (k - 1) / 2 = (j - 1) / 2
        · rw [if_pos c3]; rw [c3] at this; omega
        · rw [if_neg c3]; exact this
  · rw [e, e, if_neg (by omega), if_neg (by omega)]
    have hpp := h.all ((j - 1) / 2) k3 (by omega) (by omega)
    by_cases c1 : k = j
    · rw [if_pos c1]; exact hpp
    · rw [if_neg c1, if_neg (by omega)]
      have := h.all k k0 k1 c1
      rw [k2] at this
      omega
theorem gt_take {ys : List Int} {n k : Nat} (h : k < n) : gt (ys.take n) k = gt ys k := by
  unfold gt
  rw [List.getD_eq_getElem?_getD, List.getD_eq_getElem?_getD, List.getElem?_take, if_pos h]
theorem IsHp.take {ys : List Int} {n : Nat} (h : IsHp ys n) : IsHp (ys.take n) n := by
  intro k h0 h1
  rw [gt_take (by omega), gt_take h1]
  exact h k h0 h1
theorem dn_start {ys : List Int} {n : Nat} (h : IsHp ys (n + 1)) (hn : n + 1 ≤ ys.length) : DnInv (swp ys 0 n) 0 n := by
  have e := fun k => gt_swp (ys := ys) (i := 0) (j := n) (by omega) (by omega) k
  refine ⟨fun k k0 k1 k2 => ?_, fun k _ _ _ k3 => by omega⟩
  rw [e, e, if_neg (by omega), if_neg k2, if_neg (by omega), if_neg (by omega)]
  exact h k k0 (by omega)
theorem dn_done {ys : List Int} {i n : Nat} (h : DnInv ys i n) (he : ∀ k, 0 < k → k < n → (k - 1) / 2 = i → gt ys i ≤ gt ys k) : IsHp ys n := by
  intro k k0 k1
  by_cases c : (k - 1) / 2 = i
  · rw [c]; exact he k k0 k1 c
  · exact h.all k k0 k1 c
theorem dn_step {ys : List Int} {i j n : Nat} (h : DnInv ys i n) (hn : n ≤ ys.length) (h0 : 0 < j) (hj : j < n) (hp : (j - 1) / 2 = i) (hl : gt ys j < gt ys i) (hm : ∀ k, 0 < k → k < n → (k - 1) / 2 = i → gt ys j ≤ gt ys k) : DnInv (swp ys i j) j n := by
  have hij : i < j := by omega
  have e := fun k => gt_swp (ys := ys) (i := i) (j := j) (by omega) (by omega) k
  refine ⟨fun k k0 k1 k2 => ?_, fun k k0 k1 k2 k3 => ?_⟩
  · rw [e, e, if_neg k2]
    by_cases c1 : (k - 1) / 2 = i
    · rw [if_pos c1]
      by_cases c2 : k = j
      · rw [if_pos c2]; omega
      · rw [if_neg c2, if_neg (by omega)]; exact hm k k0 k1 c1
    · rw [if_neg c1]
      have := h.all k k0 k1 c1
      by_cases c2 : k = j
      · subst c2; exact absurd hp c1
      · rw [if_neg c2]
        by_cases c3 : k = i
        · subst c3
          rw [if_pos rfl]
          exact h.kid j h0 hj hp (by omega)
        · rw [if_neg c3]; exact this
  · rw [hp, e, e, if_neg (by omega), if_pos rfl, if_neg (by omega), if_neg (by omega)]
    have := h.all k k0 k1 (by omega)
    rwa [k2] at this
end Go.Proofs.YtfofpphnglhopaaGreatDoor
namespace Go.Proofs.YtfofpphnglhopaaGreatDoor
open Go Go.RowKit
def ic (xs : List Int) : List Value := xs.map fun x => .int .i64 x
theorem ic_at {xs : List Int} {k : Nat} (h : k < xs.length) : (ic xs)[k]? = some (.int .i64 (gt xs k)) := by
  unfold ic
  rw [List.getElem?_map, gt_some h]
  rfl
theorem ic_app (a b : List Int) : ic (a ++ b) = ic a ++ ic b := List.map_append
theorem ic_set (xs : List Int) (i : Nat) (v : Int) : (ic xs).set i (.int .i64 v) = ic (xs.set i v) := by unfold ic; rw [List.map_set]
theorem ic_take (xs : List Int) (n : Nat) : (ic xs).take n = ic (xs.take n) := by unfold ic; rw [List.map_take]
theorem RowM.set {w : World} {e : TypeId} {n : Nat} {xs : List Value} {g off c : Nat} (h : RowM w e (.slice (some ⟨g, off, none⟩) n c) n xs) {j : Nat} (hj : j < n) (u : Value) : RowM (w.setCell ⟨g, off + j, none⟩ u) e (.slice (some ⟨g, off, none⟩) n c) n (xs.set j u) := by
  rcases h with ⟨h, _⟩ | ⟨g', off', cap, cur, hv, ⟨f, hf, h1⟩, h2, h4, h3, rfl⟩
  · cases h
  · cases hv
    refine .inr ⟨g, off, c, cur.set (off + j) u, rfl, ?_, h2, h4, by rw [List.length_set]; exact h3, ?_⟩
    · rw [setCell_eq_setRow w g (off + j) _ _ f u h1]
      have := BlkM.row (w := w) (b := g) (cur := cur) ⟨f, hf, h1⟩ (cur.set (off + j) u) (by rw [List.length_set])
      simpa using this
    · rw [List.drop_set, if_neg (by omega), Nat.add_sub_cancel_left, List.take_set]
theorem RowM.frozen {w : World} {e : TypeId} {n : Nat} {xs : List Value} {g off c : Nat} (h : RowM w e (.slice (some ⟨g, off, none⟩) n c) n xs) {j : Nat} (hj : j < n) : w.frozen? ⟨g, off + j, none⟩ = false := by
  rcases h with ⟨h, _⟩ | ⟨g', off', cap, cur, hv, ⟨f, hf, h1⟩, h2, h4, h3, rfl⟩
  · cases h
  · cases hv
    obtain ⟨f1, f2⟩ := f
    simp only [World.frozen?, h1, Bool.and_eq_false_iff, decide_eq_false_iff_not]
    simp only at hf
    omega
section
variable {w : World}
theorem is_Len (A : Option Addr) (n c : Nat) (w : World) : Calls Tryz.prog 136 #[.slice A n c] w fun e w' => e = .returned (.int .i64 (n : Int)) ∧ w' = w := by
  go_enter Tryz.func136, Tryz.ntmps136
  go_wp2
  go_ret
  exact ⟨rfl, rfl⟩
theorem is_Less {A : Option Addr} {c n : Nat} {xs : List Int} (h : RowM w 3 (.slice A n c) xs.length (ic xs)) (hl : xs.length = n) (i j : Nat) (hi : i < xs.length) (hj : j < xs.length) (hn : xs.length ≤ 1000000) :
    Calls Tryz.prog 259 #[.slice A n c, .int .i64 (i : Int), .int .i64 (j : Int)] w fun e w' => e = .returned (.bool (decide (gt xs i < gt xs j))) ∧ ∃ n, w' = w.drewN n := by
  subst hl
  obtain ⟨g, off, c', hv, hc, hcm⟩ := h.form1 (by omega)
  cases hv
  have c1 := h.cell (ic_at hi)
  have c2 := h.cell (ic_at hj)
  generalize xs.length = L at hi hj hn h hc ⊢
  generalize gt xs i = a at c1 ⊢
  generalize gt xs j = b at c2 ⊢
  have i1 : (0 : Int) ≤ (i : Int) := by omega
  have i2 : (i : Int) < (L : Int) := by omega
  have i3 : (0 : Int) ≤ (j : Int) := by omega
  have i4 : (j : Int) < (L : Int) := by omega
  clear h
  unfold maxLen at hcm
  go_enter Tryz.func259, Tryz.ntmps259
  go_upto_region 1 with fail
  go_quiet (fail)
  go_wp2
  go_ret
  exact ⟨rfl, _, rfl⟩
theorem is_Swap {A : Option Addr} {c n : Nat} {xs : List Int} (h : RowM w 3 (.slice A n c) xs.length (ic xs)) (hl : xs.length = n) (i j : Nat) (hi : i < xs.length) (hj : j < xs.length) (hn : xs.length ≤ 1000000) :
    Calls Tryz.prog 261 #[.slice A n c, .int .i64 (i : Int), .int .i64 (j : Int)] w fun e w' => e = .returned (.tuple #[]) ∧ RowM w' 3 (.slice A n c) xs.length (ic (swp xs i j)) ∧ Chg (fun b => (Value.slice A n c).ownBlock = some b) (fun b => (Value.slice A n c).ownBlock = some b) w w' := by
  subst hl
  obtain ⟨g, off, c', hv, hc, hcm⟩ := h.form1 (by omega)
  cases hv
  have c1 := h.cell (ic_at hi)
  have c2 := h.cell (ic_at hj)
  have f1 := h.frozen hi
  have f2 := h.frozen hj
  have hs := (h.set hi (.int .i64 (gt xs j))).set hj (.int .i64 (gt xs i))
  have e0 : ((ic xs).set i (.int .i64 (gt xs j))).set j (.int .i64 (gt xs i)) = ic (swp xs i j) := by rw [ic_set, ic_set]; rfl
  rw [e0] at hs
  have hC : Chg (fun b => b = g) (fun b => b = g) w ((w.setCell ⟨g, off + i, none⟩ (.int .i64 (gt xs j))).setCell ⟨g, off + j, none⟩ (.int .i64 (gt xs i))) := (Chg.set (F := fun b => b = g) rfl _ _).trans (Chg.set (F := fun b => b = g) rfl _ _)
  obtain ⟨u2, hu2⟩ := cell?_setCell_some (w := w) (p := ⟨g, off + i, none⟩) (x := .int .i64 (gt xs j)) (q := ⟨g, off + j, none⟩) (v := .int .i64 (gt xs j)) c2
  generalize ic (swp xs i j) = res at hs ⊢
  generalize xs.length = L at hi hj hn h hc hs ⊢
  generalize gt xs i = a at c1 c2 hs hC hu2
  generalize gt xs j = b at c2 c1 hs hC hu2
  have i1 : (0 : Int) ≤ (i : Int) := by omega
  have i2 : (i : Int) < (L : Int) := by omega
  have i3 : (0 : Int) ≤ (j : Int) := by omega
  have i4 : (j : Int) < (L : Int) := by omega
  have hgl : g < w.heap.size := h.lt rfl
  clear h
  replace hs := Lib.hid hs
  replace hC := Lib.hid hC
  unfold maxLen at hcm
  go_enter Tryz.func261, Tryz.ntmps261
  go_wp2
  go_region
  go_wp2
  go_end0
  exact ⟨rfl, hs.out.keep fun _ _ => rfl, (hC.out.trans (Chg.drewN _ _ 1)).mono (fun b hb => by rw [hb]; rfl) (fun b _ hb => .inl (by cases hb; rfl))⟩
def tabC (a0 a1 a2 : Value) (top : Nat) (v : Value) : List Value := [a0, a1, a2, .int .i64 (top : Int), v]
structure NumAt (w : World) (tb : Nat) (a0 a1 a2 : Value) (top : Nat) (v : Value) (xs : List Int) : Prop where
  blk : Blk w tb (tabC a0 a1 a2 top v) 142
  row : RowM w 3 v xs.length (ic xs)
  ne : v.ownBlock ≠ some tb
  few : xs.length ≤ 1000000
theorem infoInt : (Tryz.prog.info? 3).map (fun i => (i.zero, i.size, i.bytes)) = some (some (.int .i64 0), 1, 8) := by kernel_rfl
section
variable {tb top : Nat} {a0 a1 a2 v : Value} {xs : List Int}
theorem least_Push (h : NumAt w tb a0 a1 a2 top v xs) (x : Int) (hl : xs.length < 1000000) :
    Calls Tryz.prog 297 #[.pointer (some ⟨tb, 4, none⟩), .iface 3 (.int .i64 x)] w fun e w' => e = .returned (.tuple #[]) ∧ ∃ v', NumAt w' tb a0 a1 a2 top v' (xs ++ [x]) ∧
      Chg (fun b => b = tb ∨ v.ownBlock = some b) (fun b => b = tb ∨ v.ownBlock = some b ∨ v'.ownBlock = some b) w w' ∧ (v'.ownBlock = v.ownBlock ∨ ∃ g, v'.ownBlock = some g ∧ w.heap.size ≤ g) := by
  have c4 := h.blk.cell (i := 4) rfl
  have f4 := h.blk.frozen 4
  have hlt := h.blk.lt
  obtain ⟨A, c, rfl, hc, hcm⟩ := h.row.form
  obtain ⟨i0, hi, hz0, hz1, hz2⟩ := info_parts infoInt
  have hrow := h.row
  have hne := h.ne
  have hblk := h.blk
  obtain ⟨L, hL⟩ : ∃ L, xs.length = L := ⟨_, rfl⟩
  rw [hL] at c4 hc hl hne hblk
  replace hrow := Lib.hid hrow
  replace hblk := Lib.hid hblk
  replace hne := Lib.hid hne
  replace h := Lib.hid h
  replace hL := Lib.hid hL
  unfold maxLen at hcm
  have hta : ∀ W : World, (Instr.typeAssert (.iface 3 (.int .i64 x)) 20 3 false).run Tryz.prog W = .ok (.int .i64 x) W := fun _ => by kernel_rfl
  go_enter Tryz.func297, Tryz.ntmps297
  go_wp2_with fail
  refine wp_region_last (L := 11) (S := (fun w' : World => w'.cell? ⟨tb, 4, none⟩ = some (.slice A L c))) (by kernel_rfl) ?_
  replace c4 : w.drew.cell? ⟨tb, 4, none⟩ = _ := c4
  refine wpAnyT_takeT (n := 12) (i := 0) (v := .pointer (some ⟨tb, 4, none⟩)) rfl (by kernel_rfl) (by kernel_rfl) (by kernel_rfl) (by kernel_rfl) (by kernel_rfl) (fun _ _ _ h => h) (Or.inl ⟨by rfl, ?_⟩) c4 ?_
  · intro W k0
    clear c4
    go_simp
  try simp only [Act.put, List.setIfInBounds_toArray]
  refine wpAnyT_takeT (n := 12) (i := 1) (v := .pointer (some ⟨tb, 4, none⟩)) rfl (by kernel_rfl) (by kernel_rfl) (by kernel_rfl) (by kernel_rfl) (by kernel_rfl) (fun _ _ _ h => h) (Or.inl ⟨by rfl, ?_⟩) c4 ?_
  · intro W k0
    clear c4
    go_simp
  try simp only [Act.put]
  refine wpAnyT_takeT (n := 12) (i := 2) (v := .pointer (some ⟨tb, 4, none⟩)) rfl (by kernel_rfl) (by kernel_rfl) (by kernel_rfl) (by kernel_rfl) (by kernel_rfl) (fun _ _ _ h => h) (Or.inl ⟨by rfl, ?_⟩) c4 ?_
  · intro W k0
    clear c4
    go_simp
  try simp only [Act.put]
  refine wpAnyT_takeT (n := 12) (i := 3) (v := .pointer (some ⟨tb, 4, none⟩)) rfl (by kernel_rfl) (by kernel_rfl) (by kernel_rfl) (by kernel_rfl) (by kernel_rfl) (fun _ _ _ h => h) (Or.inl ⟨by rfl, ?_⟩) c4 ?_
  · intro W k0
    clear c4
    go_simp
  try simp only [Act.put]
  refine wpAnyT_takeT (n := 12) (i := 4) (v := .slice A L c) rfl (by kernel_rfl) (by kernel_rfl) (by kernel_rfl) (by kernel_rfl) (by kernel_rfl) (fun _ _ _ h => h) (Or.inl ⟨by rfl, ?_⟩) c4 ?_
  · intro W k0
    clear c4
    go_simp
  try simp only [Act.put]
  refine wpAnyT_takeT (n := 12) (i := 5) (v := .iface 3 (.int .i64 x)) rfl (by kernel_rfl) (by kernel_rfl) (by kernel_rfl) (by kernel_rfl) (by kernel_rfl) (fun _ _ _ h => h) (Or.inl ⟨by rfl, ?_⟩) c4 ?_
  · intro W k0
    clear c4
    go_simp
  try simp only [Act.put]
  refine wpAnyT_takeT (n := 12) (i := 6) (v := .int .i64 x) rfl (by kernel_rfl) (by kernel_rfl) (by kernel_rfl) (by kernel_rfl) (by kernel_rfl) (fun _ _ _ h => h) (Or.inl ⟨by rfl, ?_⟩) c4 ?_
  · intro W k0
    clear c4
    go_simp
  try simp only [Act.put]
  refine wpAnyT_one (i := 7) rfl (by kernel_rfl) rfl ?_
  go_simp
  refine ⟨c4, ?_⟩
  have hB2 : Blk (w.alloc (.cells #[.int .i64 x] 3)).drew w.heap.size [.int .i64 x] 3 := Blk.new w _ _
  have g2 : w.grownBy (w.alloc (.cells #[.int .i64 x] 3)).drew none := ⟨rfl, rfl, rfl, by simp, fun b hb _ => Below.heap_alloc w _ b hb⟩
  generalize hw2 : (w.alloc (.cells #[.int .i64 x] 3)).drew = w2 at hB2 g2 ⊢
  obtain ⟨z, hz⟩ : ∃ z, w.heap.size = z := ⟨_, rfl⟩
  rw [hz] at hB2 ⊢
  have hk2 : ∀ g, g < w.heap.size → w2.heap[g]? = w.heap[g]? := fun g hg => g2.block g hg (by simp)
  have r2 := hrow.out.keep (w' := w2) fun g hg => hk2 g (hrow.out.lt hg)
  have b2 : Blk w2 tb _ _ := (hk2 tb hlt).trans hblk.out
  rw [hL.out] at r2
  obtain ⟨v', w3, hrun, r3, c3, how⟩ := run_append_m (P := Tryz.prog) w2 136 136 136 3 i0 _ Tryz.underlying136 hi hz0 hz1 rfl (.slice A L c) L (ic xs) r2 (.slice (some ⟨z, 0, none⟩) 1 1) 1 [.int .i64 x]
    (Src.ofSlice w2 Tryz.underlying136 _ 1 1 _ rfl (fun j u hu => by rw [add_plain0, Nat.zero_add]; exact hB2.cell hu) (by simp [Value.oneCell'])) (by rw [hz2]; omega) (by omega)
  have b3 := b2.chg c3 hne.out
  have k3 := b3.cell (i := 4) rfl
  have f3 := b3.frozen 4
  have hl3 := b3.lt
  obtain ⟨g, off, cap, rfl, hcc3, hcm3⟩ := r3.form1 (Nat.succ_pos _)
  have hgt : g ≠ tb := by
    rcases how with h1 | h1
    · intro e
      subst e
      exact hne.out (h1.symm.trans rfl)
    · have := b2.lt
      have h1 : g = w2.heap.size := by cases h1; rfl
      omega
  have hs2 := g2.size
  have hfin : ∃ v', NumAt (w3.setCell ⟨tb, 4, none⟩ (.slice (some ⟨g, off, none⟩) (L + 1) cap)) tb a0 a1 a2 top v' (xs ++ [x]) ∧
      Chg (fun b => b = tb ∨ (Value.slice A xs.length c).ownBlock = some b) (fun b => b = tb ∨ (Value.slice A xs.length c).ownBlock = some b ∨ v'.ownBlock = some b) w (w3.setCell ⟨tb, 4, none⟩ (.slice (some ⟨g, off, none⟩) (L + 1) cap)) ∧ (v'.ownBlock = (Value.slice A xs.length c).ownBlock ∨ ∃ g, v'.ownBlock = some g ∧ w.heap.size ≤ g) := by
    have hlx : (xs ++ [x]).length = L + 1 := by rw [List.length_append, hL.out]; rfl
    refine ⟨.slice (some ⟨g, off, none⟩) (L + 1) cap, ⟨b3.set 4 _, ?_, fun e => hgt (by cases e; rfl), by rw [hlx]; omega⟩, ?_, ?_⟩
    · rw [hlx, ic_app]
      exact r3.keep fun b hb => heap_setCell_other _ _ b _ (fun e => hgt (by cases hb; exact e))
    · have hown : (Value.slice A xs.length c).ownBlock = (Value.slice A L c).ownBlock := own_len _ _ _ _ _
      rw [hown]
      have q1 : Chg (fun b => b = tb ∨ (Value.slice A L c).ownBlock = some b) (fun b => b = tb ∨ (Value.slice A L c).ownBlock = some b) w w2 := Chg.of_grown g2 _
      have q2 : Chg (fun b => b = tb ∨ (Value.slice A L c).ownBlock = some b) (fun b => b = tb ∨ (Value.slice A L c).ownBlock = some b ∨ (Value.slice (some ⟨g, off, none⟩) (L + 1) cap).ownBlock = some b) w2 w3 := c3.mono (fun b hb => .inr hb) (fun b hb h => by
        rcases h with h | h | h
        · exact .inr (.inl h)
        · exact .inr (.inr h)
        · exact .inl (.inl h))
      exact (q1.trans q2).trans (Chg.set (.inl rfl) 4 _)
    · rcases how with h1 | h1
      · exact .inl (h1.trans (own_len _ _ _ _ _))
      · exact .inr ⟨g, rfl, by have h1 : g = w2.heap.size := by (cases h1; rfl)
                               omega⟩
  replace hfin := Lib.hid hfin
  replace hrun := Lib.hid hrun
  replace hz := Lib.hid hz
  clear c3 how hB2 g2 hk2 r2 b2 r3 b3 hw2 hi hz0 hz1 hz2 hcc3 hcm3 c4 hs2
  refine wpAnyT_one (i := 8) rfl (by kernel_rfl) rfl ?_
  refine wp_append_of (.tmp 8) (.tmp 11) 136 136 rfl _ _ _ w3 rfl rfl hrun.out ?_
  refine ⟨fun _ => k3, ?_⟩
  try simp only [Act.put, List.setIfInBounds_toArray]
  refine wpAnyT_one (i := 9) rfl (by kernel_rfl) rfl ?_
  go_simp
  refine wpAnyT_one (i := 10) rfl (by kernel_rfl) rfl ?_
  go_simp
  refine wpAnyT_one (i := 11) rfl (by kernel_rfl) rfl ?_
  go_simp
  refine wpAnyT_done (by kernel_rfl) ?_ _
  go_end0
  exact ⟨rfl, hfin.out⟩
end
end
section
variable {w : World} {tb top : Nat} {a0 a1 a2 v : Value} {xs : List Int}
theorem m_Less {w : World} {tb : Nat} {v : Value} (hc : w.cell? ⟨tb, 4, none⟩ = some v) : (method 446 230 (.pointer (some ⟨tb, 4, none⟩)) "Less").run Tryz.prog w = .ok (259, v) w := by
  have e : (method 446 230 (.pointer (some ⟨tb, 4, none⟩)) "Less").run Tryz.prog w = (do pure (259, ← loadVar 136 ⟨tb, 4, none⟩) : Sem (FuncId × Value)).run Tryz.prog w := by kernel_rfl
  rw [e]
  simp [hc, go_sem]
theorem m_Swap {w : World} {tb : Nat} {v : Value} (hc : w.cell? ⟨tb, 4, none⟩ = some v) : (method 446 230 (.pointer (some ⟨tb, 4, none⟩)) "Swap").run Tryz.prog w = .ok (261, v) w := by
  have e : (method 446 230 (.pointer (some ⟨tb, 4, none⟩)) "Swap").run Tryz.prog w = (do pure (261, ← loadVar 136 ⟨tb, 4, none⟩) : Sem (FuncId × Value)).run Tryz.prog w := by kernel_rfl
  rw [e]
  simp [hc, go_sem]
theorem m_Len {w : World} {tb : Nat} {v : Value} (hc : w.cell? ⟨tb, 4, none⟩ = some v) : (method 446 230 (.pointer (some ⟨tb, 4, none⟩)) "Len").run Tryz.prog w = .ok (136, v) w := by
  have e : (method 446 230 (.pointer (some ⟨tb, 4, none⟩)) "Len").run Tryz.prog w = (do pure (136, ← loadVar 136 ⟨tb, 4, none⟩) : Sem (FuncId × Value)).run Tryz.prog w := by kernel_rfl
  rw [e]
  simp [hc, go_sem]
theorem tdiv_up (j : Nat) (hj : 0 < j) : ((j : Int) - 1).tdiv 2 = (((j - 1) / 2 : Nat) : Int) := by
  have e : (j : Int) - 1 = ((j - 1 : Nat) : Int) := by omega
  rw [e, Int.tdiv_eq_ediv_of_nonneg (Int.natCast_nonneg _)]
  rfl
theorem heap_up (h : NumAt w tb a0 a1 a2 top v xs) (j : Nat) (hj : j < xs.length) (hu : UpInv xs j xs.length) :
    Calls Tryz.prog 159 #[.iface 230 (.pointer (some ⟨tb, 4, none⟩)), .int .i64 (j : Int)] w fun e w' => e = .returned (.tuple #[]) ∧ ∃ ys : List Int, NumAt w' tb a0 a1 a2 top v ys ∧ ys.Perm xs ∧ IsHp ys ys.length ∧ Chg (fun b => v.ownBlock = some b) (fun b => v.ownBlock = some b) w w' := by
  obtain ⟨A, c, rfl, hc, hcm⟩ := h.row.form
  obtain ⟨L, hL⟩ : ∃ L, xs.length = L := ⟨_, rfl⟩
  have hfew := h.few
  rw [hL] at hj hu hc hfew h ⊢
  replace hL := Lib.hid hL
  replace h := Lib.hid h
  replace hu := Lib.hid hu
  go_enter Tryz.func159, Tryz.ntmps159
  go_wp2
  go_loopw [1] (fun jv wr => ∃ (k : Nat) (ys : List Int), jv = .int .i64 (k : Int) ∧ k < L ∧ Hid (ys.length = L) ∧ Hid (NumAt wr tb a0 a1 a2 top (.slice A L c) ys) ∧ Hid (ys.Perm xs) ∧ Hid (UpInv ys k L) ∧ Hid (Chg (fun b => (Value.slice A L c).ownBlock = some b) (fun b => (Value.slice A L c).ownBlock = some b) w wr)) (fun jv _ => (intOf jv).toNat)
  case atStart => exact ⟨j, xs, rfl, hj, hL, h, Lib.hid (List.Perm.refl _), hu, Lib.hid (Chg.refl _ _)⟩
  case round =>
    clear h hu hj
    obtain ⟨k, ys, rfl, hk, hyl, hN, hP, hU, hC⟩ := hrel
    have c4 := hN.out.blk.cell (i := 4) rfl
    have hlt := hN.out.blk.lt
    by_cases hk0 : k = 0
    · subst hk0
      have e1 : ((0 : Int) - 1).tdiv 2 = 0 := rfl
      have hfin := up_done hU.out (.inl rfl)
      rw [← hyl.out] at hfin
      replace hfin := Lib.hid hfin
      go_wp2
      go_end0
      exact ⟨rfl, ys, hN.out, hP.out, hfin.out, hC.out⟩
    · have e1 := tdiv_up k (by omega)
      obtain ⟨i, hi⟩ : ∃ i : Nat, (k - 1) / 2 = i := ⟨_, rfl⟩
      rw [hi] at e1
      have hik : i < k := by omega
      have hne : ((i : Int) == (k : Int)) = false := by simp; omega
      have hU2 := hU.out
      have hless := is_Less hN.out.row hyl.out k i (by rw [hyl.out]; exact hk) (by rw [hyl.out]; omega) hN.out.few
      have hm := m_Less c4
      replace hi := Lib.hid hi
      by_cases hl : gt ys k < gt ys i
      · rw [decide_eq_true hl] at hless
        have hstep := up_step hU.out (by rw [hyl.out]; exact Nat.le_refl _) (by omega) hk (by rw [hi.out]; exact hl)
        rw [hi.out] at hstep
        replace hstep := Lib.hid hstep
        clear hU2
        have hpm := swp_perm (ys := ys) (i := i) (j := k) (by rw [hyl.out]; omega) (by rw [hyl.out]; omega)
        replace hpm := Lib.hid hpm
        have hsl := swp_len ys i k
        replace hsl := Lib.hid hsl
        generalize gt ys k = gk at hless hl
        generalize gt ys i = gi at hless hl
        go_wp2_with fail
        refine hless.mono ?_
        rintro e w1 ⟨rfl, n, rfl⟩
        have hN1 : NumAt (wr.drewN n) tb a0 a1 a2 top (.slice A L c) ys := ⟨hN.out.blk, hN.out.row.keep fun _ _ => rfl, hN.out.ne, hN.out.few⟩
        have hC1 := hC.out.trans (Chg.drewN _ wr n)
        generalize wr.drewN n = w2 at hN1 hC1 ⊢
        have d4 := hN1.blk.cell (i := 4) rfl
        have hm2 := m_Swap d4
        have hsw := is_Swap hN1.row hyl.out i k (by rw [hyl.out]; omega) (by rw [hyl.out]; omega) hN1.few
        have hlt2 := hN1.blk.lt
        replace hN1 := Lib.hid hN1
        replace hC1 := Lib.hid hC1
        clear hless hm c4 hl
        go_wp2_with fail
        refine hsw.mono ?_
        rintro e w3 ⟨rfl, hr3, c3⟩
        have hlw : (swp ys i k).length = ys.length := hsl.out
        have hN3 : NumAt w3 tb a0 a1 a2 top (.slice A L c) (swp ys i k) := ⟨hN1.out.blk.chg c3 hN1.out.ne, by rw [hlw]; exact hr3, hN1.out.ne, by rw [hlw]; exact hN1.out.few⟩
        replace hN3 := Lib.hid hN3
        have hC3 := Lib.hid (hC1.out.trans c3)
        have hP3 := Lib.hid (hpm.out.trans hP.out)
        have hl3 := Lib.hid (hlw.trans hyl.out)
        clear hsw hm2 d4 hr3 c3
        go_wp2
        go_roundw
        case rel => exact ⟨i, swp ys i k, rfl, by omega, hl3, hN3, hP3, hstep, hC3⟩
        case measure => simp [intOf]; omega
      · rw [decide_eq_false hl] at hless
        have hfin := up_done hU2 (.inr (by rw [hi.out]; omega))
        rw [← hyl.out] at hfin
        replace hfin := Lib.hid hfin
        clear hU2
        generalize gt ys k = gk at hless hl
        generalize gt ys i = gi at hless hl
        go_wp2_with fail
        refine hless.mono ?_
        rintro e w1 ⟨rfl, n, rfl⟩
        go_wp2
        go_end0
        exact ⟨rfl, ys, ⟨hN.out.blk, hN.out.row.keep fun _ _ => rfl, hN.out.ne, hN.out.few⟩, hP.out, hfin.out, hC.out.trans (Chg.drewN _ wr n)⟩
theorem heap_Push (h : NumAt w tb a0 a1 a2 top v xs) (hp : IsHp xs xs.length) (x : Int) (hl : xs.length < 1000000) :
    Calls Tryz.prog 135 #[.iface 230 (.pointer (some ⟨tb, 4, none⟩)), .iface 3 (.int .i64 x)] w fun e w' => e = .returned (.tuple #[]) ∧ ∃ (v' : Value) (ys : List Int), NumAt w' tb a0 a1 a2 top v' ys ∧ ys.Perm (xs ++ [x]) ∧ IsHp ys ys.length ∧
      Chg (fun b => b = tb ∨ v.ownBlock = some b) (fun b => b = tb ∨ v.ownBlock = some b ∨ v'.ownBlock = some b) w w' ∧ (v'.ownBlock = v.ownBlock ∨ ∃ g, v'.ownBlock = some g ∧ w.heap.size ≤ g) := by
  have hpu := least_Push h x hl
  have hu := up_start x hp
  have hlt := h.blk.lt
  replace h := Lib.hid h
  replace hp := Lib.hid hp
  obtain ⟨K, hK⟩ : ∃ K, xs.length = K := ⟨_, rfl⟩
  have hKb : K < 1000000 := by omega
  have hlen : (xs ++ [x]).length = xs.length + 1 := by rw [List.length_append]; rfl
  replace hlen := Lib.hid hlen
  replace hu := Lib.hid hu
  go_enter Tryz.func135, Tryz.ntmps135
  go_wp2_with fail
  refine hpu.mono ?_
  rintro e w1 ⟨rfl, v', hN, hC, how⟩
  have hup := heap_up hN xs.length (by rw [hlen.out]; omega) (by rw [hlen.out]; exact hu.out)
  obtain ⟨A, c, hv, hc, hcm⟩ := hN.row.form
  have c4 := hN.blk.cell (i := 4) rfl
  have hl1 := hN.blk.lt
  rw [hv, hlen.out, hK] at c4
  rw [hlen.out, hK] at hc
  have hm := m_Len c4
  rw [hK] at hup
  have hlen4 := fun W => is_Len A (K + 1) c W
  have e1 : ((K + 1 : Nat) : Int) - 1 = (K : Int) := by omega
  have e2 : (K : Int) + 1 - 1 = (K : Int) := by omega
  replace hN := Lib.hid hN
  replace hC := Lib.hid hC
  replace how := Lib.hid how
  replace hK := Lib.hid hK
  replace hv := Lib.hid hv
  clear hpu hcm
  go_wp2_with fail
  refine (hlen4 w1).mono ?_
  rintro e w' ⟨rfl, hw⟩
  obtain rfl := hw.symm
  go_wp2_with fail
  refine hup.mono ?_
  rintro e w2 ⟨rfl, ys, hN2, hP2, hH2, hC2⟩
  have hC3 := hC.out.trans (hC2.mono (G := fun b => b = tb ∨ v.ownBlock = some b ∨ v'.ownBlock = some b) (G' := fun b => b = tb ∨ v.ownBlock = some b ∨ v'.ownBlock = some b) (fun b hb => .inr (.inr hb)) (fun b _ hb => .inr hb))
  replace hN2 := Lib.hid hN2
  replace hC3 := Lib.hid hC3
  replace hP2 := Lib.hid hP2
  replace hH2 := Lib.hid hH2
  go_wp2
  go_end0
  exact ⟨rfl, v', ys, hN2.out, hP2.out, hH2.out, hC3.out, how.out⟩
end
structure NumR (w : World) (tb : Nat) (a0 a1 a2 : Value) (ids : List Int) (top : Nat) (v : Value) (xs : List Int) : Prop where
  at_ : NumAt w tb a0 a1 a2 top v xs
  hp : IsHp xs xs.length
  cnt : ids.length + xs.length = top
  all : ∀ j : Int, 1 ≤ j ∧ j ≤ (top : Int) ↔ j ∈ ids ∨ j ∈ xs
  dis : ∀ j ∈ xs, j ∉ ids
  nd : xs.Nodup
  few : top ≤ 100000
theorem NumR.keep {w w' : World} {tb top : Nat} {a0 a1 a2 v : Value} {ids xs : List Int} (h : NumR w tb a0 a1 a2 ids top v xs) (h1 : w'.heap[tb]? = w.heap[tb]?) (h2 : ∀ g, v.ownBlock = some g → w'.heap[g]? = w.heap[g]?) : NumR w' tb a0 a1 a2 ids top v xs :=
  { h with at_ := ⟨h1.trans h.at_.blk, h.at_.row.keep h2, h.at_.ne, h.at_.few⟩ }
theorem filter_one_len {l : List Int} (hnd : l.Nodup) {x : Int} (hx : x ∈ l) : (l.filter fun j => j ≠ x).length + 1 = l.length := by
  induction l with
  | nil => cases hx
  | cons a l ih =>
    rw [List.nodup_cons] at hnd
    by_cases h : a = x
    · subst h
      rw [List.filter_cons_of_neg (by simp), List.filter_eq_self.2 fun p hp => by simpa using fun (e : p = a) => hnd.1 (by rw [← e]; exact hp)]
      rfl
    · rw [List.filter_cons_of_pos (by simpa using h), List.length_cons, List.length_cons]
      have : x ∈ l := by
        cases hx with
        | head => exact absurd rfl h
        | tail _ h => exact h
      have := ih hnd.2 this
      omega
section
variable {w : World} {tb top : Nat} {a0 a1 a2 v : Value} {ids xs : List Int}
theorem NumR.pushed {w' : World} {v' : Value} {ys : List Int} {id : Int} (h : NumR w tb a0 a1 a2 ids top v xs) (hnd : ids.Nodup) (hid : id ∈ ids) (hN : NumAt w' tb a0 a1 a2 top v' ys) (hP : ys.Perm (xs ++ [id])) (hH : IsHp ys ys.length) : NumR w' tb a0 a1 a2 (ids.filter fun j => j ≠ id) top v' ys := by
  have hl := filter_one_len hnd hid
  have hyl : ys.length = xs.length + 1 := by rw [hP.length_eq, List.length_append]; rfl
  have hix : id ∉ xs := fun hx => h.dis id hx hid
  refine ⟨hN, hH, by have := h.cnt; omega, fun j => ?_, fun j hj hm => ?_, hP.nodup_iff.2 ?_, h.few⟩
  · rw [h.all j, hP.mem_iff, List.mem_append, List.mem_singleton, List.mem_filter]
    simp only [ne_eq, decide_not, Bool.not_eq_eq_eq_not, Bool.not_true, decide_eq_false_iff_not]
    constructor
    · rintro (h1 | h1)
      · by_cases e : j = id
        · exact .inr (.inr e)
        · exact .inl ⟨h1, e⟩
      · exact .inr (.inl h1)
    · rintro (⟨h1, _⟩ | h1 | h1)
      · exact .inl h1
      · exact .inr h1
      · subst h1; exact .inl hid
  · rw [hP.mem_iff, List.mem_append, List.mem_singleton] at hj
    rw [List.mem_filter] at hm
    simp only [ne_eq, decide_not, Bool.not_eq_eq_eq_not, Bool.not_true, decide_eq_false_iff_not] at hm
    rcases hj with hj | hj
    · exact h.dis j hj hm.1
    · exact hm.2 hj
  · rw [List.nodup_append]
    refine ⟨h.nd, by simp, fun a ha b hb => ?_⟩
    rw [List.mem_singleton] at hb
    subst hb
    exact fun e => hix (e ▸ ha)
theorem nums_take0 (h : NumR w tb a0 a1 a2 ids top v []) (ht : top < 100000) :
    Calls Tryz.prog 134 #[.pointer (some ⟨tb, 3, none⟩)] w fun e w' => e = .returned (.int .i64 ((top + 1 : Nat) : Int)) ∧ NumR w' tb a0 a1 a2 (ids ++ [((top + 1 : Nat) : Int)]) (top + 1) v [] ∧ Chg (fun b => b = tb) (fun b => b = tb) w w' := by
  obtain ⟨A, c, hv, hc, hcm⟩ := h.at_.row.form
  have c3 := h.at_.blk.cell (i := 3) rfl
  have c4 := h.at_.blk.cell (i := 4) rfl
  have f3 := h.at_.blk.frozen 3
  have hlt := h.at_.blk.lt
  rw [hv] at c4
  simp only [List.length_nil] at c4
  have hb := h.at_.blk.set 3 (.int .i64 ((top + 1 : Nat) : Int))
  have hno : ((top + 1 : Nat) : Int) ∉ ids := fun hm => by
    have := (h.all _).2 (.inl hm)
    omega
  have hfin : NumR (w.setCell ⟨tb, 3, none⟩ (.int .i64 ((top + 1 : Nat) : Int))) tb a0 a1 a2 (ids ++ [((top + 1 : Nat) : Int)]) (top + 1) v [] := by
    refine ⟨⟨hb, h.at_.row.keep fun g hg => heap_setCell_other _ _ g _ (fun e => h.at_.ne (by rw [hg]; exact congrArg some e)), h.at_.ne, Nat.zero_le _⟩, IsHp.nil _, ?_, fun j => ?_, nofun, List.nodup_nil, by omega⟩
    · have := h.cnt
      simp only [List.length_nil, Nat.add_zero, List.length_append, List.length_cons] at this ⊢
      omega
    · have := h.all j
      simp only [List.not_mem_nil, or_false, List.mem_append, List.mem_singleton] at this ⊢
      rw [← this]
      omega
  have e1 : ((top + 1 : Nat) : Int) = (top : Int) + 1 := by omega
  have hl4 := fun W => is_Len A 0 c W
  rw [e1] at hfin ⊢
  replace hfin := Lib.hid hfin
  replace hl4 := Lib.hid hl4
  clear h hb hno
  go_enter Tryz.func134, Tryz.ntmps134
  go_wp2_with fail
  refine (hl4.out w).mono ?_
  rintro e w' ⟨rfl, hw⟩
  obtain rfl := hw.symm
  go_wp2
  go_ret
  exact ⟨rfl, hfin.out, Chg.set (F := fun b => b = tb) rfl 3 _⟩
end
section
variable {κ α : Type} [DecidableEq κ]
def upd (l : List (κ × α)) (k : κ) (y : α) : List (κ × α) := l.map fun p => if p.1 = k then (k, y) else p
theorem look_upd (l : List (κ × α)) (k : κ) (y : α) (j : κ) : look (upd l k y) j = if j = k then (look l k).map (fun _ => y) else look l j := by
  induction l with
  | nil => simp [upd, look]
  | cons a l ih =>
    simp only [upd, List.map_cons, look] at ih ⊢
    by_cases h : a.1 = k
    · rw [if_pos h]
      by_cases hj : j = k
      · simp [hj, h]
      · rw [if_neg (fun e => hj e.symm), if_neg hj, ih, if_neg hj, if_neg (fun e => hj (e.symm.trans h))]
    · rw [if_neg h]
      by_cases hj : j = k
      · rw [if_neg (fun e => h (e.trans hj)), if_pos hj, ih, if_pos hj, if_neg h]
      · rw [if_neg hj, ih, if_neg hj]
theorem look_upd_same {l : List (κ × α)} {k : κ} {x : α} (h : look l k = some x) (y : α) : look (upd l k y) k = some y := by rw [look_upd, if_pos rfl, h]; rfl
theorem keys_upd {β : Type} (f : κ → β) (l : List (κ × α)) (k : κ) (y : α) : (upd l k y).map (fun p => (p.1, f p.1)) = l.map (fun p => (p.1, f p.1)) := by
  unfold upd
  rw [List.map_map]
  refine List.map_congr_left fun p _ => ?_
  show ((if p.1 = k then (k, y) else p).1, f (if p.1 = k then (k, y) else p).1) = _
  split
  · rename_i h; rw [← h]
  · rfl
theorem upd_upd (l : List (κ × α)) (k : κ) (y z : α) : upd (upd l k y) k z = upd l k z := by
  unfold upd
  rw [List.map_map]
  refine List.map_congr_left fun p _ => ?_
  show (if (if p.1 = k then (k, y) else p).1 = k then (k, z) else (if p.1 = k then (k, y) else p)) = _
  by_cases h : p.1 = k
  · rw [if_pos h, if_pos h, if_pos rfl]
  · rw [if_neg h, if_neg h]
theorem upd_len (l : List (κ × α)) (k : κ) (y : α) : (upd l k y).length = l.length := List.length_map _
def total (f : α → Nat) : List (κ × α) → Nat
  | [] => 0
  | p :: l => f p.2 + total f l
omit [DecidableEq κ] in
theorem total_app (f : α → Nat) (l m : List (κ × α)) : total f (l ++ m) = total f l + total f m := by
  induction l with
  | nil => simp [total]
  | cons a l ih => simp only [List.cons_append, total, ih]; omega
theorem upd_none {l : List (κ × α)} {k : κ} (h : look l k = none) (y : α) : upd l k y = l := by
  rw [look_none] at h
  unfold upd
  have := List.map_congr_left (f := fun p => if p.1 = k then (k, y) else p) (g := id) (l := l) fun p hp => if_neg (h p hp)
  rw [this, List.map_id]
theorem total_upd {f : α → Nat} {l : List (κ × α)} {k : κ} {x : α} (hd : l.Pairwise (fun p q => p.1 ≠ q.1)) (h : look l k = some x) (y : α) : total f (upd l k y) + f x = total f l + f y := by
  induction l with
  | nil => simp [look] at h
  | cons a l ih =>
    rw [List.pairwise_cons] at hd
    simp only [look] at h
    split at h
    · rename_i he
      cases h
      have : look l k = none := look_none.2 fun p hp e => hd.1 p hp (he.trans e.symm)
      have e1 : upd (a :: l) k y = (k, y) :: l := by
        show (if a.1 = k then (k, y) else a) :: upd l k y = _
        rw [if_pos he, upd_none this]
      rw [e1]
      simp only [total]
      omega
    · rename_i he
      have := ih hd.2 h
      have e1 : upd (a :: l) k y = a :: upd l k y := by
        show (if a.1 = k then (k, y) else a) :: upd l k y = _
        rw [if_neg he]
      rw [e1]
      simp only [total]
      omega
theorem total_ge {f : α → Nat} {l : List (κ × α)} {k : κ} {x : α} (h : look l k = some x) : f x ≤ total f l := by
  induction l with
  | nil => simp [look] at h
  | cons a l ih =>
    simp only [look] at h
    split at h
    · cases h; simp only [total]; omega
    · have := ih h; simp only [total]; omega
theorem apart_upd {l : List (κ × α)} (hd : l.Pairwise (fun p q => p.1 ≠ q.1)) (k : κ) (y : α) : (upd l k y).Pairwise (fun p q => p.1 ≠ q.1) := by
  have e := keys_upd (fun _ => ()) l k y
  have h1 : ((upd l k y).map (fun p => (p.1, ()))).Pairwise (fun p q => p.1 ≠ q.1) := by rw [e, List.pairwise_map]; exact hd
  rw [List.pairwise_map] at h1
  exact h1
omit [DecidableEq κ] in
theorem total_le_const {f : α → Nat} {l : List (κ × α)} {c : Nat} (h : ∀ p ∈ l, f p.2 ≤ c) : total f l ≤ l.length * c := by
  induction l with
  | nil => simp [total]
  | cons a l ih =>
    have h1 := ih fun p hp => h p (.tail _ hp)
    have h2 := h a (.head _)
    simp only [total, List.length_cons, Nat.add_mul, Nat.one_mul]
    omega
end
structure Pn where
  kind : Nat
  named : Nat
  holds : Nat
  par : Nat
  data : List UInt8
  nms : Option (List (ByteArray × Nat))
  name : ByteArray
structure NM where
  blk : Nat
  dv : Value
  nv : Value
inductive TL where
  | free | fs | nmap
  | body (k : Int)
  | data (k : Int)
  | names (k : Int)
def OfN (k : Int) : TL → Prop
  | .body j => j = k
  | .data j => j = k
  | .names j => j = k
  | _ => False
def bodyC (x : Pn) (m : NM) : List Value := [.int .i64 (x.kind : Int), .int .i64 (x.named : Int), .int .i64 (x.holds : Int), m.dv, m.nv, .int .i64 (x.par : Int), .string x.name]
structure NodeAt (w : World) (lab : Nat → TL) (k : Int) (x : Pn) (m : NM) : Prop where
  blk : Blk w m.blk (bodyC x m) 156
  lb : lab m.blk = .body k
  data : RowM w 5 m.dv x.data.length (bc x.data)
  dl : ∀ g, m.dv.ownBlock = some g → lab g = .data k
  few : x.data.length ≤ 4096
  nil : x.nms = none → m.nv = .map none
  nms : ∀ l, x.nms = some l → ∃ nb, m.nv = .map (some nb) ∧ lab nb = .names k ∧ KMap w nb .string encS (l.map fun p => (p.1, Value.int .i64 (p.2 : Int)))
theorem NodeAt.keep {w w' : World} {lab lab' : Nat → TL} {k : Int} {x : Pn} {m : NM} (h : NodeAt w lab k x m) (hk : ∀ g, g < w.heap.size → OfN k (lab g) → w'.heap[g]? = w.heap[g]? ∧ lab' g = lab g) : NodeAt w' lab' k x m where
  blk := (hk _ h.blk.lt (by rw [h.lb]; exact rfl)).1.trans h.blk
  lb := (hk _ h.blk.lt (by rw [h.lb]; exact rfl)).2.trans h.lb
  data := h.data.keep fun g hg => (hk g (h.data.lt hg) (by rw [h.dl g hg]; exact rfl)).1
  dl := fun g hg => (hk g (h.data.lt hg) (by rw [h.dl g hg]; exact rfl)).2.trans (h.dl g hg)
  few := h.few
  nil := h.nil
  nms := fun l hl => by
    obtain ⟨nb, h1, h2, h3⟩ := h.nms l hl
    have h4 := hk nb h3.lt (by rw [h2]; exact rfl)
    exact ⟨nb, h1, h4.2.trans h2, h3.keep h4.1⟩
abbrev Nds := List (Int × Pn)
def usedN (nds : Nds) : Nat := total (fun x : Pn => x.data.length) nds
def entN (mem : Int → NM) (nds : Nds) : List (Int × Value) := nds.map fun p => (p.1, Value.pointer (some ⟨(mem p.1).blk, 0, none⟩))
structure TreeR (w : World) (lab : Nat → TL) (fb most room : Nat) (nds : Nds) (mb : Nat) (mem : Int → NM) : Prop where
  fs : Blk w fb [.map (some mb), .int .i64 (most : Int), .int .i64 (room : Int), .int .i64 (usedN nds : Int)] 176
  lfs : lab fb = .fs
  map : KMap w mb (.int .i64) encI (entN mem nds)
  lmap : lab mb = .nmap
  nd : ∀ k x, look nds k = some x → NodeAt w lab k x (mem k)
  new : ∀ g, w.heap.size ≤ g → lab g = .free
  lim : most ≤ 1024 ∧ room ≤ 1048576 ∧ usedN nds ≤ room
def TreeF (w : World) (F : Nat → Prop) (fb most room : Nat) (nds : Nds) : Prop := ∃ lab mb mem, TreeR w lab fb most room nds mb mem ∧ ∀ g, F g ↔ lab g ≠ .free
section
variable {w : World} {lab : Nat → TL} {F : Nat → Prop} {fb most room mb : Nat} {nds : Nds} {mem : Int → NM}
theorem TreeF.lt (h : TreeF w F fb most room nds) {g : Nat} (hg : F g) : g < w.heap.size := by
  obtain ⟨lab, mb, mem, h, hF⟩ := h
  exact Nat.lt_of_not_le fun hle => (hF g).1 hg (h.new g hle)
theorem TreeF.keep {w' : World} (h : TreeF w F fb most room nds) (hs : w.heap.size ≤ w'.heap.size) (hk : ∀ g, F g → w'.heap[g]? = w.heap[g]?) : TreeF w' F fb most room nds := by
  obtain ⟨lab, mb, mem, h, hF⟩ := h
  have hk' : ∀ g, lab g ≠ .free → w'.heap[g]? = w.heap[g]? := fun g hg => hk g ((hF g).2 hg)
  exact ⟨lab, mb, mem, ⟨(hk' fb (by rw [h.lfs]; exact nofun)).trans h.fs, h.lfs, h.map.keep (hk' mb (by rw [h.lmap]; exact nofun)), h.lmap,
    fun k x hx => (h.nd k x hx).keep fun g _ ho => ⟨hk' g (fun e => by rw [e] at ho; exact ho), rfl⟩, fun g hg => h.new g (Nat.le_trans hs hg), h.lim⟩, hF⟩
theorem TreeR.apart (h : TreeR w lab fb most room nds mb mem) : nds.Pairwise (fun p q => p.1 ≠ q.1) := by
  have := h.map.apart
  unfold entN at this
  rw [List.pairwise_map] at this
  exact this
theorem TreeR.step {S S' : Nat → Prop} {w' : World} {lab' : Nat → TL} {k : Int} {x y : Pn} {m' : NM} (h : TreeR w lab fb most room nds mb mem) (hF : ∀ g, F g ↔ lab g ≠ .free) (hx : look nds k = some x) (c : Chg S S' w w')
    (hS : ∀ g, g < w.heap.size → S g → lab g = .fs ∨ OfN k (lab g)) (hl : ∀ g, g < w.heap.size → lab' g = lab g) (hn : ∀ g, w'.heap.size ≤ g → lab' g = .free)
    (hfs : Blk w' fb [.map (some mb), .int .i64 (most : Int), .int .i64 (room : Int), .int .i64 (usedN (upd nds k y) : Int)] 176) (hnd : NodeAt w' lab' k y m') (hb : m'.blk = (mem k).blk) (hu : usedN (upd nds k y) ≤ room) :
    ∃ F', TreeF w' F' fb most room (upd nds k y) ∧ Chg F F' w w' := by
  have hfree : ∀ g, ¬ F g → lab g = .free := fun g hg => Classical.byContradiction fun h => hg ((hF g).2 h)
  have hsame : ∀ g, g < w.heap.size → lab g ≠ .fs → ¬ OfN k (lab g) → w'.heap[g]? = w.heap[g]? := fun g hg h1 h2 => c.block g hg fun hs => (hS g hg hs).elim h1 h2
  refine ⟨fun g => lab' g ≠ .free, ⟨lab', mb, fun j => if j = k then m' else mem j, ⟨hfs, (hl fb h.fs.lt).trans h.lfs, ?_, (hl mb h.map.lt).trans h.lmap, fun j z hz => ?_, hn, ⟨h.lim.1, h.lim.2.1, hu⟩⟩, fun g => Iff.rfl⟩,
    ⟨c.os, c.tape, c.output, c.size, fun g hg hn => hsame g hg (by rw [hfree g hn]; exact nofun) (by rw [hfree g hn]; exact id), fun g hg hn => by rw [hl g hg, hfree g hn]; exact fun h => h rfl⟩⟩
  · have e : entN (fun j => if j = k then m' else mem j) (upd nds k y) = entN mem nds := by
      unfold entN
      rw [keys_upd (fun j => Value.pointer (some ⟨(if j = k then m' else mem j).blk, 0, none⟩))]
      refine List.map_congr_left fun p _ => ?_
      by_cases hp : p.1 = k
      · rw [if_pos hp, hb, hp]
      · rw [if_neg hp]
    rw [e]
    exact h.map.keep (hsame mb h.map.lt (by rw [h.lmap]; exact nofun) (by rw [h.lmap]; exact id))
  · rw [look_upd] at hz
    by_cases hj : j = k
    · rw [if_pos hj, hx] at hz
      cases hz
      subst hj
      simpa using hnd
    · rw [if_neg hj] at hz
      rw [if_neg hj]
      refine (h.nd j z hz).keep fun g hg ho => ⟨hsame g hg (fun e => by rw [e] at ho; exact ho) (fun e => hj ?_), hl g hg⟩
      cases hlg : lab g with
      | body i => rw [hlg] at ho e; exact ho.symm.trans e
      | data i => rw [hlg] at ho e; exact ho.symm.trans e
      | names i => rw [hlg] at ho e; exact ho.symm.trans e
      | free => rw [hlg] at ho; exact ho.elim
      | fs => rw [hlg] at ho; exact ho.elim
      | nmap => rw [hlg] at ho; exact ho.elim
theorem entN_look (k : Int) : look (entN mem nds) k = (look nds k).map fun _ => Value.pointer (some ⟨(mem k).blk, 0, none⟩) := by
  unfold entN
  induction nds with
  | nil => rfl
  | cons a l ih =>
    simp only [List.map_cons, look]
    split
    · rename_i h; simp [h]
    · exact ih
theorem TreeR.find (h : TreeR w lab fb most room nds mb mem) (k : Int) : (Instr.lookup 174 (.map (some mb)) (.int .i64 k) false).run Tryz.prog w = .ok (((look nds k).map fun _ => Value.pointer (some ⟨(mem k).blk, 0, none⟩)).getD (.pointer none)) w := by
  have := h.map.find keyI Tryz.underlying174 Tryz.underlying3 (Tryz.zeroValue150 w) false k
  rw [entN_look] at this
  exact this
theorem TreeR.find_some (h : TreeR w lab fb most room nds mb mem) {k : Int} {x : Pn} (hx : look nds k = some x) : (Instr.lookup 174 (.map (some mb)) (.int .i64 k) false).run Tryz.prog w = .ok (.pointer (some ⟨(mem k).blk, 0, none⟩)) w := by
  rw [h.find k, hx]; rfl
theorem TreeR.find_none (h : TreeR w lab fb most room nds mb mem) {k : Int} (hx : look nds k = none) : (Instr.lookup 174 (.map (some mb)) (.int .i64 k) false).run Tryz.prog w = .ok (.pointer none) w := by
  rw [h.find k, hx]; rfl
theorem body_some (h : TreeR w lab fb most room nds mb mem) {k : Int} {x : Pn} (hx : look nds k = some x) :
    Calls Tryz.prog 89 #[.pointer (some ⟨fb, 0, none⟩), .int .i64 k] w fun e w' => e = .returned (.tuple #[.pointer (some ⟨(mem k).blk, 0, none⟩), .int .i64 0]) ∧ w' = w := by
  have hf := h.find_some hx
  have c0 := h.fs.cell (i := 0) rfl
  have hlt := h.fs.lt
  generalize (mem k).blk = kb at hf ⊢
  clear h hx
  go_enter Tryz.func89, Tryz.ntmps89
  go_wp2
  go_ret2
  exact ⟨rfl, rfl⟩
theorem body_none (h : TreeR w lab fb most room nds mb mem) {k : Int} (hx : look nds k = none) :
    Calls Tryz.prog 89 #[.pointer (some ⟨fb, 0, none⟩), .int .i64 k] w fun e w' => e = .returned (.tuple #[.pointer none, .int .i64 10]) ∧ w' = w := by
  have hf := h.find_none hx
  have c0 := h.fs.cell (i := 0) rfl
  have hlt := h.fs.lt
  clear h hx
  go_enter Tryz.func89, Tryz.ntmps89
  go_wp2
  go_ret2
  exact ⟨rfl, rfl⟩
theorem leaf_some (h : TreeR w lab fb most room nds mb mem) {k : Int} {x : Pn} (hx : look nds k = some x) (hk : x.kind ≠ 1) :
    Calls Tryz.prog 120 #[.pointer (some ⟨fb, 0, none⟩), .int .i64 k] w fun e w' => e = .returned (.tuple #[.pointer (some ⟨(mem k).blk, 0, none⟩), .int .i64 0]) ∧ w' = w := by
  have hb := body_some h hx
  have c0 := (h.nd k x hx).blk.cell (i := 0) rfl
  have hlt := (h.nd k x hx).blk.lt
  have e1 : ((x.kind : Int) == 1) = false := by simp; omega
  generalize (mem k).blk = kb at hb c0 hlt ⊢
  clear h hx hk
  go_enter Tryz.func120, Tryz.ntmps120
  go_wp2_with fail
  refine hb.mono ?_
  rintro e w' ⟨rfl, hw⟩
  obtain rfl := hw.symm
  clear hb hw
  go_wp2
  go_ret2
  exact ⟨rfl, rfl⟩
end
inductive Lab where
  | free | pool | sparr | spare
  | own (k t : Nat)
def Mine (k : Nat) : Lab → Prop
  | .free => False
  | .own k' _ => k' = k
  | _ => True
def relab (lab : Nat → Lab) (v : Value) (l : Lab) : Nat → Lab := fun g => if v.ownBlock = some g then l else lab g
theorem relab_of {lab : Nat → Lab} {v : Value} {l : Lab} {g : Nat} (h : v.ownBlock = some g) : relab lab v l g = l := if_pos h
theorem relab_ne {lab : Nat → Lab} {v : Value} {l : Lab} {g : Nat} (h : v.ownBlock ≠ some g) : relab lab v l g = lab g := if_neg h
structure PoolAt (w : World) (B : Nat) (lab : Nat → Lab) (pb : Nat) (p : Ps) (S : Value) (sp : List Value) : Prop where
  blk : Blk w pb (p.cells S) 173
  low : B ≤ pb
  lb : lab pb = .pool
  arr : Row w B 153 S sp.length sp
  arl : ∀ g, S.ownBlock = some g → lab g = .sparr
  str : ∀ v ∈ sp, ∃ bs : List UInt8, Row w B 5 v bs.length (bc bs)
  stl : ∀ v ∈ sp, ∀ g, v.ownBlock = some g → lab g = .spare
  nd : (sp.filterMap Value.ownBlock).Nodup
structure Bs where
  all : List UInt8
  gone : Nat
  Q : Nat
  m : Value
  c : Value
  cs : List Value
def chunkB (all : List UInt8) (Q C i : Nat) : List UInt8 := (all.drop (Q + i * C)).take C
structure BufR (w : World) (B : Nat) (lab : Nat → Lab) (bb k M C : Nat) (b : Bs) : Prop where
  low : B ≤ bb
  lb : lab bb = .own k 0
  gl : b.gone ≤ b.all.length
  mm : b.gone < M → Row w B 5 b.m (b.all.take M).length (bc (b.all.take M))
  ml : b.gone < M → ∀ g, b.m.ownBlock = some g → lab g = .own k 1
  arr : Row w B 153 b.c b.cs.length b.cs
  arl : ∀ g, b.c.ownBlock = some g → lab g = .own k 2
  qq : ∃ q, b.Q = M + q * C
  qg : b.gone < M ∧ b.Q = M ∨ b.Q ≤ b.gone ∧ b.gone < b.Q + C
  hi : b.all.length - b.Q ≤ b.cs.length * C
  lo : ∀ i, i < b.cs.length → b.Q + i * C < b.all.length
  str : ∀ i v, b.cs[i]? = some v → Row w B 5 v (chunkB b.all b.Q C i).length (bc (chunkB b.all b.Q C i))
  stl : ∀ v ∈ b.cs, ∀ g, v.ownBlock = some g → lab g = .own k 3
  nd : (b.cs.filterMap Value.ownBlock).Nodup
structure Step (B k n0 : Nat) (w : World) (lab : Nat → Lab) (w' : World) (lab' : Nat → Lab) : Prop where
  mv : Mv B (fun g => Mine k (lab g) ∨ n0 ≤ g) w w'
  lb : ∀ g, g < w.heap.size → ¬ Mine k (lab g) → lab' g = lab g
  new : ∀ g, w'.heap.size ≤ g → lab' g = .free
theorem Step.trans {B k n0 : Nat} {w w' w'' : World} {lab lab' lab'' : Nat → Lab} (h : Step B k n0 w lab w' lab') (h' : Step B k n0 w' lab' w'' lab'') (hn : n0 ≤ w.heap.size) : Step B k n0 w lab w'' lab'' := by
  refine ⟨h.mv.trans (h'.mv.mono fun g _ hg => ?_), fun g hg hm => ?_, h'.new⟩
  · rcases Nat.lt_or_ge g n0 with h1 | h1
    · refine .inl (Classical.byContradiction fun h2 => ?_)
      rcases hg with h3 | h3
      · rw [h.lb g (by omega) h2] at h3
        exact h2 h3
      · omega
    · exact .inr h1
  · have e := h.lb g hg hm
    rw [← e]
    exact h'.lb g (Nat.lt_of_lt_of_le hg h.mv.size) (by rw [e]; exact hm)
theorem PoolAt.keep {w w' : World} {B pb : Nat} {lab lab' : Nat → Lab} {p : Ps} {S : Value} {sp : List Value} (h : PoolAt w B lab pb p S sp)
    (hk : ∀ g, g < w.heap.size → (lab g = .pool ∨ lab g = .sparr ∨ lab g = .spare) → w'.heap[g]? = w.heap[g]? ∧ lab' g = lab g) : PoolAt w' B lab' pb p S sp where
  blk := (hk pb h.blk.lt (.inl h.lb)).1.trans h.blk
  low := h.low
  lb := (hk pb h.blk.lt (.inl h.lb)).2.trans h.lb
  arr := h.arr.keep fun g hg => (hk g (h.arr.lt hg).2.1 (.inr (.inl (h.arl g hg)))).1
  arl := fun g hg => (hk g (h.arr.lt hg).2.1 (.inr (.inl (h.arl g hg)))).2.trans (h.arl g hg)
  str := fun v hv => by
    obtain ⟨bs, hb⟩ := h.str v hv
    exact ⟨bs, hb.keep fun g hg => (hk g (hb.lt hg).2.1 (.inr (.inr (h.stl v hv g hg)))).1⟩
  stl := fun v hv g hg => by
    obtain ⟨bs, hb⟩ := h.str v hv
    exact (hk g (hb.lt hg).2.1 (.inr (.inr (h.stl v hv g hg)))).2.trans (h.stl v hv g hg)
  nd := h.nd
theorem BufR.keep {w w' : World} {B bb k M C : Nat} {lab lab' : Nat → Lab} {b : Bs} (h : BufR w B lab bb k M C b) (hbb : bb < w.heap.size)
    (hk : ∀ g, g < w.heap.size → (∃ t, lab g = .own k t) → w'.heap[g]? = w.heap[g]? ∧ lab' g = lab g) : BufR w' B lab' bb k M C b where
  low := h.low
  lb := (hk bb hbb ⟨_, h.lb⟩).2.trans h.lb
  gl := h.gl
  mm := fun hm => (h.mm hm).keep fun g hg => (hk g ((h.mm hm).lt hg).2.1 ⟨_, h.ml hm g hg⟩).1
  ml := fun hm g hg => (hk g ((h.mm hm).lt hg).2.1 ⟨_, h.ml hm g hg⟩).2.trans (h.ml hm g hg)
  arr := h.arr.keep fun g hg => (hk g (h.arr.lt hg).2.1 ⟨_, h.arl g hg⟩).1
  arl := fun g hg => (hk g (h.arr.lt hg).2.1 ⟨_, h.arl g hg⟩).2.trans (h.arl g hg)
  qq := h.qq
  qg := h.qg
  hi := h.hi
  lo := h.lo
  str := fun i v hv => (h.str i v hv).keep fun g hg => (hk g ((h.str i v hv).lt hg).2.1 ⟨_, h.stl v (List.mem_of_getElem? hv) g hg⟩).1
  stl := fun v hv g hg => by
    obtain ⟨i, hi⟩ := List.getElem?_of_mem hv
    exact (hk g ((h.str i v hi).lt hg).2.1 ⟨_, h.stl v hv g hg⟩).2.trans (h.stl v hv g hg)
  nd := h.nd
theorem mul_step {i L : Nat} (C : Nat) (h : i < L) : i * C + C ≤ L * C := by
  have := Nat.mul_le_mul_right C (show i + 1 ≤ L from h)
  rwa [Nat.add_mul, Nat.one_mul] at this
theorem chunkB_left {all x : List UInt8} {Q C i : Nat} (h : Q + i * C + C ≤ all.length) : chunkB (all ++ x) Q C i = chunkB all Q C i := by
  unfold chunkB
  rw [List.drop_append_of_le_length (by omega), List.take_append_of_le_length (by rw [List.length_drop]; omega)]
theorem chunkB_right {all x : List UInt8} {Q C i : Nat} (h : Q + i * C ≤ all.length) (h2 : all.length + x.length ≤ Q + i * C + C) : chunkB (all ++ x) Q C i = chunkB all Q C i ++ x := by
  unfold chunkB
  rw [List.drop_append_of_le_length h, List.take_of_length_le (by rw [List.length_append, List.length_drop]; omega), List.take_of_length_le (by rw [List.length_drop]; omega)]
theorem chunkB_len {all : List UInt8} {Q C i : Nat} : (chunkB all Q C i).length = min C (all.length - (Q + i * C)) := by
  unfold chunkB
  rw [List.length_take, List.length_drop]
theorem over_of {D M Q q C len : Nat} (hQ : Q = M + q * C) (hl : Q ≤ len) (hD : D = len - M) : D % C = (len - Q) % C := by
  have e : D = len - Q + q * C := by omega
  rw [e, Nat.add_mul_mod_self_right]
theorem tmod_nat (a b : Nat) : (a : Int).tmod (b : Int) = ((a % b : Nat) : Int) := by
  rw [Int.tmod_eq_emod_of_nonneg (Int.natCast_nonneg a)]
  rfl
end Go.Proofs.YtfofpphnglhopaaGreatDoor
