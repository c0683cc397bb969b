/-
  The document's answer in memory: what it has, what it keeps of each mark; New, note, SetCell, Get. Conditions: few marks, numbers within their bounds.
-/
import Derived.Test.YtcobfimafpfbpaaUdDoes
namespace Go.Proofs.Ytcobfimafpfbpaa
open Go Go.Proofs Go.RowKit Go.ChangeMaps

/-- A mark of the document's answer: a slice of pairs, the pairs, the cell's text. -/
abbrev Ws := Value × Es × ByteArray
def stC (x : Ws) : List Value := [x.1, .string x.2.2]
def cellsS (l : List Ws) : List Value := l.flatMap stC
theorem cellsS_length (l : List Ws) : (cellsS l).length = l.length * 2 := by
  induction l with
  | nil => rfl
  | cons a l ih => simp only [cellsS, List.flatMap_cons, List.length_append, stC, List.length_cons, List.length_nil] at ih ⊢; omega
theorem cellsS_append (l m : List Ws) : cellsS (l ++ m) = cellsS l ++ cellsS m := by simp [cellsS]
/-- What the document's answer has. -/
structure Rg where
  most : Nat
  nest : Nat
  L : Es
  s : ByteArray
  was : List Ws
  n : Nat
  had : List Nat
def allC (r : Rg) (vL wv hv : Value) : List Value := [.int .i64 (r.most : Int), .int .i64 (r.nest : Int), vL, .string r.s, wv, .int .i64 (r.n : Int), hv]
structure RefAt (w : World) (B rb : Nat) (vL wv hv : Value) (r : Rg) : Prop where
  hB : B ≤ rb
  blk : Blk w rb (allC r vL wv hv) 48
  pl : PairsAt w B vL r.L
  wrow : w.ownsRow B 44 2 wv r.was.length (cellsS r.was)
  each : ∀ x ∈ r.was, PairsAt w B x.1 x.2.1
  hrow : w.ownsRow B 3 1 hv r.had.length (r.had.map fun n : Nat => Value.int .i64 (n : Int))
  hl : r.had.length = r.was.length
  nest1 : r.was.length ≤ 1024
  ll : r.L.length ≤ 100000
  most1 : r.most ≤ 1048576
  n1 : r.n ≤ r.most
  hm : ∀ n ∈ r.had, n ≤ r.most
  el : ∀ x ∈ r.was, x.2.1.length ≤ 100000
/-- The types of the blocks that a call of the document's answer may change, besides its row of numbers. -/
def RT (t : TypeId) : Prop := t = 48 ∨ t = 44
abbrev FrR (B : Nat) (hv : Value) (w w' : World) : Prop := Fr B RT (fun b => hv.ownBlock = some b) w w'
theorem not_RT {ty : TypeId} (h : (ty == 48 || ty == 44) = false) : ¬ RT ty := by
  intro k
  rcases k with k | k <;> (subst k; revert h; decide)
section
variable {w w' : World} {B rb : Nat} {vL wv hv : Value} {r : Rg}
/-- What changes no block of its types keeps it. -/
theorem RefAt.fr {B' : Nat} {T : TypeId → Prop} {M : Nat → Prop} (h : RefAt w B rb vL wv hv r) (k : Fr B' T M w w') (h1 : ¬ T 48) (h2 : ¬ T 78) (h3 : ¬ T 44) (h4 : ¬ T 3) (hM : ∀ b cur t, Blk w b cur t → ¬ M b) : RefAt w' B rb vL wv hv r :=
  { h with
    blk := h.blk.fr k h1 (hM _ _ _ h.blk)
    pl := own_fr h.pl k h2 fun _ hg => hM _ _ _ (own_block h.pl hg).2.choose_spec
    wrow := own_fr h.wrow k h3 fun _ hg => hM _ _ _ (own_block h.wrow hg).2.choose_spec
    each := fun x hx => own_fr (h.each x hx) k h2 fun _ hg => hM _ _ _ (own_block (h.each x hx) hg).2.choose_spec
    hrow := own_fr h.hrow k h4 fun _ hg => hM _ _ _ (own_block h.hrow hg).2.choose_spec }
theorem RefAt.below (h : RefAt w B rb vL wv hv r) (k : Below w.heap.size w w') : RefAt w' B rb vL wv hv r :=
  h.fr (T := fun _ => False) (M := fun _ => False) (Fr.of_below (B := 0) k) (fun h => h) (fun h => h) (fun h => h) (fun h => h) (fun _ _ _ _ h => h)
theorem RefAt.lt (h : RefAt w B rb vL wv hv r) : B ≤ w.heap.size := by have := h.blk.lt; have := h.hB; omega

set_option maxRecDepth 100000 in
theorem rNew_no (most nest : Int) (w : World) (h : most < 0 ∨ 1048576 < most ∨ nest < 1 ∨ 1024 < nest) :
    Calls Try.prog 11 #[.int .i64 most, .int .i64 nest] w fun e w' => e = .returned (.tuple #[.pointer none, .int .i64 1]) ∧ w' = w := by
  by_cases h1 : most < 0
  · go_enter Try.func11, Try.ntmps11
    go_wp2
    go_ret2
    exact ⟨rfl, rfl⟩
  by_cases h2 : 1048576 < most
  · go_enter Try.func11, Try.ntmps11
    go_wp2
    go_ret2
    exact ⟨rfl, rfl⟩
  by_cases h3 : nest < 1
  · go_enter Try.func11, Try.ntmps11
    go_wp2
    go_ret2
    exact ⟨rfl, rfl⟩
  have h4 : 1024 < nest := by omega
  clear h
  go_enter Try.func11, Try.ntmps11
  go_wp2
  go_ret2
  exact ⟨rfl, rfl⟩
set_option maxRecDepth 100000 in
theorem rNew_yes (most nest : Nat) (B : Nat) (w : World) (h1 : most ≤ 1048576) (h2 : 1 ≤ nest) (h3 : nest ≤ 1024) (hB : B ≤ w.heap.size) :
    Calls Try.prog 11 #[.int .i64 (most : Int), .int .i64 (nest : Int)] w fun e w' => e = .returned (.tuple #[ptrV w.heap.size, .int .i64 0]) ∧ RefAt w' B w.heap.size (.slice none 0 0) (.slice none 0 0) (.slice none 0 0) ⟨most, nest, [], ⟨#[]⟩, [], 0, []⟩ ∧ Below w.heap.size w w' := by
  have i1 : ¬ (most : Int) < 0 := by omega
  have i2 : ¬ 1048576 < (most : Int) := by omega
  have i3 : ¬ (nest : Int) < 1 := by omega
  have i4 : ¬ 1024 < (nest : Int) := by omega
  have hl : RefAt (w.alloc (.cells #[.int .i64 (most : Int), .int .i64 (nest : Int), .slice none 0 0, .string ⟨#[]⟩, .slice none 0 0, .int .i64 0, .slice none 0 0] 48)) B w.heap.size (.slice none 0 0) (.slice none 0 0) (.slice none 0 0) ⟨most, nest, [], ⟨#[]⟩, [], 0, []⟩ :=
    ⟨hB, Blk.new w _ _, World.ownsRow_nil _ _ _ _, World.ownsRow_nil _ _ _ _, (fun _ h => by cases h), World.ownsRow_nil _ _ _ _, rfl, Nat.zero_le _, Nat.zero_le _, h1, Nat.zero_le _, (fun _ h => by cases h), (fun _ h => by cases h)⟩
  replace hl := Lib.hid hl
  clear h1 h2 h3
  unfold ptrV
  go_enter Try.func11, Try.ntmps11
  go_wp2
  go_ret2
  exact ⟨rfl, hl.out, (Below.refl _ w).alloc (Nat.le_refl _) _⟩

/-- One note more. -/
def Rg.noted (r : Rg) : Rg := { r with n := if r.was = [] then r.n else r.n + 1 }
def Rg.full (r : Rg) : Prop := r.was ≠ [] ∧ r.n = r.most
instance (r : Rg) : Decidable r.full := by unfold Rg.full; infer_instance
set_option maxRecDepth 100000 in
set_option maxHeartbeats 1000000 in
theorem rnote_any (h : RefAt w B rb vL wv hv r) :
    Calls Try.prog 57 #[ptrV rb] w fun e w' => e = .returned (.int .i64 (if r.full then 43 else 0)) ∧ RefAt w' B rb vL wv hv (if r.full then r else r.noted) ∧ FrR B hv w w' := by
  obtain ⟨A, cc, rfl, hcc, hccm⟩ := own_form h.wrow
  have c0 : w.cell? ⟨rb, 0, none⟩ = some (.int .i64 (r.most : Int)) := h.blk.cell (i := 0) rfl
  have c4 : w.cell? ⟨rb, 4, none⟩ = some (.slice A r.was.length cc) := h.blk.cell (i := 4) rfl
  have c5 : w.cell? ⟨rb, 5, none⟩ = some (.int .i64 (r.n : Int)) := h.blk.cell (i := 5) rfl
  have f5 := h.blk.frozen 5
  have hlt := h.blk.lt
  have hn1 := h.n1
  have hm1 := h.most1
  unfold maxLen at hccm
  by_cases hw : r.was = []
  · have hnf : ¬ r.full := fun e => e.1 hw
    have e1 : r.noted = r := by unfold Rg.noted; rw [if_pos hw]
    rw [if_neg hnf, if_neg hnf, e1]
    have hk : r.was.length = 0 := by rw [hw]; rfl
    rw [hk] at c4 hcc
    replace h := Lib.hid h
    unfold ptrV
    clear e1 hnf hk hw
    go_enter Try.func57, Try.ntmps57
    go_wp2
    go_ret
    exact ⟨rfl, h.out, Fr.refl _ _ _ _⟩
  · obtain ⟨K, hK⟩ : ∃ K, r.was.length = K := ⟨_, rfl⟩
    have hK0 : 0 < K := by rw [← hK]; exact List.length_pos_iff.2 hw
    have hk0 : ((K : Int) == 0) = false := by rw [beq_eq_false_iff_ne]; omega
    rw [hK] at c4 hcc
    by_cases hf : r.n = r.most
    · have hfu : r.full := ⟨hw, hf⟩
      rw [if_pos hfu, if_pos hfu]
      have hge : ¬ (r.n : Int) < (r.most : Int) := by omega
      have hd : ∀ n, RefAt (w.drewN n) B rb vL (.slice A K cc) hv r := fun n => by
        have := h.below (drewN_below w n)
        rw [hK] at this
        exact this
      replace hd := Lib.hid hd
      replace hK := Lib.hid hK
      generalize r.n = NN at c5 hge hf
      generalize r.most = MM at c0 hge hf
      rw [← hf] at c0
      unfold ptrV
      clear h hfu hw hf hge
      go_enter Try.func57, Try.ntmps57
      go_wp2_with fail
      go_quiet (fail)
      go_wp2
      go_ret
      refine ⟨rfl, ?_, Fr.drewN _ _ _ _ _⟩
      have := hd.out
      rw [← hK.out] at this
      exact this _
    · have hnf : ¬ r.full := fun e => hf e.2
      have e1 : r.noted = { r with n := r.n + 1 } := by unfold Rg.noted; rw [if_neg hw]
      rw [if_neg hnf, if_neg hnf, e1]
      have hlt2 : (r.n : Int) < (r.most : Int) := by omega
      have hS : ∀ n, Stp (fun b => b = rb) w ((w.drewN n).setCell ⟨rb, 5, none⟩ (.int .i64 ((r.n + 1 : Nat) : Int))) := fun n => (Stp.drewN _ w n).trans (Stp.set (S := fun b => b = rb) rfl 5 _) (fun _ _ h => h)
      have hR : ∀ n, RefAt ((w.drewN n).setCell ⟨rb, 5, none⟩ (.int .i64 ((r.n + 1 : Nat) : Int))) B rb vL (.slice A r.was.length cc) hv { r with n := r.n + 1 } := fun n =>
        { h with
          blk := Blk.set (w := w.drewN n) h.blk 5 (.int .i64 ((r.n + 1 : Nat) : Int))
          pl := own_keep h.pl fun g cur hg hb => (hS n).block g (Array.getElem?_eq_some_iff.1 hb).1 (by rintro rfl; exact (own_block h.pl hg).2.choose_spec.ne h.blk (by decide) rfl)
          wrow := own_keep h.wrow fun g cur hg hb => (hS n).block g (Array.getElem?_eq_some_iff.1 hb).1 (by rintro rfl; exact (own_block h.wrow hg).2.choose_spec.ne h.blk (by decide) rfl)
          each := fun x hx => own_keep (h.each x hx) fun g cur hg hb => (hS n).block g (Array.getElem?_eq_some_iff.1 hb).1 (by rintro rfl; exact (own_block (h.each x hx) hg).2.choose_spec.ne h.blk (by decide) rfl)
          hrow := own_keep h.hrow fun g cur hg hb => (hS n).block g (Array.getElem?_eq_some_iff.1 hb).1 (by rintro rfl; exact (own_block h.hrow hg).2.choose_spec.ne h.blk (by decide) rfl)
          n1 := by show r.n + 1 ≤ r.most; omega }
      have hF : ∀ n, FrR B hv w ((w.drewN n).setCell ⟨rb, 5, none⟩ (.int .i64 ((r.n + 1 : Nat) : Int))) := fun n => Fr.of_stp (hS n) fun b _ hb => by subst hb; exact ⟨h.hB, .inr ⟨_, _, _, h.blk, .inl rfl⟩⟩
      rw [hK] at hR
      replace hR := Lib.hid hR
      replace hF := Lib.hid hF
      replace hK := Lib.hid hK
      have hK2 := hK.out
      rw [hK2]
      clear hK2
      unfold ptrV
      clear h hS hnf e1 hw hf
      generalize r.n = NN at c5 hlt2 hn1 hR hF
      generalize r.most = MM at c0 hlt2 hn1 hm1 hR
      go_enter Try.func57, Try.ntmps57
      go_wp2_with fail
      go_quiet (fail)
      go_wp2
      go_ret
      exact ⟨rfl, hR.out _, hF.out _⟩
end
end Go.Proofs.Ytcobfimafpfbpaa
