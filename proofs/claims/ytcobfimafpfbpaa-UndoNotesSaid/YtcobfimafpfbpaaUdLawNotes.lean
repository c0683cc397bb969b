/-
  UndoNotes answers true, and leaves memory as it was. Conditions: numbers of 64 bits.
-/
import Derived.Test.YtcobfimafpfbpaaUdOut
namespace Go.Proofs.Ytcobfimafpfbpaa
open Go Go.RowKit Go.ChangeMaps

/-- The notes' boxes: each has its number. -/
def Boxes (w : World) (ob : Nat) (l : List Int) (fs : List Value) (zu : Nat) : Prop :=
  ∀ (j : Nat) (x : Int), l[j]? = some x → j < fs.length → ∃ b, fs[j]? = some (outF ob b) ∧ b < zu ∧ Blk w b [.int .i64 x] 3
/-- What there is when notes from j on are done. -/
def NI (w : World) (ob zu : Nat) (l : List Int) (fs : List Value) (j : Nat) (W : World) : Prop :=
  ∃ v, Blk W ob [v] 46 ∧ Row W zu 3 v (l.length - j) ((l.drop j).reverse.map (Value.int .i64)) ∧ Boxes W ob l fs zu ∧ zu ≤ W.heap.size ∧ Below w.heap.size w W
section
variable {w W W' : World} {ob zu : Nat} {l : List Int} {fs : List Value} {j : Nat}
theorem not_logT {ty : TypeId} (h : (ty == 82 || ty == 86 || ty == 1 || ty == 88) = false) : ¬ LogT ty := by
  intro k
  rcases k with k | k | k | k <;> (subst k; revert h; decide)
theorem Boxes.keep (h : Boxes W ob l fs zu) (hk : ∀ b x, b < zu → Blk W b [.int .i64 x] 3 → W'.heap[b]? = W.heap[b]?) : Boxes W' ob l fs zu := fun j x hx hj => by
  obtain ⟨b, h1, h2, h3⟩ := h j x hx hj
  exact ⟨b, h1, h2, (hk b x h2 h3).trans h3⟩
theorem Boxes.mono (h : Boxes W ob l fs zu) {zu' : Nat} (hz : zu ≤ zu') : Boxes W ob l fs zu' := fun j x hx hj => by
  obtain ⟨b, h1, h2, h3⟩ := h j x hx hj
  exact ⟨b, h1, by omega, h3⟩
theorem Boxes.log {B : Nat} (h : Boxes W ob l fs zu) (k : Fr B LogT (fun _ => False) W W') : Boxes W' ob l fs zu := h.keep fun b x _ hb => (hb.fr k (not_logT (by decide)) (fun h => h)).trans hb.symm
theorem ni_keep (h : NI w ob zu l fs j W) (k : Fr w.heap.size LogT (fun _ => False) W W') : NI w ob zu l fs j W' := by
  obtain ⟨v, h1, h2, h3, h4, h5⟩ := h
  exact ⟨v, h1.fr k (not_logT (by decide)) (fun h => h), h2.fr k (not_logT (by decide)) (fun _ _ h => h), h3.log k, Nat.le_trans h4 k.size, h5.trans (k.below h5.size)⟩
theorem ni_call (hl : l.length ≤ 100) (hfl : fs.length ≤ l.length) (ho : w.heap.size ≤ ob) (hzz : w.heap.size ≤ zu) (hj : j < fs.length) (h : NI w ob zu l fs (j + 1) W) :
    ∃ k cap, fs[j] = .func (.func k) #[] cap ∧ Enters Try.prog k ∧ Calls Try.prog k cap W fun e W' => e = .returned (.tuple #[]) ∧ NI w ob zu l fs j W' ∧ KeepL W W' := by
  obtain ⟨v, h1, h2, h3, h4, h5⟩ := h
  obtain ⟨b, e1, e2, e3⟩ := h3 j l[j] (List.getElem?_eq_getElem (by omega)) hj
  rw [List.getElem?_eq_getElem hj] at e1
  refine ⟨_, _, Option.some.inj e1, enters_out, (out_note h1 h2 e3 (by omega) h4).mono ?_⟩
  rintro e W' ⟨rfl, v', h6, h7, h8⟩
  have hne : ∀ g, v.ownBlock = some g → zu ≤ g := fun g hg => (h2.lt hg).1
  refine ⟨rfl, ⟨v', h6, ?_, h3.keep fun b x hb hx => h8.block b hx.lt fun hs => ?_, Nat.le_trans h4 h8.size, ⟨h8.os.trans h5.os, h8.tape.trans h5.tape, h8.output.trans h5.output, Nat.le_trans h5.size h8.size, fun b hb => (h8.block b (Nat.lt_of_lt_of_le hb h5.size) fun hs => ?_).trans (h5.block b hb)⟩⟩, ⟨h8.size, fun b cur t f hb ht => h8.block b (Array.getElem?_eq_some_iff.1 hb).1 fun hs => ?_⟩⟩
  · rw [List.drop_eq_getElem_cons (show j < l.length by omega), List.reverse_cons, List.map_append]
    rw [show l.length - j = l.length - (j + 1) + 1 by omega]
    exact h7
  · rcases hs with hs | hs
    · exact hx.ne h1 (by decide) hs
    · have := hne b hs; omega
  · rcases hs with hs | hs
    · omega
    · have := hne b hs; omega
  · rcases hs with hs | hs
    · subst hs
      have := h1.symm.trans hb
      simp only [Option.some.injEq, Obj.cells.injEq] at this
      rw [← this.2.1] at ht
      exact absurd ht (not_logT (by decide))
    · obtain ⟨_, _, cur', hb'⟩ := h2.lt hs
      have := hb'.symm.trans hb
      simp only [Option.some.injEq, Obj.cells.injEq] at this
      rw [← this.2.1] at ht
      exact absurd ht (not_logT (by decide))
theorem below_fr {B : Nat} {w0 : World} (h : Below B w0 W) (hB : B ≤ w0.heap.size) (k : Fr B LogT (fun _ => False) W W') : Below B w0 W' := h.trans (k.below (Nat.le_trans hB h.size))
end

set_option maxHeartbeats 4000000 in
set_option maxRecDepth 100000 in
theorem lawNotes_far (l : List Int) (n : Int) (v : Value) (w : World) (h : Nums w v l) (hn : 60 < l.length ∨ n < 0 ∨ (l.length : Int) < n) :
    Calls Try.prog 6 #[v, .int .i64 n] w fun e w' => e = .returned (.bool true) ∧ Below w.heap.size w w' := by
  have haw := awake_any w
  obtain ⟨A, c, rfl, hc, hcm⟩ := h.form
  clear h
  generalize l.length = K at hn hc ⊢
  unfold maxLen at hcm
  by_cases h1 : 60 < K
  · have i1 : (60 : Int) < (K : Int) := by omega
    go_enter Try.func6, Try.ntmps6
    go_wp2_with fail
    refine haw.mono ?_
    rintro e w' ⟨rfl, hb⟩
    replace hb := Lib.hid hb
    go_wp2
    go_ret
    exact ⟨rfl, hb.out⟩
  · have i1 : ¬ (60 : Int) < (K : Int) := by omega
    by_cases h2 : n < 0
    · go_enter Try.func6, Try.ntmps6
      go_wp2_with fail
      refine haw.mono ?_
      rintro e w' ⟨rfl, hb⟩
      replace hb := Lib.hid hb
      go_wp2
      go_ret
      exact ⟨rfl, hb.out⟩
    · have h3 : (K : Int) < n := by omega
      go_enter Try.func6, Try.ntmps6
      go_wp2_with fail
      refine haw.mono ?_
      rintro e w' ⟨rfl, hb⟩
      replace hb := Lib.hid hb
      go_wp2
      go_ret
      exact ⟨rfl, hb.out⟩

def mkA (b1 : Nat) : Mk := ⟨b1, 0, 0⟩
def mkB (b2 N : Nat) : Mk := ⟨b2, N, N⟩
/-- The marks behind i numbers. -/
def msAt (b1 b2 N i : Nat) : List Mk := if i ≤ N then [mkA b1] else [mkA b1, mkB b2 N]
theorem msAt_ne (b1 b2 N i : Nat) : msAt b1 b2 N i ≠ [] := by unfold msAt; split <;> simp
theorem Boxes.snoc {w w' : World} {ob b : Nat} {l : List Int} {fs : List Value} {x : Int} (h : Boxes w ob l fs w.heap.size) (hx : l[fs.length]? = some x) (hz : w.heap.size ≤ w'.heap.size) (hk : ∀ b x, b < w.heap.size → Blk w b [.int .i64 x] 3 → w'.heap[b]? = w.heap[b]?) (hb : Blk w' b [.int .i64 x] 3) : Boxes w' ob l (fs ++ [outF ob b]) w'.heap.size := by
  intro j y hy hj
  rw [List.length_append, List.length_singleton] at hj
  rcases Nat.lt_or_ge j fs.length with hlt | hge
  · obtain ⟨b', h1, h2, h3⟩ := h j y hy hlt
    exact ⟨b', by rw [List.getElem?_append_left hlt]; exact h1, by omega, (hk b' y h2 h3).trans h3⟩
  · obtain rfl : j = fs.length := by omega
    rw [hx] at hy
    cases hy
    exact ⟨b, by rw [List.getElem?_append_right (Nat.le_refl _), Nat.sub_self]; rfl, hb.lt, hb⟩

theorem msAt_step {b1 b2 N i : Nat} (h : i ≠ N) : msAt b1 b2 N (i + 1) = msAt b1 b2 N i := by
  unfold msAt
  by_cases h1 : i ≤ N
  · rw [if_pos h1, if_pos (by omega)]
  · rw [if_neg h1, if_neg (by omega)]
theorem msAt_at {b1 b2 N : Nat} : msAt b1 b2 N (N + 1) = [mkA b1, mkB b2 N] := if_neg (by omega)
/-- One note more. -/
theorem notes_add {w wq : World} {z i : Nat} {l : List Int} {fs : List Value} {ms : List Mk} {x : Int} (hz : w.heap.size = z) (hL : LogAt wq z z 100 3 ms fs i) (hms : ms ≠ []) (hi : i < 100) (hfl : fs.length = i) (hx : l[i]? = some x) (hB : Boxes wq (z + 1) l fs wq.heap.size) (ho : Blk wq (z + 1) [.slice none 0 0] 46) (hb : Below z w wq) :
    Calls Try.prog 23 #[ptrV z, outF (z + 1) wq.heap.size] (wq.alloc (.cells #[.int .i64 x] 3)) fun e w' => e = .returned (.int .i64 0) ∧ LogAt w' z z 100 3 ms (fs ++ [outF (z + 1) wq.heap.size]) (i + 1) ∧ Boxes w' (z + 1) l (fs ++ [outF (z + 1) wq.heap.size]) w'.heap.size ∧ Blk w' (z + 1) [.slice none 0 0] 46 ∧ Below z w w' := by
  have hzz : z ≤ wq.heap.size := by have := hb.size; omega
  have hxb : Blk (wq.alloc (.cells #[.int .i64 x] 3)) wq.heap.size [.int .i64 x] 3 := Blk.new wq _ _
  refine (Note_add 24 #[ptrV (z + 1), ptrV wq.heap.size] (hL.keep (KeepL.alloc wq _)) hms hi (by simp; omega)).mono ?_
  rintro e w' ⟨rfl, hL', hF⟩
  have hsz : wq.heap.size + 1 ≤ w'.heap.size := by have := hF.size; simpa using this
  refine ⟨rfl, hL', hB.snoc (by rw [hfl]; exact hx) (by omega) (fun b y hlt hy => ?_) (hxb.fr hF (not_logT (by decide)) (fun h => h)), (ho.alloc _).fr hF (not_logT (by decide)) (fun h => h), (hb.alloc hzz _).trans (hF.below (by simp; omega))⟩
  exact ((hy.alloc (.cells #[.int .i64 x] 3)).fr hF (not_logT (by decide)) (fun h => h)).trans hy.symm

theorem rev_at (l : List Int) (N k : Nat) (h : k < l.length - N) : ((l.drop N).reverse.map (Value.int .i64))[k]? = some (.int .i64 (l[l.length - 1 - k]'(by omega))) := by
  rw [List.getElem?_map, List.getElem?_reverse (by rw [List.length_drop]; exact h), List.length_drop, List.getElem?_drop, List.getElem?_eq_getElem (by omega)]
  simp only [Option.map_some, Option.some.injEq, Value.int.injEq, true_and]
  congr 1
  omega
theorem ni_start {w W : World} {ob zu : Nat} {l : List Int} {fs : List Value} (hfl : fs.length = l.length) (ho : Blk W ob [.slice none 0 0] 46) (hB : Boxes W ob l fs zu) (hz : zu ≤ W.heap.size) (hb : Below w.heap.size w W) : NI w ob zu l fs fs.length W := by
  refine ⟨_, ho, ?_, hB, hz, hb⟩
  rw [hfl, Nat.sub_self, List.drop_length]
  exact Row.nil_ _ _ _
/-- The notes behind the second mark, and those behind the first. -/
theorem notes_undo1 {w W : World} {z b1 b2 N zu : Nat} {l : List Int} {fs : List Value} (hz : w.heap.size = z) (hzu : z ≤ zu) (hl : l.length ≤ 100) (hN : N ≤ l.length) (hfl : fs.length = l.length) (hL : LogAt W z z 100 3 [mkA b1, mkB b2 N] fs l.length) (hI : NI w (z + 1) zu l fs fs.length W) :
    Calls Try.prog 21 #[ptrV z] W fun e w' => e = .returned (.int .i64 0) ∧ LogAt w' z z 100 3 [mkA b1] (fs.take N) N ∧ NI w (z + 1) zu l fs N w' := by
  subst hz
  exact Undo_any (ms := [mkA b1]) (m := mkB b2 N) hL (by show N ≤ _; omega) (NI w (w.heap.size + 1) zu l fs) hI (fun j W W' h k => ni_keep h k) (fun j W hj _ h => ni_call hl (by omega) (by omega) hzu hj h)
theorem notes_undo2 {w W : World} {z b1 N zu : Nat} {l : List Int} {fs : List Value} (hz : w.heap.size = z) (hzu : z ≤ zu) (hl : l.length ≤ 100) (hN : N ≤ l.length) (hfl : fs.length = l.length) (hL : LogAt W z z 100 3 [mkA b1] (fs.take N) N) (hI : NI w (z + 1) zu l fs N W) :
    Calls Try.prog 21 #[ptrV z] W fun e w' => e = .returned (.int .i64 0) ∧ LogAt w' z z 100 3 [] ((fs.take N).take 0) 0 ∧ NI w (z + 1) zu l fs 0 w' := by
  subst hz
  have htl : (fs.take N).length = N := by rw [List.length_take]; omega
  exact Undo_any (ms := []) (m := mkA b1) hL (Nat.zero_le _) (NI w (w.heap.size + 1) zu l fs) (by rw [htl]; exact hI) (fun j W W' h k => ni_keep h k) (fun j W hj _ h => by
    have hj2 : j < fs.length := by omega
    obtain ⟨k, cap, h1, h2⟩ := ni_call (w := w) hl (by omega) (by omega) hzu hj2 h
    exact ⟨k, cap, by rw [List.getElem_take]; exact h1, h2⟩)
/-- The box of out, behind notes from j on. -/
theorem ni_out {w W : World} {ob zu j : Nat} {l : List Int} {fs : List Value} (h : NI w ob zu l fs j W) : ∃ A c, W.cell? ⟨ob, 0, none⟩ = some (.slice A (l.length - j) c) ∧ ob < W.heap.size ∧ l.length - j ≤ c ∧ c ≤ maxLen ∧
    ∀ k, k < l.length - j → ∃ g off x, A = some ⟨g, off, none⟩ ∧ g < W.heap.size ∧ W.cell? ⟨g, off + k, none⟩ = some (.int .i64 x) ∧ l[l.length - 1 - k]? = some x := by
  obtain ⟨v, h1, h2, h3, h4, h5⟩ := h
  obtain ⟨A, c, rfl, hc, hcm⟩ := h2.form
  refine ⟨A, c, h1.cell (i := 0) rfl, h1.lt, hc, hcm, fun k hk => ?_⟩
  obtain ⟨g, off, cap, e, _⟩ := h2.form1 (by omega)
  injection e with e1 e2 e3
  subst e1 e3
  exact ⟨g, off, _, rfl, (h2.lt (g := g) rfl).2.1, h2.cell (rev_at l j k hk), List.getElem?_eq_getElem _⟩

set_option maxHeartbeats 8000000 in
set_option maxRecDepth 100000 in
theorem lawNotes_ok (l : List Int) (N : Nat) (v : Value) (w : World) (h : Nums w v l) (hl60 : l.length ≤ 60) (hN : N ≤ l.length) :
    Calls Try.prog 6 #[v, .int .i64 (N : Int)] w fun e w' => e = .returned (.bool true) ∧ Below w.heap.size w w' := by
  have haw := fun W => awake_any W
  obtain ⟨A, c, rfl, hc, hcm⟩ := h.form
  have hat := fun w' k hk (hb : Below w.heap.size w w') => h.at_ hb k hk
  clear h
  obtain ⟨z, hz⟩ : ∃ z, w.heap.size = z := ⟨_, rfl⟩
  have hnew := New_yes 100 3 z w (by decide) (by decide) (by decide) (by omega)
  rw [hz] at hnew ⊢
  simp only [hz] at hat
  obtain ⟨KL, hKL⟩ : ∃ K, l.length = K := ⟨_, rfl⟩
  rw [hKL] at hc hl60 hN ⊢
  have i1 : ¬ (60 : Int) < (KL : Int) := by omega
  have i2 : ¬ (N : Int) < 0 := by omega
  have i3 : ¬ (KL : Int) < (N : Int) := by omega
  replace haw := Lib.hid haw
  replace hat := Lib.hid hat
  replace hnew := Lib.hid hnew
  replace hKL := Lib.hid hKL
  replace hz := Lib.hid hz
  unfold maxLen at hcm
  go_enter Try.func6, Try.ntmps6
  go_wp2_with fail
  refine hnew.out.mono ?_
  rintro e w1 ⟨rfl, hL1, hb1, hs1⟩
  -- the box of out
  have ho2 : Blk (w1.alloc (.cells #[.slice none 0 0] 46)) (z + 1) [.slice none 0 0] 46 := by rw [← hs1]; exact Blk.new w1 _ _
  have hL2 := hL1.keep (KeepL.alloc w1 (.cells #[.slice none 0 0] 46))
  have hb2 := hb1.alloc (by omega) (.cells #[.slice none 0 0] 46)
  obtain ⟨w2, hw2⟩ : ∃ w2, w1.alloc (.cells #[.slice none 0 0] 46) = w2 := ⟨_, rfl⟩
  rw [hw2] at ho2 hL2 hb2
  have hmk := Mark_add hL2 (by decide) (by have := ho2.lt; omega)
  unfold ptrV at hmk ⊢
  replace hs1 := Lib.hid hs1
  replace hw2 := Lib.hid hw2
  replace ho2 := Lib.hid ho2
  replace hb2 := Lib.hid hb2
  replace hmk := Lib.hid hmk
  clear hnew hL1 hb1 hL2
  go_upto_region 7 with fail
  rw [hw2.out, hs1.out]
  go_wp2_with fail
  refine hmk.out.mono ?_
  rintro e w3 ⟨rfl, ⟨b1, hL3⟩, hF3⟩
  have ho3 := ho2.out.fr hF3 (not_logT (by decide)) (fun h => h)
  have hb3 : Below z w w3 := hb2.out.trans (hF3.below (by have := ho2.out.lt; omega))
  replace hL3 : LogAt w3 z z 100 3 (msAt b1 0 N 0) [] 0 := hL3
  replace hL3 := Lib.hid hL3
  replace ho3 := Lib.hid ho3
  replace hb3 := Lib.hid hb3
  clear hmk hF3 ho2 hb2 hw2 hs1
  go_wp2
  go_loopw [8] (fun nv wr => ∃ (i : Nat) (fs : List Value) (b2 : Nat), i ≤ KL ∧ nv = .int .i64 (i : Int) ∧ Hid (LogAt wr z z 100 3 (msAt b1 b2 N i) fs i) ∧ Hid (fs.length = i) ∧ Hid (Boxes wr (z + 1) l fs wr.heap.size) ∧ Hid (Blk wr (z + 1) [.slice none 0 0] 46) ∧ Hid (Below z w wr)) (fun nv _ => KL - (intOf nv).toNat)
  case atStart => exact ⟨0, [], 0, Nat.zero_le _, rfl, hL3, Lib.hid rfl, Lib.hid (fun j x _ hj => absurd hj (Nat.not_lt_zero _)), ho3, hb3⟩
  case round =>
    clear hL3 ho3 hb3
    obtain ⟨i, fs, b2, hi, rfl, hL, hfl, hBx, ho, hb⟩ := hrel
    by_cases hlt : i < KL
    · have hlt' : i < l.length := by rw [hKL.out]; exact hlt
      obtain ⟨b, off, rfl, hbz, hbw, hcell⟩ := hat.out wr i hlt' hb.out
      have hx : l[i]? = some l[i] := List.getElem?_eq_getElem hlt'
      generalize l[i] = x at hcell hx
      by_cases hiN : i = N
      · subst hiN
        have hbi : ((i : Int) == (i : Int)) = true := by simp
        have hL1 : LogAt wr z z 100 3 [mkA b1] fs i := by
          have := hL.out
          unfold msAt at this
          rw [if_pos (Nat.le_refl _)] at this
          exact this
        have hmk := Mark_add hL1 (by simp) (by have := hb.out.size; have := hz.out; omega)
        rw [hfl.out] at hmk
        unfold ptrV at hmk
        replace hmk := Lib.hid hmk
        replace hx := Lib.hid hx
        clear hL hL1
        go_wp2_with fail
        refine hmk.out.mono ?_
        rintro e wq ⟨rfl, ⟨b2', hLq⟩, hFq⟩
        have hbq : Below z w wq := hb.out.trans (hFq.below (by have := hb.out.size; have := hz.out; omega))
        have hoq := ho.out.fr hFq (not_logT (by decide)) (fun h => h)
        have hBq : Boxes wq (z + 1) l fs wq.heap.size := (hBx.out.log hFq).mono hFq.size
        have hnt := notes_add hz.out hLq (by simp) (by omega) hfl.out hx.out hBq hoq hbq
        replace hcell := (hFq.below (by have := hb.out.size; have := hz.out; omega)).cell (p := ⟨b, off + i, none⟩) hbz ▸ hcell
        replace hbw := Nat.lt_of_lt_of_le hbw hFq.size
        have hmf : ∀ (fn : Fn) (first cap : Array Value) (w : World), (Instr.makeFunc fn first cap).run Try.prog w = .ok (.func fn first cap) w := fun _ _ _ _ => rfl
        unfold outF ptrV at hnt
        replace hnt := Lib.hid hnt
        clear hmk hFq hLq hbq hoq hBq hx hBx ho hb
        go_wp2_with fail
        refine hnt.out.mono ?_
        rintro e w5 ⟨rfl, hL5, hB5, ho5, hb5⟩
        replace hL5 := Lib.hid hL5
        replace hB5 := Lib.hid hB5
        replace ho5 := Lib.hid ho5
        replace hb5 := Lib.hid hb5
        clear hnt
        go_wp2
        go_roundw
        case rel => exact ⟨i + 1, _, b2', by omega, by go_num, Lib.hid (by rw [msAt_at]; exact hL5.out), Lib.hid (by rw [List.length_append, hfl.out]; rfl), hB5, ho5, hb5⟩
        case measure => simp [intOf]; omega
      · have hbi : ((i : Int) == (N : Int)) = false := by rw [beq_eq_false_iff_ne]; omega
        have hnt := notes_add hz.out hL.out (msAt_ne _ _ _ _) (by omega) hfl.out hx hBx.out ho.out hb.out
        have hmf : ∀ (fn : Fn) (first cap : Array Value) (w : World), (Instr.makeFunc fn first cap).run Try.prog w = .ok (.func fn first cap) w := fun _ _ _ _ => rfl
        unfold outF ptrV at hnt
        replace hnt := Lib.hid hnt
        clear hx hBx ho hb hL
        go_wp2_with fail
        refine hnt.out.mono ?_
        rintro e w5 ⟨rfl, hL5, hB5, ho5, hb5⟩
        replace hL5 := Lib.hid hL5
        replace hB5 := Lib.hid hB5
        replace ho5 := Lib.hid ho5
        replace hb5 := Lib.hid hb5
        clear hnt
        go_wp2
        go_roundw
        case rel => exact ⟨i + 1, _, b2, by omega, by go_num, Lib.hid (by rw [msAt_step hiN]; exact hL5.out), Lib.hid (by rw [List.length_append, hfl.out]; rfl), hB5, ho5, hb5⟩
        case measure => simp [intOf]; omega
    · obtain rfl : i = KL := by omega
      by_cases hNK : N = i
      · subst hNK
        have hbi : ((N : Int) == (N : Int)) = true := by simp
        have hL1 : LogAt wr z z 100 3 [mkA b1] fs N := by
          have := hL.out
          unfold msAt at this
          rw [if_pos (Nat.le_refl _)] at this
          exact this
        have hmk := Mark_add hL1 (by simp) (by have := hb.out.size; have := hz.out; omega)
        rw [hfl.out] at hmk
        unfold ptrV at hmk
        replace hmk := Lib.hid hmk
        clear hL hL1
        go_wp2_with fail
        refine hmk.out.mono ?_
        rintro e wu ⟨rfl, ⟨b2', hLu⟩, hFq⟩
        have hbu : Below z w wu := hb.out.trans (hFq.below (by have := hb.out.size; have := hz.out; omega))
        have hou := ho.out.fr hFq (not_logT (by decide)) (fun h => h)
        have hBu : Boxes wu (z + 1) l fs wu.heap.size := (hBx.out.log hFq).mono hFq.size
        replace hLu : LogAt wu z z 100 3 [mkA b1, mkB b2' N] fs N := hLu
        clear hmk hFq hb ho hBx
        have hB0 : z ≤ wu.heap.size := by have := hbu.size; have := hz.out; omega
        have hno := Note_arg hLu (by unfold refE; rw [if_neg (by omega)])
        have hni := ni_start (w := w) (by rw [hfl.out, hKL.out]) hou hBu (Nat.le_refl _) (by rw [hz.out]; exact hbu)
        have hu1 := fun n => notes_undo1 (W := wu.drewN n) (b1 := b1) (b2 := b2') (N := N) hz.out hB0 (by rw [hKL.out]; omega) (by rw [hKL.out]; omega) (by rw [hfl.out, hKL.out]) (by rw [hKL.out]; exact hLu.keep (KeepL.drewN wu n)) (ni_keep hni (Fr.drewN _ _ _ _ _))
        have hu2 := fun W => notes_undo2 (w := w) (W := W) (b1 := b1) (N := N) (fs := fs) hz.out hB0 (by rw [hKL.out]; omega) (by rw [hKL.out]; omega) (by rw [hfl.out, hKL.out])
        have hu3 := fun W fs => @Undo_none W z z 100 3 0 fs
        unfold ptrV at hno hu1 hu2 hu3
        replace hno := Lib.hid hno
        replace hu1 := Lib.hid hu1
        replace hu2 := Lib.hid hu2
        replace hu3 := Lib.hid hu3
        clear hni hLu hou hBu hB0
        obtain ⟨D, hD⟩ : ∃ D, N - N = D := ⟨_, rfl⟩
        have hDi : (N : Int) - (N : Int) = (D : Int) := by omega
        go_wp2_with fail
        refine hno.out.mono ?_
        rintro e wn ⟨rfl, n, rfl⟩
        go_wp2_with fail
        refine (hu1.out n).mono ?_
        rintro e W1 ⟨rfl, hL1, hI1⟩
        obtain ⟨A1, c1, co, hol, hcc, hcm1, hcl⟩ := ni_out hI1
        rw [hKL.out, hD] at co hcc
        rw [hKL.out, hD] at hcl
        have hbw1 : Below z w W1 := by obtain ⟨_, _, _, _, _, h⟩ := hI1; rw [hz.out] at h; exact h
        replace hL1 := Lib.hid hL1
        replace hI1 := Lib.hid hI1
        replace hcl := Lib.hid hcl
        replace hbw1 := Lib.hid hbw1
        unfold maxLen at hcm1
        clear hno hu1
        go_wp2
        go_loopw [10] (fun nv wq => ∃ (j d : Nat), j ≤ D ∧ nv = .int .i64 (j : Int) ∧ wq = W1.drewN d) (fun nv _ => D - (intOf nv).toNat)
        case atStart => exact ⟨0, 0, Nat.zero_le _, rfl, rfl⟩
        case round =>
          obtain ⟨j, d, hj, rfl, hwr⟩ := hrel
          have co2 : wr.cell? ⟨z + 1, 0, none⟩ = some (.slice A1 D c1) := by rw [hwr]; exact co
          have hol2 : z + 1 < wr.heap.size := by rw [hwr]; exact hol
          clear co hol
          by_cases hlt2 : j < D
          · obtain ⟨g, off, x, rfl, hg, hx, hxl⟩ := hcl.out j hlt2
            have hJl : N - 1 - j < l.length := by rw [hKL.out]; omega
            obtain ⟨b', off', rfl, _, hbw', hcell'⟩ := hat.out W1 (N - 1 - j) hJl hbw1.out
            rw [List.getElem?_eq_getElem hJl] at hxl
            rw [Option.some.inj hxl] at hcell'
            obtain ⟨J, hJ⟩ : ∃ J, N - 1 - j = J := ⟨_, rfl⟩
            rw [hJ] at hcell'
            have hJi : (N : Int) - 1 - (j : Int) = (J : Int) := by omega
            have hJ2 : J < N := by omega
            have hx2 : wr.cell? ⟨g, off + j, none⟩ = some (.int .i64 x) := by rw [hwr]; exact hx
            have hc2 : wr.cell? ⟨b', off' + J, none⟩ = some (.int .i64 x) := by rw [hwr]; exact hcell'
            have hg2 : g < wr.heap.size := by rw [hwr]; exact hg
            have hb2 : b' < wr.heap.size := by rw [hwr]; exact hbw'
            replace hwr := Lib.hid hwr
            clear hx hcell' hg hbw' hxl hJ hJl
            go_wp2_with fail
            go_quiet (fail)
            go_wp2
            go_roundw
            case rel => exact ⟨j + 1, d + nq, by omega, by go_num, by rw [hwr.out]; first | rfl | simp⟩
            case measure => simp [intOf]; omega
          · obtain rfl : j = D := by omega
            have hLr := hL1.out.keep (KeepL.drewN W1 d)
            have hIr := ni_keep hI1.out (Fr.drewN _ _ _ W1 d)
            rw [← hwr] at hLr hIr
            have hu := hu2.out wr hLr hIr
            replace hu := Lib.hid hu
            clear hwr hLr hIr hL1 hI1 hcl
            go_wp2_with fail
            refine hu.out.mono ?_
            rintro e W2 ⟨rfl, hL2, hI2⟩
            obtain ⟨A2, c2, co3, hol3, hcc3, hcm3, _⟩ := ni_out hI2
            rw [hKL.out, Nat.sub_zero] at co3 hcc3
            have hbw2 : Below z w W2 := by obtain ⟨_, _, _, _, _, h⟩ := hI2; rw [hz.out] at h; exact h
            have huu := hu3.out W2 _ hL2
            unfold maxLen at hcm3
            replace huu := Lib.hid huu
            replace hbw2 := Lib.hid hbw2
            clear co2 hol2 hL2 hI2 hu
            go_wp2_with fail
            refine huu.out.mono ?_
            rintro e w' ⟨rfl, hw⟩
            obtain rfl := hw.symm
            have hae := haw.out W2
            replace hae := Lib.hid hae
            clear huu hw
            go_wp2_with fail
            refine hae.out.mono ?_
            rintro e w9 ⟨rfl, hb9⟩
            have hfin := hbw2.out.trans (hb9.mono (by have := hbw2.out.size; have := hz.out; omega))
            replace hfin := Lib.hid hfin
            clear hae hb9
            go_wp2
            go_ret
            exact ⟨rfl, hfin.out⟩
      · have hbi : ((N : Int) == (i : Int)) = false := by rw [beq_eq_false_iff_ne]; omega
        obtain ⟨wu, hwu⟩ : ∃ wu, wr = wu := ⟨_, rfl⟩
        subst hwu
        have hLu : LogAt wr z z 100 3 [mkA b1, mkB b2 N] fs i := by
          have := hL.out
          unfold msAt at this
          rw [if_neg (by omega)] at this
          exact this
        have hbu := hb.out
        have hou := ho.out
        have hBu := hBx.out
        clear hL hb ho hBx
        have hB0 : z ≤ wr.heap.size := by have := hbu.size; have := hz.out; omega
        have hno := Note_arg hLu (by unfold refE; rw [if_neg (by omega)])
        have hni := ni_start (w := w) (by rw [hfl.out, hKL.out]) hou hBu (Nat.le_refl _) (by rw [hz.out]; exact hbu)
        have hu1 := fun n => notes_undo1 (W := wr.drewN n) (b1 := b1) (b2 := b2) (N := N) hz.out hB0 (by rw [hKL.out]; omega) (by rw [hKL.out]; omega) (by rw [hfl.out, hKL.out]) (by rw [hKL.out]; exact hLu.keep (KeepL.drewN wr n)) (ni_keep hni (Fr.drewN _ _ _ _ _))
        have hu2 := fun W => notes_undo2 (w := w) (W := W) (b1 := b1) (N := N) (fs := fs) hz.out hB0 (by rw [hKL.out]; omega) (by rw [hKL.out]; omega) (by rw [hfl.out, hKL.out])
        have hu3 := fun W fs => @Undo_none W z z 100 3 0 fs
        unfold ptrV at hno hu1 hu2 hu3
        replace hno := Lib.hid hno
        replace hu1 := Lib.hid hu1
        replace hu2 := Lib.hid hu2
        replace hu3 := Lib.hid hu3
        clear hni hLu hou hBu hB0
        obtain ⟨D, hD⟩ : ∃ D, i - N = D := ⟨_, rfl⟩
        have hDi : (i : Int) - (N : Int) = (D : Int) := by omega
        go_wp2_with fail
        refine hno.out.mono ?_
        rintro e wn ⟨rfl, n, rfl⟩
        go_wp2_with fail
        refine (hu1.out n).mono ?_
        rintro e W1 ⟨rfl, hL1, hI1⟩
        obtain ⟨A1, c1, co, hol, hcc, hcm1, hcl⟩ := ni_out hI1
        rw [hKL.out, hD] at co hcc
        rw [hKL.out, hD] at hcl
        have hbw1 : Below z w W1 := by obtain ⟨_, _, _, _, _, h⟩ := hI1; rw [hz.out] at h; exact h
        replace hL1 := Lib.hid hL1
        replace hI1 := Lib.hid hI1
        replace hcl := Lib.hid hcl
        replace hbw1 := Lib.hid hbw1
        unfold maxLen at hcm1
        clear hno hu1
        go_wp2
        go_loopw [10] (fun nv wq => ∃ (j d : Nat), j ≤ D ∧ nv = .int .i64 (j : Int) ∧ wq = W1.drewN d) (fun nv _ => D - (intOf nv).toNat)
        case atStart => exact ⟨0, 0, Nat.zero_le _, rfl, rfl⟩
        case round =>
          obtain ⟨j, d, hj, rfl, hwr⟩ := hrel
          have co2 : wr.cell? ⟨z + 1, 0, none⟩ = some (.slice A1 D c1) := by rw [hwr]; exact co
          have hol2 : z + 1 < wr.heap.size := by rw [hwr]; exact hol
          clear co hol
          by_cases hlt2 : j < D
          · obtain ⟨g, off, x, rfl, hg, hx, hxl⟩ := hcl.out j hlt2
            have hJl : i - 1 - j < l.length := by rw [hKL.out]; omega
            obtain ⟨b', off', rfl, _, hbw', hcell'⟩ := hat.out W1 (i - 1 - j) hJl hbw1.out
            rw [List.getElem?_eq_getElem hJl] at hxl
            rw [Option.some.inj hxl] at hcell'
            obtain ⟨J, hJ⟩ : ∃ J, i - 1 - j = J := ⟨_, rfl⟩
            rw [hJ] at hcell'
            have hJi : (i : Int) - 1 - (j : Int) = (J : Int) := by omega
            have hJ2 : J < i := by omega
            have hx2 : wr.cell? ⟨g, off + j, none⟩ = some (.int .i64 x) := by rw [hwr]; exact hx
            have hc2 : wr.cell? ⟨b', off' + J, none⟩ = some (.int .i64 x) := by rw [hwr]; exact hcell'
            have hg2 : g < wr.heap.size := by rw [hwr]; exact hg
            have hb2 : b' < wr.heap.size := by rw [hwr]; exact hbw'
            replace hwr := Lib.hid hwr
            clear hx hcell' hg hbw' hxl hJ hJl
            go_wp2_with fail
            go_quiet (fail)
            go_wp2
            go_roundw
            case rel => exact ⟨j + 1, d + nq, by omega, by go_num, by rw [hwr.out]; first | rfl | simp⟩
            case measure => simp [intOf]; omega
          · obtain rfl : j = D := by omega
            have hLr := hL1.out.keep (KeepL.drewN W1 d)
            have hIr := ni_keep hI1.out (Fr.drewN _ _ _ W1 d)
            rw [← hwr] at hLr hIr
            have hu := hu2.out wr hLr hIr
            replace hu := Lib.hid hu
            clear hwr hLr hIr hL1 hI1 hcl
            go_wp2_with fail
            refine hu.out.mono ?_
            rintro e W2 ⟨rfl, hL2, hI2⟩
            obtain ⟨A2, c2, co3, hol3, hcc3, hcm3, _⟩ := ni_out hI2
            rw [hKL.out, Nat.sub_zero] at co3 hcc3
            have hbw2 : Below z w W2 := by obtain ⟨_, _, _, _, _, h⟩ := hI2; rw [hz.out] at h; exact h
            have huu := hu3.out W2 _ hL2
            unfold maxLen at hcm3
            replace huu := Lib.hid huu
            replace hbw2 := Lib.hid hbw2
            clear co2 hol2 hL2 hI2 hu
            go_wp2_with fail
            refine huu.out.mono ?_
            rintro e w' ⟨rfl, hw⟩
            obtain rfl := hw.symm
            have hae := haw.out W2
            replace hae := Lib.hid hae
            clear huu hw
            go_wp2_with fail
            refine hae.out.mono ?_
            rintro e w9 ⟨rfl, hb9⟩
            have hfin := hbw2.out.trans (hb9.mono (by have := hbw2.out.size; have := hz.out; omega))
            replace hfin := Lib.hid hfin
            clear hae hb9
            go_wp2
            go_ret
            exact ⟨rfl, hfin.out⟩
/-- All ways. -/
theorem lawNotes_any (l : List Int) (n : Int) (v : Value) (w : World) (h : Nums w v l) :
    Calls Try.prog 6 #[v, .int .i64 n] w fun e w' => e = .returned (.bool true) ∧ Below w.heap.size w w' := by
  by_cases hn : 60 < l.length ∨ n < 0 ∨ (l.length : Int) < n
  · exact lawNotes_far l n v w h hn
  · obtain ⟨N, rfl⟩ : ∃ N : Nat, n = (N : Int) := ⟨n.toNat, by omega⟩
    exact lawNotes_ok l N v w h (by omega) (by omega)
end Go.Proofs.Ytcobfimafpfbpaa
