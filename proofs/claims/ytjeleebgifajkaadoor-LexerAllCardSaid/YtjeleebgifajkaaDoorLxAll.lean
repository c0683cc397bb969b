/-
  All tells all things of a text, and what does not end. Conditions: none.
-/
import Derived.Maps.OwnIn
import Derived.Test.YtjeleebgifajkaaDoorLxThings
set_option linter.unusedSimpArgs false
set_option linter.unusedVariables false
namespace Go.Proofs.YtjeleebgifajkaaDoor
open Go Go.RowKit

theorem size_putObj (W : World) (l : Nat) (o : Obj) : (W.putObj l o).heap.size = W.heap.size := by simp [World.putObj]
theorem own_away {w W : World} {base : Nat} {e : TypeId} {size n : Nat} {v : Value} {xs : List Value} (h : w.ownsRow base e size v n xs) (hk : ∀ k, base ≤ k → k < w.heap.size → W.heap[k]? = w.heap[k]?) : W.ownsRow base e size v n xs := by
  refine ⟨h.1, ?_⟩
  rcases h.2 with hn | ⟨g, cap, cur, rfl, hb, hg, rest⟩
  · exact .inl hn
  · exact .inr ⟨g, cap, cur, rfl, hb, (hk g hb (Array.getElem?_eq_some_iff.1 hg).1).trans hg, rest⟩
theorem own_less {w : World} {base base' : Nat} {e : TypeId} {size n : Nat} {v : Value} {xs : List Value} (h : w.ownsRow base e size v n xs) (hb : base' ≤ base) : w.ownsRow base' e size v n xs := by
  refine ⟨h.1, ?_⟩
  rcases h.2 with hn | ⟨g, cap, cur, rfl, hbg, rest⟩
  · exact .inl hn
  · exact .inr ⟨g, cap, cur, rfl, by omega, rest⟩

/-- The caller's own while the things come: its row, the loop's record, the block of what is put off; all else lies as it lay. -/
structure LxJ (w5 : World) (bo : Nat) (rec : Loop) (s : ByteArray) (pre : List Tk) (b : Nat) (W : World) : Prop where
  row : ∃ vo, Boxed W bo 35 vo ∧ W.ownsRow (w5.heap.size + 2) 24 4 vo pre.length (cellsTk s pre) ∧ vo.ownBlock ≠ some b
  ok : ∀ t ∈ pre, t.1 ≠ 5
  loop : W.heap[w5.heap.size + 1]? = some (.loop rec)
  off : W.heap[w5.heap.size]? = some (.deferred (some []))
  old : ∀ k, k < w5.heap.size → k ≠ bo → W.heap[k]? = w5.heap[k]?
  size : w5.heap.size + 2 ≤ W.heap.size
  b2 : w5.heap.size + 2 ≤ b
  os : W.os = w5.os
  tape : W.tape = w5.tape
  output : W.output = w5.output
/-- Behind what does not end. -/
structure LxX (w5 : World) (B : Nat) (rec : Loop) (s : ByteArray) (W : World) : Prop where
  row : ∃ (pre : List Tk) (t : Tk) (vo : Value), seqL s = pre ++ [t] ∧ (∀ t ∈ pre, t.1 ≠ 5) ∧ t.1 = 5 ∧ Boxed W B 35 vo ∧ Boxed W (B + 1) 3 (.int .i64 (t.2.1 : Int)) ∧ Boxed W (B + 2) 25 (.int .i64 30) ∧ W.ownsRow (w5.heap.size + 2) 24 4 vo pre.length (cellsTk s pre)
  loop : W.heap[w5.heap.size + 1]? = some (.loop rec)
  off : W.heap[w5.heap.size]? = some (.deferred (some []))
  old : ∀ k, k < B → W.heap[k]? = w5.heap[k]?
  size : w5.heap.size + 2 ≤ W.heap.size
  os : W.os = w5.os
  tape : W.tape = w5.tape
  output : W.output = w5.output
section
variable {w5 : World} {bo B : Nat} {rec : Loop} {s : ByteArray} {pre : List Tk} {b b' : Nat} {W W' : World}
theorem LxJ.abides (hbo : bo < w5.heap.size) (h : LxJ w5 bo rec s pre b W) (hg : Below W.heap.size W W') (hb : b' = b ∨ W.heap.size ≤ b') : LxJ w5 bo rec s pre b' W' := by
  obtain ⟨vo, h1, h2, h3⟩ := h.row
  have ho := h2.lt
  have hsz := h.size
  refine ⟨⟨vo, (hg.block _ (by omega)).trans h1, own_below h2 hg, ?_⟩, h.ok, (hg.block _ (by omega)).trans h.loop, (hg.block _ (by omega)).trans h.off, fun k hk hne => (hg.block k (by omega)).trans (h.old k hk hne), Nat.le_trans hsz hg.size, ?_, hg.os.trans h.os, hg.tape.trans h.tape, hg.output.trans h.output⟩
  · rcases hb with rfl | hb
    · exact h3
    · intro e
      have := (ho _ e).2
      omega
  · have := h.b2
    rcases hb with rfl | hb
    · exact this
    · omega
theorem LxJ.turn (hbo : bo < w5.heap.size) (rec' : Loop) (h : LxJ w5 bo rec s pre b W) : LxJ w5 bo rec' s pre b (W.putObj (w5.heap.size + 1) (.loop rec')) := by
  obtain ⟨vo, h1, h2, h3⟩ := h.row
  have hg := grownBy_putObj' W (w5.heap.size + 1) (.loop rec')
  have hsz := h.size
  refine ⟨⟨vo, h1.kept hg (by simp; omega), ownsRow_putObj h2 _ h.loop rfl, h3⟩, h.ok, World.putObj_heap_same (by omega), (World.putObj_heap_other (by omega)).trans h.off, fun k hk hne => (World.putObj_heap_other (by omega)).trans (h.old k hk hne), by rw [size_putObj]; exact hsz, h.b2, hg.os.trans h.os, hg.tape.trans h.tape, hg.output.trans h.output⟩
theorem LxX.turn (hB : B + 2 < w5.heap.size) (rec' : Loop) (h : LxX w5 B rec s W) : LxX w5 B rec' s (W.putObj (w5.heap.size + 1) (.loop rec')) := by
  obtain ⟨p, t, vo, h1, h2, h3, h4, h5, h6, h7⟩ := h.row
  have hg := grownBy_putObj' W (w5.heap.size + 1) (.loop rec')
  have hsz := h.size
  refine ⟨⟨p, t, vo, h1, h2, h3, h4.kept hg (by simp; omega), h5.kept hg (by simp; omega), h6.kept hg (by simp; omega), ownsRow_putObj h7 _ h.loop rfl⟩, World.putObj_heap_same (by omega), (World.putObj_heap_other (by omega)).trans h.off, fun k hk => (World.putObj_heap_other (by omega)).trans (h.old k hk), by rw [size_putObj]; exact hsz, hg.os.trans h.os, hg.tape.trans h.tape, hg.output.trans h.output⟩
end

theorem range_things {assign body : Code} {g : Operand} {p q : Tmp} {Q : Exit → Act → World → Prop} {a : Act} {w5 : World} {bo B Bs : Nat} {s : ByteArray}
    (hg : a.eval g = .func (.func 47) #[] #[.pointer (some ⟨Bs, 0, none⟩)])
    (hbo : bo < w5.heap.size) (hBs : Bs < w5.heap.size) (hB : B + 2 < w5.heap.size) (hns : Bs ≠ bo) (hs : s.size ≤ 4096)
    (bO : Boxed w5 bo 35 (.slice none 0 0)) (bS : Boxed w5 Bs 9 (.string s))
    (a₁ : Nat → Tk → Act)
    (hassign : ∀ (x : Tk) (W : World) (K : Act → World → Prop), K (a₁ W.heap.size x) (W.alloc (.cells (tokC s x).toArray 24)) → assign.wpIn (Fence.wide.inRound (w5.heap.size + 1)) 1 Tryd.prog (Exit.then K (fun _ _ _ => False)) { tmps := ((#[p, q] : Array Tmp).zip #[Value.agg (tokC s x).toArray, .int .i64 (errE x)]).foldl (fun t (p, v) => t.setIfInBounds p v) a.tmps, defers := [] } W)
    (hbody : ∀ (rec : Loop) (pre : List Tk) (x : Tk) (b z : Nat) (W : World), LxJ w5 bo rec s pre b W → b < z → z < W.heap.size → W.heap[z]? = some (.cells (tokC s x).toArray 24 (0, 0)) → (∀ vo, Boxed W bo 35 vo → vo.ownBlock ≠ some z) → pre.length ≤ 4096 → (∃ rest, seqL s = pre ++ [x] ++ rest ∧ (x.1 = 5 → rest = [])) →
      body.wpIn (Fence.wide.inRound (w5.heap.size + 1)) 1 Tryd.prog (fun e _ W' => (e = .normal ∧ LxJ w5 bo rec s (pre ++ [x]) b W' ∧ W'.heap[b]? = W.heap[b]? ∧ W.heap.size ≤ W'.heap.size) ∨ (e = .ret ∧ LxX w5 B rec s W')) (a₁ z x) W)
    (hdone : ∀ (rec : Loop) (b : Nat) (W : World), LxJ w5 bo rec s (seqL s) b W → Q .normal { a with defers := { target := .collected w5.heap.size, args := #[] } :: a.defers } W)
    (hstop : ∀ (rec : Loop) (W : World), LxX w5 B rec s W → Q .ret { a with defers := { target := .collected w5.heap.size, args := #[] } :: a.defers } W) :
    (Code.rangeFunc g #[p, q] assign body).wpIn Fence.wide 3 Tryd.prog Q a w5 := by
  refine wpIn_rangeFunc ?_
  intro fn hfn
  obtain ⟨rec, hrec⟩ : ∃ rec : LoopState → Option Code → Loop, rec = fun st pe => { state := st, pending := pe, fn, tmps := a.tmps, params := #[p, q], assign, body, defers := w5.heap.size } := ⟨_, rfl⟩
  obtain ⟨W1, hW1⟩ : ∃ W1, (w5.alloc (.deferred (some []))).alloc (.loop (rec .ready none)) = W1 := ⟨_, rfl⟩
  have hL1 : W1.heap[w5.heap.size + 1]? = some (.loop (rec .ready none)) := by
    rw [← hW1]; have := World.alloc_heap_new (w5.alloc (.deferred (some []))) (.loop (rec .ready none)); rwa [World.size_alloc] at this
  have hK1 : W1.heap[w5.heap.size]? = some (.deferred (some [])) := by
    rw [← hW1]; exact (Below.heap_alloc _ _ _ (by simp)).trans (World.alloc_heap_new w5 _)
  have hs1 : W1.heap.size = w5.heap.size + 2 := by rw [← hW1]; simp
  have hold : ∀ k, k < w5.heap.size → W1.heap[k]? = w5.heap[k]? := fun k hk => by
    rw [← hW1]; exact (Below.heap_alloc _ _ _ (by simp; omega)).trans (Below.heap_alloc _ _ _ hk)
  have hJ0 : LxJ w5 bo (rec .ready none) s [] W1.heap.size W1 :=
    ⟨⟨.slice none 0 0, (hold bo hbo).trans bO, World.ownsRow_nil _ _ _ _, by simp [Value.ownBlock]⟩, by simp, hL1, hK1, fun k hk _ => hold k hk, by omega, by omega, by rw [← hW1]; rfl, by rw [← hW1]; rfl, by rw [← hW1]; rfl⟩
  refine ⟨w5.heap.size + 1, [{ target := .collected w5.heap.size, args := #[] }], W1, { target := .fn (.func 47) #[.pointer (some ⟨Bs, 0, none⟩)], args := #[.func (.yield (w5.heap.size + 1)) #[] #[]] }, W1, 47,
    #[.func (.yield (w5.heap.size + 1)) #[] #[], .pointer (some ⟨Bs, 0, none⟩)], W1, ?_, ?_, ?_, ?_, fun _ => by omega, ?_⟩
  · rw [← hW1, hrec]; exact run_enterLoop_outer _ _ _ _ _
  · simp only [resolve, hg]
    simp [go_sem]
  · intro f' _; trivial
  · simp [invoke, go_sem]
  · refine callsIn_wide.2 ?_
    refine (things1_any 1 s (w5.heap.size + 1) Bs w5.heap.size (LxJ w5 bo (rec .ready none) s) (fun _ W => LxX w5 B (rec .done (some .ret)) s W) W1 hs (fun _ _ _ _ _ h hg hb => h.abides hbo hg hb) (fun pre b W h => ?_) hBs ?_ hJ0).mono ?_
    · have := h.size
      exact ⟨by omega, (World.cell?_of_block (a := ⟨Bs, 0, none⟩) (h.old Bs hBs hns)).trans bS.cell⟩
    · -- one round
      intro pre x b W hJ hlt hlen hseq
      have hl := hJ.loop
      have hy := run_yield (P := Tryd.prog) (args := #[Value.agg (tokC s x).toArray, .int .i64 (errE x)]) hl (by rw [hrec]; rfl)
      rw [hrec] at hy
      refine ⟨fn, _, assign, body, hy, roundIn_of_wpIn hfn ?_⟩
      refine hassign x W _ ?_
      have hA : Below W.heap.size W (W.alloc (.cells (tokC s x).toArray 24)) := (Below.refl _ W).alloc (Nat.le_refl _) _
      have hJA := hJ.abides hbo hA (.inl rfl)
      have hnew := World.alloc_heap_new W (.cells (tokC s x).toArray 24)
      have hvo : ∀ vo, Boxed (W.alloc (.cells (tokC s x).toArray 24)) bo 35 vo → vo.ownBlock ≠ some W.heap.size := by
        intro vo hv e
        obtain ⟨v2, k1, k2, _⟩ := hJ.row
        have k3 := hv.symm.trans ((hA.block bo (by have := hJ.size; omega)).trans k1)
        have : vo = v2 := by simpa using k3
        rw [this] at e
        have := (k2.lt _ e).2
        omega
      have hsA : (W.alloc (.cells (tokC s x).toArray 24)).heap.size = W.heap.size + 1 := by simp
      generalize W.alloc (.cells (tokC s x).toArray 24) = WA at hA hJA hnew hvo hsA ⊢
      refine ⟨_, run_beginRound hJA.loop (by rw [hrec]), ?_⟩
      have hJ2 := hJA.turn hbo { rec .ready none with state := .busy }
      have hsz := hJ.size
      have hb2 := hJ.b2
      refine wpIn_mono (hbody _ pre x b W.heap.size _ hJ2 hlt (by rw [size_putObj]; omega) ((World.putObj_heap_other (by omega)).trans hnew) (fun vo hv => hvo vo ((World.putObj_heap_other (by omega)).symm.trans hv)) hlen hseq) ?_
      rintro e a3 W3 (⟨rfl, hJ3, hb3, hs3⟩ | ⟨rfl, hX3⟩)
      · have he := run_endRound (P := Tryd.prog) none hJ3.loop
        have hJ4 := hJ3.turn hbo (rec .ready none)
        refine ⟨_, _, he, .inl ⟨rfl, ?_, ?_, ?_⟩⟩
        · rw [hrec] at hJ4 ⊢; exact hJ4
        · exact (World.putObj_heap_other (by omega)).trans (hb3.trans ((World.putObj_heap_other (by omega)).trans (hA.block b hlt)))
        · rw [size_putObj] at hs3 ⊢; exact Nat.le_trans (by omega) hs3
      · have he := run_endRound (P := Tryd.prog) (some .ret) hX3.loop
        have hX4 := hX3.turn hB (rec .done (some .ret))
        refine ⟨_, _, he, .inr ⟨rfl, ?_⟩⟩
        rw [hrec] at hX4 ⊢; exact hX4
    · -- behind the iterator
      rintro e W2 ⟨⟨v, rfl⟩, (⟨b, hJ⟩ | ⟨_, hX⟩)⟩
      · refine ⟨none, _, by have := run_endLoop (P := Tryd.prog) hJ.loop (by rw [hrec]; simp); rw [hrec] at this; exact this, ?_⟩
        exact hdone _ b _ (hJ.turn hbo _)
      · refine ⟨some .ret, _, by have := run_endLoop (P := Tryd.prog) hX.loop (by rw [hrec]; simp); rw [hrec] at this; exact this, ?_⟩
        exact wpIn_ret (hstop _ _ (hX.turn hB _))

set_option maxHeartbeats 400000 in
set_option maxRecDepth 100000 in
theorem things_any (s : ByteArray) (w : World) :
    Calls Tryd.prog 30 #[.string s] w fun e w' => e = .returned (.func (.func 47) #[] #[.pointer (some ⟨w.heap.size, 0, none⟩)]) ∧ w' = w.alloc (.cells #[.string s] 9) := by
  have hmf : ∀ (fn : Fn) (first cap : Array Value) (w : World), (Instr.makeFunc fn first cap).run Tryd.prog w = .ok (.func fn first cap) w := fun _ _ _ _ => rfl
  go_enter Tryd.func30, Tryd.ntmps30
  go_wp2
  go_ret
  exact ⟨rfl, rfl⟩
end Go.Proofs.YtjeleebgifajkaaDoor
