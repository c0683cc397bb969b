/-
  All: the texts out of an alphabet that a pattern fits, or what is wrong. Conditions: at most 999999 items, 300 bytes.
-/
import Derived.Maps.OwnIn
import Derived.Test.YtnioneknlgbhoaaGbTexts
import Derived.Test.YtnioneknlgbhoaaGbTooMany
import Derived.Test.YtnioneknlgbhoaaGbTwice
import Derived.Test.YtnioneknlgbhoaaGbWhole
namespace Go.Proofs.Ytnioneknlgbhoaa
open Go Go.RowKit

/-- What is wrong with an alphabet and a most. -/
def allE (al : ByteArray) (most : Int) : Int := if most < 0 ∨ twiceQ (bl al) al.size = true then 1 else if 4096 < cnt al.size (most.toNat + 1) then 20 else 0
/-- The texts that are fitted. -/
def fitL (p : List It) (l : List ByteArray) : List ByteArray := l.filter fun t => mt p (bl t)
def allL (p : List It) (al : ByteArray) (most : Int) : List ByteArray := if allE al most = 0 then fitL p (bef al (most.toNat + 1)) else []
theorem fitL_hit (p : List It) (l : List ByteArray) {t : ByteArray} (h : mt p (bl t) = true) : fitL p (l ++ [t]) = fitL p l ++ [t] := by simp [fitL, h]
theorem fitL_miss (p : List It) (l : List ByteArray) {t : ByteArray} (h : mt p (bl t) = false) : fitL p (l ++ [t]) = fitL p l := by simp [fitL, h]
theorem fitL_len (p : List It) (l : List ByteArray) : (fitL p l).length ≤ l.length := List.length_filter_le _ _

theorem run_appendS {F : Fence} {n : Nat} (w : World) {ops : Array Oper} {rest : List Oper} {o : Oper} {a : Act} {Q : Exit → Act → World → Prop} (hgd : o.guard = none) (s x : Operand)
    (ho : o.op = .call { callee := .builtin .append, args := #[s, x], argTypes := #[39, 39] })
    (base : Nat) (v : Value) {k : Nat} {xs : List Value} (hs : a.eval s = v) (hown : w.ownsRow base 9 1 v k xs)
    (ad : Addr) (t : ByteArray) (hx : a.eval x = .slice (some ad) 1 1) (hc : w.cell? ad = some (.string t)) (hk : k ≤ 1000000) (hb : base ≤ w.heap.size)
    (h : ∀ v' w', w'.ownsRow base 9 1 v' (k + 1) (xs ++ [.string t]) → w.grownBy w' v.ownBlock → (v'.ownBlock = v.ownBlock ∨ v'.ownBlock = some w.heap.size) → wpListIn F n Try.prog ops Q rest (a.put o.dst v') w') :
    wpListIn F n Try.prog ops Q (o :: rest) a w := by
  obtain ⟨i, hi, hz, hsz, hby⟩ := info_parts infoStr
  refine wpListIn_append_own_at w hgd s x 39 ho base 9 i _ 1 16 Try.underlying39 hi hz hsz hby rfl (by omega) v k xs hs hown ad 1 1 [.string t] hx rfl (fun j u hu => ?_) (fun u hu => ?_) (by unfold maxLen; omega) (by omega) hb (fun v' w' h1 h2 _ h4 => h v' w' h1 h2 h4)
  · cases j with
    | zero =>
      have : u = .string t := by simpa using hu.symm
      subst this
      have e : ad.add 0 = ad := by cases ad with | mk a b c => cases c <;> simp [Addr.add]
      rw [e]; exact hc
    | succ j => simp at hu
  · have : u = .string t := by simpa using hu
    subst this; rfl

theorem own_away {w W : World} {base : Nat} {e : TypeId} {size n : Nat} {v : Value} {xs : List Value} (h : w.ownsRow base e size v n xs) (hk : ∀ k, base ≤ k → k < w.heap.size → W.heap[k]? = w.heap[k]?) : W.ownsRow base e size v n xs := by
  refine ⟨h.1, ?_⟩
  rcases h.2 with hn | ⟨g, cap, cur, rfl, hb, hg, rest⟩
  · exact .inl hn
  · exact .inr ⟨g, cap, cur, rfl, hb, (hk g hb (Array.getElem?_eq_some_iff.1 hg).1).trans hg, rest⟩
theorem own_less {w : World} {base base' : Nat} {e : TypeId} {size n : Nat} {v : Value} {xs : List Value} (h : w.ownsRow base e size v n xs) (hb : base' ≤ base) : w.ownsRow base' e size v n xs := by
  refine ⟨h.1, ?_⟩
  rcases h.2 with hn | ⟨g, cap, cur, rfl, hbg, rest⟩
  · exact .inl hn
  · exact .inr ⟨g, cap, cur, rfl, by omega, rest⟩
theorem RowsMade.away {w W : World} {base : Nat} {o : Value} {ini : List (List St)} {ivs : List Value} {last : List St} {u : Value} (h : RowsMade w base o ini ivs last u) (hk : ∀ k, base ≤ k → k < w.heap.size → W.heap[k]? = w.heap[k]?) : RowsMade W base o ini ivs last u := by
  obtain ⟨h1, h2, h3, h4, h5⟩ := h
  exact ⟨h1, own_away h2 hk, fun i l hl => by obtain ⟨x, hx, hr, hn⟩ := h3 i l hl; exact ⟨x, hx, own_away hr hk, hn⟩, own_away h4 hk, h5⟩

/-- The caller's own while the texts come: its row, the loop's record, the block of what is put off; all else lies as it lay. -/
def AllJ (w5 : World) (bo : Nat) (rec : Loop) (p : List It) (pre : List ByteArray) (b : Nat) (W : World) : Prop :=
  (∃ vo, Boxed W bo 39 vo ∧ W.ownsRow (w5.heap.size + 2) 9 1 vo (fitL p pre).length (cellsT (fitL p pre)) ∧ vo.ownBlock ≠ some b) ∧
  W.heap[w5.heap.size + 1]? = some (.loop rec) ∧ W.heap[w5.heap.size]? = some (.deferred (some [])) ∧ (∀ k, k < w5.heap.size → k ≠ bo → W.heap[k]? = w5.heap[k]?) ∧
  w5.heap.size + 2 ≤ W.heap.size ∧ w5.heap.size + 2 ≤ b ∧ W.os = w5.os ∧ W.tape = w5.tape ∧ W.output = w5.output

theorem AllJ.abides {w5 : World} {bo : Nat} (hbo : bo < w5.heap.size) {rec : Loop} {p : List It} {pre : List ByteArray} {b b' : Nat} {W W' : World} (h : AllJ w5 bo rec p pre b W) (hg : W.grownBy W' (some b)) (hb : b' = b ∨ W.heap.size ≤ b') : AllJ w5 bo rec p pre b' W' := by
  obtain ⟨⟨vo, h1, h2, h3⟩, h4, h5, h6, h7, h8, h9, h10, h11⟩ := h
  have ho := h2.lt
  refine ⟨⟨vo, h1.kept hg (by simp; omega), h2.kept hg (.inr h3), ?_⟩, (hg.block _ (by omega) (by simp; omega)).trans h4, (hg.block _ (by omega) (by simp; omega)).trans h5, fun k hk hne => (hg.block k (by omega) (by simp; omega)).trans (h6 k hk hne), ?_, ?_, hg.os.trans h9, hg.tape.trans h10, hg.output.trans h11⟩
  · rcases hb with rfl | hb
    · exact h3
    · intro e
      have := (ho _ e).2
      omega
  · have := hg.size; omega
  · omega

theorem AllJ.turn {w5 : World} {bo : Nat} (hbo : bo < w5.heap.size) {rec : Loop} {p : List It} {pre : List ByteArray} {b : Nat} {W : World} (rec' : Loop) (h : AllJ w5 bo rec p pre b W) : AllJ w5 bo rec' p pre b (W.putObj (w5.heap.size + 1) (.loop rec')) := by
  obtain ⟨⟨vo, h1, h2, h3⟩, h4, h5, h6, h7, h8, h9, h10, h11⟩ := h
  have hg := grownBy_putObj' W (w5.heap.size + 1) (.loop rec')
  refine ⟨⟨vo, h1.kept hg (by simp; omega), ownsRow_putObj h2 _ h4 rfl, h3⟩, World.putObj_heap_same (by omega), (World.putObj_heap_other (by omega)).trans h5, fun k hk hne => (World.putObj_heap_other (by omega)).trans (h6 k hk hne), ?_, h8, hg.os.trans h9, hg.tape.trans h10, hg.output.trans h11⟩
  have := hg.size; omega

theorem size_putObj (W : World) (l : Nat) (o : Obj) : (W.putObj l o).heap.size = W.heap.size := by simp [World.putObj]

theorem range_texts {assign body : Code} {g : Operand} {s : Tmp} {Q : Exit → Act → World → Prop} {a : Act} {w5 : World} {bo Bm Ba most : Nat} {al : ByteArray} {p : List It}
    (hg : a.eval g = .func (.func 61) #[] #[.pointer (some ⟨Bm, 0, none⟩), .pointer (some ⟨Ba, 0, none⟩)])
    (hbo : bo < w5.heap.size) (hBm : Bm < w5.heap.size) (hBa : Ba < w5.heap.size) (hnm : Bm ≠ bo) (hna : Ba ≠ bo) (ha : al.size ≤ 300) (hmany : cnt al.size (most + 1) ≤ 4096)
    (bO : Boxed w5 bo 39 (.slice none 0 0)) (bM : Boxed w5 Bm 3 (.int .i64 (most : Int))) (bA : Boxed w5 Ba 9 (.string al))
    (a₁ : ByteArray → Act)
    (hassign : ∀ (x : ByteArray) (W : World) (K : Act → World → Prop), K (a₁ x) W → assign.wpIn (Fence.wide.inRound (w5.heap.size + 1)) 1 Try.prog (Exit.then K (fun _ _ _ => False)) { tmps := ((#[s] : Array Tmp).zip #[Value.string x]).foldl (fun t (p, v) => t.setIfInBounds p v) a.tmps, defers := [] } W)
    (hbody : ∀ (rec : Loop) (pre : List ByteArray) (x : ByteArray) (b : Nat) (W : World), AllJ w5 bo rec p pre b W → b < W.heap.size → x ∈ bef al (most + 1) → pre.length < 4096 →
      body.wpIn (Fence.wide.inRound (w5.heap.size + 1)) 1 Try.prog (fun e _ W' => e = .normal ∧ AllJ w5 bo rec p (pre ++ [x]) b W' ∧ W'.heap[b]? = W.heap[b]? ∧ W.heap.size ≤ W'.heap.size) (a₁ x) W)
    (hdone : ∀ (rec : Loop) (b : Nat) (W : World), AllJ w5 bo rec p (bef al (most + 1)) b W → Q .normal { a with defers := { target := .collected w5.heap.size, args := #[] } :: a.defers } W) :
    (Code.rangeFunc g #[s] assign body).wpIn Fence.wide 3 Try.prog Q a w5 := by
  refine wpIn_rangeFunc ?_
  intro fn hfn
  obtain ⟨rec, hrec⟩ : ∃ rec : LoopState → Option Code → Loop, rec = fun st pe => { state := st, pending := pe, fn, tmps := a.tmps, params := #[s], assign, body, defers := w5.heap.size } := ⟨_, rfl⟩
  obtain ⟨W1, hW1⟩ : ∃ W1, (w5.alloc (.deferred (some []))).alloc (.loop (rec .ready none)) = W1 := ⟨_, rfl⟩
  have hL1 : W1.heap[w5.heap.size + 1]? = some (.loop (rec .ready none)) := by
    rw [← hW1]; have := World.alloc_heap_new (w5.alloc (.deferred (some []))) (.loop (rec .ready none)); rwa [World.size_alloc] at this
  have hK1 : W1.heap[w5.heap.size]? = some (.deferred (some [])) := by
    rw [← hW1]; exact (Below.heap_alloc _ _ _ (by simp)).trans (World.alloc_heap_new w5 _)
  have hs1 : W1.heap.size = w5.heap.size + 2 := by rw [← hW1]; simp
  have hold : ∀ k, k < w5.heap.size → W1.heap[k]? = w5.heap[k]? := fun k hk => by
    rw [← hW1]; exact (Below.heap_alloc _ _ _ (by simp; omega)).trans (Below.heap_alloc _ _ _ hk)
  have hJ0 : AllJ w5 bo (rec .ready none) p [] W1.heap.size W1 :=
    ⟨⟨.slice none 0 0, (hold bo hbo).trans bO, World.ownsRow_nil _ _ _ _, by simp [Value.ownBlock]⟩, hL1, hK1, fun k hk _ => hold k hk, by omega, by omega, by rw [← hW1]; rfl, by rw [← hW1]; rfl, by rw [← hW1]; rfl⟩
  refine ⟨w5.heap.size + 1, [{ target := .collected w5.heap.size, args := #[] }], W1, { target := .fn (.func 61) #[.pointer (some ⟨Bm, 0, none⟩), .pointer (some ⟨Ba, 0, none⟩)], args := #[.func (.yield (w5.heap.size + 1)) #[] #[]] }, W1, 61,
    #[.func (.yield (w5.heap.size + 1)) #[] #[], .pointer (some ⟨Bm, 0, none⟩), .pointer (some ⟨Ba, 0, none⟩)], W1, ?_, ?_, ?_, ?_, fun _ => by omega, ?_⟩
  · rw [← hW1, hrec]; exact run_enterLoop_outer _ _ _ _ _
  · simp only [resolve, hg]
    simp [go_sem]
  · intro f' _; trivial
  · simp [invoke, go_sem]
  · refine callsIn_wide.2 ?_
    refine (texts1_any 1 al most (w5.heap.size + 1) Bm Ba w5.heap.size (AllJ w5 bo (rec .ready none) p) W1 hmany ha (fun _ _ _ _ _ h hg hb => h.abides hbo hg hb) (fun pre b W h => ?_) hBa ?_ hJ0).mono ?_
    · obtain ⟨_, _, _, h6, _, h8, _⟩ := h
      exact ⟨by omega, ((World.cell?_of_block (a := ⟨Bm, 0, none⟩) (h6 Bm hBm hnm)).trans bM.cell), ((World.cell?_of_block (a := ⟨Ba, 0, none⟩) (h6 Ba hBa hna)).trans bA.cell)⟩
    · -- one round
      intro pre x b W hJ hlt hx hlen
      have hl := hJ.2.1
      have hy := run_yield (P := Try.prog) (args := #[.string x]) hl (by rw [hrec]; rfl)
      rw [hrec] at hy
      refine ⟨fn, _, assign, body, hy, roundIn_of_wpIn hfn ?_⟩
      refine hassign x W _ ?_
      refine ⟨_, run_beginRound hl (by rw [hrec]), ?_⟩
      have hJ2 := hJ.turn hbo { rec .ready none with state := .busy }
      have hb2 : b ≠ w5.heap.size + 1 := by have := hJ.2.2.2.2.2.1; omega
      refine wpIn_mono (hbody _ pre x b _ hJ2 (by rw [size_putObj]; exact hlt) hx hlen) ?_
      rintro e a3 W3 ⟨rfl, hJ3, hb3, hs3⟩
      have hl3 := hJ3.2.1
      have he := run_endRound (P := Try.prog) none hl3
      have hJ4 := hJ3.turn hbo (rec .ready none)
      refine ⟨_, _, he, rfl, ?_, ?_, ?_⟩
      · rw [hrec] at hJ4 ⊢; exact hJ4
      · exact (World.putObj_heap_other (by omega)).trans (hb3.trans (World.putObj_heap_other (by omega)))
      · rw [size_putObj] at hs3 ⊢; exact hs3
    · -- behind the iterator
      rintro e W2 ⟨⟨v, rfl⟩, b, hJ⟩
      refine ⟨none, _, by have := run_endLoop (P := Try.prog) hJ.2.1 (by rw [hrec]; simp); rw [hrec] at this; exact this, ?_⟩
      exact hdone _ b _ (hJ.turn hbo _)

attribute [local go_sem] Oper.semAt_some

set_option maxHeartbeats 400000 in
set_option maxRecDepth 100000 in
theorem texts_any (al : ByteArray) (most : Int) (w : World) :
    Calls Try.prog 50 #[.string al, .int .i64 most] w fun e w' => e = .returned (.func (.func 61) #[] #[.pointer (some ⟨w.heap.size + 1, 0, none⟩), .pointer (some ⟨w.heap.size, 0, none⟩)]) ∧ w' = (w.alloc (.cells #[.string al] 9)).alloc (.cells #[.int .i64 most] 3) := by
  have hmf : ∀ (fn : Fn) (first cap : Array Value) (w : World), (Instr.makeFunc fn first cap).run Try.prog w = .ok (.func fn first cap) w := fun _ _ _ _ => rfl
  go_enter Try.func50, Try.ntmps50
  go_wp2
  go_ret
  exact ⟨rfl, rfl⟩

set_option maxHeartbeats 4000000 in
set_option maxRecDepth 100000 in
theorem all_main (p : List It) (v : Value) (al : ByteArray) (most : Nat) (B : Nat) (w : World) (ht : Its w B v p) (hB : B ≤ w.heap.size) (hl : p.length ≤ 999999) (ha : al.size ≤ 300)
    (htw : twiceQ (bl al) al.size = false) (hmany : cnt al.size (most + 1) ≤ 4096) :
    Calls Try.prog 29 #[v, .string al, .int .i64 (most : Int)] w fun e w' => ∃ v', e = .returned (.tuple #[v', .int .i64 0]) ∧ Below w.heap.size w w' ∧
      w'.ownsRow w.heap.size 9 1 v' (fitL p (bef al (most + 1))).length (cellsT (fitL p (bef al (most + 1)))) := by
  have htwice := fun W => twice_any al W (by omega)
  rw [htw] at htwice
  have hmm := fun W => tooMany_any al.size most W ha
  rw [decide_eq_false (by omega)] at hmm
  have hmf : ∀ (fn : Fn) (first cap : Array Value) (w : World), (Instr.makeFunc fn first cap).run Try.prog w = .ok (.func fn first cap) w := fun _ _ _ _ => rfl
  have k0 : ¬ (most : Int) < 0 := by omega
  refine callsIn_wide (n := 3).1 ?_
  refine callsIn_of_wp_marks Try.func29 rfl trivial ?_ rfl
  simp only [Try.ntmps29, List.size_toArray, List.length_cons, List.length_nil, Nat.reduceAdd, Nat.reduceSub, Array.replicate_succ, Array.replicate_zero, List.push_toArray, List.append_toArray, List.nil_append, List.cons_append]
  refine wpIn_wide.2 ?_
  go_wp2_with fail
  refine (htwice _).mono ?_
  rintro e w1 ⟨rfl, d1, rfl⟩
  clear htwice
  go_wp2_with fail
  refine (hmm _).mono ?_
  rintro e w2 ⟨rfl, rfl⟩
  clear hmm
  go_wp2_with fail
  have bO := Boxed.new (w.drewN d1) 39 (.slice none 0 0)
  generalize hWA : (w.drewN d1).alloc (.cells #[.slice none 0 0] 39) = wA at bO ⊢
  have hbA : Below w.heap.size w wA := by rw [← hWA]; exact (below_drewN (Below.refl _ w) d1).alloc (Nat.le_refl _) _
  have hsA : wA.heap.size = w.heap.size + 1 := by rw [← hWA]; simp
  have bO : Boxed wA w.heap.size 39 (.slice none 0 0) := bO
  clear hWA
  refine (rows_made p v B _ (ht.below (hbA.mono hB)) (by omega) (by omega)).mono ?_
  rintro e w3 ⟨v1, ini, ivs, last, u1, rfl, hmade, hsay, hb3⟩
  have hr := hmade.read
  obtain ⟨ls, hls⟩ : ∃ ls, ini ++ [last] = ls := ⟨_, rfl⟩
  rw [hls] at hr hsay
  have bO3 : Boxed w3 w.heap.size 39 (.slice none 0 0) := (hb3.block _ (by omega)).trans bO
  have hs3 := hb3.size
  have hbB := hbA.trans (hb3.mono (by omega))
  clear bO hb3 hbA ht
  obtain ⟨A1, c1, rfl, hc1, hcm1⟩ := hr.form
  go_wp2_with fail
  refine (texts_any al _ _).mono ?_
  rintro e w4 ⟨rfl, rfl⟩
  obtain ⟨r, hrr⟩ : ∃ r, w3.heap.size = r := ⟨_, rfl⟩
  have e1 : (w3.alloc (.cells #[.slice A1 ls.length c1] 74)).heap.size = r + 1 := by simp [hrr]
  rw [e1, hrr]
  have bR := ((Boxed.new w3 74 (.slice A1 ls.length c1)).alloc (.cells #[.string al] 9)).alloc (.cells #[.int .i64 (most : Int)] 3)
  have bA := (Boxed.new (w3.alloc (.cells #[.slice A1 ls.length c1] 74)) 9 (.string al)).alloc (.cells #[.int .i64 (most : Int)] 3)
  have bM := Boxed.new ((w3.alloc (.cells #[.slice A1 ls.length c1] 74)).alloc (.cells #[.string al] 9)) 3 (.int .i64 (most : Int))
  have bO5 := ((bO3.alloc (.cells #[.slice A1 ls.length c1] 74)).alloc (.cells #[.string al] 9)).alloc (.cells #[.int .i64 (most : Int)] 3)
  have hb5 : Below r w3 (((w3.alloc (.cells #[.slice A1 ls.length c1] 74)).alloc (.cells #[.string al] 9)).alloc (.cells #[.int .i64 (most : Int)] 3)) := (((Below.refl r w3).alloc (by omega) _).alloc (by simp; omega) _).alloc (by simp; omega) _
  have hs5 : (((w3.alloc (.cells #[.slice A1 ls.length c1] 74)).alloc (.cells #[.string al] 9)).alloc (.cells #[.int .i64 (most : Int)] 3)).heap.size = r + 3 := by simp [hrr]
  have e2 : ((w3.alloc (.cells #[.slice A1 ls.length c1] 74)).alloc (.cells #[.string al] 9)).heap.size = r + 2 := by simp [hrr]
  rw [e1] at bA
  rw [e2] at bM
  rw [hrr] at bR hs3
  rw [show r + 1 + 1 = r + 2 from rfl]
  generalize ((w3.alloc (.cells #[.slice A1 ls.length c1] 74)).alloc (.cells #[.string al] 9)).alloc (.cells #[.int .i64 (most : Int)] 3) = w5 at bR bA bM bO5 hb5 hs5 ⊢
  have hmade5 := hmade.away (W := w5) (fun k _ hk => hb5.block k (by omega))
  have hmade5 := fun W h => Lib.hid (hmade5.away (W := W) h).read
  have hbw : Below w.heap.size w w5 := hbB.trans (hb5.mono (by omega))
  clear hb5 hbB bO3 e1 e2 hr hrr hmade
  clear w3
  go_wp2_with fail
  refine (wpIn_wide (n := 3)).1 ?_
  refine range_texts (p := p) (bo := w.heap.size) (al := al) (most := most) rfl (by omega) (by omega) (by omega) (by omega) (by omega) ha hmany bO5 bM bA (fun x => ?a1) ?assign ?body ?done
  case a1 => exact { tmps := #[v, .string al, .int .i64 (most : Int), undef, undef, undef, .slice none 0 0, .int .i64 0, .pointer (some ⟨w.heap.size, 0, none⟩), .pointer (some ⟨r, 0, none⟩), .string x, .int .i64 (most : Int), .bool false, .bool false, .string al, .bool false, .bool false, .string al, .int .i64 (al.size : Int), .int .i64 (most : Int), .bool false, v, .slice A1 ls.length c1, .string al, .int .i64 (most : Int), .func (.func 61) #[] #[.pointer (some ⟨r + 2, 0, none⟩), .pointer (some ⟨r + 1, 0, none⟩)], .string x, undef, undef, undef, undef, undef, undef, undef, undef], defers := [] }
  case assign =>
    intro x W K hK
    gi_wp2
    exact hK
  case body =>
    intro rec pre x b W hJ hlt hx hlen
    obtain ⟨⟨vo, h1, h2, h3⟩, h4, h5, h6, h7, h8, h9, h10, h11⟩ := hJ
    have hcO := h1.cell
    have hcR := (World.cell?_of_block (a := ⟨r, 0, none⟩) (h6 r (by omega) (by omega))).trans bR.cell
    have hrW : Rws W W.heap.size (.slice A1 ls.length c1) ls := by have h9 := (hmade5 W (fun k h1 h2 => h6 k h2 (by omega))).out; rwa [hls] at h9
    have hxs : x.size ≤ 1000000 := by
      have h1 := bef_size hx
      rcases Nat.eq_zero_or_pos al.size with h0 | h0
      · rw [bef_none al h0 (k := 1) (by omega) (by omega)] at hx
        have := bef_size hx; omega
      · have := cnt_ge al.size h0 (most + 1); omega
    have hwh := whole_any ls hsay.1 (says_ne hsay) _ x _ W hrW (says_short hsay hl).1 (says_short hsay hl).2 hxs
    have hm : wholeP (rw_ ls) (bl x) = mt p (bl x) := by rw [← wholeP_mt, ← hsay.2]
    rw [hm] at hwh
    cases hmt : mt p (bl x) with
    | false =>
      rw [hmt] at hwh
      gi_wp2_with fail
      refine ⟨trivial, ?_⟩
      refine (CallsIn.inRound _ (callsIn_wide.2 hwh)).mono ?_
      clear hwh
      rintro e w8 ⟨rfl, d8, rfl⟩
      gi_wp2
      exact ⟨⟨vo, h1, by rw [fitL_miss p pre hmt]; exact h2, h3⟩, h4, h5, h6, h7, h8, h9, h10, h11⟩
    | true =>
      rw [hmt] at hwh
      gi_wp2_with fail
      refine ⟨trivial, ?_⟩
      refine (CallsIn.inRound _ (callsIn_wide.2 hwh)).mono ?_
      clear hwh
      rintro e w8 ⟨rfl, d8, rfl⟩
      generalize hW8 : W.drewN d8 = W8
      have h18 : Boxed W8 w.heap.size 39 vo := by rw [← hW8]; exact h1
      have h28 : W8.ownsRow (w5.heap.size + 2) 9 1 vo (fitL p pre).length (cellsT (fitL p pre)) := by rw [← hW8]; exact h2
      have hs8 : Hid (W8.heap.size = W.heap.size) := by rw [Hid, ← hW8]; rfl
      have hg8 : W.grownBy W8 none := by rw [← hW8]; exact grownBy_drewN _ _ _
      have hcO := h18.cell
      have hlk : (fitL p pre).length ≤ 1000000 := by have := fitL_len p pre; omega
      clear hW8
      gi_wp2_with (gi_at_builtin; refine Hid.out ?_)
      refine Lib.hid ?_
      refine run_appendS _ rfl _ _ rfl (w5.heap.size + 2) vo rfl (h28.alloc _) ⟨W8.heap.size, 0, none⟩ x rfl (by simp) hlk (by have := hs8.out; simp; omega) ?_
      intro v' w1 hown' hgrow hat
      obtain ⟨g', cap', rfl⟩ := ownsRow_succ hown'
      have hv1 := (h18.alloc (.cells #[.string x] 9)).kept hgrow (h18.not_row (by decide) h28)
      have hc1 := hv1.cell
      have hf1 := hv1.frozen
      gi_wp2
      have hg1 : W.grownBy w1 vo.ownBlock := grownBy_trans ⟨hg8.os, hg8.tape, hg8.output, hg8.size, fun k hk _ => hg8.block k hk (by simp)⟩ (grownBy_trans (World.grownBy_alloc W8 _ _) hgrow)
      have hgs := grownBy_setCell' w1 w.heap.size (.slice (some ⟨g', 0, none⟩) ((fitL p pre).length + 1) cap')
      have hlo := h2.lt
      have hoth : ∀ k, k < W.heap.size → k ≠ w.heap.size → some k ≠ vo.ownBlock → (w1.setCell ⟨w.heap.size, 0, none⟩ (.slice (some ⟨g', 0, none⟩) ((fitL p pre).length + 1) cap')).heap[k]? = W.heap[k]? := fun k hk hne ho =>
        (hgs.block k (Nat.lt_of_lt_of_le hk hg1.size) (by simpa using hne)).trans (hg1.block k hk ho)
      have hno : ∀ k, k < w5.heap.size + 2 → some k ≠ vo.ownBlock := fun k hk e => by have := (hlo k e.symm).1; omega
      refine ⟨⟨⟨_, hv1.set _, ?_, ?_⟩, (hoth _ (by omega) (by omega) (hno _ (by omega))).trans h4, (hoth _ (by omega) (by omega) (hno _ (by omega))).trans h5, fun k hk hne => (hoth k (by omega) hne (hno k (by omega))).trans (h6 k hk hne), ?_, h8, hgs.os.trans (hg1.os.trans h9), hgs.tape.trans (hg1.tape.trans h10), hgs.output.trans (hg1.output.trans h11)⟩, ?_, ?_⟩
      · rw [fitL_hit p pre hmt, List.length_append, cellsT_append]
        exact hown'.kept hgs (.inr (hv1.not_row (by decide) hown').symm)
      · rcases hat with e | e
        · rw [e]; exact h3
        · rw [e]; have := hs8.out; simp; omega
      · have := hgs.size; have := hg1.size; omega
      · have h9 := hoth b hlt (by omega) (fun e => h3 e.symm)
        rw [h9]; exact Array.getElem?_eq_getElem hlt
      · first | exact hg1.size | exact Nat.le_trans hg1.size hgs.size
  case done =>
    intro rec b W hJ
    obtain ⟨⟨vo, h1, h2, h3⟩, h4, h5, h6, h7, h8, h9, h10, h11⟩ := hJ
    have hcO := h1.cell
    go_wp2
    refine ⟨by simp, .inl ⟨_, _, rfl, run_takeDeferred h5, ?_⟩⟩
    have hg := grownBy_putObj' W w5.heap.size (.deferred none)
    exact ⟨_, results_tmp2 rfl _ _ _, vo, rfl, ⟨hg.os.trans (h9.trans hbw.os), hg.tape.trans (h10.trans hbw.tape), hg.output.trans (h11.trans hbw.output), by rw [size_putObj]; have := hbw.size; omega,
      fun k hk => (World.putObj_heap_other (by have := hbw.size; omega)).trans ((h6 k (by have := hbw.size; omega) (by omega)).trans (hbw.block k hk))⟩, own_less (ownsRow_putObj h2 _ h5 rfl) (by have := hbw.size; omega)⟩

set_option maxHeartbeats 1000000 in
set_option maxRecDepth 100000 in
theorem all_any (p : List It) (v : Value) (al : ByteArray) (most : Int) (B : Nat) (w : World) (ht : Its w B v p) (hB : B ≤ w.heap.size) (hl : p.length ≤ 999999) (ha : al.size ≤ 300) :
    Calls Try.prog 29 #[v, .string al, .int .i64 most] w fun e w' => ∃ v', e = .returned (.tuple #[v', .int .i64 (allE al most)]) ∧ Below w.heap.size w w' ∧
      w'.ownsRow w.heap.size 9 1 v' (allL p al most).length (cellsT (allL p al most)) := by
  have htwice := fun W => twice_any al W (by omega)
  have hnil : ∀ W : World, ∀ l, l = [] → W.ownsRow w.heap.size 9 1 (.slice none 0 0) l.length (cellsT l) := fun W l hl => by rw [hl]; exact World.ownsRow_nil _ _ _ _
  by_cases h0 : most < 0
  · have hE : allE al most = 1 := by unfold allE; rw [if_pos (.inl h0)]
    have hL : allL p al most = [] := by unfold allL; rw [hE]; rfl
    have hn := fun W => hnil W _ hL
    rw [hE]
    clear htwice
    go_enter Try.func29, Try.ntmps29
    go_wp2
    go_ret2
    exact ⟨_, rfl, Below.refl _ _, hn _⟩
  · by_cases htw : twiceQ (bl al) al.size = true
    · have hE : allE al most = 1 := by unfold allE; rw [if_pos (.inr htw)]
      have hL : allL p al most = [] := by unfold allL; rw [hE]; rfl
      have hn := fun W => hnil W _ hL
      rw [hE]
      rw [htw] at htwice
      go_enter Try.func29, Try.ntmps29
      go_wp2_with fail
      refine (htwice _).mono ?_
      rintro e w1 ⟨rfl, d1, rfl⟩
      clear htwice
      go_wp2
      go_ret2
      exact ⟨_, rfl, below_drewN (Below.refl _ _) _, hn _⟩
    · rw [Bool.not_eq_true] at htw
      obtain ⟨m, rfl⟩ : ∃ m : Nat, most = m := ⟨most.toNat, by omega⟩
      by_cases hmany : 4096 < cnt al.size (m + 1)
      · have hE : allE al m = 20 := by unfold allE; rw [if_neg (by rw [htw]; simp), Int.toNat_natCast, if_pos hmany]
        have hL : allL p al m = [] := by unfold allL; rw [hE]; rfl
        have hn := fun W => hnil W _ hL
        rw [hE]
        rw [htw] at htwice
        have hmm := fun W => tooMany_any al.size m W ha
        rw [decide_eq_true hmany] at hmm
        clear hmany
        go_enter Try.func29, Try.ntmps29
        go_wp2_with fail
        refine (htwice _).mono ?_
        rintro e w1 ⟨rfl, d1, rfl⟩
        clear htwice
        go_wp2_with fail
        refine (hmm _).mono ?_
        rintro e w2 ⟨rfl, rfl⟩
        clear hmm
        go_wp2
        go_ret2
        exact ⟨_, rfl, below_drewN (Below.refl _ _) _, hn _⟩
      · have hE : allE al m = 0 := by unfold allE; rw [if_neg (by rw [htw]; simp), Int.toNat_natCast, if_neg hmany]
        have hL : allL p al m = fitL p (bef al (m + 1)) := by unfold allL; rw [hE, if_pos rfl, Int.toNat_natCast]
        rw [hE, hL]
        exact all_main p v al m B w ht hB hl ha htw (by omega)
end Go.Proofs.Ytnioneknlgbhoaa
