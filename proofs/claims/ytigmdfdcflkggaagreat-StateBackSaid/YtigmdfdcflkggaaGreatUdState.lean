/-
  A log in memory; isNil, refusal, Marks, Len of it, and of no log; New. Conditions: none.
-/
import Derived.Test.YtigmdfdcflkggaaGreatProg
import Derived.Test.YtigmdfdcflkggaaGreatUdMem
import Derived.Deep.RegionHeld3
import Derived.Deep.QuietTactic
import Derived.BigQuiet
namespace Go.Proofs.YtigmdfdcflkggaaGreat
open Go Go.RowKit Go.ChangeMaps

def ptrV (b : Nat) : Value := .pointer (some ⟨b, 0, none⟩)
/-- A function value as notes are. -/
def IsFn (v : Value) : Prop := ∃ (k : Nat) (cap : Array Value), v = .func (.func k) #[] cap
theorem IsFn.one {v : Value} (h : IsFn v) : v.oneCell' = true := by obtain ⟨k, cap, rfl⟩ := h; rfl
theorem Blk.ne {w : World} {a b : Nat} {cur cur' : List Value} {t t' : TypeId} (h : Blk w a cur t) (k : Blk w b cur' t') (ht : t ≠ t') : a ≠ b := fun e => by
  subst e
  have := h.symm.trans k
  simp only [Option.some.injEq, Obj.cells.injEq] at this
  exact ht this.2.1
theorem Row.ne {w : World} {B a : Nat} {e t : TypeId} {v : Value} {n : Nat} {xs cur : List Value} (h : Row w B e v n xs) (k : Blk w a cur t) (ht : e ≠ t) {g : Nat} (hg : v.ownBlock = some g) : g ≠ a := by
  obtain ⟨_, _, cur', hb⟩ := h.lt hg
  exact hb.ne k ht
theorem Row.ne2 {w : World} {B B' : Nat} {e t : TypeId} {v v' : Value} {n n' : Nat} {xs xs' : List Value} (h : Row w B e v n xs) (k : Row w B' t v' n' xs') (ht : e ≠ t) {g g' : Nat} (hg : v.ownBlock = some g) (hg' : v'.ownBlock = some g') : g ≠ g' := by
  obtain ⟨_, _, cur', hb⟩ := h.lt hg
  obtain ⟨_, _, cur2, hb2⟩ := k.lt hg'
  exact hb.ne hb2 ht

/-- A mark: its block, and how many notes there were, and how many counted. -/
structure Mk where
  blk : Nat
  notes : Nat
  count : Nat
def logC (most nest : Nat) (mv nv : Value) (c : Nat) : List Value := [.int .i64 (most : Int), .int .i64 (nest : Int), mv, nv, .int .i64 (c : Int)]
def mkC (m : Mk) (gone : Bool) : List Value := [.int .i64 (m.notes : Int), .int .i64 (m.count : Int), .bool gone]
structure LogR (w : World) (B lb most nest : Nat) (mv : Value) (ms : List Mk) (nv : Value) (fs : List Value) (c : Nat) : Prop where
  hB : B ≤ lb
  blk : Blk w lb (logC most nest mv nv c) 101
  mrow : Row w B 112 mv ms.length (ms.map fun m => ptrV m.blk)
  nrow : Row w B 1 nv fs.length fs
  mks : ∀ m ∈ ms, B ≤ m.blk ∧ Blk w m.blk (mkC m false) 114
  ap : (ms.map Mk.blk).Nodup
  nest1 : 1 ≤ nest
  nest2 : nest ≤ 1024
  most2 : most ≤ 1048576
  cp : c ≤ most
  mp : ms.length ≤ nest
  fc : fs.length ≤ c
  fn : ∀ v ∈ fs, IsFn v
  mc : ∀ m ∈ ms, m.notes ≤ m.count ∧ m.count ≤ most
/-- The types of the blocks that a log has. -/
def LogT (t : TypeId) : Prop := t = 101 ∨ t = 112 ∨ t = 1 ∨ t = 114
def LogAt (w : World) (B lb most nest : Nat) (ms : List Mk) (fs : List Value) (c : Nat) : Prop := ∃ mv nv, LogR w B lb most nest mv ms nv fs c

section
variable {w w' : World} {B lb most nest c : Nat} {mv nv : Value} {ms : List Mk} {fs : List Value}
/-- What keeps the blocks of a log's types keeps the log. -/
structure KeepL (w w' : World) : Prop where
  size : w.heap.size ≤ w'.heap.size
  keep : ∀ (b : Nat) (cur : Array Value) (t : TypeId) (f : Nat × Nat), w.heap[b]? = some (.cells cur t f) → LogT t → w'.heap[b]? = w.heap[b]?
theorem KeepL.blk (h : KeepL w w') {b : Nat} {cur : List Value} {t : TypeId} (k : Blk w b cur t) (ht : LogT t) : Blk w' b cur t := (h.keep b _ _ _ k ht).trans k
theorem KeepL.row (h : KeepL w w') {e : TypeId} {v : Value} {n : Nat} {xs : List Value} (k : Row w B e v n xs) (ht : LogT e) : Row w' B e v n xs := k.keep fun g hg => by
  obtain ⟨_, _, cur, hb⟩ := k.lt hg
  exact h.keep g _ _ _ hb ht
theorem LogR.keep (h : LogR w B lb most nest mv ms nv fs c) (k : KeepL w w') : LogR w' B lb most nest mv ms nv fs c :=
  { h with
    blk := k.blk h.blk (.inl rfl)
    mrow := k.row h.mrow (.inr (.inl rfl))
    nrow := k.row h.nrow (.inr (.inr (.inl rfl)))
    mks := fun m hm => ⟨(h.mks m hm).1, k.blk (h.mks m hm).2 (.inr (.inr (.inr rfl)))⟩ }
theorem LogAt.keep (h : LogAt w B lb most nest ms fs c) (k : KeepL w w') : LogAt w' B lb most nest ms fs c := by
  obtain ⟨mv, nv, h⟩ := h
  exact ⟨mv, nv, h.keep k⟩
theorem KeepL.of_fr {B' : Nat} {T : TypeId → Prop} {M : Nat → Prop} (h : Fr B' T M w w') (hT : ∀ t, LogT t → ¬ T t) (hM : ∀ b, M b → ∀ cur t f, w.heap[b]? = some (.cells cur t f) → ¬ LogT t) : KeepL w w' :=
  ⟨h.size, fun b cur t f hb ht => h.keep b (Array.getElem?_eq_some_iff.1 hb).1 (.inr ⟨fun k => hM b k cur t f hb ht, fun cur' t' f' hb' => by
    rw [hb] at hb'
    simp only [Option.some.injEq, Obj.cells.injEq] at hb'
    rw [← hb'.2.1]; exact hT t ht⟩)⟩
theorem KeepL.drewN (w : World) (n : Nat) : KeepL w (w.drewN n) := ⟨Nat.le_refl _, fun _ _ _ _ _ _ => rfl⟩
theorem KeepL.alloc (w : World) (o : Obj) : KeepL w (w.alloc o) := ⟨by simp, fun b _ _ _ hb _ => Below.heap_alloc w o b (Array.getElem?_eq_some_iff.1 hb).1⟩
theorem KeepL.of_below (h : Below w.heap.size w w') : KeepL w w' := ⟨h.size, fun b _ _ _ hb _ => h.block b (Array.getElem?_eq_some_iff.1 hb).1⟩
theorem LogAt.lt (h : LogAt w B lb most nest ms fs c) : lb < w.heap.size := by obtain ⟨mv, nv, h⟩ := h; exact h.blk.lt

set_option maxRecDepth 100000 in
theorem isNil_no (h : LogR w B lb most nest mv ms nv fs c) :
    Calls Tryz.prog 77 #[ptrV lb] w fun e w' => e = .returned (.bool false) ∧ w' = w := by
  have c1 := h.blk.cell (i := 1) rfl
  have hlt := h.blk.lt
  have hn : ((nest : Int) == 0) = false := by have := h.nest1; rw [beq_eq_false_iff_ne]; omega
  unfold ptrV
  clear h
  go_enter Tryz.func77, Tryz.ntmps77
  go_wp2
  go_ret
  exact ⟨rfl, rfl⟩
set_option maxRecDepth 100000 in
theorem isNil_yes (w : World) :
    Calls Tryz.prog 77 #[.pointer none] w fun e w' => e = .returned (.bool true) ∧ w' = w := by
  go_enter Tryz.func77, Tryz.ntmps77
  go_wp2
  go_ret
  exact ⟨rfl, rfl⟩
set_option maxRecDepth 100000 in
theorem Marks_nil (w : World) :
    Calls Tryz.prog 16 #[.pointer none] w fun e w' => e = .returned (.int .i64 0) ∧ w' = w := by
  go_enter Tryz.func16, Tryz.ntmps16
  go_wp2_with fail
  refine (isNil_yes _).mono ?_
  rintro e w' ⟨rfl, rfl⟩
  go_wp2
  go_ret
  exact ⟨rfl, rfl⟩
set_option maxRecDepth 100000 in
theorem Marks_any (h : LogAt w B lb most nest ms fs c) :
    Calls Tryz.prog 16 #[ptrV lb] w fun e w' => e = .returned (.int .i64 (ms.length : Int)) ∧ w' = w := by
  obtain ⟨mv, nv, h⟩ := h
  have hi := isNil_no h
  obtain ⟨A, cc, rfl, hc, hcm⟩ := h.mrow.form
  have c2 := h.blk.cell (i := 2) rfl
  have hlt := h.blk.lt
  unfold ptrV at hi ⊢
  generalize ms.length = K at c2 hc
  clear h
  go_enter Tryz.func16, Tryz.ntmps16
  go_wp2_with fail
  refine hi.mono ?_
  rintro e w' ⟨rfl, hw⟩
  obtain rfl := hw.symm
  go_wp2
  go_ret
  exact ⟨rfl, rfl⟩
/-- What a note is refused with. -/
def refE (most : Nat) (ms : List Mk) (c : Nat) : Int := if ms ≠ [] ∧ c = most then 43 else 0
set_option maxRecDepth 100000 in
theorem refusal_nil (w : World) :
    Calls Tryz.prog 130 #[.pointer none] w fun e w' => e = .returned (.int .i64 2) ∧ w' = w := by
  go_enter Tryz.func130, Tryz.ntmps130
  go_wp2_with fail
  refine (isNil_yes _).mono ?_
  rintro e w' ⟨rfl, rfl⟩
  go_wp2
  go_ret
  exact ⟨rfl, rfl⟩
set_option maxRecDepth 100000 in
theorem refusal_any (h : LogAt w B lb most nest ms fs c) :
    Calls Tryz.prog 130 #[ptrV lb] w fun e w' => e = .returned (.int .i64 (refE most ms c)) ∧ ∃ n, w' = w.drewN n := by
  obtain ⟨mv, nv, h⟩ := h
  have hi := isNil_no h
  obtain ⟨A, cc, rfl, hc, hcm⟩ := h.mrow.form
  have c2 := h.blk.cell (i := 2) rfl
  have c4 := h.blk.cell (i := 4) rfl
  have c0 := h.blk.cell (i := 0) rfl
  have hlt := h.blk.lt
  unfold ptrV at hi ⊢
  clear h
  obtain ⟨E, hE⟩ : ∃ E, refE most ms c = E := ⟨_, rfl⟩
  rw [hE]
  unfold refE at hE
  cases ms with
  | nil =>
    simp only [ne_eq, not_true_eq_false, false_and, if_false] at hE
    subst hE
    simp only [List.length_nil] at c2 hc
    go_enter Tryz.func130, Tryz.ntmps130
    go_wp2_with fail
    refine hi.mono ?_
    rintro e w' ⟨rfl, hw⟩
    obtain rfl := hw.symm
    have hd : decide ((0 : Int) < ((0 : Nat) : Int)) = false := rfl
    go_wp2_with fail
    go_quiet (fail)
    go_wp2
    go_ret
    exact ⟨rfl, _, rfl⟩
  | cons m ms =>
    obtain ⟨K, hK⟩ : ∃ K, (m :: ms).length = K := ⟨_, rfl⟩
    have hK0 : 0 < K := by rw [← hK]; simp
    rw [hK] at c2 hc
    clear hK
    simp only [ne_eq, reduceCtorEq, not_false_eq_true, true_and] at hE
    have hd : decide (0 < K) = true := by simpa using hK0
    by_cases hcm' : c = most
    · rw [if_pos hcm'] at hE
      subst hE hcm'
      go_enter Tryz.func130, Tryz.ntmps130
      go_wp2_with fail
      refine hi.mono ?_
      rintro e w' ⟨rfl, hw⟩
      obtain rfl := hw.symm
      go_wp2_with fail
      go_quiet (fail)
      go_wp2
      go_ret
      exact ⟨rfl, _, rfl⟩
    · rw [if_neg hcm'] at hE
      subst hE
      have hne : ((c : Int) == (most : Int)) = false := by rw [beq_eq_false_iff_ne]; omega
      have hne2 : (c == most) = false := by rw [beq_eq_false_iff_ne]; omega
      go_enter Tryz.func130, Tryz.ntmps130
      go_wp2_with fail
      refine hi.mono ?_
      rintro e w' ⟨rfl, hw⟩
      obtain rfl := hw.symm
      go_wp2_with fail
      go_quiet (fail)
      go_wp2
      go_ret
      exact ⟨rfl, _, rfl⟩
end

set_option maxRecDepth 100000 in
theorem New_no (most nest : Int) (w : World) (h : most < 0 ∨ 1048576 < most ∨ nest < 1 ∨ 1024 < nest) :
    Calls Tryz.prog 38 #[.int .i64 most, .int .i64 nest] w fun e w' => e = .returned (.tuple #[.pointer none, .int .i64 1]) ∧ w' = w := by
  by_cases h1 : most < 0
  · go_enter Tryz.func38, Tryz.ntmps38
    go_wp2
    go_ret2
    exact ⟨rfl, rfl⟩
  by_cases h2 : 1048576 < most
  · go_enter Tryz.func38, Tryz.ntmps38
    go_wp2
    go_ret2
    exact ⟨rfl, rfl⟩
  by_cases h3 : nest < 1
  · go_enter Tryz.func38, Tryz.ntmps38
    go_wp2
    go_ret2
    exact ⟨rfl, rfl⟩
  have h4 : 1024 < nest := by omega
  clear h
  go_enter Tryz.func38, Tryz.ntmps38
  go_wp2
  go_ret2
  exact ⟨rfl, rfl⟩
set_option maxRecDepth 100000 in
theorem New_yes (most nest : Nat) (B : Nat) (w : World) (h1 : most ≤ 1048576) (h2 : 1 ≤ nest) (h3 : nest ≤ 1024) (hB : B ≤ w.heap.size) :
    Calls Tryz.prog 38 #[.int .i64 (most : Int), .int .i64 (nest : Int)] w fun e w' => e = .returned (.tuple #[ptrV w.heap.size, .int .i64 0]) ∧ LogAt w' B w.heap.size most nest [] [] 0 ∧ Below w.heap.size w w' ∧ w'.heap.size = w.heap.size + 1 := by
  have i1 : ¬ (most : Int) < 0 := by omega
  have i2 : ¬ 1048576 < (most : Int) := by omega
  have i3 : ¬ (nest : Int) < 1 := by omega
  have i4 : ¬ 1024 < (nest : Int) := by omega
  have hb : Blk (w.alloc (.cells #[.int .i64 (most : Int), .int .i64 (nest : Int), .slice none 0 0, .slice none 0 0, .int .i64 0] 101)) w.heap.size (logC most nest (.slice none 0 0) (.slice none 0 0) 0) 101 := Blk.new w _ _
  have hl : LogAt (w.alloc (.cells #[.int .i64 (most : Int), .int .i64 (nest : Int), .slice none 0 0, .slice none 0 0, .int .i64 0] 101)) B w.heap.size most nest [] [] 0 :=
    ⟨_, _, hB, hb, Row.nil_ _ _ _, Row.nil_ _ _ _, (fun _ h => by cases h), List.nodup_nil, h2, h3, h1, Nat.zero_le _, Nat.zero_le _, Nat.le_refl _, (fun _ h => by cases h), (fun _ h => by cases h)⟩
  replace hl := Lib.hid hl
  clear hb h1 h2 h3
  unfold ptrV
  go_enter Tryz.func38, Tryz.ntmps38
  go_wp2
  go_ret2
  exact ⟨rfl, hl.out, (Below.refl _ w).alloc (Nat.le_refl _) _, by simp⟩
end Go.Proofs.YtigmdfdcflkggaaGreat
