/-
  A pool with all its buffers, open and closed ones: what each call answers and leaves. Conditions: at most a million bytes and buffers; numbers of the size of a pool's.
-/
import Derived.Test.YtbjakhiflgjflaaGreatDoorSpClose
namespace Go.Proofs.YtbjakhiflgjflaaGreatDoor
open Go Go.RowKit

def tally {α : Type} (f : α → Nat) : List α → Nat
  | [] => 0
  | x :: l => f x + tally f l
theorem tally_app {α : Type} (f : α → Nat) (l : List α) (x : α) : tally f (l ++ [x]) = tally f l + f x := by
  induction l with
  | nil => simp [tally]
  | cons a l ih => simp only [List.cons_append, tally, ih]; omega
theorem tally_set {α : Type} (f : α → Nat) {l : List α} {k : Nat} {y : α} (h : l[k]? = some y) (x : α) : tally f (l.set k x) + f y = tally f l + f x := by
  induction l generalizing k with
  | nil => simp at h
  | cons a l ih =>
    cases k with
    | zero => simp at h; subst h; simp only [List.set_cons_zero, tally]; omega
    | succ k =>
      have := ih (k := k) (by simpa using h)
      simp only [List.set_cons_succ, tally]
      omega
theorem tally_ge {α : Type} (f : α → Nat) {l : List α} {k : Nat} {y : α} (h : l[k]? = some y) : f y ≤ tally f l := by
  induction l generalizing k with
  | nil => simp at h
  | cons a l ih =>
    cases k with
    | zero => simp at h; subst h; simp only [tally]; omega
    | succ k =>
      have := ih (k := k) (by simpa using h)
      simp only [tally]
      omega
theorem tally_one {α : Type} {f : α → Nat} (hf : ∀ x, f x ≤ 1) (l : List α) : tally f l ≤ l.length := by
  induction l with
  | nil => simp [tally]
  | cons a l ih => have := hf a; simp only [tally, List.length_cons]; omega

/-- A buffer's block, and what it has while it is open. -/
abbrev Ent := Nat × Option Bs
def heldOf : Ent → Nat | (_, some b) => b.all.length - b.gone | (_, none) => 0
def usedOf : Ent → Nat | (_, some b) => b.cs.length | (_, none) => 0
def openOf : Ent → Nat | (_, some _) => 1 | (_, none) => 0
def poolOf (q M C : Nat) (es : List Ent) : Ps := ⟨q, M, C, tally heldOf es, tally usedOf es, tally openOf es⟩

def EntAt (w : World) (B : Nat) (lab : Nat → Lab) (pb M C k : Nat) : Ent → Prop
  | (bb, some b) => Blk w bb (bufC pb b.gone b.all.length b.m b.c) 232 ∧ BufR w B lab bb k M C b
  | (bb, none) => Blk w bb shutC 232 ∧ lab bb = .own k 0 ∧ B ≤ bb

structure AllR (w : World) (B : Nat) (lab : Nat → Lab) (pb q M C : Nat) (es : List Ent) (tot : Nat) (S : Value) (sp : List Value) : Prop where
  pool : PoolAt w B lab pb (poolOf q M C es) S sp
  new : ∀ g, w.heap.size ≤ g → lab g = .free
  ent : ∀ k e, es[k]? = some e → EntAt w B lab pb M C k e
  few : sp.length + tally usedOf es ≤ tot
  long : ∀ (k bb : Nat) (b : Bs), es[k]? = some (bb, some b) → b.all.length ≤ tot
  par : q ≤ 1048576 ∧ M ≤ 65536 ∧ 0 < C ∧ C ≤ 65536
  hq : tally heldOf es ≤ q
  base : B ≤ w.heap.size
def All (w : World) (B pb q M C : Nat) (es : List Ent) (tot : Nat) : Prop := ∃ lab S sp, AllR w B lab pb q M C es tot S sp

theorem EntAt.keep {w w' : World} {B pb M C k : Nat} {lab lab' : Nat → Lab} {e : Ent} (h : EntAt w B lab pb M C k e) (hk : ∀ g, g < w.heap.size → (∃ t, lab g = .own k t) → w'.heap[g]? = w.heap[g]? ∧ lab' g = lab g) : EntAt w' B lab' pb M C k e := by
  obtain ⟨bb, o⟩ := e
  cases o with
  | none =>
    obtain ⟨h1, h2, h3⟩ := h
    exact ⟨(hk bb h1.lt ⟨_, h2⟩).1.trans h1, (hk bb h1.lt ⟨_, h2⟩).2.trans h2, h3⟩
  | some b =>
    obtain ⟨h1, h2⟩ := h
    exact ⟨(hk bb h1.lt ⟨_, h2.lb⟩).1.trans h1, h2.keep h1.lt hk⟩
/-- The other buffers stand over a step of one. -/
theorem EntAt.step {w w' : World} {B pb M C k j : Nat} {lab lab' : Nat → Lab} {e : Ent} (h : EntAt w B lab pb M C j e) (hs : Step B k w.heap.size w lab w' lab') (hj : j ≠ k) : EntAt w' B lab' pb M C j e :=
  h.keep fun g hg ⟨t, ht⟩ => by
    have hm : ¬ Mine k (lab g) := by rw [ht]; exact hj
    exact ⟨hs.mv.block g hg (fun h => h.elim hm (fun h => by omega)), hs.lb g hg hm⟩

section
variable {w : World} {B pb q M C tot k bb : Nat} {es : List Ent} {b : Bs}

/-- Behind a step of buffer k. -/
theorem AllR.step {w' : World} {lab lab' : Nat → Lab} {S S' : Value} {sp sp' : List Value} {e e' : Ent} {tot' : Nat} (h : AllR w B lab pb q M C es tot S sp) (hk : es[k]? = some e) (hs : Step B k w.heap.size w lab w' lab')
    (hP : PoolAt w' B lab' pb (poolOf q M C (es.set k e')) S' sp') (he : EntAt w' B lab' pb M C k e') (ht : tot ≤ tot') (hf : sp'.length + tally usedOf (es.set k e') ≤ tot') (hl : ∀ (bb : Nat) (b : Bs), e' = (bb, some b) → b.all.length ≤ tot') (hq : tally heldOf (es.set k e') ≤ q) : All w' B pb q M C (es.set k e') tot' := by
  have hkl : k < es.length := (List.getElem?_eq_some_iff.1 hk).1
  refine ⟨lab', S', sp', hP, hs.new, fun j x hx => ?_, hf, fun j bb b hx => ?_, h.par, hq, Nat.le_trans h.base hs.mv.size⟩
  · rw [List.getElem?_set] at hx
    split at hx
    · rename_i hjk
      subst hjk
      cases hx
      exact he
    · rename_i hjk
      exact (h.ent j x hx).step hs (fun e => hjk e.symm)
  · rw [List.getElem?_set] at hx
    split at hx
    · exact hl bb b (Option.some.inj hx)
    · exact Nat.le_trans (h.long j bb b hx) ht

theorem mv_any {S : Nat → Prop} {w' : World} (h : Mv B S w w') : Mv B (fun _ => True) w w' := h.mono fun _ _ _ => trivial
theorem All.drewN (h : All w B pb q M C es tot) (n : Nat) : All (w.drewN n) B pb q M C es tot := by
  obtain ⟨lab, S, sp, h⟩ := h
  exact ⟨lab, S, sp, h.pool.keep fun _ _ _ => ⟨rfl, rfl⟩, h.new, fun k e he => (h.ent k e he).keep fun _ _ _ => ⟨rfl, rfl⟩, h.few, h.long, h.par, h.hq, h.base⟩
theorem row_far {w' : World} {e : TypeId} {v : Value} {n : Nat} {xs : List Value} (h : Row w B e v n xs) (he : Four e) (hk : ∀ g cur t, B ≤ g → Blk w g cur t → Four t → w'.heap[g]? = w.heap[g]?) : Row w' B e v n xs :=
  h.keep fun g hg => by
    obtain ⟨h1, _, cur, h2⟩ := h.lt hg
    exact hk g cur e h1 h2 he
/-- Blocks that are not the package's may change. -/
theorem All.far {w' : World} (h : All w B pb q M C es tot) (hs : w.heap.size ≤ w'.heap.size) (hk : ∀ g cur t, B ≤ g → Blk w g cur t → Four t → w'.heap[g]? = w.heap[g]?) : All w' B pb q M C es tot := by
  obtain ⟨lab, S, sp, h⟩ := h
  refine ⟨lab, S, sp, ?_, fun g hg => h.new g (Nat.le_trans hs hg), fun k e he => ?_, h.few, h.long, h.par, h.hq, Nat.le_trans h.base hs⟩
  · exact { h.pool with
      blk := (hk pb _ _ h.pool.low h.pool.blk four_pool).trans h.pool.blk
      arr := row_far h.pool.arr four_rows hk
      str := fun v hv => by
        obtain ⟨bs, hb⟩ := h.pool.str v hv
        exact ⟨bs, row_far hb four_byte hk⟩ }
  · have he := h.ent k e he
    obtain ⟨bb, o⟩ := e
    cases o with
    | none =>
      obtain ⟨h1, h2, h3⟩ := he
      exact ⟨(hk bb _ _ h3 h1 four_buf).trans h1, h2, h3⟩
    | some b =>
      obtain ⟨h1, h2⟩ := he
      exact ⟨(hk bb _ _ h2.low h1 four_buf).trans h1, { h2 with
        mm := fun hm => row_far (h2.mm hm) four_byte hk
        arr := row_far h2.arr four_rows hk
        str := fun i v hv => row_far (h2.str i v hv) four_byte hk }⟩

theorem all_new (q M C : Nat) (hq : q ≤ 1048576) (hm : M ≤ 65536) (hc0 : 1 ≤ C) (hc : C ≤ 65536) (hB : B ≤ w.heap.size) :
    Calls Tryz.prog 44 #[.int .i64 (q : Int), .int .i64 (M : Int), .int .i64 (C : Int)] w fun e w' => e = .returned (.tuple #[.pointer (some ⟨w.heap.size, 0, none⟩), .int .i64 0]) ∧ All w' B w.heap.size q M C [] 0 ∧ Mv B (fun _ => True) w w' ∧ w'.heap.size = w.heap.size + 1 := by
  refine (New_ok q M C w hq hm hc0 hc).mono ?_
  rintro e w' ⟨he, rfl⟩
  refine ⟨he, ⟨fun g => if g = w.heap.size then .pool else .free, .slice none 0 0, [], ?_⟩, Mv.alloc _ _ _ _, by simp⟩
  exact {
    pool := {
      blk := Blk.new w _ _
      low := hB
      lb := if_pos rfl
      arr := Row.nil_ _ _ _
      arl := fun g h => by cases h
      str := fun v hv => by cases hv
      stl := fun v hv => by cases hv
      nd := by simp }
    new := fun g hg => if_neg (by simp at hg; omega)
    ent := fun k e h => by simp at h
    few := by simp [tally]
    long := fun k bb b h => by simp at h
    par := ⟨hq, hm, hc0, hc⟩
    hq := by simp [tally]
    base := by simp; omega }

theorem all_open (h : All w B pb q M C es tot) (hn : es.length ≤ 1000000) :
    Calls Tryz.prog 95 #[.pointer (some ⟨pb, 0, none⟩)] w fun e w' => e = .returned (.pointer (some ⟨w.heap.size, 0, none⟩)) ∧
      All w' B pb q M C (es ++ [(w.heap.size, some ⟨[], 0, M, .slice none 0 0, .slice none 0 0, []⟩)]) tot ∧ Mv B (fun _ => True) w w' ∧ w'.heap.size = w.heap.size + 1 := by
  obtain ⟨lab, S, sp, h⟩ := h
  have hnb : (poolOf q M C es).nb ≤ 1000000 := Nat.le_trans (tally_one (fun x => by obtain ⟨_, o⟩ := x; cases o <;> simp [openOf]) es) hn
  refine (Open_ok B pb _ S w h.pool.blk h.pool.low hnb).mono ?_
  rintro e w' ⟨he, hb, hbb, hm, hs⟩
  have hnz : ∀ g, g < w.heap.size → (if g = w.heap.size then Lab.own es.length 0 else lab g) = lab g := fun g hg => if_neg (by omega)
  have hst : ∀ g, g < w.heap.size → g ≠ pb → w'.heap[g]? = w.heap[g]? := fun g hg hne => hm.block g hg hne
  refine ⟨he, ⟨fun g => if g = w.heap.size then .own es.length 0 else lab g, S, sp, ?_⟩, mv_any hm, hs⟩
  have e1 : poolOf q M C (es ++ [(w.heap.size, some ⟨[], 0, M, .slice none 0 0, .slice none 0 0, []⟩)]) = { poolOf q M C es with nb := (poolOf q M C es).nb + 1 } := by
    simp only [poolOf, tally_app, heldOf, usedOf, openOf, List.length_nil, Nat.add_zero, Nat.zero_sub]
  exact {
    pool := by
      rw [e1]
      exact (h.pool.head hb hst).keep (w := w') (lab' := fun g => if g = w.heap.size then Lab.own es.length 0 else lab g) fun g _ hl => ⟨rfl, if_neg fun e => by
        rw [e, h.new _ (Nat.le_refl _)] at hl
        simp at hl⟩
    new := fun g hg => by
      show (if g = w.heap.size then Lab.own es.length 0 else lab g) = .free
      rw [if_neg (by omega)]
      exact h.new g (by omega)
    ent := fun k x hx => by
      rw [List.getElem?_append] at hx
      split at hx
      · exact (h.ent k x hx).keep fun g hg ⟨t, ht⟩ => ⟨hst g hg (lab_ne ht h.pool.lb nofun), hnz g hg⟩
      · rename_i hk
        obtain ⟨hk0, hx⟩ := List.getElem?_eq_some_iff.1 hx
        have hk1 : k = es.length := by simp at hk0; omega
        subst hk1
        simp at hx
        subst hx
        refine ⟨hbb, ?_⟩
        exact {
          low := h.base
          lb := if_pos rfl
          gl := Nat.le_refl _
          mm := fun _ => by simp; exact Row.nil_ _ _ _
          ml := fun _ g hg => by cases hg
          arr := Row.nil_ _ _ _
          arl := fun g hg => by cases hg
          qq := ⟨0, by simp⟩
          qg := by
            show 0 < M ∧ M = M ∨ M ≤ 0 ∧ 0 < M + C
            have := h.par.2.2.1
            omega
          hi := by simp
          lo := fun i hi => by simp at hi
          str := fun i v hv => by simp at hv
          stl := fun v hv => by simp at hv
          nd := by simp }
    few := by rw [tally_app]; exact h.few
    long := fun k bb b hx => by
      rw [List.getElem?_append] at hx
      split at hx
      · exact h.long k bb b hx
      · obtain ⟨hk0, hx⟩ := List.getElem?_eq_some_iff.1 hx
        simp at hx
        obtain ⟨_, rfl⟩ := hx
        exact Nat.zero_le _
    par := h.par
    hq := by rw [tally_app]; exact h.hq
    base := by have := h.base; omega }

theorem all_append (data : ByteArray) (h : All w B pb q M C es tot) (hk : es[k]? = some (bb, some b)) (ht : tot + data.size ≤ 500000) :
    Calls Tryz.prog 283 #[.pointer (some ⟨bb, 0, none⟩), .string data] w fun e w' =>
      (tally heldOf es + data.size ≤ q ∧ e = .returned (.int .i64 0) ∧ (∃ b' : Bs, All w' B pb q M C (es.set k (bb, some b')) (tot + data.size) ∧ b'.all = b.all ++ tl data ∧ b'.gone = b.gone) ∨
       q < tally heldOf es + data.size ∧ e = .returned (.int .i64 41) ∧ All w' B pb q M C es tot) ∧ Mv B (fun _ => True) w w' := by
  have hA := h
  obtain ⟨lab, S, sp, h⟩ := h
  obtain ⟨hblk, hR⟩ := h.ent k _ hk
  have hlen := h.long k bb b hk
  obtain ⟨p1, p2, p3, p4⟩ := h.par
  have hhq := h.hq
  by_cases hq : tally heldOf es + data.size ≤ q
  · have hfew := h.few
    refine (append_ok (p := poolOf q M C es) h.pool hblk hR h.new h.base (by omega) p2 ⟨p3, p4⟩ (by show sp.length + tally usedOf es + data.size ≤ _; omega) hq p1).mono ?_
    rintro e w' ⟨he, lab', u, S', sp', b', hP', hblk', hR', hall, hgone, hst, hcnt, hfw⟩
    refine ⟨.inl ⟨hq, he, b', ?_, hall, hgone⟩, mv_any hst.mv⟩
    have hgl := hR.gl
    have hl' : b'.all.length = b.all.length + data.size := by rw [hall, List.length_append, tl_len]
    have e1 : tally heldOf (es.set k (bb, some b')) = tally heldOf es + data.size := by
      have := tally_set heldOf hk (bb, some b')
      simp only [heldOf, hgone, hl'] at this
      omega
    have e2 : tally usedOf (es.set k (bb, some b')) = u := by
      have := tally_set usedOf hk (bb, some b')
      have hcnt : u + b.cs.length = tally usedOf es + b'.cs.length := hcnt
      simp only [usedOf] at this
      omega
    have e3 : tally openOf (es.set k (bb, some b')) = tally openOf es := by
      have := tally_set openOf hk (bb, some b')
      simp only [openOf] at this
      omega
    refine h.step hk hst (by unfold poolOf; rw [e1, e2, e3]; exact hP') ⟨by rw [hgone]; exact hblk', hR'⟩ (Nat.le_add_right _ _) (by rw [e2]; have hfw : sp'.length + u ≤ sp.length + tally usedOf es + data.size := hfw; omega) (fun bb' b'' e => by cases e; omega) (by omega)
  · refine (append_no (p := poolOf q M C es) b.gone b.all.length b.m b.c h.pool.blk hblk (by omega) (by show q < tally heldOf es + data.size; omega) p1 (by show tally heldOf es ≤ _; omega)).mono ?_
    rintro e w' ⟨he, n, rfl⟩
    exact ⟨.inr ⟨by omega, he, hA.drewN n⟩, heap_mv ⟨n, rfl⟩⟩

theorem all_drain (n : Nat) (h : All w B pb q M C es tot) (hk : es[k]? = some (bb, some b)) (ht : tot ≤ 500000) :
    Calls Tryz.prog 279 #[.pointer (some ⟨bb, 0, none⟩), .int .i64 (n : Int)] w fun e w' => e = .returned (.tuple #[.string ⟨((b.all.drop b.gone).take n).toArray⟩, .int .i64 0]) ∧
      (∃ b' : Bs, All w' B pb q M C (es.set k (bb, some b')) tot ∧ b'.all = b.all ∧ b'.gone = b.gone + min n (b.all.length - b.gone)) ∧ Mv B (fun _ => True) w w' := by
  obtain ⟨lab, S, sp, h⟩ := h
  obtain ⟨hblk, hR⟩ := h.ent k _ hk
  have hlen := h.long k bb b hk
  obtain ⟨p1, p2, p3, p4⟩ := h.par
  have hhq := h.hq
  have hfew := h.few
  have hu := tally_ge usedOf hk
  have hh := tally_ge heldOf hk
  refine (drain_ok (p := poolOf q M C es) n h.pool hblk hR h.new h.base (by omega) p2 ⟨p3, p4⟩ (by show sp.length + tally usedOf es ≤ _; omega) hu hh (by show tally heldOf es ≤ _; omega)).mono ?_
  rintro e w' ⟨he, lab', u, S', sp', b', hP', hblk', hR', hall, hgone, hst, hcnt, hfw⟩
  refine ⟨he, ⟨b', ?_, hall, hgone⟩, mv_any hst.mv⟩
  have hgl := hR.gl
  have e1 : tally heldOf (es.set k (bb, some b')) = tally heldOf es - min n (b.all.length - b.gone) := by
    have := tally_set heldOf hk (bb, some b')
    simp only [heldOf, hgone, hall] at this hh
    omega
  have e2 : tally usedOf (es.set k (bb, some b')) = u := by
    have := tally_set usedOf hk (bb, some b')
    have hcnt : u + b.cs.length = tally usedOf es + b'.cs.length := hcnt
    simp only [usedOf] at this
    omega
  have e3 : tally openOf (es.set k (bb, some b')) = tally openOf es := by
    have := tally_set openOf hk (bb, some b')
    simp only [openOf] at this
    omega
  exact h.step hk hst (by unfold poolOf; rw [e1, e2, e3]; exact hP') ⟨by rw [hgone, hall]; exact hblk', hR'⟩ (Nat.le_refl _) (by rw [e2]; have hfw : sp'.length + u ≤ sp.length + tally usedOf es := hfw; omega) (fun bb' b'' e => by cases e; rw [hall]; omega) (by omega)

theorem all_close (h : All w B pb q M C es tot) (hk : es[k]? = some (bb, some b)) (ht : tot ≤ 500000) (hn : es.length ≤ 1000000) :
    Calls Tryz.prog 273 #[.pointer (some ⟨bb, 0, none⟩)] w fun e w' => e = .returned (.int .i64 0) ∧ All w' B pb q M C (es.set k (bb, none)) tot ∧ Mv B (fun _ => True) w w' := by
  obtain ⟨lab, S, sp, h⟩ := h
  obtain ⟨hblk, hR⟩ := h.ent k _ hk
  have hlen := h.long k bb b hk
  obtain ⟨p1, p2, p3, p4⟩ := h.par
  have hhq := h.hq
  have hfew := h.few
  have hu := tally_ge usedOf hk
  have hh := tally_ge heldOf hk
  have ho := tally_ge openOf hk
  have hon : tally openOf es ≤ es.length := tally_one (fun x => by obtain ⟨_, o⟩ := x; cases o <;> simp [openOf]) es
  refine (close_ok (p := poolOf q M C es) h.pool hblk hR h.new h.base (by omega) (by show sp.length + tally usedOf es ≤ _; omega) hu hh (by show tally heldOf es ≤ _; omega) ho (by show tally openOf es ≤ _; omega)).mono ?_
  rintro e w' ⟨he, lab', S', hP', hblk', hlb, hst⟩
  refine ⟨he, ?_, mv_any hst.mv⟩
  have e1 : tally heldOf (es.set k (bb, none)) = tally heldOf es - (b.all.length - b.gone) := by
    have := tally_set heldOf hk (bb, none)
    simp only [heldOf] at this hh
    omega
  have e2 : tally usedOf (es.set k (bb, none)) = tally usedOf es - b.cs.length := by
    have := tally_set usedOf hk (bb, none)
    simp only [usedOf] at this hu
    omega
  have e3 : tally openOf (es.set k (bb, none)) = tally openOf es - 1 := by
    have := tally_set openOf hk (bb, none)
    simp only [openOf] at this ho
    omega
  simp only [usedOf] at hu
  exact h.step hk hst (by unfold poolOf; rw [e1, e2, e3]; exact hP') ⟨hblk', hlb, hR.low⟩ (Nat.le_refl _) (by rw [e2, List.length_append]; omega) (fun bb' b'' e => by cases e) (by omega)

theorem all_len (h : All w B pb q M C es tot) (hk : es[k]? = some (bb, some b)) (ht : tot ≤ 500000) :
    Calls Tryz.prog 275 #[.pointer (some ⟨bb, 0, none⟩)] w fun e w' => e = .returned (.int .i64 ((b.all.length - b.gone : Nat) : Int)) ∧ ∃ n, w' = w.drewN n := by
  obtain ⟨lab, S, sp, h⟩ := h
  obtain ⟨hblk, hR⟩ := h.ent k _ hk
  have hlen := h.long k bb b hk
  exact len_ok pb bb b.gone b.all.length b.m b.c w hblk hR.gl (by omega)
theorem all_neg (n : Int) (hn : n < 0) (h : All w B pb q M C es tot) (hk : es[k]? = some (bb, some b)) :
    Calls Tryz.prog 279 #[.pointer (some ⟨bb, 0, none⟩), .int .i64 n] w fun e w' => e = .returned (.tuple #[.string ⟨#[]⟩, .int .i64 1]) ∧ w' = w := by
  obtain ⟨lab, S, sp, h⟩ := h
  obtain ⟨hblk, hR⟩ := h.ent k _ hk
  exact drain_neg b.gone b.all.length b.m b.c n hn hblk
theorem all_shut (h : All w B pb q M C es tot) (hk : es[k]? = some (bb, none)) : Blk w bb shutC 232 := by
  obtain ⟨lab, S, sp, h⟩ := h
  exact (h.ent k _ hk).1
theorem all_held (h : All w B pb q M C es tot) : Calls Tryz.prog 21 #[.pointer (some ⟨pb, 0, none⟩)] w fun e w' => e = .returned (.int .i64 (tally heldOf es : Int)) ∧ w' = w := by
  obtain ⟨lab, S, sp, h⟩ := h
  exact held_ok pb (poolOf q M C es) S w h.pool.blk
theorem all_buffers (h : All w B pb q M C es tot) : Calls Tryz.prog 19 #[.pointer (some ⟨pb, 0, none⟩)] w fun e w' => e = .returned (.int .i64 (tally openOf es : Int)) ∧ w' = w := by
  obtain ⟨lab, S, sp, h⟩ := h
  exact buffers_ok pb (poolOf q M C es) S w h.pool.blk
/-- How many chunks a buffer has: those that are begun, and not through. -/
theorem all_used (h : All w B pb q M C es tot) (hk : es[k]? = some (bb, some b)) : (∃ x, b.Q = M + x * C) ∧ (b.gone < M ∧ b.Q = M ∨ b.Q ≤ b.gone ∧ b.gone < b.Q + C) ∧ b.all.length - b.Q ≤ b.cs.length * C ∧ (∀ i, i < b.cs.length → b.Q + i * C < b.all.length) ∧ b.gone ≤ b.all.length := by
  obtain ⟨lab, S, sp, h⟩ := h
  obtain ⟨hblk, hR⟩ := h.ent k _ hk
  exact ⟨hR.qq, hR.qg, hR.hi, hR.lo, hR.gl⟩
end
end Go.Proofs.YtbjakhiflgjflaaGreatDoor
