/-
  A pool with all its buffers, by the blocks that it has: what each call answers, and that no other block changes. Conditions: at most a million bytes and buffers; numbers of the size of a pool's.
-/
import Derived.Test.YtbjakhiflgjflaaGreatDoorSpAll
import Derived.Test.YtbjakhiflgjflaaGreatDoorHnChg
namespace Go.Proofs.YtbjakhiflgjflaaGreatDoor
open Go Go.RowKit

def AllF (w : World) (F : Nat → Prop) (pb q M C : Nat) (es : List Ent) (tot : Nat) : Prop := ∃ B lab S sp, AllR w B lab pb q M C es tot S sp ∧ ∀ g, F g ↔ lab g ≠ .free
theorem AllF.all {w : World} {F : Nat → Prop} {pb q M C tot : Nat} {es : List Ent} (h : AllF w F pb q M C es tot) : ∃ B, All w B pb q M C es tot := by
  obtain ⟨B, lab, S, sp, h, _⟩ := h
  exact ⟨B, lab, S, sp, h⟩
theorem AllF.lt {w : World} {F : Nat → Prop} {pb q M C tot : Nat} {es : List Ent} (h : AllF w F pb q M C es tot) {g : Nat} (hg : F g) : g < w.heap.size := by
  obtain ⟨B, lab, S, sp, h, hF⟩ := h
  exact Nat.lt_of_not_le fun hle => (hF g).1 hg (h.new g hle)
theorem AllF.keep {w w' : World} {F : Nat → Prop} {pb q M C tot : Nat} {es : List Ent} (h : AllF w F pb q M C es tot) (hs : w.heap.size ≤ w'.heap.size) (hk : ∀ g, F g → w'.heap[g]? = w.heap[g]?) : AllF w' F pb q M C es tot := by
  obtain ⟨B, lab, S, sp, h, hF⟩ := h
  exact ⟨B, lab, S, sp, ⟨h.pool.keep fun g _ hl => ⟨hk g ((hF g).2 (by rcases hl with h | h | h <;> simp [h])), rfl⟩, fun g hg => h.new g (Nat.le_trans hs hg),
    fun k e he => (h.ent k e he).keep fun g _ ⟨t, ht⟩ => ⟨hk g ((hF g).2 (by simp [ht])), rfl⟩, h.few, h.long, h.par, h.hq, Nat.le_trans h.base hs⟩, hF⟩

section
variable {w : World} {F : Nat → Prop} {pb q M C tot k bb : Nat} {es : List Ent} {b : Bs}

theorem AllR.stepF {B : Nat} {w' : World} {lab lab' : Nat → Lab} {S S' : Value} {sp sp' : List Value} {e e' : Ent} {tot' : Nat} (h : AllR w B lab pb q M C es tot S sp) (hF : ∀ g, F g ↔ lab g ≠ .free) (hk : es[k]? = some e) (hs : Step B k w.heap.size w lab w' lab')
    (hP : PoolAt w' B lab' pb (poolOf q M C (es.set k e')) S' sp') (he : EntAt w' B lab' pb M C k e') (ht : tot ≤ tot') (hf : sp'.length + tally usedOf (es.set k e') ≤ tot') (hl : ∀ (bb : Nat) (b : Bs), e' = (bb, some b) → b.all.length ≤ tot') (hq : tally heldOf (es.set k e') ≤ q) :
    ∃ F', AllF w' F' pb q M C (es.set k e') tot' ∧ Chg F F' w w' := by
  have hkl : k < es.length := (List.getElem?_eq_some_iff.1 hk).1
  have hfree : ∀ g, ¬ F g → lab g = .free := fun g hg => Classical.byContradiction fun h => hg ((hF g).2 h)
  refine ⟨fun g => lab' g ≠ .free, ⟨B, lab', S', sp', ⟨hP, hs.new, fun j x hx => ?_, hf, fun j bb b hx => ?_, h.par, hq, Nat.le_trans h.base hs.mv.size⟩, fun g => Iff.rfl⟩,
    ⟨hs.mv.os, hs.mv.tape, hs.mv.output, hs.mv.size, fun g hg hn => hs.mv.block g hg ?_, fun g hg hn => ?_⟩⟩
  · rw [List.getElem?_set] at hx
    split at hx
    · rename_i hjk
      subst hjk
      cases hx
      exact he
    · rename_i hjk
      exact (h.ent j x hx).step hs (fun e => hjk e.symm)
  · rw [List.getElem?_set] at hx
    split at hx
    · exact hl bb b (Option.some.inj hx)
    · exact Nat.le_trans (h.long j bb b hx) ht
  · rw [hfree g hn]
    rintro (h | h)
    · exact h
    · omega
  · have := hs.lb g hg (by rw [hfree g hn]; exact id)
    rw [hfree g hn] at this
    exact fun h => h this

theorem allF_new (q M C : Nat) (hq : q ≤ 1048576) (hm : M ≤ 65536) (hc0 : 1 ≤ C) (hc : C ≤ 65536) :
    Calls Tryz.prog 44 #[.int .i64 (q : Int), .int .i64 (M : Int), .int .i64 (C : Int)] w fun e w' => e = .returned (.tuple #[.pointer (some ⟨w.heap.size, 0, none⟩), .int .i64 0]) ∧
      (∃ F', AllF w' F' w.heap.size q M C [] 0 ∧ Chg (fun _ => False) F' w w') ∧ w'.heap.size = w.heap.size + 1 := by
  refine (New_ok q M C w hq hm hc0 hc).mono ?_
  rintro e w' ⟨he, rfl⟩
  refine ⟨he, ⟨fun g => (if g = w.heap.size then Lab.pool else .free) ≠ .free, ⟨w.heap.size, fun g => if g = w.heap.size then .pool else .free, .slice none 0 0, [], ?_, fun g => Iff.rfl⟩, ⟨rfl, rfl, rfl, by simp, fun k hk _ => Below.heap_alloc w _ k hk, fun g hg _ => ?_⟩⟩, by simp⟩
  · exact {
      pool := {
        blk := Blk.new w _ _
        low := Nat.le_refl _
        lb := if_pos rfl
        arr := Row.nil_ _ _ _
        arl := fun g h => by cases h
        str := fun v hv => by cases hv
        stl := fun v hv => by cases hv
        nd := by simp }
      new := fun g hg => if_neg (by simp at hg; omega)
      ent := fun k e h => by simp at h
      few := by simp [tally]
      long := fun k bb b h => by simp at h
      par := ⟨hq, hm, hc0, hc⟩
      hq := by simp [tally]
      base := by simp }
  · rw [if_neg (by omega)]
    exact fun h => h rfl

theorem allF_open (h : AllF w F pb q M C es tot) (hn : es.length ≤ 1000000) :
    Calls Tryz.prog 95 #[.pointer (some ⟨pb, 0, none⟩)] w fun e w' => e = .returned (.pointer (some ⟨w.heap.size, 0, none⟩)) ∧
      (∃ F', AllF w' F' pb q M C (es ++ [(w.heap.size, some ⟨[], 0, M, .slice none 0 0, .slice none 0 0, []⟩)]) tot ∧ Chg F F' w w' ∧ F' w.heap.size) ∧ w'.heap.size = w.heap.size + 1 := by
  obtain ⟨B, lab, S, sp, h, hF⟩ := h
  have hfree : ∀ g, ¬ F g → lab g = .free := fun g hg => Classical.byContradiction fun h => hg ((hF g).2 h)
  have hnb : (poolOf q M C es).nb ≤ 1000000 := Nat.le_trans (tally_one (fun x => by obtain ⟨_, o⟩ := x; cases o <;> simp [openOf]) es) hn
  refine (Open_ok B pb _ S w h.pool.blk h.pool.low hnb).mono ?_
  rintro e w' ⟨he, hb, hbb, hm, hs⟩
  have hnz : ∀ g, g < w.heap.size → (if g = w.heap.size then Lab.own es.length 0 else lab g) = lab g := fun g hg => if_neg (by omega)
  have hst : ∀ g, g < w.heap.size → g ≠ pb → w'.heap[g]? = w.heap[g]? := fun g hg hne => hm.block g hg hne
  refine ⟨he, ⟨fun g => (if g = w.heap.size then Lab.own es.length 0 else lab g) ≠ .free, ⟨B, fun g => if g = w.heap.size then .own es.length 0 else lab g, S, sp, ?_, fun g => Iff.rfl⟩, ⟨hm.os, hm.tape, hm.output, hm.size, fun g hg hn => ?_, fun g hg hn => ?_⟩, ?_⟩, hs⟩
  rotate_left
  · refine hst g hg fun e => ?_
    subst e
    have := hfree g hn
    rw [h.pool.lb] at this
    cases this
  · rw [if_neg (by omega), hfree g hn]
    exact fun h => h rfl
  · show (if w.heap.size = w.heap.size then Lab.own es.length 0 else lab w.heap.size) ≠ Lab.free
    rw [if_pos rfl]
    exact nofun
  have e1 : poolOf q M C (es ++ [(w.heap.size, some ⟨[], 0, M, .slice none 0 0, .slice none 0 0, []⟩)]) = { poolOf q M C es with nb := (poolOf q M C es).nb + 1 } := by
    simp only [poolOf, tally_app, heldOf, usedOf, openOf, List.length_nil, Nat.add_zero, Nat.zero_sub]
  exact {
    pool := by
      rw [e1]
      exact (h.pool.head hb hst).keep (w := w') (lab' := fun g => if g = w.heap.size then Lab.own es.length 0 else lab g) fun g _ hl => ⟨rfl, if_neg fun e => by
        rw [e, h.new _ (Nat.le_refl _)] at hl
        simp at hl⟩
    new := fun g hg => by
      show (if g = w.heap.size then Lab.own es.length 0 else lab g) = .free
      rw [if_neg (by omega)]
      exact h.new g (by omega)
    ent := fun k x hx => by
      rw [List.getElem?_append] at hx
      split at hx
      · exact (h.ent k x hx).keep fun g hg ⟨t, ht⟩ => ⟨hst g hg (lab_ne ht h.pool.lb nofun), hnz g hg⟩
      · rename_i hk
        obtain ⟨hk0, hx⟩ := List.getElem?_eq_some_iff.1 hx
        have hk1 : k = es.length := by simp at hk0; omega
        subst hk1
        simp at hx
        subst hx
        refine ⟨hbb, ?_⟩
        exact {
          low := h.base
          lb := if_pos rfl
          gl := Nat.le_refl _
          mm := fun _ => by simp; exact Row.nil_ _ _ _
          ml := fun _ g hg => by cases hg
          arr := Row.nil_ _ _ _
          arl := fun g hg => by cases hg
          qq := ⟨0, by simp⟩
          qg := by
            show 0 < M ∧ M = M ∨ M ≤ 0 ∧ 0 < M + C
            have := h.par.2.2.1
            omega
          hi := by simp
          lo := fun i hi => by simp at hi
          str := fun i v hv => by simp at hv
          stl := fun v hv => by simp at hv
          nd := by simp }
    few := by rw [tally_app]; exact h.few
    long := fun k bb b hx => by
      rw [List.getElem?_append] at hx
      split at hx
      · exact h.long k bb b hx
      · obtain ⟨hk0, hx⟩ := List.getElem?_eq_some_iff.1 hx
        simp at hx
        obtain ⟨_, rfl⟩ := hx
        exact Nat.zero_le _
    par := h.par
    hq := by rw [tally_app]; exact h.hq
    base := by have := h.base; omega }

theorem allF_append (data : ByteArray) (h : AllF w F pb q M C es tot) (hk : es[k]? = some (bb, some b)) (ht : tot + data.size ≤ 500000) :
    Calls Tryz.prog 283 #[.pointer (some ⟨bb, 0, none⟩), .string data] w fun e w' =>
      (tally heldOf es + data.size ≤ q ∧ e = .returned (.int .i64 0) ∧ (∃ (F' : Nat → Prop) (b' : Bs), AllF w' F' pb q M C (es.set k (bb, some b')) (tot + data.size) ∧ Chg F F' w w' ∧ b'.all = b.all ++ tl data ∧ b'.gone = b.gone) ∨
       q < tally heldOf es + data.size ∧ e = .returned (.int .i64 41) ∧ AllF w' F pb q M C es tot ∧ Chg F F w w') := by
  have hA := h
  obtain ⟨B, lab, S, sp, h, hF⟩ := h
  obtain ⟨hblk, hR⟩ := h.ent k _ hk
  have hlen := h.long k bb b hk
  obtain ⟨p1, p2, p3, p4⟩ := h.par
  have hhq := h.hq
  by_cases hq : tally heldOf es + data.size ≤ q
  · have hfew := h.few
    refine (append_ok (p := poolOf q M C es) h.pool hblk hR h.new h.base (by omega) p2 ⟨p3, p4⟩ (by show sp.length + tally usedOf es + data.size ≤ _; omega) hq p1).mono ?_
    rintro e w' ⟨he, lab', u, S', sp', b', hP', hblk', hR', hall, hgone, hst, hcnt, hfw⟩
    suffices hsuf : ∃ F', AllF w' F' pb q M C (es.set k (bb, some b')) (tot + data.size) ∧ Chg F F' w w' by
      obtain ⟨F', h1, h2⟩ := hsuf
      exact .inl ⟨hq, he, F', b', h1, h2, hall, hgone⟩
    have hgl := hR.gl
    have hl' : b'.all.length = b.all.length + data.size := by rw [hall, List.length_append, tl_len]
    have e1 : tally heldOf (es.set k (bb, some b')) = tally heldOf es + data.size := by
      have := tally_set heldOf hk (bb, some b')
      simp only [heldOf, hgone, hl'] at this
      omega
    have e2 : tally usedOf (es.set k (bb, some b')) = u := by
      have := tally_set usedOf hk (bb, some b')
      have hcnt : u + b.cs.length = tally usedOf es + b'.cs.length := hcnt
      simp only [usedOf] at this
      omega
    have e3 : tally openOf (es.set k (bb, some b')) = tally openOf es := by
      have := tally_set openOf hk (bb, some b')
      simp only [openOf] at this
      omega
    refine h.stepF hF hk hst (by unfold poolOf; rw [e1, e2, e3]; exact hP') ⟨by rw [hgone]; exact hblk', hR'⟩ (Nat.le_add_right _ _) (by rw [e2]; have hfw : sp'.length + u ≤ sp.length + tally usedOf es + data.size := hfw; omega) (fun bb' b'' e => by cases e; omega) (by omega)
  · refine (append_no (p := poolOf q M C es) b.gone b.all.length b.m b.c h.pool.blk hblk (by omega) (by show q < tally heldOf es + data.size; omega) p1 (by show tally heldOf es ≤ _; omega)).mono ?_
    rintro e w' ⟨he, n, rfl⟩
    exact .inr ⟨by omega, he, hA.keep (Nat.le_refl _) (fun _ _ => rfl), Chg.drewN F w n⟩

theorem allF_drain (n : Nat) (h : AllF w F pb q M C es tot) (hk : es[k]? = some (bb, some b)) (ht : tot ≤ 500000) :
    Calls Tryz.prog 279 #[.pointer (some ⟨bb, 0, none⟩), .int .i64 (n : Int)] w fun e w' => e = .returned (.tuple #[.string ⟨((b.all.drop b.gone).take n).toArray⟩, .int .i64 0]) ∧
      (∃ (F' : Nat → Prop) (b' : Bs), AllF w' F' pb q M C (es.set k (bb, some b')) tot ∧ Chg F F' w w' ∧ b'.all = b.all ∧ b'.gone = b.gone + min n (b.all.length - b.gone)) := by
  obtain ⟨B, lab, S, sp, h, hF⟩ := h
  obtain ⟨hblk, hR⟩ := h.ent k _ hk
  have hlen := h.long k bb b hk
  obtain ⟨p1, p2, p3, p4⟩ := h.par
  have hhq := h.hq
  have hfew := h.few
  have hu := tally_ge usedOf hk
  have hh := tally_ge heldOf hk
  refine (drain_ok (p := poolOf q M C es) n h.pool hblk hR h.new h.base (by omega) p2 ⟨p3, p4⟩ (by show sp.length + tally usedOf es ≤ _; omega) hu hh (by show tally heldOf es ≤ _; omega)).mono ?_
  rintro e w' ⟨he, lab', u, S', sp', b', hP', hblk', hR', hall, hgone, hst, hcnt, hfw⟩
  suffices hsuf : ∃ F', AllF w' F' pb q M C (es.set k (bb, some b')) tot ∧ Chg F F' w w' by
    obtain ⟨F', h1, h2⟩ := hsuf
    exact ⟨he, F', b', h1, h2, hall, hgone⟩
  have hgl := hR.gl
  have e1 : tally heldOf (es.set k (bb, some b')) = tally heldOf es - min n (b.all.length - b.gone) := by
    have := tally_set heldOf hk (bb, some b')
    simp only [heldOf, hgone, hall] at this hh
    omega
  have e2 : tally usedOf (es.set k (bb, some b')) = u := by
    have := tally_set usedOf hk (bb, some b')
    have hcnt : u + b.cs.length = tally usedOf es + b'.cs.length := hcnt
    simp only [usedOf] at this
    omega
  have e3 : tally openOf (es.set k (bb, some b')) = tally openOf es := by
    have := tally_set openOf hk (bb, some b')
    simp only [openOf] at this
    omega
  exact h.stepF hF hk hst (by unfold poolOf; rw [e1, e2, e3]; exact hP') ⟨by rw [hgone, hall]; exact hblk', hR'⟩ (Nat.le_refl _) (by rw [e2]; have hfw : sp'.length + u ≤ sp.length + tally usedOf es := hfw; omega) (fun bb' b'' e => by cases e; rw [hall]; omega) (by omega)

theorem allF_close (h : AllF w F pb q M C es tot) (hk : es[k]? = some (bb, some b)) (ht : tot ≤ 500000) (hn : es.length ≤ 1000000) :
    Calls Tryz.prog 273 #[.pointer (some ⟨bb, 0, none⟩)] w fun e w' => e = .returned (.int .i64 0) ∧ ∃ F', AllF w' F' pb q M C (es.set k (bb, none)) tot ∧ Chg F F' w w' := by
  obtain ⟨B, lab, S, sp, h, hF⟩ := h
  obtain ⟨hblk, hR⟩ := h.ent k _ hk
  have hlen := h.long k bb b hk
  obtain ⟨p1, p2, p3, p4⟩ := h.par
  have hhq := h.hq
  have hfew := h.few
  have hu := tally_ge usedOf hk
  have hh := tally_ge heldOf hk
  have ho := tally_ge openOf hk
  have hon : tally openOf es ≤ es.length := tally_one (fun x => by obtain ⟨_, o⟩ := x; cases o <;> simp [openOf]) es
  refine (close_ok (p := poolOf q M C es) h.pool hblk hR h.new h.base (by omega) (by show sp.length + tally usedOf es ≤ _; omega) hu hh (by show tally heldOf es ≤ _; omega) ho (by show tally openOf es ≤ _; omega)).mono ?_
  rintro e w' ⟨he, lab', S', hP', hblk', hlb, hst⟩
  refine ⟨he, ?_⟩
  have e1 : tally heldOf (es.set k (bb, none)) = tally heldOf es - (b.all.length - b.gone) := by
    have := tally_set heldOf hk (bb, none)
    simp only [heldOf] at this hh
    omega
  have e2 : tally usedOf (es.set k (bb, none)) = tally usedOf es - b.cs.length := by
    have := tally_set usedOf hk (bb, none)
    simp only [usedOf] at this hu
    omega
  have e3 : tally openOf (es.set k (bb, none)) = tally openOf es - 1 := by
    have := tally_set openOf hk (bb, none)
    simp only [openOf] at this ho
    omega
  simp only [usedOf] at hu
  exact h.stepF hF hk hst (by unfold poolOf; rw [e1, e2, e3]; exact hP') ⟨hblk', hlb, hR.low⟩ (Nat.le_refl _) (by rw [e2, List.length_append]; omega) (fun bb' b'' e => by cases e) (by omega)

end
end Go.Proofs.YtbjakhiflgjflaaGreatDoor
