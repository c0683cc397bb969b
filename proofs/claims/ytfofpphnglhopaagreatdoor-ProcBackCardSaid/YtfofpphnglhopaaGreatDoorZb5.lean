/-
  A part. Conditions: each theorem's own.
-/
import Derived.Deep.RegionHeld3
import Derived.BigQuiet
import Derived.Lib.BufferRead
import Derived.Test.YtfofpphnglhopaaGreatDoorZb0
import Derived.Test.YtfofpphnglhopaaGreatDoorZb2
import Derived.Test.YtfofpphnglhopaaGreatDoorZb4
set_option maxHeartbeats 8000000
set_option maxRecDepth 100000
namespace Go.Proofs.YtfofpphnglhopaaGreatDoor
open Go Go.RowKit
def AllF (w : World) (F : Nat → Prop) (pb q M C : Nat) (es : List Ent) (tot : Nat) : Prop := ∃ B lab S sp, AllR w B lab pb q M C es tot S sp ∧ ∀ g, F g ↔ lab g ≠ .free
theorem AllF.all {w : World} {F : Nat → Prop} {pb q M C tot : Nat} {es : List Ent} (h : AllF w F pb q M C es tot) : ∃ B, All w B pb q M C es tot := by
  obtain ⟨B, lab, S, sp, h, _⟩ := h
  exact ⟨B, lab, S, sp, h⟩
theorem AllF.lt {w : World} {F : Nat → Prop} {pb q M C tot : Nat} {es : List Ent} (h : AllF w F pb q M C es tot) {g : Nat} (hg : F g) : g < w.heap.size := by
  obtain ⟨B, lab, S, sp, h, hF⟩ := h
  exact Nat.lt_of_not_le fun hle => (hF g).1 hg (h.new g hle)
theorem AllF.keep {w w' : World} {F : Nat → Prop} {pb q M C tot : Nat} {es : List Ent} (h : AllF w F pb q M C es tot) (hs : w.heap.size ≤ w'.heap.size) (hk : ∀ g, F g → w'.heap[g]? = w.heap[g]?) : AllF w' F pb q M C es tot := by
  obtain ⟨B, lab, S, sp, h, hF⟩ := h
  exact ⟨B, lab, S, sp, ⟨h.pool.keep fun g _ hl => ⟨hk g ((hF g).2 (by rcases hl with h | h | h <;> simp [h])), rfl⟩, fun g hg => h.new g (Nat.le_trans hs hg),
    fun k e he => (h.ent k e he).keep fun g _ ⟨t, ht⟩ => ⟨hk g ((hF g).2 (by simp [ht])), rfl⟩, h.few, h.long, h.par, h.hq, Nat.le_trans h.base hs⟩, hF⟩
section
variable {w : World} {F : Nat → Prop} {pb q M C tot k bb : Nat} {es : List Ent} {b : Bs}
theorem AllR.stepF {B : Nat} {w' : World} {lab lab' : Nat → Lab} {S S' : Value} {sp sp' : List Value} {e e' : Ent} {tot' : Nat} (h : AllR w B lab pb q M C es tot S sp) (hF : ∀ g, F g ↔ lab g ≠ .free) (hk : es[k]? = some e) (hs : Step B k w.heap.size w lab w' lab')
    (hP : PoolAt w' B lab' pb (poolOf q M C (es.set k e')) S' sp') (he : EntAt w' B lab' pb M C k e') (ht : tot ≤ tot') (hf : sp'.length + tally usedOf (es.set k e') ≤ tot') (hl : ∀ (bb : Nat) (b : Bs), e' = (bb, some b) → b.all.length ≤ tot') (hq : tally heldOf (es.set k e') ≤ q) :
    ∃ F', AllF w' F' pb q M C (es.set k e') tot' ∧ Chg F F' w w' := by
  have hkl : k < es.length := (List.getElem?_eq_some_iff.1 hk).1
  have hfree : ∀ g, ¬ F g → lab g = .free := fun g hg => Classical.byContradiction fun h => hg ((hF g).2 h)
  refine ⟨fun g => lab' g ≠ .free, ⟨B, lab', S', sp', ⟨hP, hs.new, fun j x hx => ?_, hf, fun j bb b hx => ?_, h.par, hq, Nat.le_trans h.base hs.mv.size⟩, fun g => Iff.rfl⟩,
    ⟨hs.mv.os, hs.mv.tape, hs.mv.output, hs.mv.size, fun g hg hn => hs.mv.block g hg ?_, fun g hg hn => ?_⟩⟩
  · rw [List.getElem?_set] at hx
    split at hx
    · rename_i hjk
      subst hjk
      cases hx
      exact he
    · rename_i hjk
      exact (h.ent j x hx).step hs (fun e => hjk e.symm)
  · rw [List.getElem?_set] at hx
    split at hx
    · exact hl bb b (Option.some.inj hx)
    · exact Nat.le_trans (h.long j bb b hx) ht
  · rw [hfree g hn]
    rintro (h | h)
    · exact h
    · omega
  · have := hs.lb g hg (by rw [hfree g hn]; exact id)
    rw [hfree g hn] at this
    exact fun h => h this
theorem allF_new (q M C : Nat) (hq : q ≤ 1048576) (hm : M ≤ 65536) (hc0 : 1 ≤ C) (hc : C ≤ 65536) :
    Calls Tryz.prog 42 #[.int .i64 (q : Int), .int .i64 (M : Int), .int .i64 (C : Int)] w fun e w' => e = .returned (.tuple #[.pointer (some ⟨w.heap.size, 0, none⟩), .int .i64 0]) ∧
      (∃ F', AllF w' F' w.heap.size q M C [] 0 ∧ Chg (fun _ => False) F' w w') ∧ w'.heap.size = w.heap.size + 1 := by
  refine (New_ok q M C w hq hm hc0 hc).mono ?_
  rintro e w' ⟨he, rfl⟩
  refine ⟨he, ⟨fun g => (if g = w.heap.size then Lab.pool else .free) ≠ .free, ⟨w.heap.size, fun g => if g = w.heap.size then .pool else .free, .slice none 0 0, [], ?_, fun g => Iff.rfl⟩, ⟨rfl, rfl, rfl, by simp, fun k hk _ => Below.heap_alloc w _ k hk, fun g hg _ => ?_⟩⟩, by simp⟩
  · exact {
      pool := {
        blk := Blk.new w _ _
        low := Nat.le_refl _
        lb := if_pos rfl
        arr := Row.nil_ _ _ _
        arl := fun g h => by cases h
        str := fun v hv => by cases hv
        stl := fun v hv => by cases hv
        nd := by simp }
      new := fun g hg => if_neg (by simp at hg; omega)
      ent := fun k e h => by simp at h
      few := by simp [tally]
      long := fun k bb b h => by simp at h
      par := ⟨hq, hm, hc0, hc⟩
      hq := by simp [tally]
      base := by simp }
  · rw [if_neg (by omega)]
    exact fun h => h rfl
theorem allF_open (h : AllF w F pb q M C es tot) (hn : es.length ≤ 1000000) :
    Calls Tryz.prog 94 #[.pointer (some ⟨pb, 0, none⟩)] w fun e w' => e = .returned (.pointer (some ⟨w.heap.size, 0, none⟩)) ∧
      (∃ F', AllF w' F' pb q M C (es ++ [(w.heap.size, some ⟨[], 0, M, .slice none 0 0, .slice none 0 0, []⟩)]) tot ∧ Chg F F' w w' ∧ F' w.heap.size) ∧ w'.heap.size = w.heap.size + 1 := by
  obtain ⟨B, lab, S, sp, h, hF⟩ := h
  have hfree : ∀ g, ¬ F g → lab g = .free := fun g hg => Classical.byContradiction fun h => hg ((hF g).2 h)
  have hnb : (poolOf q M C es).nb ≤ 1000000 := Nat.le_trans (tally_one (fun x => by obtain ⟨_, o⟩ := x; cases o <;> simp [openOf]) es) hn
  refine (Open_ok B pb _ S w h.pool.blk h.pool.low hnb).mono ?_
  rintro e w' ⟨he, hb, hbb, hm, hs⟩
  have hnz : ∀ g, g < w.heap.size → (if g = w.heap.size then Lab.own es.length 0 else lab g) = lab g := fun g hg => if_neg (by omega)
  have hst : ∀ g, g < w.heap.size → g ≠ pb → w'.heap[g]? = w.heap[g]? := fun g hg hne => hm.block g hg hne
  refine ⟨he, ⟨fun g => (if g = w.heap.size then Lab.own es.length 0 else lab g) ≠ .free, ⟨B, fun g => if g = w.heap.size then .own es.length 0 else lab g, S, sp, ?_, fun g => Iff.rfl⟩, ⟨hm.os, hm.tape, hm.output, hm.size, fun g hg hn => ?_, fun g hg hn => ?_⟩, ?_⟩, hs⟩
  rotate_left
  · refine hst g hg fun e => ?_
    subst e
    have := hfree g hn
    rw [h.pool.lb] at this
    cases this
  · rw [if_neg (by omega), hfree g hn]
    exact fun h => h rfl
  · show (if w.heap.size = w.heap.size then Lab.own es.length 0 else lab w.heap.size) ≠ Lab.free
    rw [if_pos rfl]
    exact nofun
  have e1 : poolOf q M C (es ++ [(w.heap.size, some ⟨[], 0, M, .slice none 0 0, .slice none 0 0, []⟩)]) = { poolOf q M C es with nb := (poolOf q M C es).nb + 1 } := by
    simp only [poolOf, tally_app, heldOf, usedOf, openOf, List.length_nil, Nat.add_zero, Nat.zero_sub]
  exact {
    pool := by
      rw [e1]
      exact (h.pool.head hb hst).keep (w := w') (lab' := fun g => if g = w.heap.size then Lab.own es.length 0 else lab g) fun g _ hl => ⟨rfl, if_neg fun e => by
        rw [e, h.new _ (Nat.le_refl _)] at hl
        simp at hl⟩
    new := fun g hg => by
      show (if g = w.heap.size then Lab.own es.length 0 else lab g) = .free
      rw [if_neg (by omega)]
      exact h.new g (by omega)
    ent := fun k x hx => by
      rw [List.getElem?_append] at hx
      split at hx
      · exact (h.ent k x hx).keep fun g hg ⟨t, ht⟩ => ⟨hst g hg (lab_ne ht h.pool.lb nofun), hnz g hg⟩
      · rename_i hk
        obtain ⟨hk0, hx⟩ := List.getElem?_eq_some_iff.1 hx
        have hk1 : k = es.length := by simp at hk0; omega
        subst hk1
        simp at hx
        subst hx
        refine ⟨hbb, ?_⟩
        exact {
          low := h.base
          lb := if_pos rfl
          gl := Nat.le_refl _
          mm := fun _ => by simp; exact Row.nil_ _ _ _
          ml := fun _ g hg => by cases hg
          arr := Row.nil_ _ _ _
          arl := fun g hg => by cases hg
          qq := ⟨0, by simp⟩
          qg := by
            show 0 < M ∧ M = M ∨ M ≤ 0 ∧ 0 < M + C
            have := h.par.2.2.1
            omega
          hi := by simp
          lo := fun i hi => by simp at hi
          str := fun i v hv => by simp at hv
          stl := fun v hv => by simp at hv
          nd := by simp }
    few := by rw [tally_app]; exact h.few
    long := fun k bb b hx => by
      rw [List.getElem?_append] at hx
      split at hx
      · exact h.long k bb b hx
      · obtain ⟨hk0, hx⟩ := List.getElem?_eq_some_iff.1 hx
        simp at hx
        obtain ⟨_, rfl⟩ := hx
        exact Nat.zero_le _
    par := h.par
    hq := by rw [tally_app]; exact h.hq
    base := by have := h.base; omega }
theorem allF_append (data : ByteArray) (h : AllF w F pb q M C es tot) (hk : es[k]? = some (bb, some b)) (ht : tot + data.size ≤ 500000) :
    Calls Tryz.prog 282 #[.pointer (some ⟨bb, 0, none⟩), .string data] w fun e w' =>
      (tally heldOf es + data.size ≤ q ∧ e = .returned (.int .i64 0) ∧ (∃ (F' : Nat → Prop) (b' : Bs), AllF w' F' pb q M C (es.set k (bb, some b')) (tot + data.size) ∧ Chg F F' w w' ∧ b'.all = b.all ++ tl data ∧ b'.gone = b.gone) ∨
       q < tally heldOf es + data.size ∧ e = .returned (.int .i64 41) ∧ AllF w' F pb q M C es tot ∧ Chg F F w w') := by
  have hA := h
  obtain ⟨B, lab, S, sp, h, hF⟩ := h
  obtain ⟨hblk, hR⟩ := h.ent k _ hk
  have hlen := h.long k bb b hk
  obtain ⟨p1, p2, p3, p4⟩ := h.par
  have hhq := h.hq
  by_cases hq : tally heldOf es + data.size ≤ q
  · have hfew := h.few
    refine (append_ok (p := poolOf q M C es) h.pool hblk hR h.new h.base (by omega) p2 ⟨p3, p4⟩ (by show sp.length + tally usedOf es + data.size ≤ _; omega) hq p1).mono ?_
    rintro e w' ⟨he, lab', u, S', sp', b', hP', hblk', hR', hall, hgone, hst, hcnt, hfw⟩
    suffices hsuf : ∃ F', AllF w' F' pb q M C (es.set k (bb, some b')) (tot + data.size) ∧ Chg F F' w w' by
      obtain ⟨F', h1, h2⟩ := hsuf
      exact .inl ⟨hq, he, F', b', h1, h2, hall, hgone⟩
    have hgl := hR.gl
    have hl' : b'.all.length = b.all.length + data.size := by rw [hall, List.length_append, tl_len]
    have e1 : tally heldOf (es.set k (bb, some b')) = tally heldOf es + data.size := by
      have := tally_set heldOf hk (bb, some b')
      simp only [heldOf, hgone, hl'] at this
      omega
    have e2 : tally usedOf (es.set k (bb, some b')) = u := by
      have := tally_set usedOf hk (bb, some b')
      have hcnt : u + b.cs.length = tally usedOf es + b'.cs.length := hcnt
      simp only [usedOf] at this
      omega
    have e3 : tally openOf (es.set k (bb, some b')) = tally openOf es := by
      have := tally_set openOf hk (bb, some b')
      simp only [openOf] at this
      omega
    refine h.stepF hF hk hst (by unfold poolOf; rw [e1, e2, e3]; exact hP') ⟨by rw [hgone]; exact hblk', hR'⟩ (Nat.le_add_right _ _) (by rw [e2]; have hfw : sp'.length + u ≤ sp.length + tally usedOf es + data.size := hfw; omega) (fun bb' b'' e => by cases e; omega) (by omega)
  · refine (append_no (p := poolOf q M C es) b.gone b.all.length b.m b.c h.pool.blk hblk (by omega) (by show q < tally heldOf es + data.size; omega) p1 (by show tally heldOf es ≤ _; omega)).mono ?_
    rintro e w' ⟨he, n, rfl⟩
    exact .inr ⟨by omega, he, hA.keep (Nat.le_refl _) (fun _ _ => rfl), Chg.drewN F w n⟩
theorem allF_drain (n : Nat) (h : AllF w F pb q M C es tot) (hk : es[k]? = some (bb, some b)) (ht : tot ≤ 500000) :
    Calls Tryz.prog 278 #[.pointer (some ⟨bb, 0, none⟩), .int .i64 (n : Int)] w fun e w' => e = .returned (.tuple #[.string ⟨((b.all.drop b.gone).take n).toArray⟩, .int .i64 0]) ∧
      (∃ (F' : Nat → Prop) (b' : Bs), AllF w' F' pb q M C (es.set k (bb, some b')) tot ∧ Chg F F' w w' ∧ b'.all = b.all ∧ b'.gone = b.gone + min n (b.all.length - b.gone)) := by
  obtain ⟨B, lab, S, sp, h, hF⟩ := h
  obtain ⟨hblk, hR⟩ := h.ent k _ hk
  have hlen := h.long k bb b hk
  obtain ⟨p1, p2, p3, p4⟩ := h.par
  have hhq := h.hq
  have hfew := h.few
  have hu := tally_ge usedOf hk
  have hh := tally_ge heldOf hk
  refine (drain_ok (p := poolOf q M C es) n h.pool hblk hR h.new h.base (by omega) p2 ⟨p3, p4⟩ (by show sp.length + tally usedOf es ≤ _; omega) hu hh (by show tally heldOf es ≤ _; omega)).mono ?_
  rintro e w' ⟨he, lab', u, S', sp', b', hP', hblk', hR', hall, hgone, hst, hcnt, hfw⟩
  suffices hsuf : ∃ F', AllF w' F' pb q M C (es.set k (bb, some b')) tot ∧ Chg F F' w w' by
    obtain ⟨F', h1, h2⟩ := hsuf
    exact ⟨he, F', b', h1, h2, hall, hgone⟩
  have hgl := hR.gl
  have e1 : tally heldOf (es.set k (bb, some b')) = tally heldOf es - min n (b.all.length - b.gone) := by
    have := tally_set heldOf hk (bb, some b')
    simp only [heldOf, hgone, hall] at this hh
    omega
  have e2 : tally usedOf (es.set k (bb, some b')) = u := by
    have := tally_set usedOf hk (bb, some b')
    have hcnt : u + b.cs.length = tally usedOf es + b'.cs.length := hcnt
    simp only [usedOf] at this
    omega
  have e3 : tally openOf (es.set k (bb, some b')) = tally openOf es := by
    have := tally_set openOf hk (bb, some b')
    simp only [openOf] at this
    omega
  exact h.stepF hF hk hst (by unfold poolOf; rw [e1, e2, e3]; exact hP') ⟨by rw [hgone, hall]; exact hblk', hR'⟩ (Nat.le_refl _) (by rw [e2]; have hfw : sp'.length + u ≤ sp.length + tally usedOf es := hfw; omega) (fun bb' b'' e => by cases e; rw [hall]; omega) (by omega)
theorem allF_close (h : AllF w F pb q M C es tot) (hk : es[k]? = some (bb, some b)) (ht : tot ≤ 500000) (hn : es.length ≤ 1000000) :
    Calls Tryz.prog 272 #[.pointer (some ⟨bb, 0, none⟩)] w fun e w' => e = .returned (.int .i64 0) ∧ ∃ F', AllF w' F' pb q M C (es.set k (bb, none)) tot ∧ Chg F F' w w' := by
  obtain ⟨B, lab, S, sp, h, hF⟩ := h
  obtain ⟨hblk, hR⟩ := h.ent k _ hk
  have hlen := h.long k bb b hk
  obtain ⟨p1, p2, p3, p4⟩ := h.par
  have hhq := h.hq
  have hfew := h.few
  have hu := tally_ge usedOf hk
  have hh := tally_ge heldOf hk
  have ho := tally_ge openOf hk
  have hon : tally openOf es ≤ es.length := tally_one (fun x => by obtain ⟨_, o⟩ := x; cases o <;> simp [openOf]) es
  refine (close_ok (p := poolOf q M C es) h.pool hblk hR h.new h.base (by omega) (by show sp.length + tally usedOf es ≤ _; omega) hu hh (by show tally heldOf es ≤ _; omega) ho (by show tally openOf es ≤ _; omega)).mono ?_
  rintro e w' ⟨he, lab', S', hP', hblk', hlb, hst⟩
  refine ⟨he, ?_⟩
  have e1 : tally heldOf (es.set k (bb, none)) = tally heldOf es - (b.all.length - b.gone) := by
    have := tally_set heldOf hk (bb, none)
    simp only [heldOf] at this hh
    omega
  have e2 : tally usedOf (es.set k (bb, none)) = tally usedOf es - b.cs.length := by
    have := tally_set usedOf hk (bb, none)
    simp only [usedOf] at this hu
    omega
  have e3 : tally openOf (es.set k (bb, none)) = tally openOf es - 1 := by
    have := tally_set openOf hk (bb, none)
    simp only [openOf] at this ho
    omega
  simp only [usedOf] at hu
  exact h.stepF hF hk hst (by unfold poolOf; rw [e1, e2, e3]; exact hP') ⟨hblk', hlb, hR.low⟩ (Nat.le_refl _) (by rw [e2, List.length_append]; omega) (fun bb' b'' e => by cases e) (by omega)
end
end Go.Proofs.YtfofpphnglhopaaGreatDoor
namespace Go.Proofs.YtfofpphnglhopaaGreatDoor
open Go Go.RowKit Go.ChangeMaps
inductive Kd where
  | file (node : Int) (at_ : Nat) (r w m : Bool)
  | text (s : List UInt8) (at_ : Nat)
  | sink (came : List UInt8) (most : Nat)
  | rd (p : Nat)
  | wr (p : Nat)
structure Hd where
  refs : Nat
  kd : Kd
abbrev Hs := List (Int × Hd)
structure HM where
  blk : Nat
  ob : Nat
  cv : Value
abbrev Pps := List (Nat × Nat × Nat)
inductive HL where
  | free | tab | tmap | back
  | hnd (k : Int)
  | obj (k : Int)
  | came (k : Int)
  | pipe (p : Nat)
def OfH (k : Int) : HL → Prop
  | .hnd j => j = k
  | .obj j => j = k
  | .came j => j = k
  | _ => False
def ptrV (b : Nat) : Value := .pointer (some ⟨b, 0, none⟩)
def pipeB (pp : Pps) (p : Nat) : Nat := (pp.getD p (0, 0, 0)).1
def doesV (pp : Pps) (kd : Kd) (ob : Nat) : Value :=
  match kd with
  | .file .. => .iface 158 (ptrV ob)
  | .text .. => .iface 195 (ptrV ob)
  | .sink .. => .iface 198 (ptrV ob)
  | .rd p => .iface 169 (.agg #[ptrV (pipeB pp p)])
  | .wr p => .iface 170 (.agg #[ptrV (pipeB pp p)])
def ObjAt (w : World) (lab : Nat → HL) (fb : Nat) (np : Nat) (k : Int) (M : HM) : Kd → Prop
  | .file n a r wr m => Blk w M.ob [ptrV fb, .int .i64 n, .int .i64 (a : Int), .bool r, .bool wr, .bool m] 162 ∧ lab M.ob = .obj k
  | .text s a => Blk w M.ob [.string ⟨s.toArray⟩, .int .i64 (a : Int)] 197 ∧ lab M.ob = .obj k ∧ a ≤ s.length ∧ s.length ≤ 1048576
  | .sink c most => Blk w M.ob [M.cv, .int .i64 (most : Int)] 200 ∧ lab M.ob = .obj k ∧ RowM w 5 M.cv c.length (bc c) ∧ (∀ g, M.cv.ownBlock = some g → lab g = .came k) ∧ c.length ≤ most ∧ most ≤ 1048576
  | .rd p => p < np
  | .wr p => p < np
structure HandleAt (w : World) (lab : Nat → HL) (fb : Nat) (pp : Pps) (k : Int) (x : Hd) (M : HM) : Prop where
  blk : Blk w M.blk [doesV pp x.kd M.ob, .int .i64 (x.refs : Int)] 148
  lb : lab M.blk = .hnd k
  ob : ObjAt w lab fb pp.length k M x.kd
theorem ObjAt.keep {w w' : World} {lab lab' : Nat → HL} {fb np : Nat} {k : Int} {M : HM} {kd : Kd} (h : ObjAt w lab fb np k M kd) (hk : ∀ g, g < w.heap.size → OfH k (lab g) → w'.heap[g]? = w.heap[g]? ∧ lab' g = lab g) : ObjAt w' lab' fb np k M kd := by
  cases kd with
  | file n a r wr m =>
    obtain ⟨h1, h2⟩ := h
    have := hk _ h1.lt (by rw [h2]; exact rfl)
    exact ⟨this.1.trans h1, this.2.trans h2⟩
  | text s a =>
    obtain ⟨h1, h2, h3⟩ := h
    have := hk _ h1.lt (by rw [h2]; exact rfl)
    exact ⟨this.1.trans h1, this.2.trans h2, h3⟩
  | sink c most =>
    obtain ⟨h1, h2, h3, h4, h5⟩ := h
    have := hk _ h1.lt (by rw [h2]; exact rfl)
    exact ⟨this.1.trans h1, this.2.trans h2, h3.keep fun g hg => (hk g (h3.lt hg) (by rw [h4 g hg]; exact rfl)).1, fun g hg => (hk g (h3.lt hg) (by rw [h4 g hg]; exact rfl)).2.trans (h4 g hg), h5⟩
  | rd p => exact h
  | wr p => exact h
theorem HandleAt.keep {w w' : World} {lab lab' : Nat → HL} {fb : Nat} {pp : Pps} {k : Int} {x : Hd} {M : HM} (h : HandleAt w lab fb pp k x M) (hk : ∀ g, g < w.heap.size → OfH k (lab g) → w'.heap[g]? = w.heap[g]? ∧ lab' g = lab g) : HandleAt w' lab' fb pp k x M :=
  have := hk _ h.blk.lt (by rw [h.lb]; exact rfl)
  ⟨this.1.trans h.blk, this.2.trans h.lb, h.ob.keep hk⟩
def entH (mem : Int → HM) (hs : Hs) : List (Int × Value) := hs.map fun p => (p.1, ptrV (mem p.1).blk)
def ids (hs : Hs) : List Int := hs.map (·.1)
structure TabR (w : World) (lab : Nat → HL) (fb plb tb : Nat) (hs : Hs) (pp : Pps) (mb : Nat) (mem : Int → HM) (top : Nat) (v : Value) (xs : List Int) : Prop where
  num : NumR w tb (ptrV fb) (ptrV plb) (.map (some mb)) (ids hs) top v xs
  ltb : lab tb = .tab
  lbk : ∀ g, v.ownBlock = some g → lab g = .back
  map : KMap w mb (.int .i64) encI (entH mem hs)
  lmap : lab mb = .tmap
  hd : ∀ k x, look hs k = some x → HandleAt w lab fb pp k x (mem k)
  pi : ∀ (p pb bb ends : Nat), pp[p]? = some (pb, bb, ends) → Blk w pb [ptrV bb, .int .i64 (ends : Int)] 167 ∧ lab pb = .pipe p
  new : ∀ g, w.heap.size ≤ g → lab g = .free
def TabF (w : World) (F : Nat → Prop) (fb plb tb : Nat) (hs : Hs) (pp : Pps) (top : Nat) (xs : List Int) : Prop := ∃ lab mb mem v, TabR w lab fb plb tb hs pp mb mem top v xs ∧ ∀ g, F g ↔ lab g ≠ .free
section
variable {w : World} {lab : Nat → HL} {F : Nat → Prop} {fb plb tb mb top : Nat} {hs : Hs} {pp : Pps} {mem : Int → HM} {v : Value} {xs : List Int}
theorem TabF.lt (h : TabF w F fb plb tb hs pp top xs) {g : Nat} (hg : F g) : g < w.heap.size := by
  obtain ⟨lab, mb, mem, v, h, hF⟩ := h
  exact Nat.lt_of_not_le fun hle => (hF g).1 hg (h.new g hle)
theorem TabR.keep {w' : World} (h : TabR w lab fb plb tb hs pp mb mem top v xs) (hs' : w.heap.size ≤ w'.heap.size) (hk : ∀ g, lab g ≠ .free → w'.heap[g]? = w.heap[g]?) : TabR w' lab fb plb tb hs pp mb mem top v xs :=
  ⟨h.num.keep (hk tb (by rw [h.ltb]; exact nofun)) (fun g hg => hk g (by rw [h.lbk g hg]; exact nofun)), h.ltb, h.lbk, h.map.keep (hk mb (by rw [h.lmap]; exact nofun)), h.lmap,
    fun k x hx => (h.hd k x hx).keep fun g _ ho => ⟨hk g (fun e => by rw [e] at ho; exact ho), rfl⟩,
    fun p pb bb ends hp => ⟨(hk pb (by rw [(h.pi p pb bb ends hp).2]; exact nofun)).trans (h.pi p pb bb ends hp).1, (h.pi p pb bb ends hp).2⟩, fun g hg => h.new g (Nat.le_trans hs' hg)⟩
theorem TabF.keep {w' : World} (h : TabF w F fb plb tb hs pp top xs) (hs' : w.heap.size ≤ w'.heap.size) (hk : ∀ g, F g → w'.heap[g]? = w.heap[g]?) : TabF w' F fb plb tb hs pp top xs := by
  obtain ⟨lab, mb, mem, v, h, hF⟩ := h
  exact ⟨lab, mb, mem, v, h.keep hs' fun g hg => hk g ((hF g).2 hg), hF⟩
theorem ids_upd (hs : Hs) (k : Int) (y : Hd) : ids (upd hs k y) = ids hs := by
  have := congrArg (List.map Prod.fst) (keys_upd (fun _ => ()) hs k y)
  rw [List.map_map, List.map_map] at this
  exact this
theorem TabR.apart (h : TabR w lab fb plb tb hs pp mb mem top v xs) : hs.Pairwise (fun p q => p.1 ≠ q.1) := by
  have := h.map.apart
  unfold entH at this
  rw [List.pairwise_map] at this
  exact this
theorem TabR.nodup (h : TabR w lab fb plb tb hs pp mb mem top v xs) : (ids hs).Nodup := by
  unfold ids List.Nodup
  rw [List.pairwise_map]
  exact h.apart
theorem TabR.step {S S' : Nat → Prop} {w' : World} {lab' : Nat → HL} {k : Int} {x y : Hd} {M' : HM} (h : TabR w lab fb plb tb hs pp mb mem top v xs) (hF : ∀ g, F g ↔ lab g ≠ .free) (hx : look hs k = some x) (c : Chg S S' w w')
    (hS : ∀ g, g < w.heap.size → S g → OfH k (lab g)) (hl : ∀ g, g < w.heap.size → lab' g = lab g) (hn : ∀ g, w'.heap.size ≤ g → lab' g = .free) (hnd : HandleAt w' lab' fb pp k y M') (hb : M'.blk = (mem k).blk) :
    ∃ F', TabF w' F' fb plb tb (upd hs k y) pp top xs ∧ Chg F F' w w' := by
  have hfree : ∀ g, ¬ F g → lab g = .free := fun g hg => Classical.byContradiction fun h => hg ((hF g).2 h)
  have hsame : ∀ g, g < w.heap.size → ¬ OfH k (lab g) → w'.heap[g]? = w.heap[g]? := fun g hg h2 => c.block g hg fun hs => h2 (hS g hg hs)
  have hvb : ∀ g, v.ownBlock = some g → g < w.heap.size := fun g hg => h.num.at_.row.lt hg
  refine ⟨fun g => lab' g ≠ .free, ⟨lab', mb, fun j => if j = k then M' else mem j, v, ⟨?_, (hl tb h.num.at_.blk.lt).trans h.ltb, fun g hg => (hl g (hvb g hg)).trans (h.lbk g hg), ?_, (hl mb h.map.lt).trans h.lmap, fun j z hz => ?_, fun p pb bb ends hp => ?_, hn⟩, fun g => Iff.rfl⟩,
    ⟨c.os, c.tape, c.output, c.size, fun g hg hn => hsame g hg (by rw [hfree g hn]; exact id), fun g hg hn => by rw [hl g hg, hfree g hn]; exact fun h => h rfl⟩⟩
  · rw [ids_upd]
    exact h.num.keep (hsame tb h.num.at_.blk.lt (by rw [h.ltb]; exact id)) fun g hg => hsame g (hvb g hg) (by rw [h.lbk g hg]; exact id)
  · have e : entH (fun j => if j = k then M' else mem j) (upd hs k y) = entH mem hs := by
      unfold entH
      rw [keys_upd (fun j => ptrV (if j = k then M' else mem j).blk)]
      refine List.map_congr_left fun p _ => ?_
      by_cases hp : p.1 = k
      · rw [if_pos hp, hb, hp]
      · rw [if_neg hp]
    rw [e]
    exact h.map.keep (hsame mb h.map.lt (by rw [h.lmap]; exact id))
  · rw [look_upd] at hz
    by_cases hj : j = k
    · rw [if_pos hj, hx] at hz
      cases hz
      subst hj
      simpa using hnd
    · rw [if_neg hj] at hz
      rw [if_neg hj]
      refine (h.hd j z hz).keep fun g hg ho => ⟨hsame g hg (fun e => hj ?_), hl g hg⟩
      cases hlg : lab g with
      | hnd i => rw [hlg] at ho e; exact ho.symm.trans e
      | obj i => rw [hlg] at ho e; exact ho.symm.trans e
      | came i => rw [hlg] at ho e; exact ho.symm.trans e
      | free => rw [hlg] at ho; exact ho.elim
      | tab => rw [hlg] at ho; exact ho.elim
      | tmap => rw [hlg] at ho; exact ho.elim
      | back => rw [hlg] at ho; exact ho.elim
      | pipe p => rw [hlg] at ho; exact ho.elim
  · obtain ⟨h1, h2⟩ := h.pi p pb bb ends hp
    exact ⟨(hsame pb h1.lt (by rw [h2]; exact id)).trans h1, (hl pb h1.lt).trans h2⟩
theorem entH_look (k : Int) : look (entH mem hs) k = (look hs k).map fun _ => ptrV (mem k).blk := by
  unfold entH
  induction hs with
  | nil => rfl
  | cons a l ih =>
    simp only [List.map_cons, look]
    split
    · rename_i h; simp [h]
    · exact ih
theorem TabR.find (h : TabR w lab fb plb tb hs pp mb mem top v xs) (k : Int) : (Instr.lookup 134 (.map (some mb)) (.int .i64 k) false).run Tryz.prog w = .ok (((look hs k).map fun _ => ptrV (mem k).blk).getD (.pointer none)) w := by
  have := h.map.find keyI Tryz.underlying134 Tryz.underlying3 (Tryz.zeroValue135 w) false k
  rw [entH_look] at this
  exact this
theorem isNil_no (h : TabR w lab fb plb tb hs pp mb mem top v xs) :
    Calls Tryz.prog 85 #[ptrV tb] w fun e w' => e = .returned (.bool false) ∧ w' = w := by
  have c2 := h.num.at_.blk.cell (i := 2) rfl
  have hlt := h.num.at_.blk.lt
  have he := run_eql_map_nil (P := Tryz.prog) w _ _ _ (some mb) Tryz.underlying134
  unfold ptrV
  clear h
  go_enter Tryz.func85, Tryz.ntmps85
  go_wp2
  go_ret
  exact ⟨rfl, rfl⟩
theorem tfind_some (h : TabR w lab fb plb tb hs pp mb mem top v xs) {k : Int} {x : Hd} (hx : look hs k = some x) :
    Calls Tryz.prog 88 #[ptrV tb, .int .i64 k] w fun e w' => e = .returned (.tuple #[ptrV (mem k).blk, .int .i64 0]) ∧ w' = w := by
  have hi := isNil_no h
  have hf := h.find k
  rw [hx] at hf
  replace hf : (Instr.lookup 134 (.map (some mb)) (.int .i64 k) false).run Tryz.prog w = .ok (ptrV (mem k).blk) w := hf
  have c2 := h.num.at_.blk.cell (i := 2) rfl
  have hlt := h.num.at_.blk.lt
  generalize (mem k).blk = kb at hf ⊢
  unfold ptrV at hi hf ⊢
  clear h hx
  go_enter Tryz.func88, Tryz.ntmps88
  go_wp2_with fail
  refine hi.mono ?_
  rintro e w' ⟨rfl, hw⟩
  obtain rfl := hw.symm
  go_wp2
  go_ret2
  exact ⟨rfl, rfl⟩
theorem tfind_none (h : TabR w lab fb plb tb hs pp mb mem top v xs) {k : Int} (hx : look hs k = none) :
    Calls Tryz.prog 88 #[ptrV tb, .int .i64 k] w fun e w' => e = .returned (.tuple #[.pointer none, .int .i64 18]) ∧ w' = w := by
  have hi := isNil_no h
  have hf := h.find k
  rw [hx] at hf
  replace hf : (Instr.lookup 134 (.map (some mb)) (.int .i64 k) false).run Tryz.prog w = .ok (.pointer none) w := hf
  have c2 := h.num.at_.blk.cell (i := 2) rfl
  have hlt := h.num.at_.blk.lt
  unfold ptrV at hi ⊢
  clear h hx
  go_enter Tryz.func88, Tryz.ntmps88
  go_wp2_with fail
  refine hi.mono ?_
  rintro e w' ⟨rfl, hw⟩
  obtain rfl := hw.symm
  go_wp2
  go_ret2
  exact ⟨rfl, rfl⟩
end
def dropH (hs : Hs) (k : Int) : Hs := hs.filter fun p => p.1 ≠ k
theorem ids_drop (hs : Hs) (k : Int) : ids (dropH hs k) = (ids hs).filter fun j => j ≠ k := by
  unfold ids dropH
  rw [List.filter_map]
  rfl
theorem entH_drop (mem : Int → HM) (hs : Hs) (k : Int) : entH mem (dropH hs k) = (entH mem hs).filter fun p => p.1 ≠ k := by
  unfold entH dropH
  rw [List.filter_map]
  rfl
theorem look_drop {hs : Hs} (hd : hs.Pairwise (fun p q => p.1 ≠ q.1)) {k j : Int} {z : Hd} (h : look (dropH hs k) j = some z) : look hs j = some z ∧ j ≠ k := by
  have hm := look_mem h
  unfold dropH at hm
  rw [List.mem_filter] at hm
  exact ⟨look_of_mem hd hm.1, by simpa using hm.2⟩
theorem doesV_pipes {pp pp' : Pps} (kd : Kd) (ob : Nat) (h : ∀ p, p < pp.length → pipeB pp' p = pipeB pp p) (hp : ∀ p, kd = .rd p ∨ kd = .wr p → p < pp.length) : doesV pp' kd ob = doesV pp kd ob := by
  cases kd with
  | file n a r wr m => rfl
  | text s a => rfl
  | sink c most => rfl
  | rd p =>
    show Value.iface _ (.agg #[ptrV (pipeB pp' p)]) = .iface _ (.agg #[ptrV (pipeB pp p)])
    rw [h p (hp p (.inl rfl))]
  | wr p =>
    show Value.iface _ (.agg #[ptrV (pipeB pp' p)]) = .iface _ (.agg #[ptrV (pipeB pp p)])
    rw [h p (hp p (.inr rfl))]
theorem ObjAt.more {w : World} {lab : Nat → HL} {fb np np' : Nat} {k : Int} {M : HM} {kd : Kd} (h : ObjAt w lab fb np k M kd) (hn : np ≤ np') : ObjAt w lab fb np' k M kd := by
  cases kd with
  | file n a r wr m => exact h
  | text s a => exact h
  | sink c most => exact h
  | rd p => exact Nat.lt_of_lt_of_le h hn
  | wr p => exact Nat.lt_of_lt_of_le h hn
section
variable {w : World} {lab : Nat → HL} {F : Nat → Prop} {fb plb tb mb top : Nat} {hs : Hs} {pp : Pps} {mem : Int → HM} {v : Value} {xs : List Int}
theorem TabR.add {S S' : Nat → Prop} {w2 : World} {k : Int} {kd : Kd} {ob kb top' : Nat} {v' : Value} {xs' : List Int} (h : TabR w lab fb plb tb hs pp mb mem top v xs) (hF : ∀ g, F g ↔ lab g ≠ .free) (G : Nat → Prop) [DecidablePred G] (hG : ∀ g, G g → g < w.heap.size ∧ ¬ F g)
    (hk : look hs k = none) (c : Chg S S' w w2) (hS : ∀ g, g < w.heap.size → S g → lab g = .tab ∨ lab g = .tmap ∨ lab g = .back) (hn : NumR w2 tb (ptrV fb) (ptrV plb) (.map (some mb)) (ids hs ++ [k]) top' v' xs') (hv : ∀ g, v'.ownBlock = some g → lab g = .back)
    (hkm : KMap w2 mb (.int .i64) encI (entH mem hs ++ [(k, ptrV kb)])) (hkb : Blk w2 kb [doesV pp kd ob, .int .i64 ((1 : Nat) : Int)] 148) (hkl : w.heap.size ≤ kb)
    (hob : ∀ w' lab', (∀ g, G g → w'.heap[g]? = w.heap[g]? ∧ lab' g = .obj k) → ∀ kb, ObjAt w' lab' fb pp.length k ⟨kb, ob, .slice none 0 0⟩ kd) :
    ∃ F', TabF w2 F' fb plb tb (hs ++ [(k, ⟨1, kd⟩)]) pp top' xs' ∧ Chg (fun g => F g ∨ G g) F' w w2 := by
  have hfree : ∀ g, ¬ F g → lab g = .free := fun g hg => Classical.byContradiction fun h => hg ((hF g).2 h)
  have hsame : ∀ g, g < w.heap.size → lab g ≠ .tab → lab g ≠ .tmap → lab g ≠ .back → w2.heap[g]? = w.heap[g]? := fun g hg h1 h2 h3 => c.block g hg fun hs => by
    rcases hS g hg hs with h | h | h
    · exact h1 h
    · exact h2 h
    · exact h3 h
  obtain ⟨lab', hlab⟩ : ∃ lab' : Nat → HL, lab' = fun g => if g = kb then .hnd k else if G g then .obj k else lab g := ⟨_, rfl⟩
  have hl : ∀ g, g < w.heap.size → lab g ≠ .free → lab' g = lab g := fun g hg hl => by
    rw [hlab]
    show (if g = kb then HL.hnd k else if G g then .obj k else lab g) = lab g
    rw [if_neg (by omega), if_neg fun hg2 => hl (hfree g (hG g hg2).2)]
  have hgl : ∀ g, G g → lab' g = .obj k := fun g hg => by
    rw [hlab]
    show (if g = kb then HL.hnd k else if G g then .obj k else lab g) = _
    rw [if_neg (by have := (hG g hg).1; omega), if_pos hg]
  have hvb : ∀ g, lab g ≠ .free → g < w.heap.size := fun g hg => Nat.lt_of_not_le fun hle => hg (h.new g hle)
  have hnon : ∀ g, g < w.heap.size → ¬ F g → ¬ G g → lab' g = .free := fun g hg h1 h2 => by
    rw [hlab]
    show (if g = kb then HL.hnd k else if G g then .obj k else lab g) = _
    rw [if_neg (by omega), if_neg h2, hfree g h1]
  refine ⟨fun g => lab' g ≠ .free, ⟨lab', mb, fun j => if j = k then ⟨kb, ob, .slice none 0 0⟩ else mem j, v', ⟨?_, ?_, fun g hg => ?_, ?_, ?_, fun j z hz => ?_, fun p pb bb ends hp => ?_, fun g hg => ?_⟩, fun g => Iff.rfl⟩,
    ⟨c.os, c.tape, c.output, c.size, fun g hg hn => c.block g hg fun hs => hn (.inl ((hF g).2 ?_)), fun g hg hn hx => hx (hnon g hg (fun h => hn (.inl h)) (fun h => hn (.inr h)))⟩⟩
  · rw [show ids (hs ++ [(k, ⟨1, kd⟩)]) = ids hs ++ [k] from List.map_append]
    exact hn
  · exact (hl tb h.num.at_.blk.lt (by rw [h.ltb]; exact nofun)).trans h.ltb
  · have := hv g hg
    exact (hl g (hvb g (by rw [this]; exact nofun)) (by rw [this]; exact nofun)).trans this
  · have e : entH (fun j => if j = k then ⟨kb, ob, .slice none 0 0⟩ else mem j) (hs ++ [(k, ⟨1, kd⟩)]) = entH mem hs ++ [(k, ptrV kb)] := by
      unfold entH
      rw [List.map_append]
      congr 1
      · refine List.map_congr_left fun p hp => ?_
        show (p.1, ptrV (if p.1 = k then (⟨kb, ob, .slice none 0 0⟩ : HM) else mem p.1).blk) = _
        rw [if_neg (look_none.1 hk p hp)]
      · simp
    rw [e]
    exact hkm
  · exact (hl mb h.map.lt (by rw [h.lmap]; exact nofun)).trans h.lmap
  · rw [look_app] at hz
    cases hj : look hs j with
    | some z' =>
      rw [hj] at hz
      cases hz
      have hjk : j ≠ k := fun e => by rw [e, hk] at hj; cases hj
      rw [if_neg hjk]
      refine (h.hd j z hj).keep fun g hg ho => ⟨?_, hl g hg fun e => by rw [e] at ho; exact ho⟩
      refine hsame g hg ?_ ?_ ?_ <;> exact fun e => by rw [e] at ho; exact ho
    | none =>
      rw [hj] at hz
      have hjk : j = k := by
        by_cases e : j = k
        · exact e
        · simp [look, Ne.symm e] at hz
      subst hjk
      have hz' : (⟨1, kd⟩ : Hd) = z := by simpa [look] using hz
      subst hz'
      rw [if_pos rfl]
      refine ⟨hkb, by rw [hlab]; exact if_pos rfl, hob w2 lab' (fun g hg => ⟨?_, hgl g hg⟩) kb⟩
      have hgf := hfree g (hG g hg).2
      refine hsame g (hG g hg).1 ?_ ?_ ?_ <;> exact fun e => by rw [e] at hgf; cases hgf
  · obtain ⟨h1, h2⟩ := h.pi p pb bb ends hp
    refine ⟨(hsame pb h1.lt ?_ ?_ ?_).trans h1, (hl pb h1.lt (by rw [h2]; exact nofun)).trans h2⟩ <;> (rw [h2]; exact nofun)
  · rw [hlab]
    show (if g = kb then HL.hnd k else if G g then .obj k else lab g) = .free
    have := hkb.lt
    have := c.size
    rw [if_neg (by omega), if_neg fun hg2 => by have := (hG g hg2).1; omega]
    exact h.new g (by omega)
  · rcases hS g hg hs with h | h | h <;> (rw [h]; exact nofun)
theorem TabR.leave {S S' : Nat → Prop} {w2 : World} {k : Int} {top' : Nat} {v' : Value} {ys : List Int} (h : TabR w lab fb plb tb hs pp mb mem top v xs) (hF : ∀ g, F g ↔ lab g ≠ .free)
    (c : Chg S S' w w2) (hS : ∀ g, g < w.heap.size → S g → lab g = .tab ∨ lab g = .tmap ∨ lab g = .back ∨ OfH k (lab g)) (hn : NumR w2 tb (ptrV fb) (ptrV plb) (.map (some mb)) ((ids hs).filter fun j => j ≠ k) top' v' ys) (hv : ∀ g, v'.ownBlock = some g → lab g = .back ∨ w.heap.size ≤ g ∧ g < w2.heap.size)
    (hkm : KMap w2 mb (.int .i64) encI ((entH mem hs).filter fun p => p.1 ≠ k)) :
    ∃ F', TabF w2 F' fb plb tb (dropH hs k) pp top' ys ∧ Chg F F' w w2 := by
  have hfree : ∀ g, ¬ F g → lab g = .free := fun g hg => Classical.byContradiction fun h => hg ((hF g).2 h)
  have hsame : ∀ g, g < w.heap.size → lab g ≠ .tab → lab g ≠ .tmap → lab g ≠ .back → ¬ OfH k (lab g) → w2.heap[g]? = w.heap[g]? := fun g hg h1 h2 h3 h4 => c.block g hg fun hs => by
    rcases hS g hg hs with h | h | h | h
    · exact h1 h
    · exact h2 h
    · exact h3 h
    · exact h4 h
  have hl : ∀ g, g < w.heap.size → (if v'.ownBlock = some g then HL.back else lab g) = lab g := fun g hg => by
    by_cases e : v'.ownBlock = some g
    · rw [if_pos e]
      rcases hv g e with h | h
      · exact h.symm
      · omega
    · rw [if_neg e]
  have hvb : ∀ g, lab g ≠ .free → g < w.heap.size := fun g hg => Nat.lt_of_not_le fun hle => hg (h.new g hle)
  refine ⟨fun g => (if v'.ownBlock = some g then HL.back else lab g) ≠ .free, ⟨fun g => if v'.ownBlock = some g then HL.back else lab g, mb, mem, v', ⟨?_, ?_, fun g hg => if_pos hg, ?_, ?_, fun j z hz => ?_, fun p pb bb ends hp => ?_, fun g hg => ?_⟩, fun g => Iff.rfl⟩,
    ⟨c.os, c.tape, c.output, c.size, fun g hg hn => c.block g hg fun hs => hn ((hF g).2 ?_), fun g hg hn hx => hx ((hl g hg).trans (hfree g hn))⟩⟩
  · rw [ids_drop]
    exact hn
  · exact (hl tb h.num.at_.blk.lt).trans h.ltb
  · rw [entH_drop]
    exact hkm
  · exact (hl mb h.map.lt).trans h.lmap
  · obtain ⟨hz, hjk⟩ := look_drop h.apart hz
    refine (h.hd j z hz).keep fun g hg ho => ⟨?_, hl g hg⟩
    refine hsame g hg ?_ ?_ ?_ ?_
    · exact fun e => by rw [e] at ho; exact ho
    · exact fun e => by rw [e] at ho; exact ho
    · exact fun e => by rw [e] at ho; exact ho
    · intro e
      cases hlg : lab g with
      | hnd i => rw [hlg] at ho e; exact hjk (ho.symm.trans e)
      | obj i => rw [hlg] at ho e; exact hjk (ho.symm.trans e)
      | came i => rw [hlg] at ho e; exact hjk (ho.symm.trans e)
      | free => rw [hlg] at ho; exact ho.elim
      | tab => rw [hlg] at ho; exact ho.elim
      | tmap => rw [hlg] at ho; exact ho.elim
      | back => rw [hlg] at ho; exact ho.elim
      | pipe p => rw [hlg] at ho; exact ho.elim
  · obtain ⟨h1, h2⟩ := h.pi p pb bb ends hp
    refine ⟨(hsame pb h1.lt ?_ ?_ ?_ ?_).trans h1, (hl pb h1.lt).trans h2⟩ <;> (rw [h2]; first | exact nofun | exact id)
  · have := c.size
    show (if v'.ownBlock = some g then HL.back else lab g) = .free
    rw [if_neg fun e => ?_]
    · exact h.new g (by omega)
    · rcases hv g e with h' | h'
      · have := hvb g (by rw [h']; exact nofun)
        omega
      · omega
  · rcases hS g hg hs with h | h | h | h
    · rw [h]; exact nofun
    · rw [h]; exact nofun
    · rw [h]; exact nofun
    · exact fun e => by rw [e] at h; exact h
theorem TabR.pipes {S S' : Nat → Prop} {w2 : World} {pp' : Pps} {lab' : Nat → HL} (h : TabR w lab fb plb tb hs pp mb mem top v xs) (hF : ∀ g, F g ↔ lab g ≠ .free) (G : Nat → Prop) (c : Chg S S' w w2) (hS : ∀ g, g < w.heap.size → S g → (∃ p, lab g = .pipe p) ∨ G g ∧ lab g = .free)
    (hl : ∀ g, g < w.heap.size → lab g ≠ .free → lab' g = lab g) (hlf : ∀ g, g < w.heap.size → lab g = .free → ¬ G g → lab' g = .free) (hn : ∀ g, w2.heap.size ≤ g → lab' g = .free) (hle : pp.length ≤ pp'.length) (hb : ∀ p, p < pp.length → pipeB pp' p = pipeB pp p)
    (hpi : ∀ (p pb bb ends : Nat), pp'[p]? = some (pb, bb, ends) → Blk w2 pb [ptrV bb, .int .i64 (ends : Int)] 167 ∧ lab' pb = .pipe p) :
    ∃ F', TabF w2 F' fb plb tb hs pp' top xs ∧ Chg (fun g => F g ∨ G g) F' w w2 := by
  have hfree : ∀ g, ¬ F g → lab g = .free := fun g hg => Classical.byContradiction fun h => hg ((hF g).2 h)
  have hsame : ∀ g, g < w.heap.size → lab g ≠ .free → (∀ p, lab g ≠ .pipe p) → w2.heap[g]? = w.heap[g]? := fun g hg h1 h2 => c.block g hg fun hs => by
    rcases hS g hg hs with ⟨p, h⟩ | h
    · exact h2 p h
    · exact h1 h.2
  have hvb : ∀ g, lab g ≠ .free → g < w.heap.size := fun g hg => Nat.lt_of_not_le fun hle => hg (h.new g hle)
  refine ⟨fun g => lab' g ≠ .free, ⟨lab', mb, mem, v, ⟨h.num.keep (hsame tb h.num.at_.blk.lt (by rw [h.ltb]; exact nofun) (by rw [h.ltb]; exact nofun)) fun g hg => ?_, ?_, fun g hg => ?_, h.map.keep (hsame mb h.map.lt (by rw [h.lmap]; exact nofun) (by rw [h.lmap]; exact nofun)), ?_, fun j z hz => ?_, hpi, hn⟩, fun g => Iff.rfl⟩,
    ⟨c.os, c.tape, c.output, c.size, fun g hg hn => c.block g hg fun hs => hn ?_, fun g hg hn hx => hx (hlf g hg (hfree g fun h => hn (.inl h)) fun h => hn (.inr h))⟩⟩
  · have := h.lbk g hg
    exact hsame g (hvb g (by rw [this]; exact nofun)) (by rw [this]; exact nofun) (by rw [this]; exact nofun)
  · exact (hl tb h.num.at_.blk.lt (by rw [h.ltb]; exact nofun)).trans h.ltb
  · have := h.lbk g hg
    exact (hl g (hvb g (by rw [this]; exact nofun)) (by rw [this]; exact nofun)).trans this
  · exact (hl mb h.map.lt (by rw [h.lmap]; exact nofun)).trans h.lmap
  · have hz' := (h.hd j z hz).keep (w' := w2) (lab' := lab') fun g hg ho => ⟨hsame g hg (fun e => by rw [e] at ho; exact ho) (fun p e => by rw [e] at ho; exact ho), hl g hg fun e => by rw [e] at ho; exact ho⟩
    refine ⟨?_, hz'.lb, hz'.ob.more hle⟩
    rw [doesV_pipes z.kd _ hb fun p hp => ?_]
    · exact hz'.blk
    · have := hz'.ob
      rcases hp with hp | hp <;> (rw [hp] at this; exact this)
  · rcases hS g hg hs with ⟨p, h⟩ | h
    · exact .inl ((hF g).2 (by rw [h]; exact nofun))
    · exact .inr h.1
end
end Go.Proofs.YtfofpphnglhopaaGreatDoor
namespace Go.Proofs.YtfofpphnglhopaaGreatDoor
open Go Go.RowKit
def nmsLen (x : Pn) : Nat := match x.nms with | some l => l.length | none => 0
def infoOf (x : Pn) : Value := .agg #[.int .i64 (x.kind : Int), .int .i64 ((x.data.length + nmsLen x : Nat) : Int), .int .i64 (x.named : Int), .int .i64 (x.holds : Int)]
def info0 : Value := .agg #[.int .i64 0, .int .i64 0, .int .i64 0, .int .i64 0]
theorem grownBy_drewN {w w' : World} {r : Option Nat} (h : w.grownBy w' r) (n : Nat) : w.grownBy (w'.drewN n) r := ⟨h.os, h.tape, h.output, h.size, h.block⟩
theorem grown_setNew {w w' : World} {z : Nat} (h : w.grownBy w' none) (hz : w.heap.size ≤ z) (i : Nat) (u : Value) : w.grownBy (w'.setCell ⟨z, i, none⟩ u) none :=
  ⟨h.os, h.tape, h.output, by simpa [World.setCell] using h.size, fun b hb hn => (heap_setCell_other w' _ b u (by show b ≠ z; omega)).trans (h.block b hb hn)⟩
section
variable {w : World} {lab : Nat → TL} {F : Nat → Prop} {fb most room mb : Nat} {nds : Nds} {mem : Int → NM}
theorem NodeAt.len {k : Int} {x : Pn} {m : NM} (h : NodeAt w lab k x m) : (Builtin.len_ #[154] 3 #[m.nv]).run Tryz.prog w = .ok (.int .i64 (nmsLen x : Int)) w := by
  unfold nmsLen
  cases hn : x.nms with
  | none =>
    rw [h.nil hn]
    exact Maps.len_nil Tryz.underlying154 _
  | some l =>
    obtain ⟨nb, h1, _, h3⟩ := h.nms l hn
    rw [h1]
    have := h3.count Tryz.underlying154 3
    rwa [List.length_map] at this
theorem NodeAt.nvForm {k : Int} {x : Pn} {m : NM} (h : NodeAt w lab k x m) : ∃ r, m.nv = .map r := by
  cases hn : x.nms with
  | none => exact ⟨none, h.nil hn⟩
  | some l =>
    obtain ⟨nb, h1, _, h3⟩ := h.nms l hn
    exact ⟨_, h1⟩
theorem stat_some (h : TreeR w lab fb most room nds mb mem) {k : Int} {x : Pn} (hx : look nds k = some x) (hl : nmsLen x ≤ 1000000) :
    Calls Tryz.prog 27 #[.pointer (some ⟨fb, 0, none⟩), .int .i64 k] w fun e w' => e = .returned (.tuple #[infoOf x, .int .i64 0]) ∧ w.grownBy w' none := by
  have hN := h.nd k x hx
  have hb := fun (W : World) (hW : ∀ g, g < w.heap.size → W.heap[g]? = w.heap[g]?) (hs : w.heap.size ≤ W.heap.size) => body_some (w := W) (lab := lab) (mb := mb) (mem := mem) (fb := fb) (most := most) (room := room) (nds := nds)
    ⟨(hW fb h.fs.lt).trans h.fs, h.lfs, h.map.keep (hW mb h.map.lt), h.lmap, fun k x hx => (h.nd k x hx).keep fun g hg _ => ⟨hW g hg, rfl⟩, fun g hg => h.new g (Nat.le_trans hs hg), h.lim⟩ hx
  have hlen := fun (W : World) (hW : ∀ g, g < w.heap.size → W.heap[g]? = w.heap[g]?) => (hN.keep (w' := W) (lab' := lab) fun g hg _ => ⟨hW g hg, rfl⟩).len
  obtain ⟨r, hr⟩ := hN.nvForm
  obtain ⟨A, c, hdv, hc, hcm⟩ := hN.data.form
  have hfew := hN.few
  have c0 := hN.blk.cell (show (bodyC x (mem k))[0]? = some _ from rfl)
  have c1 := hN.blk.cell (show (bodyC x (mem k))[1]? = some _ from rfl)
  have c2 := hN.blk.cell (show (bodyC x (mem k))[2]? = some _ from rfl)
  have c3 := hN.blk.cell (show (bodyC x (mem k))[3]? = some _ from rfl)
  have c4 := hN.blk.cell (show (bodyC x (mem k))[4]? = some _ from rfl)
  have hlt := hN.blk.lt
  rw [hdv] at c3
  rw [hr] at c4 hlen
  unfold infoOf
  generalize (mem k).blk = kb at hb c0 c1 c2 c3 c4 hlt
  generalize x.kind = xk at c0 ⊢
  generalize x.named = xn at c1 ⊢
  generalize x.holds = xh at c2 ⊢
  generalize x.data.length = xd at c3 hc hfew ⊢
  generalize nmsLen x = xl at hlen hl ⊢
  clear h hN hx hr hdv
  replace hb := Lib.hid hb
  replace hlen := Lib.hid hlen
  go_enter Tryz.func27, Tryz.ntmps27
  go_upto_region 1 with fail
  have b1 : Blk (w.alloc (.cells #[.int .i64 0, .int .i64 0, .int .i64 0, .int .i64 0] 68)) w.heap.size [.int .i64 0, .int .i64 0, .int .i64 0, .int .i64 0] 68 := Blk.new w _ _
  have k1 : ∀ g, g < w.heap.size → (w.alloc (.cells #[.int .i64 0, .int .i64 0, .int .i64 0, .int .i64 0] 68)).heap[g]? = w.heap[g]? := fun g hg => Below.heap_alloc w _ g hg
  have s1 : w.heap.size ≤ (w.alloc (.cells #[.int .i64 0, .int .i64 0, .int .i64 0, .int .i64 0] 68)).heap.size := by simp
  have g1 : w.grownBy (w.alloc (.cells #[.int .i64 0, .int .i64 0, .int .i64 0, .int .i64 0] 68)) none := World.grownBy_alloc w _ _
  have hb1 := hb.out _ k1 s1
  have hlen1 := fun n => hlen.out ((w.alloc (.cells #[.int .i64 0, .int .i64 0, .int .i64 0, .int .i64 0] 68)).drewN n) k1
  replace c0 := (World.cell?_of_block (a := ⟨kb, 0, none⟩) (k1 kb hlt)).trans c0
  replace c1 := (World.cell?_of_block (a := ⟨kb, 1, none⟩) (k1 kb hlt)).trans c1
  replace c2 := (World.cell?_of_block (a := ⟨kb, 2, none⟩) (k1 kb hlt)).trans c2
  replace c3 := (World.cell?_of_block (a := ⟨kb, 3, none⟩) (k1 kb hlt)).trans c3
  replace c4 := (World.cell?_of_block (a := ⟨kb, 4, none⟩) (k1 kb hlt)).trans c4
  obtain ⟨z, hz⟩ : ∃ z, w.heap.size = z := ⟨_, rfl⟩
  generalize (w.alloc (.cells #[.int .i64 0, .int .i64 0, .int .i64 0, .int .i64 0] 68)) = w1 at b1 g1 hb1 hlen1 c0 c1 c2 c3 c4 ⊢
  simp only [hz] at hlt b1 ⊢
  have z0 := b1.cell (i := 0) rfl
  have z1 := b1.cell (i := 1) rfl
  have z2 := b1.cell (i := 2) rfl
  have z3 := b1.cell (i := 3) rfl
  have zf := b1.frozen
  have hzl := b1.lt
  replace hz := Lib.hid hz
  replace g1 := Lib.hid g1
  replace b1 := Lib.hid b1
  have hne : kb ≠ z := by omega
  clear k1 s1 hb hlen
  go_wp2_with fail
  refine hb1.mono ?_
  rintro e w' ⟨rfl, hw⟩
  obtain rfl := hw.symm
  clear hb1 hw
  go_upto_region 4 with fail
  go_quiet (fail)
  have d0 : (w1.drewN nq).cell? ⟨kb, 0, none⟩ = _ := c0
  have d1 : (w1.drewN nq).cell? ⟨kb, 1, none⟩ = _ := c1
  have d2 : (w1.drewN nq).cell? ⟨kb, 2, none⟩ = _ := c2
  have y0 : (w1.drewN nq).cell? ⟨z, 0, none⟩ = _ := z0
  have y1 : (w1.drewN nq).cell? ⟨z, 1, none⟩ = _ := z1
  have y2 : (w1.drewN nq).cell? ⟨z, 2, none⟩ = _ := z2
  have y3 : (w1.drewN nq).cell? ⟨z, 3, none⟩ = _ := z3
  have yf : ∀ i, (w1.drewN nq).frozen? ⟨z, i, none⟩ = false := zf
  have b2 : Hid (Blk (w1.drewN nq) z _ _) := b1
  have g2 : Hid (w.grownBy (w1.drewN nq) none) := Lib.hid (grownBy_drewN g1.out nq)
  have y0f := yf 0
  have y1f := yf 1
  have y2f := yf 2
  have y3f := yf 3
  generalize w1.drewN nq = w2 at d0 d1 d2 y0 y1 y2 y3 y0f y1f y2f y3f b2 g2 ⊢
  clear c0 c1 c2 c3 c4 z0 z1 z2 z3 zf yf b1 g1 hlen1
  go_wp2_with fail
  go_region
  have b3 := (((b2.out.set 0 (.int .i64 (xk : Int))).set 1 (.int .i64 ((xd : Int) + (xl : Int)))).set 2 (.int .i64 (xn : Int))).set 3 (.int .i64 (xh : Int))
  have g3 := grownBy_drewN (grown_setNew (grown_setNew (grown_setNew (grown_setNew g2.out (Nat.le_of_eq hz.out) 0 (.int .i64 (xk : Int))) (Nat.le_of_eq hz.out) 1 (.int .i64 ((xd : Int) + (xl : Int)))) (Nat.le_of_eq hz.out) 2 (.int .i64 (xn : Int))) (Nat.le_of_eq hz.out) 3 (.int .i64 (xh : Int))) 1
  replace b3 : Blk (((((w2.setCell ⟨z, 0, none⟩ (.int .i64 (xk : Int))).setCell ⟨z, 1, none⟩ (.int .i64 ((xd : Int) + (xl : Int)))).setCell ⟨z, 2, none⟩ (.int .i64 (xn : Int))).setCell ⟨z, 3, none⟩ (.int .i64 (xh : Int))).drew) z _ _ := b3
  replace g3 : w.grownBy (((((w2.setCell ⟨z, 0, none⟩ (.int .i64 (xk : Int))).setCell ⟨z, 1, none⟩ (.int .i64 ((xd : Int) + (xl : Int)))).setCell ⟨z, 2, none⟩ (.int .i64 (xn : Int))).setCell ⟨z, 3, none⟩ (.int .i64 (xh : Int))).drew) none := g3
  generalize ((((w2.setCell ⟨z, 0, none⟩ (.int .i64 (xk : Int))).setCell ⟨z, 1, none⟩ (.int .i64 ((xd : Int) + (xl : Int)))).setCell ⟨z, 2, none⟩ (.int .i64 (xn : Int))).setCell ⟨z, 3, none⟩ (.int .i64 (xh : Int))).drew = w3 at b3 g3 ⊢
  have e0 := b3.cell (i := 0) rfl
  have e1 := b3.cell (i := 1) rfl
  have e2 := b3.cell (i := 2) rfl
  have e3 := b3.cell (i := 3) rfl
  go_wp2
  exact bodyPost_ret (v := .tuple #[.agg #[.int .i64 (xk : Int), .int .i64 ((xd : Int) + (xl : Int)), .int .i64 (xn : Int), .int .i64 (xh : Int)], .int .i64 0]) (by simp [results, Tryz.results27, go_sem, e0, e1, e2, e3]) rfl ⟨rfl, g3⟩
theorem stat_none (h : TreeR w lab fb most room nds mb mem) {k : Int} (hx : look nds k = none) :
    Calls Tryz.prog 27 #[.pointer (some ⟨fb, 0, none⟩), .int .i64 k] w fun e w' => e = .returned (.tuple #[info0, .int .i64 10]) ∧ w.grownBy w' none := by
  have hb := fun (W : World) (hW : ∀ g, g < w.heap.size → W.heap[g]? = w.heap[g]?) (hs : w.heap.size ≤ W.heap.size) => body_none (w := W) (lab := lab) (mb := mb) (mem := mem) (fb := fb) (most := most) (room := room) (nds := nds)
    ⟨(hW fb h.fs.lt).trans h.fs, h.lfs, h.map.keep (hW mb h.map.lt), h.lmap, fun k x hx => (h.nd k x hx).keep fun g hg _ => ⟨hW g hg, rfl⟩, fun g hg => h.new g (Nat.le_trans hs hg), h.lim⟩ hx
  clear h hx
  replace hb := Lib.hid hb
  go_enter Tryz.func27, Tryz.ntmps27
  go_upto_region 1 with fail
  have b1 : Blk (w.alloc (.cells #[.int .i64 0, .int .i64 0, .int .i64 0, .int .i64 0] 68)) w.heap.size [.int .i64 0, .int .i64 0, .int .i64 0, .int .i64 0] 68 := Blk.new w _ _
  have k1 : ∀ g, g < w.heap.size → (w.alloc (.cells #[.int .i64 0, .int .i64 0, .int .i64 0, .int .i64 0] 68)).heap[g]? = w.heap[g]? := fun g hg => Below.heap_alloc w _ g hg
  have s1 : w.heap.size ≤ (w.alloc (.cells #[.int .i64 0, .int .i64 0, .int .i64 0, .int .i64 0] 68)).heap.size := by simp
  have g1 : w.grownBy (w.alloc (.cells #[.int .i64 0, .int .i64 0, .int .i64 0, .int .i64 0] 68)) none := World.grownBy_alloc w _ _
  have hb1 := hb.out _ k1 s1
  obtain ⟨z, hz⟩ : ∃ z, w.heap.size = z := ⟨_, rfl⟩
  generalize (w.alloc (.cells #[.int .i64 0, .int .i64 0, .int .i64 0, .int .i64 0] 68)) = w1 at b1 g1 hb1 ⊢
  simp only [hz] at b1 ⊢
  have z0 := b1.cell (i := 0) rfl
  have z1 := b1.cell (i := 1) rfl
  have z2 := b1.cell (i := 2) rfl
  have z3 := b1.cell (i := 3) rfl
  have y0f := b1.frozen 0
  have y1f := b1.frozen 1
  have y2f := b1.frozen 2
  have y3f := b1.frozen 3
  replace hz := Lib.hid hz
  replace g1 := Lib.hid g1
  replace b1 := Lib.hid b1
  clear k1 s1 hb
  go_wp2_with fail
  refine hb1.mono ?_
  rintro e w' ⟨rfl, hw⟩
  obtain rfl := hw.symm
  clear hb1 hw
  go_upto_region 3 with fail
  go_wp2
  have b3 := (((b1.out.set 0 (.int .i64 0)).set 1 (.int .i64 0)).set 2 (.int .i64 0)).set 3 (.int .i64 0)
  have g3 := grown_setNew (grown_setNew (grown_setNew (grown_setNew g1.out (Nat.le_of_eq hz.out) 0 (.int .i64 0)) (Nat.le_of_eq hz.out) 1 (.int .i64 0)) (Nat.le_of_eq hz.out) 2 (.int .i64 0)) (Nat.le_of_eq hz.out) 3 (.int .i64 0)
  generalize (((w1.setCell ⟨z, 0, none⟩ (.int .i64 0)).setCell ⟨z, 1, none⟩ (.int .i64 0)).setCell ⟨z, 2, none⟩ (.int .i64 0)).setCell ⟨z, 3, none⟩ (.int .i64 0) = w3 at b3 g3 ⊢
  have e0 := b3.cell (i := 0) rfl
  have e1 := b3.cell (i := 1) rfl
  have e2 := b3.cell (i := 2) rfl
  have e3 := b3.cell (i := 3) rfl
  exact bodyPost_ret (v := .tuple #[info0, .int .i64 10]) (by simp [results, Tryz.results27, go_sem, e0, e1, e2, e3, info0]) rfl ⟨rfl, g3⟩
theorem TreeR.set1 (h : TreeR w lab fb most room nds mb mem) (hF : ∀ g, F g ↔ lab g ≠ .free) {k : Int} {x y : Pn} (hx : look nds k = some x) (i : Nat) (v : Value) (hc : bodyC y (mem k) = (bodyC x (mem k)).set i v) (hd : y.data = x.data) (hn : y.nms = x.nms) :
    ∃ F', TreeF (w.setCell ⟨(mem k).blk, i, none⟩ v) F' fb most room (upd nds k y) ∧ Chg F F' w (w.setCell ⟨(mem k).blk, i, none⟩ v) := by
  have hN := h.nd k x hx
  have hu : usedN (upd nds k y) = usedN nds := by
    have := total_upd (f := fun x : Pn => x.data.length) h.apart hx y
    rw [hd] at this
    unfold usedN
    omega
  have ne : ∀ {g l}, lab g = l → l ≠ .body k → g ≠ (mem k).blk := fun {g l} hg hl e => by
    rw [e, hN.lb] at hg
    exact hl hg.symm
  refine h.step (S := fun g => g = (mem k).blk) (lab' := lab) (m' := mem k) hF hx (Chg.set (F := fun g => g = (mem k).blk) rfl i v) (fun g _ hg => .inr (by rw [hg, hN.lb]; exact rfl)) (fun _ _ => rfl) (fun g hg => h.new g (by simpa [World.setCell] using hg)) ?_ ?_ rfl (by rw [hu]; exact h.lim.2.2)
  · rw [hu]
    exact h.fs.other (ne h.lfs nofun) v
  · have hk : ∀ g l, lab g = l → l ≠ .body k → (w.setCell ⟨(mem k).blk, i, none⟩ v).heap[g]? = w.heap[g]? := fun g l hg hl => heap_setCell_other w _ g v (ne hg hl)
    exact {
      blk := by rw [hc]; exact hN.blk.set i v
      lb := hN.lb
      data := by rw [hd]; exact hN.data.keep fun g hg => hk g _ (hN.dl g hg) nofun
      dl := hN.dl
      few := by rw [hd]; exact hN.few
      nil := by rw [hn]; exact hN.nil
      nms := fun l hl => by
        rw [hn] at hl
        obtain ⟨nb, h1, h2, h3⟩ := hN.nms l hl
        exact ⟨nb, h1, h2, h3.keep (hk nb _ h2 nofun)⟩ }
theorem hold_some (h : TreeF w F fb most room nds) {k : Int} {x : Pn} (hx : look nds k = some x) (hh : x.holds ≤ 1000000) :
    Calls Tryz.prog 90 #[.pointer (some ⟨fb, 0, none⟩), .int .i64 k] w fun e w' => e = .returned (.int .i64 0) ∧ ∃ F', TreeF w' F' fb most room (upd nds k { x with holds := x.holds + 1 }) ∧ Chg F F' w w' := by
  obtain ⟨lab, mb, mem, h, hF⟩ := h
  have hb := body_some h hx
  have hN := h.nd k x hx
  have c2 := hN.blk.cell (show (bodyC x (mem k))[2]? = some _ from rfl)
  have hf := hN.blk.frozen 2
  have hlt := hN.blk.lt
  have hs := h.set1 hF hx 2 (.int .i64 ((x.holds + 1 : Nat) : Int)) (y := { x with holds := x.holds + 1 }) rfl rfl rfl
  generalize { x with holds := x.holds + 1 } = y at hs ⊢
  have e1 : ((x.holds + 1 : Nat) : Int) = (x.holds : Int) + 1 := by omega
  rw [e1] at hs
  generalize (mem k).blk = kb at hb c2 hf hlt hs
  generalize x.holds = xh at c2 hs hh
  replace hs := Lib.hid hs
  clear h hN hx hF e1
  go_enter Tryz.func90, Tryz.ntmps90
  go_wp2_with fail
  refine hb.mono ?_
  rintro e w' ⟨rfl, hw⟩
  obtain rfl := hw.symm
  clear hb hw
  go_wp2
  go_ret
  exact ⟨rfl, hs.out⟩
theorem sweep_stay (h : TreeF w F fb most room nds) {k : Int} {x : Pn} (hx : look nds k = some x) (hl : k = 1 ∨ 0 < x.named ∨ 0 < x.holds) :
    Calls Tryz.prog 125 #[.pointer (some ⟨fb, 0, none⟩), .int .i64 k] w fun e w' => e = .returned (.tuple #[]) ∧ w' = w := by
  obtain ⟨lab, mb, mem, h, hF⟩ := h
  have hfi := h.find_some hx
  have hN := h.nd k x hx
  have f0 := h.fs.cell (i := 0) rfl
  have c1 := hN.blk.cell (show (bodyC x (mem k))[1]? = some _ from rfl)
  have c2 := hN.blk.cell (show (bodyC x (mem k))[2]? = some _ from rfl)
  have hlt := hN.blk.lt
  have hfl := h.fs.lt
  generalize (mem k).blk = kb at hfi c1 c2 hlt
  generalize x.named = xn at c1 hl
  generalize x.holds = xh at c2 hl
  clear h hN hx hF
  by_cases h1 : k = 1
  · subst h1
    go_enter Tryz.func125, Tryz.ntmps125
    go_wp2
    exact bodyPost_ret (v := .tuple #[]) (by simp [results, Tryz.results125]) rfl ⟨rfl, rfl⟩
  · have e1 : (k == 1) = false := by simpa using h1
    by_cases h2 : 0 < xn
    · have e2 : (0 : Int) < (xn : Int) := by omega
      clear hl h1
      go_enter Tryz.func125, Tryz.ntmps125
      go_wp2
      exact bodyPost_ret (v := .tuple #[]) (by simp [results, Tryz.results125]) rfl ⟨rfl, rfl⟩
    · have e2 : ¬ (0 : Int) < (xn : Int) := by omega
      have e3 : (0 : Int) < (xh : Int) := by omega
      clear hl h1
      go_enter Tryz.func125, Tryz.ntmps125
      go_wp2
      exact bodyPost_ret (v := .tuple #[]) (by simp [results, Tryz.results125]) rfl ⟨rfl, rfl⟩
theorem drop_some (h : TreeF w F fb most room nds) {k : Int} {x : Pn} (hx : look nds k = some x) (hh : 0 < x.holds) (hm : x.holds ≤ 1000000) (hl : k = 1 ∨ 0 < x.named ∨ 1 < x.holds) :
    Calls Tryz.prog 151 #[.pointer (some ⟨fb, 0, none⟩), .int .i64 k] w fun e w' => e = .returned (.int .i64 0) ∧ ∃ F', TreeF w' F' fb most room (upd nds k { x with holds := x.holds - 1 }) ∧ Chg F F' w w' := by
  obtain ⟨lab, mb, mem, h, hF⟩ := h
  have hb := body_some h hx
  have hN := h.nd k x hx
  have c2 := hN.blk.cell (show (bodyC x (mem k))[2]? = some _ from rfl)
  have hf := hN.blk.frozen 2
  have hlt := hN.blk.lt
  obtain ⟨H, hH⟩ : ∃ H, x.holds = H + 1 := ⟨x.holds - 1, by omega⟩
  have hs := h.set1 hF hx 2 (.int .i64 ((x.holds - 1 : Nat) : Int)) (y := { x with holds := x.holds - 1 }) rfl rfl rfl
  obtain ⟨F', hT, hC⟩ := hs
  have hsw := sweep_stay hT (look_upd_same hx _) (by show k = 1 ∨ 0 < x.named ∨ 0 < x.holds - 1; omega)
  generalize { x with holds := x.holds - 1 } = y at hT hC ⊢
  have e1 : ((x.holds - 1 : Nat) : Int) = (H : Int) := by omega
  rw [e1] at hT hC hsw
  rw [hH] at c2 hm
  generalize (mem k).blk = kb at hb c2 hf hlt hT hC hsw
  have e2 : ((H : Int) + 1 == 0) = false := by simp; omega
  replace hT := Lib.hid hT
  replace hC := Lib.hid hC
  clear h hN hx hF e1 hl hh hH
  go_enter Tryz.func151, Tryz.ntmps151
  go_wp2_with fail
  refine hb.mono ?_
  rintro e w' ⟨rfl, hw⟩
  obtain rfl := hw.symm
  clear hb hw
  go_wp2_with fail
  refine hsw.mono ?_
  rintro e w' ⟨rfl, hw⟩
  obtain rfl := hw.symm
  clear hsw hw
  go_wp2
  go_ret
  exact ⟨rfl, F', hT.out, hC.out⟩
end
theorem conv_row {w : World} {n : Nat} {v : Value} {l : List UInt8} (h : RowM w 5 v n (bc l)) : (convert 153 9 v).run Tryz.prog w = .ok (.string ⟨l.toArray⟩) w := by
  have hl := h.len
  rw [bc_len] at hl
  rcases h with ⟨rfl, rfl, he⟩ | ⟨g, off, cap, cur, rfl, h1, h2, h3, h4, h5⟩
  · have : l = [] := List.eq_nil_of_length_eq_zero hl
    subst this
    exact Lib.run_convert_nil_bytes w _ _ _ _ Tryz.underlying153 Tryz.underlying5 Tryz.underlying9
  · subst hl
    exact run_convert_bytes_back w 153 9 5 ⟨g, off, none⟩ cap l Tryz.underlying153 Tryz.underlying5 Tryz.underlying9 (fun j hj => by
      rw [add_plain0]
      refine RowM.cell (w := w) (e := 5) (n := l.length) (xs := bc l) (c := cap) (.inr ⟨g, off, cap, cur, rfl, h1, h2, h3, h4, h5⟩) ?_
      unfold bc
      rw [List.getElem?_map, List.getElem?_eq_getElem hj]
      rfl)
theorem conv_row_d {w : World} {n : Nat} {v : Value} {l : List UInt8} (h : RowM w 5 v n (bc l)) (k : Nat) : (convert 153 9 v).run Tryz.prog (w.drewN k) = .ok (.string ⟨l.toArray⟩) (w.drewN k) :=
  conv_row (w := w.drewN k) (n := n) (h.keep fun _ _ => rfl)
section
variable {w : World} {lab : Nat → TL} {F : Nat → Prop} {fb most room mb : Nat} {nds : Nds} {mem : Int → NM}
theorem read_some (h : TreeR w lab fb most room nds mb mem) {k : Int} {x : Pn} (hx : look nds k = some x) (hk : x.kind ≠ 1) (a n : Nat) (ha : a ≤ 1000000000) (hn : n ≤ 9223372036854775807) :
    Calls Tryz.prog 70 #[.pointer (some ⟨fb, 0, none⟩), .int .i64 k, .int .i64 (a : Int), .int .i64 (n : Int)] w fun e w' => e = .returned (.tuple #[.string ⟨((x.data.drop a).take n).toArray⟩, .int .i64 0]) ∧ ∃ m, w' = w.drewN m := by
  have hb := leaf_some h hx hk
  have hN := h.nd k x hx
  have c3 := hN.blk.cell (show (bodyC x (mem k))[3]? = some _ from rfl)
  have hlt := hN.blk.lt
  have hfew := hN.few
  obtain ⟨A, c, hdv, hc, hcm⟩ := hN.data.form
  have hD := hN.data
  rw [hdv] at hD c3
  generalize (mem k).blk = kb at hb c3 hlt
  obtain ⟨L, hL⟩ : ∃ L, x.data.length = L := ⟨_, rfl⟩
  rw [hL] at hD c3 hc hfew
  have hA0 : ¬ (a : Int) < 0 := by omega
  have hn0 : ¬ (n : Int) < 0 := by omega
  have hdl : ∀ q r : Nat, q = min a L → r = min n (L - q) → (x.data.drop q).take r = (x.data.drop a).take n := fun q r hq hr => by
    by_cases h : a ≤ L
    · obtain rfl : q = a := by omega
      by_cases h2 : n ≤ L - q
      · rw [show r = n by omega]
      · rw [List.take_of_length_le (by rw [List.length_drop]; omega), List.take_of_length_le (by rw [List.length_drop]; omega)]
    · rw [List.drop_eq_nil_of_le (by omega), List.drop_eq_nil_of_le (by omega)]; simp
  have hcv : ∀ q r : Nat, q = min a L → r = min n (L - q) → ∀ k : Nat, (convert 153 9 (.slice (if c = q then A else A.map (·.add q)) r (c - q))).run Tryz.prog (w.drewN k) = .ok (.string ⟨((x.data.drop a).take n).toArray⟩) (w.drewN k) := fun q r hq hr => by
    have hT := (hD.tail q (by omega)).head r (by omega)
    have e1 : (bc x.data).drop q = bc (x.data.drop q) := by unfold bc; rw [List.map_drop]
    have e2 : (bc (x.data.drop q)).take r = bc ((x.data.drop q).take r) := by unfold bc; rw [List.map_take]
    rw [e1, e2, hdl q r hq hr] at hT
    exact conv_row_d hT
  have hAs : 0 < c → ∃ g off, A = some ⟨g, off, none⟩ := fun hc0 => hD.formA hc0
  clear h hN hx hD hdv hk hdl hL
  unfold maxLen at hcm
  generalize ((x.data.drop a).take n).toArray = res at hcv ⊢
  by_cases h1 : L < a
  · have hcw := hcv L 0 (by omega) (by omega)
    clear hcv
    by_cases h2 : c = L
    · rw [if_pos h2] at hcw
      obtain rfl := h2
      simp only [Nat.sub_self] at hcw
      clear hAs
      by_cases h3 : n = 0
      · subst h3
        clear hn
        go_enter Tryz.func70, Tryz.ntmps70
        go_wp2_with fail
        refine hb.mono ?_
        rintro e w' ⟨rfl, hw⟩
        obtain rfl := hw.symm
        clear hb hw
        go_upto_region 6 with fail
        go_quiet (fail)
        go_wp2
        go_ret2
        exact ⟨rfl, _, rfl⟩
      · have h4 : 0 < n := by omega
        clear h3
        go_enter Tryz.func70, Tryz.ntmps70
        go_wp2_with fail
        refine hb.mono ?_
        rintro e w' ⟨rfl, hw⟩
        obtain rfl := hw.symm
        clear hb hw
        go_upto_region 6 with fail
        go_quiet (fail)
        go_wp2
        go_ret2
        exact ⟨rfl, _, rfl⟩
    · rw [if_neg h2] at hcw
      have h5 : L < c := by omega
      obtain ⟨g, off, rfl⟩ := hAs (by omega)
      clear hAs
      simp only [Option.map_some, add_plain0] at hcw
      by_cases h3 : n = 0
      · subst h3
        clear hn
        go_enter Tryz.func70, Tryz.ntmps70
        go_wp2_with fail
        refine hb.mono ?_
        rintro e w' ⟨rfl, hw⟩
        obtain rfl := hw.symm
        clear hb hw
        go_upto_region 6 with fail
        go_quiet (fail)
        go_wp2
        go_ret2
        exact ⟨rfl, _, rfl⟩
      · have h4 : 0 < n := by omega
        clear h3
        go_enter Tryz.func70, Tryz.ntmps70
        go_wp2_with fail
        refine hb.mono ?_
        rintro e w' ⟨rfl, hw⟩
        obtain rfl := hw.symm
        clear hb hw
        go_upto_region 6 with fail
        go_quiet (fail)
        go_wp2
        go_ret2
        exact ⟨rfl, _, rfl⟩
  · by_cases h3 : L - a < n
    · have hcw := hcv a (L - a) (by omega) (by omega)
      clear hcv
      by_cases h2 : c = a
      · rw [if_pos h2] at hcw
        have h6 : a = L := by omega
        subst h6
        subst h2
        simp only [Nat.sub_self] at hcw h3
        clear hAs
        go_enter Tryz.func70, Tryz.ntmps70
        go_wp2_with fail
        refine hb.mono ?_
        rintro e w' ⟨rfl, hw⟩
        obtain rfl := hw.symm
        clear hb hw
        go_upto_region 6 with fail
        go_quiet (fail)
        go_wp2
        go_ret2
        exact ⟨rfl, _, rfl⟩
      · rw [if_neg h2] at hcw
        have h5 : a < c := by omega
        obtain ⟨g, off, rfl⟩ := hAs (by omega)
        clear hAs
        simp only [Option.map_some, add_plain0] at hcw
        go_enter Tryz.func70, Tryz.ntmps70
        go_wp2_with fail
        refine hb.mono ?_
        rintro e w' ⟨rfl, hw⟩
        obtain rfl := hw.symm
        clear hb hw
        go_upto_region 6 with fail
        go_quiet (fail)
        go_wp2
        go_ret2
        exact ⟨rfl, _, rfl⟩
    · have hcw := hcv a n (by omega) (by omega)
      clear hcv
      have h7 : n ≤ L - a := by omega
      by_cases h2 : c = a
      · rw [if_pos h2] at hcw
        have h6 : a = L := by omega
        subst h6
        subst h2
        have h8 : n = 0 := by omega
        subst h8
        try simp only [Nat.sub_self] at hcw
        clear hAs h7 h3 hn
        go_enter Tryz.func70, Tryz.ntmps70
        go_wp2_with fail
        refine hb.mono ?_
        rintro e w' ⟨rfl, hw⟩
        obtain rfl := hw.symm
        clear hb hw
        go_upto_region 6 with fail
        go_quiet (fail)
        go_wp2
        go_ret2
        exact ⟨rfl, _, rfl⟩
      · rw [if_neg h2] at hcw
        have h5 : a < c := by omega
        obtain ⟨g, off, rfl⟩ := hAs (by omega)
        clear hAs
        simp only [Option.map_some, add_plain0] at hcw
        go_enter Tryz.func70, Tryz.ntmps70
        go_wp2_with fail
        refine hb.mono ?_
        rintro e w' ⟨rfl, hw⟩
        obtain rfl := hw.symm
        clear hb hw
        go_upto_region 6 with fail
        go_quiet (fail)
        go_wp2
        go_ret2
        exact ⟨rfl, _, rfl⟩
end
end Go.Proofs.YtfofpphnglhopaaGreatDoor
