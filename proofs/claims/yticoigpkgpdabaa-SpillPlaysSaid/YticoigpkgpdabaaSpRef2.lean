/-
  The reference's Open, Held, Buffers, Close, Drain, Append. Conditions: at most a million bytes a buffer, and a thousand buffers.
-/
import Derived.Test.YticoigpkgpdabaaSpRef
namespace Go.Proofs.Yticoigpkgpdabaa
open Go Go.RowKit

theorem infoRB : (Try.prog.info? 38).map (fun i => (i.zero, i.size, i.bytes)) = some (some (.pointer none), 1, 8) := by kernel_rfl

section
variable {w : World} {B rb q M C : Nat} {rs : List REnt} {L : Value}

/-- What a call of the reference may change. -/
structure Rm (B : Nat) (w w' : World) : Prop where
  os : w'.os = w.os
  tape : w'.tape = w.tape
  output : w'.output = w.output
  size : w.heap.size ≤ w'.heap.size
  keep : ∀ g cur t f, w.heap[g]? = some (.cells cur t f) → (g < B ∨ (t ≠ 43 ∧ t ≠ 38 ∧ t ≠ 62)) → w'.heap[g]? = w.heap[g]?
  low : ∀ g, g < w.heap.size → g < B → w'.heap[g]? = w.heap[g]?
theorem Rm.refl (B : Nat) (w : World) : Rm B w w := ⟨rfl, rfl, rfl, Nat.le_refl _, fun _ _ _ _ _ _ => rfl, fun _ _ _ => rfl⟩
theorem Rm.of_drewN {w' : World} (h : ∃ n, w' = w.drewN n) : Rm B w w' := by
  obtain ⟨n, rfl⟩ := h
  exact ⟨rfl, rfl, rfl, Nat.le_refl _, fun _ _ _ _ _ _ => rfl, fun _ _ _ => rfl⟩
/-- A change of one block that is the reference's. -/
theorem Rm.of_one {w' : World} {x : Nat} {cx : List Value} {t : TypeId} (hx : Blk w x cx t) (hB : B ≤ x) (ht : t = 43 ∨ t = 38 ∨ t = 62) (h1 : w'.os = w.os) (h2 : w'.tape = w.tape) (h3 : w'.output = w.output) (h4 : w.heap.size ≤ w'.heap.size) (hk : ∀ g, g < w.heap.size → g ≠ x → w'.heap[g]? = w.heap[g]?) : Rm B w w' :=
  ⟨h1, h2, h3, h4, fun g cur t' f hg h => hk g (Array.getElem?_eq_some_iff.1 hg).1 fun e => by
    subst e
    unfold Blk at hx
    rw [hx] at hg
    cases hg
    rcases h with h | ⟨h5, h6, h7⟩
    · omega
    · rcases ht with rfl | rfl | rfl
      · exact h5 rfl
      · exact h6 rfl
      · exact h7 rfl, fun g hg h => hk g hg (by omega)⟩
theorem All.rm {w' : World} {pb tot : Nat} {es : List Ent} (h : All w B pb q M C es tot) (m : Rm B w w') : All w' B pb q M C es tot :=
  h.far m.size fun g cur t _ hb ht => m.keep g cur.toArray t (0, 0) hb (.inr (by unfold Four at ht; rcases ht with rfl | rfl | rfl | rfl <;> decide))

theorem Rm.trans {w' w'' : World} (h : Rm B w w') (k : Rm B w' w'') : Rm B w w'' :=
  ⟨k.os.trans h.os, k.tape.trans h.tape, k.output.trans h.output, Nat.le_trans h.size k.size, fun g cur t f hg hc => by
    have e := h.keep g cur t f hg hc
    exact (k.keep g cur t f (e.trans hg) hc).trans e, fun g hg hb => (k.low g (Nat.lt_of_lt_of_le hg h.size) hb).trans (h.low g hg hb)⟩

set_option maxHeartbeats 2000000 in
set_option maxRecDepth 100000 in
theorem ropen_ok (h : RefAt w B rb q M C rs L) (hn : rs.length ≤ 1000) (hB : B ≤ w.heap.size) :
    Calls Try.prog 12 #[.pointer (some ⟨rb, 0, none⟩)] w fun e w' => ∃ L', (∃ v, e = .returned v) ∧ RefAt w' B rb q M C (rs ++ [(w.heap.size, ⟨#[]⟩, 0, false)]) L' ∧ Rm B w w' := by
  obtain ⟨i0, hi, hz0, hz1, hz2⟩ := info_parts infoRB
  obtain ⟨A, c, rfl, hc, hcm⟩ := h.form
  obtain ⟨z, hz⟩ : ∃ z, w.heap.size = z := ⟨_, rfl⟩
  obtain ⟨KL, hKL⟩ : ∃ KL, rs.length = KL := ⟨_, rfl⟩
  rw [hKL] at h hc hn
  rw [hz] at hB ⊢
  have hrb := h.blk.lt
  rw [hz] at hrb
  have hrow := h.row
  rw [hKL] at hrow
  replace h := Lib.hid h
  replace hz := Lib.hid hz
  replace hKL := Lib.hid hKL
  unfold maxLen at hcm
  go_enter Try.func12, Try.ntmps12
  go_upto_region 2 with fail
  rw [hz.out]
  have hb1 : Blk (w.alloc (.cells #[.string ⟨#[]⟩, .int .i64 0, .bool false] 62)) z (rentC (z, ⟨#[]⟩, 0, false)) 62 := by
    have := Blk.new w (rentC (z, ⟨#[]⟩, 0, false)) 62
    rw [hz.out] at this
    exact this
  have hk1 : ∀ g, g < z → (w.alloc (.cells #[.string ⟨#[]⟩, .int .i64 0, .bool false] 62)).heap[g]? = w.heap[g]? := fun g hg => Below.heap_alloc w _ g (by rw [hz.out]; exact hg)
  have hs1 : (w.alloc (.cells #[.string ⟨#[]⟩, .int .i64 0, .bool false] 62)).heap.size = z + 1 := by simp [hz.out]
  have ha1 : (w.alloc (.cells #[.string ⟨#[]⟩, .int .i64 0, .bool false] 62)).os = w.os ∧ (w.alloc (.cells #[.string ⟨#[]⟩, .int .i64 0, .bool false] 62)).tape = w.tape ∧ (w.alloc (.cells #[.string ⟨#[]⟩, .int .i64 0, .bool false] 62)).output = w.output := ⟨rfl, rfl, rfl⟩
  generalize w.alloc (.cells #[.string ⟨#[]⟩, .int .i64 0, .bool false] 62) = w1 at hb1 hk1 hs1 ha1 ⊢
  have hlt0 : ∀ k, (Value.slice A KL c).ownBlock = some k → B ≤ k ∧ k < z := fun k hk => by
    have := hrow.lt k hk
    rw [hz.out] at this
    exact this
  have hrow1 : w1.ownsRow B 38 1 (.slice A KL c) KL (rs.map rptr) := own_keep hrow fun g cur _ _ hg => hk1 g (hlt0 g hg).2
  have hB2 : ∀ j u, ([.pointer (some ⟨z, 0, none⟩)] : List Value)[j]? = some u → (w1.alloc (.cells #[.pointer (some ⟨z, 0, none⟩)] 38)).cell? ((⟨z + 1, 0, none⟩ : Addr).add j) = some u := by
    intro j u hu
    rw [add_plain0, Nat.zero_add]
    have := Blk.new w1 [.pointer (some ⟨z, 0, none⟩)] 38
    rw [hs1] at this
    exact this.cell hu
  have hrow2 := hrow1.alloc (.cells #[.pointer (some ⟨z, 0, none⟩)] 38)
  obtain ⟨g, cap, w3, hrun, hrow3, hgr3, hat, hgl⟩ := run_append_lies (P := Try.prog) (w1.alloc (.cells #[.pointer (some ⟨z, 0, none⟩)] 38)) 41 41 B 38 i0 _ 1 8 Try.underlying41 hi hz0 hz1 hz2 rfl (by decide)
    (.slice A KL c) KL (rs.map rptr) hrow2 ⟨z + 1, 0, none⟩ 1 1 [.pointer (some ⟨z, 0, none⟩)] rfl hB2 (by simp [Value.oneCell']) (by decide) (by simp only [maxLen]; omega) (by omega) (by simp [hs1]; omega) (z + 2) (by simp [hs1])
  have hgz : (Value.slice A KL c).ownBlock ≠ some z := fun e => by have := (hlt0 z e).2; omega
  have hgrb : (Value.slice A KL c).ownBlock ≠ some rb := fun e => by
    rcases hrow.2 with ⟨h1, _⟩ | ⟨g', cap', cur, h1, _, h3, _⟩
    · rw [h1] at e; cases e
    · rw [h1] at e; cases e
      have := h.out.blk
      unfold Blk at this
      rw [h3] at this
      simp at this
  have hk3 : ∀ k, k < z + 1 → (Value.slice A KL c).ownBlock ≠ some k → w3.heap[k]? = w1.heap[k]? := fun k hk hne => (hgr3.block k (by simp [hs1]; omega) (fun e => hne e.symm)).trans (Below.heap_alloc w1 _ k (by rw [hs1]; exact hk))
  have hrb3 : Blk w3 rb (refC q M C (.slice A KL c)) 43 := ((hk3 rb (by omega) hgrb).trans (hk1 rb hrb)).trans h.out.blk
  have hb3 : Blk w3 z (rentC (z, ⟨#[]⟩, 0, false)) 62 := (hk3 z (by omega) hgz).trans hb1
  have c3 := hrb3.cell (show (refC q M C (.slice A KL c))[3]? = some _ from rfl)
  have d3 : w1.cell? ⟨rb, 3, none⟩ = some (.slice A KL c) := (World.cell?_of_block (a := ⟨rb, 3, none⟩) (hk1 rb hrb)).trans (h.out.blk.cell rfl)
  have f3 := hrb3.frozen 3
  have hgne : g ≠ rb := by
    rcases hat with h1 | h1
    · exact fun e => hgrb (by rw [h1, e])
    · omega
  have hrb3l := hrb3.lt
  have hs3 : z + 2 ≤ w3.heap.size := by have := hgr3.size; simp [hs1] at this; omega
  have hx3 : w3.os = w.os ∧ w3.tape = w.tape ∧ w3.output = w.output := ⟨hgr3.os.trans ha1.1, hgr3.tape.trans ha1.2.1, hgr3.output.trans ha1.2.2⟩
  replace hb1 := Lib.hid hb1
  replace hk1 := Lib.hid hk1
  replace ha1 := Lib.hid ha1
  replace hlt0 := Lib.hid hlt0
  replace hrow := Lib.hid hrow
  replace hrow1 := Lib.hid hrow1
  replace hrow2 := Lib.hid hrow2
  replace hrow3 := Lib.hid hrow3
  replace hrun := Lib.hid hrun
  replace hgr3 := Lib.hid hgr3
  replace hat := Lib.hid hat
  replace hgz := Lib.hid hgz
  replace hgrb := Lib.hid hgrb
  replace hk3 := Lib.hid hk3
  replace hrb3 := Lib.hid hrb3
  replace hb3 := Lib.hid hb3
  replace hx3 := Lib.hid hx3
  have hrbl1 : rb < w1.heap.size := by omega
  clear hB2 hi hz0 hz1 hz2
  go_wp2_with (at_builtin; refine wpList_append_of rfl _ _ 41 41 rfl _ _ _ w3 rfl rfl hrun.out ?_)
  go_wp2
  go_ret
  have hrb4 := hrb3.out.set 3 (.slice (some ⟨g, 0, none⟩) (KL + 1) cap)
  have e4 : (refC q M C (.slice A KL c)).set 3 (.slice (some ⟨g, 0, none⟩) (KL + 1) cap) = refC q M C (.slice (some ⟨g, 0, none⟩) (KL + 1) cap) := rfl
  rw [e4] at hrb4
  have hk4 : ∀ k, k ≠ rb → (w3.setCell ⟨rb, 3, none⟩ (.slice (some ⟨g, 0, none⟩) (KL + 1) cap)).heap[k]? = w3.heap[k]? := fun k hk => heap_setCell_other w3 _ k _ hk
  have hs4 : (w3.setCell ⟨rb, 3, none⟩ (.slice (some ⟨g, 0, none⟩) (KL + 1) cap)).heap.size = w3.heap.size := by simp [World.setCell]
  refine ⟨.slice (some ⟨g, 0, none⟩) (KL + 1) cap, ⟨_, rfl⟩, ?_, ?_⟩
  · exact {
      blk := hrb4
      low := h.out.low
      row := by
        rw [List.length_append, hKL.out, List.map_append]
        exact own_keep hrow3.out fun k cur _ _ hk => hk4 k (by cases hk; exact hgne)
      ent := fun i r hr => by
        rw [List.getElem?_append] at hr
        split at hr
        · obtain ⟨h1, h2, h3⟩ := h.out.ent i r hr
          have hl := h1.lt
          rw [hz.out] at hl
          have hne : (Value.slice A KL c).ownBlock ≠ some r.1 := fun e => by
            rcases hrow.out.2 with ⟨h4, _⟩ | ⟨g', cap', cur, h4, _, h6, _⟩
            · rw [h4] at e; cases e
            · rw [h4] at e; cases e
              unfold Blk at h1
              rw [h6] at h1
              simp at h1
          exact ⟨((hk4 r.1 (h.out.rb_ne hr).symm).trans ((hk3.out r.1 (by omega) hne).trans (hk1.out r.1 hl))).trans h1, h2, h3⟩
        · obtain ⟨hk0, hr⟩ := List.getElem?_eq_some_iff.1 hr
          simp at hr
          subst hr
          exact ⟨(hk4 z (by omega)).trans hb3.out, hB, Nat.zero_le _⟩
      nd := by
        rw [List.map_append, List.nodup_append]
        refine ⟨h.out.nd, by simp, fun x hx y hy e => ?_⟩
        subst e
        obtain ⟨r, hr, rfl⟩ := List.mem_map.1 hx
        obtain ⟨i, hi⟩ := List.getElem?_of_mem hr
        have := (h.out.ent i r hi).1.lt
        rw [hz.out] at this
        simp at hy
        omega }
  · refine ⟨hx3.out.1, hx3.out.2.1, hx3.out.2.2, by rw [hs4, hz.out]; omega, fun k cur t f hk hc => ?_, fun k hk hkB => ?_⟩
    · have hkl := (Array.getElem?_eq_some_iff.1 hk).1
      rw [hz.out] at hkl
      have h1 : k ≠ rb := fun e => by
        subst e
        have := h.out.blk
        unfold Blk at this
        rw [hk] at this
        cases this
        rcases hc with hc | ⟨hc, _, _⟩
        · have := h.out.low; omega
        · exact hc rfl
      have h2 : (Value.slice A KL c).ownBlock ≠ some k := fun e => by
        rcases hrow.out.2 with ⟨h4, _⟩ | ⟨g', cap', cur', h4, h5, h6, _⟩
        · rw [h4] at e; cases e
        · rw [h4] at e; cases e
          rw [hk] at h6
          cases h6
          rcases hc with hc | ⟨_, hc, _⟩
          · have hc' : g' < B := hc
            omega
          · exact hc rfl
      exact (hk4 k h1).trans ((hk3.out k (by omega) h2).trans (hk1.out k hkl))
    · rw [hz.out] at hk
      have h1 : k ≠ rb := fun e => by have := h.out.low; omega
      have h2 : (Value.slice A KL c).ownBlock ≠ some k := fun e => by have := (hlt0.out k e).1; omega
      exact (hk4 k h1).trans ((hk3.out k (by omega) h2).trans (hk1.out k hk))

theorem tally_take {α : Type} (f : α → Nat) (l : List α) (n : Nat) (h : n < l.length) : tally f (l.take (n + 1)) = tally f (l.take n) + f l[n] := by
  rw [List.take_succ_eq_append_getElem h, tally_app]
theorem tally_take_le {α : Type} (f : α → Nat) (l : List α) (n : Nat) : tally f (l.take n) ≤ tally f l := by
  induction l generalizing n with
  | nil => simp [tally]
  | cons a l ih =>
    cases n with
    | zero => simp [tally]
    | succ n => have := ih n; simp only [List.take_succ_cons, tally]; omega

set_option maxHeartbeats 2000000 in
set_option maxRecDepth 100000 in
theorem rheld_ok (h : RefAt w B rb q M C rs L) (hn : rs.length ≤ 1000) (hs : ∀ (i : Nat) (r : REnt), rs[i]? = some r → r.2.1.size ≤ 1000000) (ht : tally rheldOf rs ≤ 1000000000) :
    Calls Try.prog 23 #[.pointer (some ⟨rb, 0, none⟩)] w fun e w' => e = .returned (.int .i64 (tally rheldOf rs : Int)) ∧ ∃ n, w' = w.drewN n := by
  obtain ⟨A, c, rfl, hc, hcm⟩ := h.form
  obtain ⟨KL, hKL⟩ : ∃ KL, rs.length = KL := ⟨_, rfl⟩
  rw [hKL] at h hc hn
  have c3 := h.blk.cell (show (refC q M C (.slice A KL c))[3]? = some _ from rfl)
  have hrb := h.blk.lt
  obtain ⟨T, hT⟩ : ∃ T, tally rheldOf rs = T := ⟨_, rfl⟩
  rw [hT] at ht ⊢
  replace hT := Lib.hid hT
  replace h := Lib.hid h
  replace hKL := Lib.hid hKL
  replace hs := Lib.hid hs
  unfold maxLen at hcm
  go_enter Try.func23, Try.ntmps23
  go_wp2
  go_loopw [3, 4] (fun av nv wr => ∃ (n a : Nat), n ≤ KL ∧ nv = .int .i64 (n : Int) ∧ av = .int .i64 (a : Int) ∧ a ≤ T ∧ Hid (a = tally rheldOf (rs.take n)) ∧ Hid (∃ d, wr = w.drewN d)) (fun _ nv _ => KL - (intOf nv).toNat)
  case atStart => exact ⟨0, 0, Nat.zero_le _, rfl, rfl, Nat.zero_le _, Lib.hid (by simp [tally]), ⟨0, rfl⟩⟩
  case round =>
    obtain ⟨n, a, hnK, rfl, rfl, haT, ha, hwr⟩ := hrel
    have d3 : wr.cell? ⟨rb, 3, none⟩ = some (.slice A KL c) := by obtain ⟨d, hd⟩ := hwr.out; rw [hd]; exact c3
    have hrbl : rb < wr.heap.size := by obtain ⟨d, hd⟩ := hwr.out; rw [hd]; exact hrb
    by_cases hlt : n < KL
    · have hlt' : n < rs.length := by rw [hKL.out]; exact hlt
      obtain ⟨g, rfl, hgl, cg, _, _⟩ := h.out.at_ n hlt'
      have hi : rs[n]? = some rs[n] := List.getElem?_eq_getElem hlt'
      obtain ⟨hbr, _, hgl2⟩ := h.out.ent n _ hi
      have hsz := hs.out n _ hi
      have ht1 := tally_take rheldOf rs n hlt'
      have ht2 := tally_take_le rheldOf rs (n + 1)
      have cg' : wr.cell? ⟨g, n, none⟩ = some (rptr rs[n]) := by obtain ⟨d, hd⟩ := hwr.out; rw [hd]; exact cg
      have hbr' : Blk wr rs[n].1 (rentC rs[n]) 62 := by obtain ⟨d, hd⟩ := hwr.out; rw [hd]; exact hbr
      obtain ⟨H, hH⟩ : ∃ H, rheldOf rs[n] = H := ⟨_, rfl⟩
      rw [hH] at ht1
      generalize rs[n] = r at cg' hbr' hgl2 hsz hH
      obtain ⟨rbk, rs1, rg, rc⟩ := r
      have hln := rlen_ok rbk rs1 rg rc hbr' hgl2 hsz
      rw [hH] at hln
      unfold rptr at cg'
      simp only at cg'
      have hsum : a + H ≤ T := by have := ha.out; have := hT.out; omega
      have ha2 : Hid (a + H = tally rheldOf (rs.take (n + 1))) := by show _ = _; rw [ht1, ← ha.out]
      clear hbr hbr' cg ht1 ht2 hi hgl2 hH ha
      go_wp2_with fail
      refine hln.mono ?_
      rintro e w2 ⟨rfl, nd, hw2⟩
      have hwr2 : Hid (∃ d, w2 = w.drewN d) := by obtain ⟨d, hd⟩ := hwr.out; exact ⟨d + nd, by rw [hw2, hd]; simp [World.drewN]; omega⟩
      clear hln hw2 hwr
      go_wp2
      go_roundw
      case rel => exact ⟨n + 1, a + H, by omega, by go_num, by go_num, hsum, ha2, hwr2⟩
      case measure => simp [intOf]; omega
    · obtain rfl : n = KL := by omega
      have haT2 : a = T := by
        have := ha.out
        rw [List.take_of_length_le (by have := hKL.out; omega), hT.out] at this
        exact this
      subst haT2
      clear ha
      go_wp2
      go_ret
      exact ⟨rfl, hwr.out⟩

set_option maxHeartbeats 2000000 in
set_option maxRecDepth 100000 in
theorem rbuffers_ok (h : RefAt w B rb q M C rs L) (hn : rs.length ≤ 1000) (ht : tally ropenOf rs ≤ 1000) :
    Calls Try.prog 27 #[.pointer (some ⟨rb, 0, none⟩)] w fun e w' => e = .returned (.int .i64 (tally ropenOf rs : Int)) ∧ w' = w := by
  obtain ⟨A, c, rfl, hc, hcm⟩ := h.form
  obtain ⟨KL, hKL⟩ : ∃ KL, rs.length = KL := ⟨_, rfl⟩
  rw [hKL] at h hc hn
  have c3 := h.blk.cell (show (refC q M C (.slice A KL c))[3]? = some _ from rfl)
  have hrb := h.blk.lt
  obtain ⟨T, hT⟩ : ∃ T, tally ropenOf rs = T := ⟨_, rfl⟩
  rw [hT] at ht ⊢
  replace hT := Lib.hid hT
  replace h := Lib.hid h
  replace hKL := Lib.hid hKL
  unfold maxLen at hcm
  go_enter Try.func27, Try.ntmps27
  go_wp2
  go_loopw [3, 4] (fun av nv wr => ∃ (n a : Nat), n ≤ KL ∧ nv = .int .i64 (n : Int) ∧ av = .int .i64 (a : Int) ∧ a ≤ T ∧ Hid (a = tally ropenOf (rs.take n)) ∧ wr = w) (fun _ nv _ => KL - (intOf nv).toNat)
  case atStart => exact ⟨0, 0, Nat.zero_le _, rfl, rfl, Nat.zero_le _, Lib.hid (by simp [tally]), rfl⟩
  case round =>
    obtain ⟨n, a, hnK, rfl, rfl, haT, ha, rfl⟩ := hrel
    by_cases hlt : n < KL
    · have hlt' : n < rs.length := by rw [hKL.out]; exact hlt
      obtain ⟨g, rfl, hgl, cg, _, _⟩ := h.out.at_ n hlt'
      have hi : rs[n]? = some rs[n] := List.getElem?_eq_getElem hlt'
      obtain ⟨hbr, _, _⟩ := h.out.ent n _ hi
      have ht1 := tally_take ropenOf rs n hlt'
      have ht2 := tally_take_le ropenOf rs (n + 1)
      obtain ⟨H, hH⟩ : ∃ H, ropenOf rs[n] = H := ⟨_, rfl⟩
      rw [hH] at ht1
      generalize rs[n] = r at cg hbr hH
      obtain ⟨rbk, rs1, rg, rc⟩ := r
      have k2 := hbr.cell (show (rentC (rbk, rs1, rg, rc))[2]? = some _ from rfl)
      have hbl := hbr.lt
      unfold rptr at cg
      simp only at cg k2
      have hsum : a + H ≤ T := by have := ha.out; have := hT.out; omega
      have ha2 : Hid (a + H = tally ropenOf (rs.take (n + 1))) := by show _ = _; rw [ht1, ← ha.out]
      clear hbr ht1 ht2 hi ha
      cases rc with
      | true =>
        obtain rfl : H = 0 := hH.symm
        clear hH
        go_wp2
        go_roundw
        case rel => exact ⟨n + 1, a, by omega, by go_num, rfl, haT, ha2, trivial⟩
        case measure => simp [intOf]; omega
      | false =>
        obtain rfl : H = 1 := hH.symm
        clear hH
        go_wp2
        go_roundw
        case rel => exact ⟨n + 1, a + 1, by omega, by go_num, by go_num, hsum, ha2, trivial⟩
        case measure => simp [intOf]; omega
    · obtain rfl : n = KL := by omega
      have haT2 : a = T := by
        have := ha.out
        rw [List.take_of_length_le (by have := hKL.out; omega), hT.out] at this
        exact this
      subst haT2
      clear ha
      go_wp2
      go_ret
      exact ⟨rfl, rfl⟩
end
end Go.Proofs.Yticoigpkgpdabaa
