/-
  SpillPlays answers true, and leaves memory as it was. Conditions: numbers of 64 bits.
-/
import Derived.Test.YticoigpkgpdabaaSpLawPlaysNo
namespace Go.Proofs.Yticoigpkgpdabaa
open Go Go.RowKit

theorem infoSB : (Try.prog.info? 36).map (fun i => (i.zero, i.size, i.bytes)) = some (some (.pointer none), 1, 8) := by kernel_rfl
theorem ops_below {w wr : World} {A : Option Addr} {n c : Nat} {l : List Opd} (h : Ops w (.slice A n c) l) (hm : Below w.heap.size w wr) (k : Nat) (hk : k < l.length) : ∃ b off : Nat, A = some ⟨b, off, none⟩ ∧ b < w.heap.size ∧
    wr.cell? ⟨b, off + k * 4, none⟩ = some (.int .i64 l[k].1) ∧ wr.cell? ⟨b, off + k * 4 + 1, none⟩ = some (.int .i64 l[k].2.1) ∧ wr.cell? ⟨b, off + k * 4 + 2, none⟩ = some (.int .i64 l[k].2.2.1) ∧ wr.cell? ⟨b, off + k * 4 + 3, none⟩ = some (.string l[k].2.2.2) := by
  obtain ⟨b, off, hA, hb, c0, c1, c2, c3⟩ := h.at_ k hk
  exact ⟨b, off, hA, hb, (hm.cell (p := ⟨b, off + k * 4, none⟩) hb).trans c0, (hm.cell (p := ⟨b, off + k * 4 + 1, none⟩) hb).trans c1, (hm.cell (p := ⟨b, off + k * 4 + 2, none⟩) hb).trans c2, (hm.cell (p := ⟨b, off + k * 4 + 3, none⟩) hb).trans c3⟩
/-- All that is known of both, between two calls. -/
structure St (w1 w : World) (B pb rb q M C tot : Nat) (es : List Ent) (rs : List REnt) (L av : Value) : Prop where
  all : All w B pb q M C es tot
  ref : RefAt w B rb q M C rs L
  row : ARow w B av es.length (es.map eptr)
  cor : Cors es rs
  szs : Szs rs tot
  below : Below B w1 w
  base : B ≤ w.heap.size
section
variable {w1 w w' : World} {B pb rb q M C tot : Nat} {es : List Ent} {rs : List REnt} {L av : Value}
theorem St.grown (h : St w1 w B pb rb q M C tot es rs L av) (hg : w.grownBy w' none) : St w1 w' B pb rb q M C tot es rs L av :=
  ⟨h.all.grown hg (by simp), h.ref.grown hg (by simp), h.row.kept hg (by cases av.ownBlock <;> simp), h.cor, h.szs, h.below.trans ⟨hg.os, hg.tape, hg.output, hg.size, fun k hk => hg.block k (Nat.lt_of_lt_of_le hk h.base) (by simp)⟩, Nat.le_trans h.base hg.size⟩
theorem St.drewN (h : St w1 w B pb rb q M C tot es rs L av) (n : Nat) : St w1 (w.drewN n) B pb rb q M C tot es rs L av := h.grown ⟨rfl, rfl, rfl, Nat.le_refl _, fun _ _ _ => rfl⟩
theorem St.bounds (h : St w1 w B pb rb q M C tot es rs L av) : tally heldOf es ≤ 1048576 ∧ tally usedOf es ≤ tot ∧ tally openOf es ≤ es.length ∧ tally rheldOf rs = tally heldOf es ∧ tally (rusedOf M C) rs = tally usedOf es ∧ tally ropenOf rs = tally openOf es ∧ rs.length = es.length := by
  refine ⟨?_, ?_, tally_one (fun x => by obtain ⟨_, o⟩ := x; cases o <;> simp [openOf]) es, h.cor.held.symm, (h.cor.used h.all).symm, h.cor.open_.symm, h.cor.1.symm⟩
  · obtain ⟨_, _, _, h⟩ := h.all
    have := h.hq
    have := h.par.1
    omega
  · obtain ⟨_, _, _, h⟩ := h.all
    have := h.few
    omega
/-- Behind a call of the package and one of the reference. -/
theorem St.step {w'' : World} {es' : List Ent} {rs' : List REnt} {tot' : Nat} (h : St w1 w B pb rb q M C tot es rs L av) (hA : All w' B pb q M C es' tot') (m : Mv B (fun _ => True) w w') (hc : Cors es' rs') (hp : es'.map eptr = es.map eptr) (hR : RefAt w'' B rb q M C rs' L) (r : Rm B w' w'') (hz : Szs rs' tot') : St w1 w'' B pb rb q M C tot' es' rs' L av := by
  have hl : es'.length = es.length := by
    have := congrArg List.length hp
    simpa using this
  have hb' : B ≤ w'.heap.size := Nat.le_trans h.base m.size
  exact ⟨hA.rm r, hR, by rw [hl, hp]; exact (h.row.mv m).rm r, hc, hz, (h.below.trans (m.below h.base)).trans (r.below hb'), Nat.le_trans hb' r.size⟩
theorem St.form (h : St w1 w B pb rb q M C tot es rs L av) : ∃ A c, av = .slice A es.length c ∧ es.length ≤ c ∧ c ≤ maxLen := by
  rcases h.row.2 with ⟨h1, h2⟩ | ⟨g, cap, cur, h1, _, _, h3, h4, _⟩
  · exact ⟨none, 0, by rw [h1, h2], by omega, Nat.zero_le _⟩
  · exact ⟨_, cap, h1, h3, h4⟩
theorem St.at_ {A : Option Addr} {n c : Nat} (h : St w1 w B pb rb q M C tot es rs L (.slice A n c)) (k : Nat) (hk : k < es.length) : ∃ g : Nat, A = some ⟨g, 0, none⟩ ∧ g < w.heap.size ∧ w.cell? ⟨g, k, none⟩ = some (eptr es[k]) := by
  rcases h.row.2 with ⟨h1, h2⟩ | ⟨g, cap, cur, h1, h2, h3, _⟩
  · omega
  · cases h1
    have hc := h.row.cells (g := g) rfl k (eptr es[k]) (by rw [List.getElem?_map, List.getElem?_eq_getElem hk]; rfl)
    rw [add_plain0, Nat.zero_add] at hc
    exact ⟨g, rfl, (Array.getElem?_eq_some_iff.1 h3).1, hc⟩
end

set_option maxHeartbeats 16000000 in
set_option maxRecDepth 100000 in
theorem lawPlays_ok (l : List Opd) (q M C : Nat) (v : Value) (w : World) (h : Ops w v l) (hf : fewB l = true) (hq : q ≤ 1048576) (hM : M ≤ 65536) (hC0 : 1 ≤ C) (hC : C ≤ 65536) :
    Calls Try.prog 3 #[v, .agg #[.int .i64 (q : Int), .int .i64 (M : Int), .int .i64 (C : Int)]] w fun e w' => e = .returned (.bool true) ∧ w.grownBy w' none := by
  obtain ⟨w1, hW1⟩ : ∃ w1, w.alloc (.cells #[.int .i64 (q : Int), .int .i64 (M : Int), .int .i64 (C : Int)] 23) = w1 := ⟨_, rfl⟩
  have hb1 : Blk w1 w.heap.size [.int .i64 (q : Int), .int .i64 (M : Int), .int .i64 (C : Int)] 23 := by rw [← hW1]; exact Blk.new w _ _
  have hg1 : w.grownBy w1 none := by rw [← hW1]; exact World.grownBy_alloc w _ none
  have hops : Ops w1 v l := by rw [← hW1]; exact h.alloc _
  have hfw := few_any l v w1 hops
  rw [hf] at hfw
  have k0 := hb1.cell (i := 0) rfl
  have k1 := hb1.cell (i := 1) rfl
  have k2 := hb1.cell (i := 2) rfl
  have hz := hb1.lt
  have haw := fun W => awake_any W
  have hnew := all_new (w := w1) (B := w1.heap.size) q M C hq hM hC0 hC (Nat.le_refl _)
  obtain ⟨A, c, rfl, hc, hcm⟩ := h.form
  obtain ⟨hl40, hl300⟩ := few_true hf
  have hkeep := fun wr hm => ops_below (wr := wr) hops hm
  obtain ⟨B, hB⟩ : ∃ B, w1.heap.size = B := ⟨_, rfl⟩
  rw [hB] at hnew hkeep
  obtain ⟨KL, hKL⟩ : ∃ KL, l.length = KL := ⟨_, rfl⟩
  rw [hKL] at hc hl40 hfw ⊢
  unfold maxLen at hcm
  clear h hops hb1 hf
  replace hB := Lib.hid hB
  replace hg1 := Lib.hid hg1
  replace hKL := Lib.hid hKL
  replace hkeep := Lib.hid hkeep
  replace hl300 := Lib.hid hl300
  replace haw := Lib.hid haw
  go_enter Try.func3, Try.ntmps3
  go_upto_region 1 with fail
  obtain ⟨z, hzz⟩ : ∃ z, w.heap.size = z := ⟨_, rfl⟩
  rw [hzz] at k0 k1 k2 hz ⊢
  replace hW1 := Lib.hid hW1
  replace hzz := Lib.hid hzz
  go_wp2_with fail
  refine hfw.mono ?_
  rintro e w' ⟨rfl, hw⟩
  obtain rfl := hw.symm
  clear hfw hw
  go_wp2_with fail
  refine hnew.mono ?_
  rintro e w2 ⟨rfl, h2, m2, hs2⟩
  have hzB : z < B := by have := hB.out; omega
  have hwz : B ≤ w1.heap.size := by rw [hB.out]; exact Nat.le_refl _
  replace k0 := mv_cell m2 (p := ⟨z, 0, none⟩) hzB hwz k0
  replace k1 := mv_cell m2 (p := ⟨z, 1, none⟩) hzB hwz k1
  replace k2 := mv_cell m2 (p := ⟨z, 2, none⟩) hzB hwz k2
  have hz2 : z < w2.heap.size := by omega
  have hB2 : B ≤ w2.heap.size := by have := hB.out; omega
  have hrnew := rnew_ok (w := w2) (B := B) q M C hq hM hC0 hC hB2
  obtain ⟨rb, hrb⟩ : ∃ rb, w2.heap.size = rb := ⟨_, rfl⟩
  rw [hrb] at hrnew
  clear hnew hs2 hrb hz
  replace h2 := Lib.hid h2
  replace m2 := Lib.hid m2
  go_wp2_with fail
  refine hrnew.mono ?_
  rintro e w3 ⟨rfl, h3, hg3⟩
  have hst : Hid (St w1 w3 B B rb q M C 0 [] [] (.slice none 0 0) (.slice none 0 0)) :=
    ⟨h2.out.grown hg3 (by simp), h3, World.ownsRow_nil _ _ _ _, ⟨rfl, fun i e r he => by simp at he⟩, fun i r hr => by simp at hr, (m2.out.below hwz).trans ⟨hg3.os, hg3.tape, hg3.output, hg3.size, fun k hk => hg3.block k (Nat.lt_of_lt_of_le hk hB2) (by simp)⟩, Nat.le_trans hB2 hg3.size⟩
  clear hrnew h2 m2 h3 hg3 k0 k1 k2 hz2 hwz hB2
  go_wp2
  go_loopw [9, 10] (fun av nv wr => ∃ (n : Nat) (es : List Ent) (rs : List REnt) (tot : Nat) (L : Value), n ≤ KL ∧ nv = .int .i64 (n : Int) ∧ tot ≤ n * 300 ∧ es.length ≤ n ∧ Hid (St w1 wr B B rb q M C tot es rs L av)) (fun _ nv _ => KL - (intOf nv).toNat)
  case atStart => exact ⟨0, [], [], 0, _, Nat.zero_le _, rfl, Nat.zero_le _, Nat.zero_le _, hst⟩
  case round =>
    clear hst
    obtain ⟨n, es, rs, tot, L, hn, rfl, htot, hes, hS⟩ := hrel
    obtain ⟨AA, ca, rfl, hca, hcam⟩ := hS.out.form
    unfold maxLen at hcam
    obtain ⟨m, hm⟩ : ∃ m, es.length = m := ⟨_, rfl⟩
    rw [hm] at hca hes hS ⊢
    replace hm := Lib.hid hm
    by_cases hlt : n < KL
    · have hlt' : n < l.length := by rw [hKL.out]; exact hlt
      obtain ⟨blk, off, rfl, hb, c0, c1, c2, c3⟩ := hkeep.out wr hS.out.below n hlt'
      have hsz := hl300.out n hlt'
      generalize l[n] = o at c0 c1 c2 c3 hsz
      obtain ⟨ask, oat, num, s⟩ := o
      simp only at c0 c1 c2 c3 hsz
      have hbw : blk < wr.heap.size := Nat.lt_of_lt_of_le hb hS.out.base
      have tb := tmod4 ask
      obtain ⟨R, hR, hR4⟩ : ∃ R : Nat, (ask.tmod 4 + 4).tmod 4 = (R : Int) ∧ R < 4 := by
        rcases tmod4b tb.1 with h | h | h | h
        · exact ⟨0, h, by decide⟩
        · exact ⟨1, h, by decide⟩
        · exact ⟨2, h, by decide⟩
        · exact ⟨3, h, by decide⟩
      have hob := Blk.new wr [.int .i64 ask, .int .i64 oat, .int .i64 num, .string s] 35
      have hS4 := hS.out.grown (World.grownBy_alloc wr (.cells #[.int .i64 ask, .int .i64 oat, .int .i64 num, .string s] 35) none)
      go_upto_region 14 with fail
      obtain ⟨ow, how⟩ : ∃ ow, wr.heap.size = ow := ⟨_, rfl⟩
      have hs4 : (wr.alloc (.cells #[.int .i64 ask, .int .i64 oat, .int .i64 num, .string s] 35)).heap.size = ow + 1 := by rw [← how]; simp
      rw [how] at hob ⊢
      have hob : Blk (wr.alloc (.cells #[.int .i64 ask, .int .i64 oat, .int .i64 num, .string s] 35)) ow [.int .i64 ask, .int .i64 oat, .int .i64 num, .string s] 35 := hob
      generalize wr.alloc (.cells #[.int .i64 ask, .int .i64 oat, .int .i64 num, .string s] 35) = w4 at hob hS4 hs4 ⊢
      clear c0 c1 c2 c3 hb hbw how hS
      have o0 := hob.cell (i := 0) rfl
      have o1 := hob.cell (i := 1) rfl
      have o2 := hob.cell (i := 2) rfl
      have o3 := hob.cell (i := 3) rfl
      have howl := hob.lt
      replace hob := Lib.hid hob
      replace hS4 := Lib.hid hS4
      by_cases hopn : R = 0 ∨ m = 0
      · have hop := all_open hS4.out.all (by have := hm.out; omega)
        obtain ⟨y, hy⟩ : ∃ y, w4.heap.size = y := ⟨_, rfl⟩
        rw [hy] at hop
        rcases hopn with hR0 | hm0
        · subst hR0
          obtain ⟨i0, hi, hz0, hz1, hz2⟩ := info_parts infoSB
          go_wp2_with fail
          refine hop.mono ?_
          rintro e w5 ⟨rfl, hA5, m5', hs5⟩
          have hRef5 := hS4.out.ref.mv m5'
          have hrow5 := hS4.out.row.mv m5'
          have hbel5 := hS4.out.below.trans (m5'.below hS4.out.base)
          have hbas5 := Nat.le_trans hS4.out.base m5'.size
          rw [hm.out] at hrow5
          have hrow6 := hrow5.alloc (.cells #[.pointer (some ⟨y, 0, none⟩)] 36)
          have hB6 : ∀ j u, ([.pointer (some ⟨y, 0, none⟩)] : List Value)[j]? = some u → (w5.alloc (.cells #[.pointer (some ⟨y, 0, none⟩)] 36)).cell? ((⟨w5.heap.size, 0, none⟩ : Addr).add j) = some u := fun j u hu => by
            rw [add_plain0, Nat.zero_add]
            exact (Blk.new w5 [.pointer (some ⟨y, 0, none⟩)] 36).cell hu
          have hg5 := World.grownBy_alloc w5 (.cells #[.pointer (some ⟨y, 0, none⟩)] 36) none
          have hs6 : (w5.alloc (.cells #[.pointer (some ⟨y, 0, none⟩)] 36)).heap.size = w5.heap.size + 1 := by simp
          obtain ⟨g, cap, w7, hrun, hrow7, hgr7, hat, hgl⟩ := run_append_lies (P := Try.prog) (w5.alloc (.cells #[.pointer (some ⟨y, 0, none⟩)] 36)) 33 33 B 36 i0 _ 1 8 Try.underlying33 hi hz0 hz1 hz2 rfl (by decide)
            (.slice AA m ca) m (es.map eptr) hrow6 ⟨w5.heap.size, 0, none⟩ 1 1 [.pointer (some ⟨y, 0, none⟩)] rfl hB6 (by simp [Value.oneCell']) (by decide) (by simp only [maxLen]; omega) (by omega) (by omega) _ rfl
          have hown6 : ∀ g cur t, Blk (w5.alloc (.cells #[.pointer (some ⟨y, 0, none⟩)] 36)) g cur t → t ≠ 36 → (Value.slice AA m ca).ownBlock ≠ some g := fun g cur t hb ht e => by
            rcases hrow6.2 with ⟨h1, _⟩ | ⟨g', cap', cur', h1, _, h3, _⟩
            · rw [h1] at e; cases e
            · rw [h1] at e; cases e
              unfold Blk at hb
              rw [h3] at hb
              simp at hb
              exact ht hb.2.symm
          have hA7 := (hA5.grown hg5 (by simp)).grown hgr7 (fun g cur t _ hb ht => hown6 g cur t hb (fun e => by subst e; exact not_four.2.2.2.1 ht))
          have hRef7 := (hRef5.grown hg5 (by simp)).grown hgr7 (fun g cur t _ hb ht => hown6 g cur t hb (fun e => by subst e; revert ht; decide))
          have hb7 : Below B w5 w7 := (show Below B w5 (w5.alloc (.cells #[.pointer (some ⟨y, 0, none⟩)] 36)) from ⟨rfl, rfl, rfl, hg5.size, fun k hk => hg5.block k (Nat.lt_of_lt_of_le hk hbas5) (by simp)⟩).trans ⟨hgr7.os, hgr7.tape, hgr7.output, hgr7.size, fun k hk => hgr7.block k (by omega) (fun e => by have := (hrow6.lt k e.symm).1; omega)⟩
          have hbas7 : B ≤ w7.heap.size := Nat.le_trans hbas5 hb7.size
          have hbel7 := hbel5.trans hb7
          have hrop := ropen_ok hRef7 (by rw [← hS4.out.cor.1, hm.out]; omega) hbas7
          have hrl7 : rs.length = m := by rw [← hS4.out.cor.1]; exact hm.out
          have hcc7 : Cor (y, some (⟨[], 0, M, .slice none 0 0, .slice none 0 0, []⟩ : Bs)) (w7.heap.size, ⟨#[]⟩, 0, false) := ⟨rfl, rfl⟩
          have hcor7 : Cors (es ++ [(y, some ⟨[], 0, M, .slice none 0 0, .slice none 0 0, []⟩)]) (rs ++ [(w7.heap.size, ⟨#[]⟩, 0, false)]) := hS4.out.cor.app hcc7
          have hszs7 : Szs (rs ++ [(w7.heap.size, ⟨#[]⟩, 0, false)]) tot := fun i r hr => by
            rw [List.getElem?_append] at hr
            split at hr
            · exact hS4.out.szs i r hr
            · obtain ⟨h1, hr⟩ := List.getElem?_eq_some_iff.1 hr
              simp at hr
              subst hr
              exact Nat.zero_le _
          have hmap7 : (es ++ [(y, some (⟨[], 0, M, .slice none 0 0, .slice none 0 0, []⟩ : Bs))]).map eptr = es.map eptr ++ [.pointer (some ⟨y, 0, none⟩)] := by simp [eptr]
          have hlen7 : (es ++ [(y, some (⟨[], 0, M, .slice none 0 0, .slice none 0 0, []⟩ : Bs))]).length = m + 1 := by rw [List.length_append, hm.out]; rfl
          rw [← hmap7] at hrow7
          replace hrow7 := Lib.hid hrow7
          replace hA7 := Lib.hid hA7
          replace hcor7 := Lib.hid hcor7
          replace hszs7 := Lib.hid hszs7
          replace hbel7 := Lib.hid hbel7
          replace hrun := Lib.hid hrun
          replace hlen7 := Lib.hid hlen7
          clear hop hA5 hcc7 m5' hRef5 hrow5 hbel5 hrow6 hB6 hg5 hgr7 hat hown6 hRef7 hb7 hi hz0 hz1 hz2 hs5 hs4 hS4 hmap7 hob o0 o1 o2 o3
          go_wp2_with (at_builtin; refine wpList_append_of rfl _ _ 33 33 rfl _ _ _ w7 rfl rfl hrun.out ?_)
          go_wp2_with fail
          refine hrop.mono ?_
          rintro e w8 ⟨L8, ⟨v8, rfl⟩, hRef8, rm8⟩
          have hS8 : Hid (St w1 w8 B B rb q M C tot (es ++ [(y, some ⟨[], 0, M, .slice none 0 0, .slice none 0 0, []⟩)]) (rs ++ [(w7.heap.size, ⟨#[]⟩, 0, false)]) L8 (.slice (some ⟨g, 0, none⟩) (m + 1) cap)) :=
            ⟨hA7.out.rm rm8, hRef8, by rw [hlen7.out]; exact ARow.rm hrow7.out rm8, hcor7.out, hszs7.out, hbel7.out.trans (rm8.below hbas7), Nat.le_trans hbas7 rm8.size⟩
          clear hrop hRef8 rm8 hA7 hrow7 hcor7 hszs7 hbel7
          go_wp2
          go_roundw
          case rel => exact ⟨n + 1, _, _, tot, L8, by omega, by go_num, by omega, by rw [hlen7.out]; omega, hS8⟩
          case measure => simp [intOf]; omega
        · subst hm0
          have hm1 : (((0 : Nat) : Int) == 0) = true := rfl
          by_cases hR0 : R = 0
          · subst hR0
            obtain ⟨i0, hi, hz0, hz1, hz2⟩ := info_parts infoSB
            go_wp2_with fail
            refine hop.mono ?_
            rintro e w5 ⟨rfl, hA5, m5', hs5⟩
            have hRef5 := hS4.out.ref.mv m5'
            have hrow5 := hS4.out.row.mv m5'
            have hbel5 := hS4.out.below.trans (m5'.below hS4.out.base)
            have hbas5 := Nat.le_trans hS4.out.base m5'.size
            rw [hm.out] at hrow5
            have hrow6 := hrow5.alloc (.cells #[.pointer (some ⟨y, 0, none⟩)] 36)
            have hB6 : ∀ j u, ([.pointer (some ⟨y, 0, none⟩)] : List Value)[j]? = some u → (w5.alloc (.cells #[.pointer (some ⟨y, 0, none⟩)] 36)).cell? ((⟨w5.heap.size, 0, none⟩ : Addr).add j) = some u := fun j u hu => by
              rw [add_plain0, Nat.zero_add]
              exact (Blk.new w5 [.pointer (some ⟨y, 0, none⟩)] 36).cell hu
            have hg5 := World.grownBy_alloc w5 (.cells #[.pointer (some ⟨y, 0, none⟩)] 36) none
            have hs6 : (w5.alloc (.cells #[.pointer (some ⟨y, 0, none⟩)] 36)).heap.size = w5.heap.size + 1 := by simp
            obtain ⟨g, cap, w7, hrun, hrow7, hgr7, hat, hgl⟩ := run_append_lies (P := Try.prog) (w5.alloc (.cells #[.pointer (some ⟨y, 0, none⟩)] 36)) 33 33 B 36 i0 _ 1 8 Try.underlying33 hi hz0 hz1 hz2 rfl (by decide)
              (.slice AA 0 ca) 0 (es.map eptr) hrow6 ⟨w5.heap.size, 0, none⟩ 1 1 [.pointer (some ⟨y, 0, none⟩)] rfl hB6 (by simp [Value.oneCell']) (by decide) (by simp only [maxLen]; omega) (by omega) (by omega) _ rfl
            have hown6 : ∀ g cur t, Blk (w5.alloc (.cells #[.pointer (some ⟨y, 0, none⟩)] 36)) g cur t → t ≠ 36 → (Value.slice AA 0 ca).ownBlock ≠ some g := fun g cur t hb ht e => by
              rcases hrow6.2 with ⟨h1, _⟩ | ⟨g', cap', cur', h1, _, h3, _⟩
              · rw [h1] at e; cases e
              · rw [h1] at e; cases e
                unfold Blk at hb
                rw [h3] at hb
                simp at hb
                exact ht hb.2.symm
            have hA7 := (hA5.grown hg5 (by simp)).grown hgr7 (fun g cur t _ hb ht => hown6 g cur t hb (fun e => by subst e; exact not_four.2.2.2.1 ht))
            have hRef7 := (hRef5.grown hg5 (by simp)).grown hgr7 (fun g cur t _ hb ht => hown6 g cur t hb (fun e => by subst e; revert ht; decide))
            have hb7 : Below B w5 w7 := (show Below B w5 (w5.alloc (.cells #[.pointer (some ⟨y, 0, none⟩)] 36)) from ⟨rfl, rfl, rfl, hg5.size, fun k hk => hg5.block k (Nat.lt_of_lt_of_le hk hbas5) (by simp)⟩).trans ⟨hgr7.os, hgr7.tape, hgr7.output, hgr7.size, fun k hk => hgr7.block k (by omega) (fun e => by have := (hrow6.lt k e.symm).1; omega)⟩
            have hbas7 : B ≤ w7.heap.size := Nat.le_trans hbas5 hb7.size
            have hbel7 := hbel5.trans hb7
            have hrop := ropen_ok hRef7 (by rw [← hS4.out.cor.1, hm.out]; omega) hbas7
            have hrl7 : rs.length = 0 := by rw [← hS4.out.cor.1]; exact hm.out
            have hcc7 : Cor (y, some (⟨[], 0, M, .slice none 0 0, .slice none 0 0, []⟩ : Bs)) (w7.heap.size, ⟨#[]⟩, 0, false) := ⟨rfl, rfl⟩
            have hcor7 : Cors (es ++ [(y, some ⟨[], 0, M, .slice none 0 0, .slice none 0 0, []⟩)]) (rs ++ [(w7.heap.size, ⟨#[]⟩, 0, false)]) := hS4.out.cor.app hcc7
            have hszs7 : Szs (rs ++ [(w7.heap.size, ⟨#[]⟩, 0, false)]) tot := fun i r hr => by
              rw [List.getElem?_append] at hr
              split at hr
              · exact hS4.out.szs i r hr
              · obtain ⟨h1, hr⟩ := List.getElem?_eq_some_iff.1 hr
                simp at hr
                subst hr
                exact Nat.zero_le _
            have hmap7 : (es ++ [(y, some (⟨[], 0, M, .slice none 0 0, .slice none 0 0, []⟩ : Bs))]).map eptr = es.map eptr ++ [.pointer (some ⟨y, 0, none⟩)] := by simp [eptr]
            have hlen7 : (es ++ [(y, some (⟨[], 0, M, .slice none 0 0, .slice none 0 0, []⟩ : Bs))]).length = 0 + 1 := by rw [List.length_append, hm.out]; rfl
            rw [← hmap7] at hrow7
            replace hrow7 := Lib.hid hrow7
            replace hA7 := Lib.hid hA7
            replace hcor7 := Lib.hid hcor7
            replace hszs7 := Lib.hid hszs7
            replace hbel7 := Lib.hid hbel7
            replace hrun := Lib.hid hrun
            replace hlen7 := Lib.hid hlen7
            clear hop hA5 hcc7 m5' hRef5 hrow5 hbel5 hrow6 hB6 hg5 hgr7 hat hown6 hRef7 hb7 hi hz0 hz1 hz2 hs5 hs4 hS4 hmap7 hob o0 o1 o2 o3
            go_wp2_with (at_builtin; refine wpList_append_of rfl _ _ 33 33 rfl _ _ _ w7 rfl rfl hrun.out ?_)
            go_wp2_with fail
            refine hrop.mono ?_
            rintro e w8 ⟨L8, ⟨v8, rfl⟩, hRef8, rm8⟩
            have hS8 : Hid (St w1 w8 B B rb q M C tot (es ++ [(y, some ⟨[], 0, M, .slice none 0 0, .slice none 0 0, []⟩)]) (rs ++ [(w7.heap.size, ⟨#[]⟩, 0, false)]) L8 (.slice (some ⟨g, 0, none⟩) (0 + 1) cap)) :=
              ⟨hA7.out.rm rm8, hRef8, by rw [hlen7.out]; exact ARow.rm hrow7.out rm8, hcor7.out, hszs7.out, hbel7.out.trans (rm8.below hbas7), Nat.le_trans hbas7 rm8.size⟩
            clear hrop hRef8 rm8 hA7 hrow7 hcor7 hszs7 hbel7
            go_wp2
            go_roundw
            case rel => exact ⟨n + 1, _, _, tot, L8, by omega, by go_num, by omega, by rw [hlen7.out]; omega, hS8⟩
            case measure => simp [intOf]; omega
          · have hR1 : ((R : Int) == 0) = false := by simp; omega
            obtain ⟨i0, hi, hz0, hz1, hz2⟩ := info_parts infoSB
            go_wp2_with fail
            refine hop.mono ?_
            rintro e w5 ⟨rfl, hA5, m5', hs5⟩
            have hRef5 := hS4.out.ref.mv m5'
            have hrow5 := hS4.out.row.mv m5'
            have hbel5 := hS4.out.below.trans (m5'.below hS4.out.base)
            have hbas5 := Nat.le_trans hS4.out.base m5'.size
            rw [hm.out] at hrow5
            have hrow6 := hrow5.alloc (.cells #[.pointer (some ⟨y, 0, none⟩)] 36)
            have hB6 : ∀ j u, ([.pointer (some ⟨y, 0, none⟩)] : List Value)[j]? = some u → (w5.alloc (.cells #[.pointer (some ⟨y, 0, none⟩)] 36)).cell? ((⟨w5.heap.size, 0, none⟩ : Addr).add j) = some u := fun j u hu => by
              rw [add_plain0, Nat.zero_add]
              exact (Blk.new w5 [.pointer (some ⟨y, 0, none⟩)] 36).cell hu
            have hg5 := World.grownBy_alloc w5 (.cells #[.pointer (some ⟨y, 0, none⟩)] 36) none
            have hs6 : (w5.alloc (.cells #[.pointer (some ⟨y, 0, none⟩)] 36)).heap.size = w5.heap.size + 1 := by simp
            obtain ⟨g, cap, w7, hrun, hrow7, hgr7, hat, hgl⟩ := run_append_lies (P := Try.prog) (w5.alloc (.cells #[.pointer (some ⟨y, 0, none⟩)] 36)) 33 33 B 36 i0 _ 1 8 Try.underlying33 hi hz0 hz1 hz2 rfl (by decide)
              (.slice AA 0 ca) 0 (es.map eptr) hrow6 ⟨w5.heap.size, 0, none⟩ 1 1 [.pointer (some ⟨y, 0, none⟩)] rfl hB6 (by simp [Value.oneCell']) (by decide) (by simp only [maxLen]; omega) (by omega) (by omega) _ rfl
            have hown6 : ∀ g cur t, Blk (w5.alloc (.cells #[.pointer (some ⟨y, 0, none⟩)] 36)) g cur t → t ≠ 36 → (Value.slice AA 0 ca).ownBlock ≠ some g := fun g cur t hb ht e => by
              rcases hrow6.2 with ⟨h1, _⟩ | ⟨g', cap', cur', h1, _, h3, _⟩
              · rw [h1] at e; cases e
              · rw [h1] at e; cases e
                unfold Blk at hb
                rw [h3] at hb
                simp at hb
                exact ht hb.2.symm
            have hA7 := (hA5.grown hg5 (by simp)).grown hgr7 (fun g cur t _ hb ht => hown6 g cur t hb (fun e => by subst e; exact not_four.2.2.2.1 ht))
            have hRef7 := (hRef5.grown hg5 (by simp)).grown hgr7 (fun g cur t _ hb ht => hown6 g cur t hb (fun e => by subst e; revert ht; decide))
            have hb7 : Below B w5 w7 := (show Below B w5 (w5.alloc (.cells #[.pointer (some ⟨y, 0, none⟩)] 36)) from ⟨rfl, rfl, rfl, hg5.size, fun k hk => hg5.block k (Nat.lt_of_lt_of_le hk hbas5) (by simp)⟩).trans ⟨hgr7.os, hgr7.tape, hgr7.output, hgr7.size, fun k hk => hgr7.block k (by omega) (fun e => by have := (hrow6.lt k e.symm).1; omega)⟩
            have hbas7 : B ≤ w7.heap.size := Nat.le_trans hbas5 hb7.size
            have hbel7 := hbel5.trans hb7
            have hrop := ropen_ok hRef7 (by rw [← hS4.out.cor.1, hm.out]; omega) hbas7
            have hrl7 : rs.length = 0 := by rw [← hS4.out.cor.1]; exact hm.out
            have hcc7 : Cor (y, some (⟨[], 0, M, .slice none 0 0, .slice none 0 0, []⟩ : Bs)) (w7.heap.size, ⟨#[]⟩, 0, false) := ⟨rfl, rfl⟩
            have hcor7 : Cors (es ++ [(y, some ⟨[], 0, M, .slice none 0 0, .slice none 0 0, []⟩)]) (rs ++ [(w7.heap.size, ⟨#[]⟩, 0, false)]) := hS4.out.cor.app hcc7
            have hszs7 : Szs (rs ++ [(w7.heap.size, ⟨#[]⟩, 0, false)]) tot := fun i r hr => by
              rw [List.getElem?_append] at hr
              split at hr
              · exact hS4.out.szs i r hr
              · obtain ⟨h1, hr⟩ := List.getElem?_eq_some_iff.1 hr
                simp at hr
                subst hr
                exact Nat.zero_le _
            have hmap7 : (es ++ [(y, some (⟨[], 0, M, .slice none 0 0, .slice none 0 0, []⟩ : Bs))]).map eptr = es.map eptr ++ [.pointer (some ⟨y, 0, none⟩)] := by simp [eptr]
            have hlen7 : (es ++ [(y, some (⟨[], 0, M, .slice none 0 0, .slice none 0 0, []⟩ : Bs))]).length = 0 + 1 := by rw [List.length_append, hm.out]; rfl
            rw [← hmap7] at hrow7
            replace hrow7 := Lib.hid hrow7
            replace hA7 := Lib.hid hA7
            replace hcor7 := Lib.hid hcor7
            replace hszs7 := Lib.hid hszs7
            replace hbel7 := Lib.hid hbel7
            replace hrun := Lib.hid hrun
            replace hlen7 := Lib.hid hlen7
            clear hop hA5 hcc7 m5' hRef5 hrow5 hbel5 hrow6 hB6 hg5 hgr7 hat hown6 hRef7 hb7 hi hz0 hz1 hz2 hs5 hs4 hS4 hmap7 hob o0 o1 o2 o3
            go_wp2_with (at_builtin; refine wpList_append_of rfl _ _ 33 33 rfl _ _ _ w7 rfl rfl hrun.out ?_)
            go_wp2_with fail
            refine hrop.mono ?_
            rintro e w8 ⟨L8, ⟨v8, rfl⟩, hRef8, rm8⟩
            have hS8 : Hid (St w1 w8 B B rb q M C tot (es ++ [(y, some ⟨[], 0, M, .slice none 0 0, .slice none 0 0, []⟩)]) (rs ++ [(w7.heap.size, ⟨#[]⟩, 0, false)]) L8 (.slice (some ⟨g, 0, none⟩) (0 + 1) cap)) :=
              ⟨hA7.out.rm rm8, hRef8, by rw [hlen7.out]; exact ARow.rm hrow7.out rm8, hcor7.out, hszs7.out, hbel7.out.trans (rm8.below hbas7), Nat.le_trans hbas7 rm8.size⟩
            clear hrop hRef8 rm8 hA7 hrow7 hcor7 hszs7 hbel7
            go_wp2
            go_roundw
            case rel => exact ⟨n + 1, _, _, tot, L8, by omega, by go_num, by omega, by rw [hlen7.out]; omega, hS8⟩
            case measure => simp [intOf]; omega
      · have hR0 : ((R : Int) == 0) = false := by simp; omega
        have hm0 : 0 < m := by omega
        have hRne : R ≠ 0 := fun e => hopn (.inl e)
        have hm1 : ((m : Int) == 0) = false := by simp; omega
        obtain ⟨k, hkm, hwh⟩ := which_ok ask oat num s m hm0 (by omega)
        go_wp2_with fail
        refine (hwh _).mono ?_
        rintro e w5 ⟨rfl, hg5⟩
        have hS5 := Lib.hid (hS4.out.grown hg5)
        have hob5 : Blk w5 ow _ _ := (hg5.block ow howl (by simp)).trans hob.out
        have howl5 := hob5.lt
        replace o2 := hob5.cell (i := 2) rfl
        replace o3 := hob5.cell (i := 3) rfl
        clear hwh hS4 hob hg5 o0 o1 hopn
        replace hob5 := Lib.hid hob5
        have hke : k < es.length := by rw [hm.out]; exact hkm
        have hcl := hS5.out.cor.1
        have hkr : k < rs.length := by rw [← hcl]; exact hke
        have hS5' := hS5.out
        rw [← hm.out] at hS5'
        obtain ⟨ag, hag, hagl, cag⟩ := hS5'.at_ k hke
        obtain ⟨AL, cL, hLL, hcL, hcL2⟩ := hS5.out.ref.form
        have hrm : rs.length = m := by rw [← hcl]; exact hm.out
        have hrb5 := hS5.out.ref.blk.cell (show (refC q M C L)[3]? = some _ from rfl)
        have hrbl5 := hS5.out.ref.blk.lt
        have href := hS5.out.ref
        rw [hLL] at href hrb5
        obtain ⟨lg, hlg, hlgl, clg, _, _⟩ := href.at_ k hkr
        have he5 : es[k]? = some es[k] := List.getElem?_eq_getElem hke
        have hr5 : rs[k]? = some rs[k] := List.getElem?_eq_getElem hkr
        generalize es[k] = ee at cag he5
        generalize rs[k] = rr at clg hr5
        obtain ⟨bb, ob⟩ := ee
        obtain ⟨rbk, s0, g0, cl⟩ := rr
        unfold eptr at cag
        unfold rptr at clg
        simp only at cag clg
        subst hag hlg
        rw [hrm] at hrb5 hcL
        unfold maxLen at hcL2
        clear href hcl hke hkr hS5'
        replace he5 := Lib.hid he5
        replace hr5 := Lib.hid hr5
        replace hrm := Lib.hid hrm
        replace hLL := Lib.hid hLL
        have hRR : R = 1 ∨ R = 2 ∨ R = 3 := by omega
        rcases hRR with rfl | rfl | rfl
        · have happ := fun nq => p_append s (hS5.out.drewN nq).all hS5.out.cor he5.out hr5.out (by omega)
          have hst5 := fun nq => hS5.out.drewN nq
          have hrl5 : rs.length ≤ 1000 := by rw [hrm.out]; omega
          have hzs5 : ∀ (i : Nat) (r : REnt), rs[i]? = some r → r.2.1.size ≤ 1000000 := fun i r hr => Nat.le_trans (hS5.out.szs i r hr) (by omega)
          have hbd5 : tally rheldOf rs ≤ 1000000000 := by have := hS5.out.bounds; omega
          have hsd5 : s.size ≤ 1000000 := by omega
          replace hst5 := Lib.hid hst5
          replace hzs5 := Lib.hid hzs5
          go_upto_region 25 with fail
          go_region_held3 (fun w' => w'.cell? ⟨ow, 3, none⟩ = some (.string s))
            (first | go_keep | exact hk)
            ((first
              | (go_at_call 14; refine (happ _).mono ?_; rintro e w6 ⟨code, es', rs', rfl, hA6, m6', hc6, hp6, hR6, ⟨ob', he6⟩, ⟨r', hr6, hrb6⟩⟩; have hob6 : Blk w6 ow _ _ := m6'.far hob5.out not_four.2.2.2.2; have hk : w6.cell? ⟨ow, 3, none⟩ = some (.string s) := hob6.cell rfl; have hRef6 := (hS5.out.ref.drewN _).mv m6'; have hSz6 := hR6.sz hr5.out hS5.out.szs)
              | (go_at_call 15; refine (r_append s hRef6 hr5.out hR6 hrl5 hzs5.out hbd5 hsd5).mono ?_; rintro e w7 ⟨rfl, hRef7, rm7⟩; have hk : w7.cell? ⟨ow, 3, none⟩ = some (.string s) := by { have hx : Blk w7 ow _ _ := (rm7.keep ow _ _ _ hob6 (.inr (by decide))).trans hob6; exact hx.cell rfl })))
          obtain ⟨rbk', s', g', c'⟩ := r'
          obtain rfl : rbk = rbk' := hrb6.symm
          have hlen7 : Hid (es'.length = m) := by
            have := congrArg List.length hp6
            rw [List.length_map, List.length_map, hm.out] at this
            exact this
          have hS7 : Hid (St w1 w7 B B rb q M C (tot + s.size) es' rs' L (.slice (some ⟨ag, 0, none⟩) m ca)) := hS5.out.step hA6 ⟨m6'.os, m6'.tape, m6'.output, m6'.size, m6'.block, m6'.keep⟩ hc6 hp6 hRef7 rm7 hSz6
          replace he7 := Lib.hid he6
          replace hr7 := Lib.hid hr6
          have q0 : ((code : Int) == code) = true := by simp
          clear happ hk hst5 hzs5 hrl5 hbd5 hsd5 hob6 hRef6 hSz6 hA6 m6' hc6 hp6 hR6 hRef7 rm7 he6 hr6 hob5 o2 o3 he5 hr5 hrm cag clg hrb5 hLL hagl hlgl
          replace hS5 := Lib.hid hS5
          obtain ⟨bo1, bo2, bo3, bo4, bo5, bo6, bo7⟩ := hS7.out.bounds
          have hl7 := hlen7.out
          have hxr := (hS7.out.cor.2 k _ _ he7.out hr7.out).held
          obtain ⟨X, hX⟩ : ∃ X, heldOf (bb, ob') = X := ⟨_, rfl⟩
          obtain ⟨H, hH⟩ : ∃ H, tally heldOf (es') = H := ⟨_, rfl⟩
          obtain ⟨U, hU⟩ : ∃ U, tally usedOf (es') = U := ⟨_, rfl⟩
          obtain ⟨O, hO⟩ : ∃ O, tally openOf (es') = O := ⟨_, rfl⟩
          rw [hX] at hxr
          rw [hH] at bo1 bo4
          rw [hU] at bo2 bo5
          rw [hO] at bo3 bo6
          have q5 : O ≤ 1000 := by omega
          have q1 : ((X : Int) == (X : Int)) = true := by simp
          have q2 : ((H : Int) == (H : Int)) = true := by simp
          have q3 : ((U : Int) == (U : Int)) = true := by simp
          have q4 : ((O : Int) == (O : Int)) = true := by simp
          have hrl : (rs').length ≤ 1000 := by omega
          have hzs : ∀ (i : Nat) (r : REnt), (rs')[i]? = some r → r.2.1.size ≤ 1000000 := fun i r hr => Nat.le_trans (hS7.out.szs i r hr) (by omega)
          replace bo4 := Lib.hid bo4
          replace bo5 := Lib.hid bo5
          replace bo6 := Lib.hid bo6
          replace bo7 := Lib.hid bo7
          replace hX := Lib.hid hX
          replace hH := Lib.hid hH
          replace hU := Lib.hid hU
          replace hO := Lib.hid hO
          replace hxr := Lib.hid hxr
          replace hzs := Lib.hid hzs
          replace hl7 := Lib.hid hl7
          have hl := p_len hS7.out.all he7.out (by omega)
          rw [hX.out] at hl
          go_wp2_with fail
          refine hl.mono ?_
          rintro e w8 ⟨rfl, nq, hw⟩
          have hS8 : Hid (St w1 w8 B B rb q M C (tot + s.size) es' rs' L (.slice (some ⟨ag, 0, none⟩) m ca)) := by rw [hw]; exact hS7.out.drewN nq
          clear hl hw hS7
          have hl := rlen_ok rbk s' g' c' (hS8.out.ref.ent k _ hr7.out).1 (hS8.out.ref.ent k _ hr7.out).2.2 (hzs.out k _ hr7.out)
          rw [← hxr.out] at hl
          go_wp2_with fail
          refine hl.mono ?_
          rintro e w9 ⟨rfl, nq, hw⟩
          have hS9 : Hid (St w1 w9 B B rb q M C (tot + s.size) es' rs' L (.slice (some ⟨ag, 0, none⟩) m ca)) := by rw [hw]; exact hS8.out.drewN nq
          clear hl hw hS8
          have hl := all_held hS9.out.all
          rw [hH.out] at hl
          go_wp2_with fail
          refine hl.mono ?_
          rintro e w' ⟨rfl, hw⟩
          obtain rfl := hw.symm
          clear hl hw
          have hl := rheld_ok hS9.out.ref hrl hzs.out (by rw [bo4.out]; omega)
          rw [bo4.out] at hl
          go_wp2_with fail
          refine hl.mono ?_
          rintro e w10 ⟨rfl, nq, hw⟩
          have hS10 : Hid (St w1 w10 B B rb q M C (tot + s.size) es' rs' L (.slice (some ⟨ag, 0, none⟩) m ca)) := by rw [hw]; exact hS9.out.drewN nq
          clear hl hw hS9
          have hl := all_chunks hS10.out.all
          rw [hU.out] at hl
          go_wp2_with fail
          refine hl.mono ?_
          rintro e w' ⟨rfl, hw⟩
          obtain rfl := hw.symm
          clear hl hw
          have hl := rchunks_ok hS10.out.ref hrl hzs.out (by rw [bo5.out]; omega) hM hC0 hC
          rw [bo5.out] at hl
          go_wp2_with fail
          refine hl.mono ?_
          rintro e w11 ⟨rfl, nq, hw⟩
          have hS11 : Hid (St w1 w11 B B rb q M C (tot + s.size) es' rs' L (.slice (some ⟨ag, 0, none⟩) m ca)) := by rw [hw]; exact hS10.out.drewN nq
          clear hl hw hS10
          have hl := all_buffers hS11.out.all
          rw [hO.out] at hl
          go_wp2_with fail
          refine hl.mono ?_
          rintro e w' ⟨rfl, hw⟩
          obtain rfl := hw.symm
          clear hl hw
          have hl := rbuffers_ok hS11.out.ref hrl (by rw [bo6.out]; omega)
          rw [bo6.out] at hl
          go_wp2_with fail
          refine hl.mono ?_
          rintro e w' ⟨rfl, hw⟩
          obtain rfl := hw.symm
          clear hl hw
          go_wp2
          go_roundw
          case rel => exact ⟨n + 1, es', rs', (tot + s.size), L, by omega, by go_num, by omega, by rw [hl7.out]; omega, hS11⟩
          case measure => simp [intOf]; omega
        · have hdr := p_drain num hS5.out.all hS5.out.cor he5.out hr5.out (by omega)
          have hs0 : s0.size ≤ 1000000 := Nat.le_trans (hS5.out.szs _ _ hr5.out) (by omega)
          go_wp2_with fail
          refine hdr.mono ?_
          rintro e w6 ⟨t, code, es', rs', rfl, hA6, m6', hc6, hp6, hR6, ⟨ob', he6⟩, ⟨r', hr6, hrb6⟩⟩
          have hob6 : Blk w6 ow _ _ := m6'.far hob5.out not_four.2.2.2.2
          replace o2 := hob6.cell (i := 2) rfl
          have howl6 := hob6.lt
          have hRef6 := hS5.out.ref.mv m6'
          have hSz6 := hR6.sz hr5.out hS5.out.szs
          have hrd := r_drain num hRef6 hr5.out hR6 hs0
          replace hA6 := Lib.hid hA6
          replace hc6 := Lib.hid hc6
          replace hp6 := Lib.hid hp6
          replace hSz6 := Lib.hid hSz6
          replace he6 := Lib.hid he6
          replace hr6 := Lib.hid hr6
          replace hrb6 := Lib.hid hrb6
          replace m6' := Lib.hid m6'
          clear hdr hR6 hRef6 hob6 o3 cag clg hrb5
          go_wp2_with fail
          refine hrd.mono ?_
          rintro e w7 ⟨⟨u, rfl, hu⟩, hRef7, rm7⟩
          have hcmp : (t.toList == u.toList) = true := by rw [toL, toL, hu, beq_self_eq_true]
          obtain ⟨rbk', s', g', c'⟩ := r'
          obtain rfl : rbk = rbk' := hrb6.out.symm
          have hlen7 : Hid (es'.length = m) := by
            have := congrArg List.length hp6.out
            rw [List.length_map, List.length_map, hm.out] at this
            exact this
          have hS7 : Hid (St w1 w7 B B rb q M C tot es' rs' L (.slice (some ⟨ag, 0, none⟩) m ca)) := hS5.out.step hA6.out m6'.out hc6.out hp6.out hRef7 rm7 hSz6.out
          have he7 := he6
          have hr7 := hr6
          have q0 : ((code : Int) == code) = true := by simp
          clear hrd hu hRef7 rm7 hA6 hc6 hp6 hSz6 m6' hob5 o2 he5 hr5 hrm hLL hagl hlgl hs0
          obtain ⟨bo1, bo2, bo3, bo4, bo5, bo6, bo7⟩ := hS7.out.bounds
          have hl7 := hlen7.out
          have hxr := (hS7.out.cor.2 k _ _ he7.out hr7.out).held
          obtain ⟨X, hX⟩ : ∃ X, heldOf (bb, ob') = X := ⟨_, rfl⟩
          obtain ⟨H, hH⟩ : ∃ H, tally heldOf (es') = H := ⟨_, rfl⟩
          obtain ⟨U, hU⟩ : ∃ U, tally usedOf (es') = U := ⟨_, rfl⟩
          obtain ⟨O, hO⟩ : ∃ O, tally openOf (es') = O := ⟨_, rfl⟩
          rw [hX] at hxr
          rw [hH] at bo1 bo4
          rw [hU] at bo2 bo5
          rw [hO] at bo3 bo6
          have q5 : O ≤ 1000 := by omega
          have q1 : ((X : Int) == (X : Int)) = true := by simp
          have q2 : ((H : Int) == (H : Int)) = true := by simp
          have q3 : ((U : Int) == (U : Int)) = true := by simp
          have q4 : ((O : Int) == (O : Int)) = true := by simp
          have hrl : (rs').length ≤ 1000 := by omega
          have hzs : ∀ (i : Nat) (r : REnt), (rs')[i]? = some r → r.2.1.size ≤ 1000000 := fun i r hr => Nat.le_trans (hS7.out.szs i r hr) (by omega)
          replace bo4 := Lib.hid bo4
          replace bo5 := Lib.hid bo5
          replace bo6 := Lib.hid bo6
          replace bo7 := Lib.hid bo7
          replace hX := Lib.hid hX
          replace hH := Lib.hid hH
          replace hU := Lib.hid hU
          replace hO := Lib.hid hO
          replace hxr := Lib.hid hxr
          replace hzs := Lib.hid hzs
          replace hl7 := Lib.hid hl7
          have hl := p_len hS7.out.all he7.out (by omega)
          rw [hX.out] at hl
          go_wp2_with fail
          refine hl.mono ?_
          rintro e w8 ⟨rfl, nq, hw⟩
          have hS8 : Hid (St w1 w8 B B rb q M C tot es' rs' L (.slice (some ⟨ag, 0, none⟩) m ca)) := by rw [hw]; exact hS7.out.drewN nq
          clear hl hw hS7
          have hl := rlen_ok rbk s' g' c' (hS8.out.ref.ent k _ hr7.out).1 (hS8.out.ref.ent k _ hr7.out).2.2 (hzs.out k _ hr7.out)
          rw [← hxr.out] at hl
          go_wp2_with fail
          refine hl.mono ?_
          rintro e w9 ⟨rfl, nq, hw⟩
          have hS9 : Hid (St w1 w9 B B rb q M C tot es' rs' L (.slice (some ⟨ag, 0, none⟩) m ca)) := by rw [hw]; exact hS8.out.drewN nq
          clear hl hw hS8
          have hl := all_held hS9.out.all
          rw [hH.out] at hl
          go_wp2_with fail
          refine hl.mono ?_
          rintro e w' ⟨rfl, hw⟩
          obtain rfl := hw.symm
          clear hl hw
          have hl := rheld_ok hS9.out.ref hrl hzs.out (by rw [bo4.out]; omega)
          rw [bo4.out] at hl
          go_wp2_with fail
          refine hl.mono ?_
          rintro e w10 ⟨rfl, nq, hw⟩
          have hS10 : Hid (St w1 w10 B B rb q M C tot es' rs' L (.slice (some ⟨ag, 0, none⟩) m ca)) := by rw [hw]; exact hS9.out.drewN nq
          clear hl hw hS9
          have hl := all_chunks hS10.out.all
          rw [hU.out] at hl
          go_wp2_with fail
          refine hl.mono ?_
          rintro e w' ⟨rfl, hw⟩
          obtain rfl := hw.symm
          clear hl hw
          have hl := rchunks_ok hS10.out.ref hrl hzs.out (by rw [bo5.out]; omega) hM hC0 hC
          rw [bo5.out] at hl
          go_wp2_with fail
          refine hl.mono ?_
          rintro e w11 ⟨rfl, nq, hw⟩
          have hS11 : Hid (St w1 w11 B B rb q M C tot es' rs' L (.slice (some ⟨ag, 0, none⟩) m ca)) := by rw [hw]; exact hS10.out.drewN nq
          clear hl hw hS10
          have hl := all_buffers hS11.out.all
          rw [hO.out] at hl
          go_wp2_with fail
          refine hl.mono ?_
          rintro e w' ⟨rfl, hw⟩
          obtain rfl := hw.symm
          clear hl hw
          have hl := rbuffers_ok hS11.out.ref hrl (by rw [bo6.out]; omega)
          rw [bo6.out] at hl
          go_wp2_with fail
          refine hl.mono ?_
          rintro e w' ⟨rfl, hw⟩
          obtain rfl := hw.symm
          clear hl hw
          go_wp2
          go_roundw
          case rel => exact ⟨n + 1, es', rs', tot, L, by omega, by go_num, by omega, by rw [hl7.out]; omega, hS11⟩
          case measure => simp [intOf]; omega
        · have hcl := p_close hS5.out.all hS5.out.cor he5.out hr5.out (by omega) (by rw [hm.out]; omega)
          go_wp2_with fail
          refine hcl.mono ?_
          rintro e w6 ⟨code, es', rs', rfl, hA6, m6', hc6, hp6, hR6, ⟨ob', he6⟩, ⟨r', hr6, hrb6⟩⟩
          have hRef6 := hS5.out.ref.mv m6'
          have hSz6 := hR6.sz hr5.out hS5.out.szs
          have hrd := r_close hRef6 hr5.out hR6
          replace hA6 := Lib.hid hA6
          replace hc6 := Lib.hid hc6
          replace hp6 := Lib.hid hp6
          replace hSz6 := Lib.hid hSz6
          replace he6 := Lib.hid he6
          replace hr6 := Lib.hid hr6
          replace hrb6 := Lib.hid hrb6
          replace m6' := Lib.hid m6'
          clear hcl hR6 hRef6 o2 o3 cag clg hrb5
          go_wp2_with fail
          refine hrd.mono ?_
          rintro e w7 ⟨rfl, hRef7, rm7⟩
          obtain ⟨rbk', s', g', c'⟩ := r'
          obtain rfl : rbk = rbk' := hrb6.out.symm
          have hlen7 : Hid (es'.length = m) := by
            have := congrArg List.length hp6.out
            rw [List.length_map, List.length_map, hm.out] at this
            exact this
          have hS7 : Hid (St w1 w7 B B rb q M C tot es' rs' L (.slice (some ⟨ag, 0, none⟩) m ca)) := hS5.out.step hA6.out m6'.out hc6.out hp6.out hRef7 rm7 hSz6.out
          have he7 := he6
          have hr7 := hr6
          have q0 : ((code : Int) == code) = true := by simp
          clear hrd hRef7 rm7 hA6 hc6 hp6 hSz6 m6' hob5 he5 hr5 hrm hLL hagl hlgl
          obtain ⟨bo1, bo2, bo3, bo4, bo5, bo6, bo7⟩ := hS7.out.bounds
          have hl7 := hlen7.out
          have hxr := (hS7.out.cor.2 k _ _ he7.out hr7.out).held
          obtain ⟨X, hX⟩ : ∃ X, heldOf (bb, ob') = X := ⟨_, rfl⟩
          obtain ⟨H, hH⟩ : ∃ H, tally heldOf (es') = H := ⟨_, rfl⟩
          obtain ⟨U, hU⟩ : ∃ U, tally usedOf (es') = U := ⟨_, rfl⟩
          obtain ⟨O, hO⟩ : ∃ O, tally openOf (es') = O := ⟨_, rfl⟩
          rw [hX] at hxr
          rw [hH] at bo1 bo4
          rw [hU] at bo2 bo5
          rw [hO] at bo3 bo6
          have q5 : O ≤ 1000 := by omega
          have q1 : ((X : Int) == (X : Int)) = true := by simp
          have q2 : ((H : Int) == (H : Int)) = true := by simp
          have q3 : ((U : Int) == (U : Int)) = true := by simp
          have q4 : ((O : Int) == (O : Int)) = true := by simp
          have hrl : (rs').length ≤ 1000 := by omega
          have hzs : ∀ (i : Nat) (r : REnt), (rs')[i]? = some r → r.2.1.size ≤ 1000000 := fun i r hr => Nat.le_trans (hS7.out.szs i r hr) (by omega)
          replace bo4 := Lib.hid bo4
          replace bo5 := Lib.hid bo5
          replace bo6 := Lib.hid bo6
          replace bo7 := Lib.hid bo7
          replace hX := Lib.hid hX
          replace hH := Lib.hid hH
          replace hU := Lib.hid hU
          replace hO := Lib.hid hO
          replace hxr := Lib.hid hxr
          replace hzs := Lib.hid hzs
          replace hl7 := Lib.hid hl7
          have hl := p_len hS7.out.all he7.out (by omega)
          rw [hX.out] at hl
          go_wp2_with fail
          refine hl.mono ?_
          rintro e w8 ⟨rfl, nq, hw⟩
          have hS8 : Hid (St w1 w8 B B rb q M C tot es' rs' L (.slice (some ⟨ag, 0, none⟩) m ca)) := by rw [hw]; exact hS7.out.drewN nq
          clear hl hw hS7
          have hl := rlen_ok rbk s' g' c' (hS8.out.ref.ent k _ hr7.out).1 (hS8.out.ref.ent k _ hr7.out).2.2 (hzs.out k _ hr7.out)
          rw [← hxr.out] at hl
          go_wp2_with fail
          refine hl.mono ?_
          rintro e w9 ⟨rfl, nq, hw⟩
          have hS9 : Hid (St w1 w9 B B rb q M C tot es' rs' L (.slice (some ⟨ag, 0, none⟩) m ca)) := by rw [hw]; exact hS8.out.drewN nq
          clear hl hw hS8
          have hl := all_held hS9.out.all
          rw [hH.out] at hl
          go_wp2_with fail
          refine hl.mono ?_
          rintro e w' ⟨rfl, hw⟩
          obtain rfl := hw.symm
          clear hl hw
          have hl := rheld_ok hS9.out.ref hrl hzs.out (by rw [bo4.out]; omega)
          rw [bo4.out] at hl
          go_wp2_with fail
          refine hl.mono ?_
          rintro e w10 ⟨rfl, nq, hw⟩
          have hS10 : Hid (St w1 w10 B B rb q M C tot es' rs' L (.slice (some ⟨ag, 0, none⟩) m ca)) := by rw [hw]; exact hS9.out.drewN nq
          clear hl hw hS9
          have hl := all_chunks hS10.out.all
          rw [hU.out] at hl
          go_wp2_with fail
          refine hl.mono ?_
          rintro e w' ⟨rfl, hw⟩
          obtain rfl := hw.symm
          clear hl hw
          have hl := rchunks_ok hS10.out.ref hrl hzs.out (by rw [bo5.out]; omega) hM hC0 hC
          rw [bo5.out] at hl
          go_wp2_with fail
          refine hl.mono ?_
          rintro e w11 ⟨rfl, nq, hw⟩
          have hS11 : Hid (St w1 w11 B B rb q M C tot es' rs' L (.slice (some ⟨ag, 0, none⟩) m ca)) := by rw [hw]; exact hS10.out.drewN nq
          clear hl hw hS10
          have hl := all_buffers hS11.out.all
          rw [hO.out] at hl
          go_wp2_with fail
          refine hl.mono ?_
          rintro e w' ⟨rfl, hw⟩
          obtain rfl := hw.symm
          clear hl hw
          have hl := rbuffers_ok hS11.out.ref hrl (by rw [bo6.out]; omega)
          rw [bo6.out] at hl
          go_wp2_with fail
          refine hl.mono ?_
          rintro e w' ⟨rfl, hw⟩
          obtain rfl := hw.symm
          clear hl hw
          go_wp2
          go_roundw
          case rel => exact ⟨n + 1, es', rs', tot, L, by omega, by go_num, by omega, by rw [hl7.out]; omega, hS11⟩
          case measure => simp [intOf]; omega
    · obtain rfl : n = KL := by omega
      have haw2 := haw.out wr
      go_wp2_with fail
      refine haw2.mono ?_
      rintro e w' ⟨rfl, hg⟩
      have hbl := hS.out.below
      have hgE : w.grownBy w' none := grownBy_chain hg1.out ⟨hg.os.trans hbl.os, hg.tape.trans hbl.tape, hg.output.trans hbl.output, Nat.le_trans hbl.size hg.size, fun b hb _ => (hg.block b (Nat.lt_of_lt_of_le hb hbl.size) (by simp)).trans (hbl.block b (by rw [← hB.out]; exact hb))⟩
      replace hgE := Lib.hid hgE
      clear haw2 hg hbl
      go_wp2
      go_ret
      exact ⟨rfl, hgE.out⟩
/-- All ways. -/
theorem lawPlays_any (l : List Opd) (a b d : Int) (v : Value) (w : World) (h : Ops w v l) (_ : In64 a) (_ : In64 b) (_ : In64 d) :
    Calls Try.prog 3 #[v, .agg #[.int .i64 a, .int .i64 b, .int .i64 d]] w fun e w' => e = .returned (.bool true) ∧ w.grownBy w' none := by
  cases hf : fewB l with
  | false => exact lawPlays_few l a b d v w h hf
  | true =>
    cases hp : mayPool a b d with
    | false => exact lawPlays_no l a b d v w h hf hp
    | true =>
      simp only [mayPool, Bool.and_eq_true, decide_eq_true_eq] at hp
      obtain ⟨⟨⟨⟨⟨p1, p2⟩, p3⟩, p4⟩, p5⟩, p6⟩ := hp
      obtain ⟨a', rfl⟩ : ∃ a' : Nat, a = (a' : Int) := ⟨a.toNat, by omega⟩
      obtain ⟨b', rfl⟩ : ∃ b' : Nat, b = (b' : Int) := ⟨b.toNat, by omega⟩
      obtain ⟨d', rfl⟩ : ∃ d' : Nat, d = (d' : Int) := ⟨d.toNat, by omega⟩
      exact lawPlays_ok l a' b' d' v w h hf (by omega) (by omega) (by omega) (by omega)
end Go.Proofs.Yticoigpkgpdabaa
