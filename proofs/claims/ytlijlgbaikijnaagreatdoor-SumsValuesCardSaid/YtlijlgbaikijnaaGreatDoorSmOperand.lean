/-
  An operand is read as in plain words, by the package, if what stands within it is. Conditions: at most a million bytes.
-/
import Derived.Test.YtlijlgbaikijnaaGreatDoorSmTree
import Derived.Deep.RegionWith
namespace Go.Proofs.YtlijlgbaikijnaaGreatDoor
open Go Go.RowKit

/-- What a function of the reader comes to: an expression in new memory and the thing that is next, or a fault. -/
def Parses (s : ByteArray) (b d : Nat) (w : World) (r : Res) (e : Ending) (w' : World) : Prop :=
  match r with
  | .ok x t => (∃ v, e = .returned v ∧ ExR w' (fun g => w.heap.size ≤ g ∧ g < w'.heap.size) x v) ∧ RdAt w' b s t d ∧ w.grownBy w' (some b) ∧ t.place + t.text.length ≤ s.size
  | .no c n => e = thrown c n ∧ w.grownBy w' (some b)
  | .out => False
def Says (f : Nat) (p : List UInt8 → Th → Nat → Res) (s : ByteArray) (b : Nat) : Prop :=
  ∀ (w : World) (t : Th) (d : Nat), RdAt w b s t d → d ≤ 40 → t.place + t.text.length ≤ s.size → p (tl s) t d ≠ .out →
    Calls Tryz.prog f #[.pointer (some ⟨b, 0, none⟩)] w (Parses s b d w (p (tl s) t d))

/-- What a new block holds, it holds wherever all blocks but the reader's are as they were. -/
theorem cell_grown {w w' : World} {b g j : Nat} {v : Value} (h : w.cell? ⟨g, j, none⟩ = some v) (hg : w.grownBy w' (some b)) (hne : g ≠ b) : w'.cell? ⟨g, j, none⟩ = some v :=
  hg.cell h (by simpa using hne)
theorem frozen_grown {w w' : World} {b g j : Nat} (h : w.frozen? ⟨g, j, none⟩ = false) (hlt : g < w.heap.size) (hg : w.grownBy w' (some b)) (hne : g ≠ b) : w'.frozen? ⟨g, j, none⟩ = false :=
  (World.frozen?_of_block (a := ⟨g, j, none⟩) (hg.block g hlt (by simpa using hne))).trans h
theorem exR_leaf (w : World) (ok : Nat → Prop) (op : List UInt8) (num : Int) (name : List UInt8) : ExR w ok (.mk op num name []) (.agg (exC op num name (.slice none 0 0))) := by
  unfold ExR
  exact ⟨none, 0, rfl, Nat.le_refl _, Nat.zero_le _, .inl rfl⟩

theorem two_new (w : World) (c1 c2 : Array Value) (t1 t2 : TypeId) : ∃ w2, (w.alloc (.cells c1 t1)).alloc (.cells c2 t2) = w2 ∧ w2.heap.size = w.heap.size + 2 ∧ (∀ r, w.grownBy w2 r) ∧
    (∀ (j : Nat) v, c1[j]? = some v → w2.cell? ⟨w.heap.size, j, none⟩ = some v) ∧ (∀ (j : Nat) v, c2[j]? = some v → w2.cell? ⟨w.heap.size + 1, j, none⟩ = some v) ∧
    (∀ j, w2.frozen? ⟨w.heap.size, j, none⟩ = false) ∧ (∀ j, w2.frozen? ⟨w.heap.size + 1, j, none⟩ = false) ∧ (∀ k, k < w.heap.size → w2.heap[k]? = w.heap[k]?) := by
  have e1 : ((w.alloc (.cells c1 t1)).alloc (.cells c2 t2)).heap[w.heap.size]? = (w.alloc (.cells c1 t1)).heap[w.heap.size]? := Below.heap_alloc _ _ _ (by simp)
  have hsz : (w.alloc (.cells c1 t1)).heap.size = w.heap.size + 1 := by simp
  refine ⟨_, rfl, by simp, fun r => grownBy_trans' (World.grownBy_alloc _ _ _) (World.grownBy_alloc _ _ _), fun j v h => ?_, fun j v h => ?_, fun j => ?_, fun j => ?_, fun k hk => (Below.heap_alloc _ _ _ (by simp; omega)).trans (Below.heap_alloc _ _ _ hk)⟩
  · exact (World.cell?_of_block (a := ⟨w.heap.size, j, none⟩) e1).trans ((World.cell?_alloc_new w c1 t1 j).trans h)
  · have := World.cell?_alloc_new (w.alloc (.cells c1 t1)) c2 t2 j
    rw [hsz] at this
    exact this.trans h
  · exact (World.frozen?_of_block (a := ⟨w.heap.size, j, none⟩) e1).trans (World.frozen?_alloc_new w _ _ _)
  · have := World.frozen?_alloc_new (w.alloc (.cells c1 t1)) c2 t2 j
    rw [hsz] at this
    exact this
theorem one_new (w : World) (c1 : Array Value) (t1 : TypeId) : ∃ w2, w.alloc (.cells c1 t1) = w2 ∧ w2.heap.size = w.heap.size + 1 ∧ (∀ r, w.grownBy w2 r) ∧
    (∀ (j : Nat) v, c1[j]? = some v → w2.cell? ⟨w.heap.size, j, none⟩ = some v) ∧ (∀ j, w2.frozen? ⟨w.heap.size, j, none⟩ = false) ∧ (∀ k, k < w.heap.size → w2.heap[k]? = w.heap[k]?) :=
  ⟨_, rfl, by simp, fun r => World.grownBy_alloc _ _ _, fun j v h => (World.cell?_alloc_new w c1 t1 j).trans h, fun j => World.frozen?_alloc_new w _ _ _, fun k hk => Below.heap_alloc _ _ _ hk⟩
/-- Four cells of one block are set. -/
theorem set_four {w : World} {z : Nat} {u0 u1 u2 u3 : Value} (v0 v1 v2 v3 : Value) (h0 : w.cell? ⟨z, 0, none⟩ = some u0) (h1 : w.cell? ⟨z, 1, none⟩ = some u1) (h2 : w.cell? ⟨z, 2, none⟩ = some u2) (h3 : w.cell? ⟨z, 3, none⟩ = some u3) :
    ∃ W, (((w.setCell ⟨z, 0, none⟩ v0).setCell ⟨z, 1, none⟩ v1).setCell ⟨z, 2, none⟩ v2).setCell ⟨z, 3, none⟩ v3 = W ∧ W.cell? ⟨z, 0, none⟩ = some v0 ∧ W.cell? ⟨z, 1, none⟩ = some v1 ∧ W.cell? ⟨z, 2, none⟩ = some v2 ∧ W.cell? ⟨z, 3, none⟩ = some v3 ∧
      w.grownBy W (some z) ∧ ∀ a, W.frozen? a = w.frozen? a := by
  refine ⟨_, rfl, ?_, ?_, ?_, ?_, grownBy_trans' (grownBy_trans' (grownBy_trans' (grownBy_setC w z 0 _) (grownBy_setC _ z 1 _)) (grownBy_setC _ z 2 _)) (grownBy_setC _ z 3 _), fun a => by simp only [World.frozen?_setCell]⟩
  · rw [setC_other _ _ _ _ _ (by omega), setC_other _ _ _ _ _ (by omega), setC_other _ _ _ _ _ (by omega)]; exact setC_same _ _ _ _ _ h0
  · rw [setC_other _ _ _ _ _ (by omega), setC_other _ _ _ _ _ (by omega)]; exact setC_same _ _ _ _ _ (by rw [setC_other _ _ _ _ _ (by omega)]; exact h1)
  · rw [setC_other _ _ _ _ _ (by omega)]; exact setC_same _ _ _ _ _ (by rw [setC_other _ _ _ _ _ (by omega), setC_other _ _ _ _ _ (by omega)]; exact h2)
  · exact setC_same _ _ _ _ _ (by rw [setC_other _ _ _ _ _ (by omega), setC_other _ _ _ _ _ (by omega), setC_other _ _ _ _ _ (by omega)]; exact h3)
/-- A new block is written: of what was there nothing but the reader has changed. -/
theorem grown_new {a w W : World} {b z : Nat} (h : a.grownBy w (some b)) (k : w.grownBy W (some z)) (hz : a.heap.size ≤ z) : a.grownBy W (some b) :=
  ⟨k.os.trans h.os, k.tape.trans h.tape, k.output.trans h.output, Nat.le_trans h.size k.size, fun i hi hr => (k.block i (Nat.lt_of_lt_of_le hi h.size) (by simp; omega)).trans (h.block i hi hr)⟩

theorem kids_one {w : World} {ok : Nat → Prop} {g : Nat} {op : List UInt8} {num : Int} {name : List UInt8} {kids : List E} {k : Value} (h0 : w.cell? ⟨g, 0, none⟩ = some (.string ⟨op.toArray⟩)) (h1 : w.cell? ⟨g, 1, none⟩ = some (.int .i64 num)) (h2 : w.cell? ⟨g, 2, none⟩ = some (.string ⟨name.toArray⟩)) (h3 : w.cell? ⟨g, 3, none⟩ = some k)
    (hx : ExR w ok (.mk op num name kids) (.agg (exC op num name k))) : KidsR w ok g 0 [.mk op num name kids] := by
  unfold KidsR
  refine ⟨⟨_, rfl, fun j hj => ?_, hx⟩, by unfold KidsR; trivial⟩
  have hj4 : j < 4 := hj
  rw [Nat.zero_add]
  match j, hj4 with
  | 0, _ => exact h0
  | 1, _ => exact h1
  | 2, _ => exact h2
  | 3, _ => exact h3

/-- What a mark ahead of an operand leaves. -/
theorem mark_end {w w6 : World} {s : ByteArray} {b d z y y3 y4 : Nat} {t2 : Th} {OP op : List UInt8} {num : Int} {name : List UInt8} {kids : List E} {A : Option Addr} {KL c : Nat}
    (hgE : w.grownBy w6 (some b)) (hr6 : RdAt w6 b s t2 d) (hs6 : w6.heap.size = y + 1) (hz : w.heap.size = z) (hzb : z ≠ b) (hbz : b < z) (hzy : z < y) (h34 : z ≤ y3 ∧ y4 ≤ y) (h3z : z < y3)
    (hx6 : ExR w6 (fun g => y3 ≤ g ∧ g < y4) (.mk op num name kids) (.agg (exC op num name (.slice A KL c)))) (hp : t2.place + t2.text.length ≤ s.size) {u0 u1 u2 u3 : Value}
    (s0 : w6.cell? ⟨z, 0, none⟩ = some u0) (s1 : w6.cell? ⟨z, 1, none⟩ = some u1) (s2 : w6.cell? ⟨z, 2, none⟩ = some u2) (s3 : w6.cell? ⟨z, 3, none⟩ = some u3) :
    ∃ W, (((((w6.alloc (.cells #[.string ⟨op.toArray⟩, .int .i64 num, .string ⟨name.toArray⟩, .slice A KL c] 30)).setCell ⟨z, 0, none⟩ (.string ⟨OP.toArray⟩)).setCell ⟨z, 1, none⟩ (.int .i64 0)).setCell ⟨z, 2, none⟩ (.string ⟨#[]⟩)).setCell ⟨z, 3, none⟩ (.slice (some ⟨y + 1, 0, none⟩) 1 1)).drew = W ∧
      W.cell? ⟨z, 0, none⟩ = some (.string ⟨OP.toArray⟩) ∧ W.cell? ⟨z, 1, none⟩ = some (.int .i64 0) ∧ W.cell? ⟨z, 2, none⟩ = some (.string ⟨#[]⟩) ∧ W.cell? ⟨z, 3, none⟩ = some (.slice (some ⟨y + 1, 0, none⟩) 1 1) ∧
      ∀ e, e = .returned (.agg (exC OP 0 [] (.slice (some ⟨y + 1, 0, none⟩) 1 1))) → Parses s b d w (.ok (.mk OP 0 [] [.mk op num name kids]) t2) e W := by
  obtain ⟨w7, hW7, hs7, hgr7, hcr, _, hold7⟩ := one_new w6 #[.string ⟨op.toArray⟩, .int .i64 num, .string ⟨name.toArray⟩, .slice A KL c] 30
  rw [hW7]
  rw [hs6] at hcr hs7
  have hzb7 := fun {j : Nat} {v : Value} (h : w6.cell? ⟨z, j, none⟩ = some v) => cell_grown h (hgr7 (some b)) hzb
  obtain ⟨W, hW, e0, e1, e2, e3, hgW, _⟩ := set_four (.string ⟨OP.toArray⟩) (.int .i64 0) (.string ⟨#[]⟩) (.slice (some ⟨y + 1, 0, none⟩) 1 1) (hzb7 s0) (hzb7 s1) (hzb7 s2) (hzb7 s3)
  rw [hW]
  have hWs := hgW.size
  have hblk : ∀ g, g ≠ z → g < w6.heap.size → W.heap[g]? = w6.heap[g]? := fun g h1 h2 => (hgW.block g (by omega) (by simpa using h1)).trans (hold7 g h2)
  have hnew : W.heap[y + 1]? = w7.heap[y + 1]? := hgW.block (y + 1) (by omega) (by simp; omega)
  have hgF := grown_new (grownBy_trans' hgE (hgr7 (some b))) hgW (by omega)
  have hrW : RdAt W b s t2 d := hr6.grown (hblk b (by omega) (by omega))
  refine ⟨W.drew, rfl, e0, e1, e2, e3, fun e he => ⟨⟨_, he, ?_⟩, ⟨hrW.c0, hrW.c1, hrW.c2, hrW.c3, hrW.c4, hrW.c5, hrW.fz⟩, ⟨hgF.os, hgF.tape, hgF.output, hgF.size, hgF.block⟩, hp⟩⟩
  unfold ExR
  refine ⟨some ⟨y + 1, 0, none⟩, 1, rfl, Nat.le_refl _, by unfold maxLen; omega, .inr ⟨y + 1, 0, rfl, ⟨by omega, by show y + 1 < W.heap.size; omega⟩, ?_⟩⟩
  have hc := fun (j : Nat) v h => (World.cell?_of_block (a := ⟨y + 1, j, none⟩) hnew).trans (hcr j v h)
  have hxW : ExR W.drew (fun g => w.heap.size ≤ g ∧ g < W.drew.heap.size) (.mk op num name kids) (.agg (exC op num name (.slice A KL c))) := hx6.keep (w' := W.drew) (fun g h => ⟨by omega, by show g < W.heap.size; omega⟩) (fun g h => hblk g (by omega) (by omega))
  exact kids_one (k := .slice A KL c) (hc 0 _ rfl) (hc 1 _ rfl) (hc 2 _ rfl) (hc 3 _ rfl) hxW

set_option maxHeartbeats 8000000 in
set_option maxRecDepth 100000 in
theorem operand_step (n : Nat) (s : ByteArray) (b : Nat) (hs : s.size ≤ 1000000)
    (ha : Says 81 (assignP n) s b) (ho : Says 129 (operandP n) s b) :
    Says 129 (operandP (n + 1)) s b := by
  intro w t d hr hd hp hne
  obtain ⟨r, hr0⟩ : ∃ r, operandP (n + 1) (tl s) t d = r := ⟨_, rfl⟩
  rw [hr0] at hne ⊢
  rw [operandP] at hr0
  by_cases h1 : t.kind = 1
  · rw [if_pos h1] at hr0
    have hc1 := hr.c1
    have hc2 := hr.c2
    have hc3 := hr.c3
    have hc4 := hr.c4
    rw [h1] at hc1
    have hblt : b < w.heap.size := World.block_lt_of_cell? w ⟨b, 0, none⟩ hr.c0
    have hr0 := Lib.hid hr0
    go_enter Tryz.func129, Tryz.ntmps129
    go_wp2_with fail
    obtain ⟨w2, hW2, hs2, hgr, hcz, hcz1, hfz, _, hold⟩ := two_new w #[.string ⟨#[]⟩, .int .i64 0, .string ⟨#[]⟩, .slice none 0 0] #[.int .i64 1, .string ⟨t.text.toArray⟩, .int .i64 (t.num : Int), .int .i64 (t.place : Int)] 30 120
    rw [hW2]
    have hg2 := hgr (some b)
    have hr2 : RdAt w2 b s t d := hr.grown (hold b hblt)
    have q2 := hcz1 2 _ rfl
    have r0 := hcz 0 _ rfl
    have r1 := hcz 1 _ rfl
    have r2 := hcz 2 _ rfl
    have r3 := hcz 3 _ rfl
    have f0 := hfz
    obtain ⟨z, hz⟩ : ∃ z, w.heap.size = z := ⟨_, rfl⟩
    rw [hz] at q2 r0 r1 r2 r3 f0 hs2 ⊢
    have hzb : z ≠ b := by omega
    have hzb1 : z + 1 ≠ b := by omega
    have hz := Lib.hid hz
    clear hW2 hc1 hc2 hc3 hc4 hr hgr hcz hcz1 hfz hold
    refine (step_any s b t d w2 hr2 hp hs).mono ?_
    intro e w3 h
    unfold Goes at h
    have hr0 := hr0.out
    unfold stepT goT at hr0
    cases hlk : lookP (tl s) (t.place + t.text.length) with
    | some t' =>
      rw [hlk] at h hr0
      obtain ⟨⟨v, rfl⟩, hr3, hg3⟩ := h
      simp only at hr0
      subst hr0
      have hpl := lookP_place hlk (by rw [tl_len]; omega)
      rw [tl_len] at hpl
      have q3 := cell_grown q2 hg3 hzb1
      have s0 := cell_grown r0 hg3 hzb
      have s1 := cell_grown r1 hg3 hzb
      have s2 := cell_grown r2 hg3 hzb
      have s3 := cell_grown r3 hg3 hzb
      have g0 := frozen_grown (f0 0) (by omega) hg3 hzb
      have g1 := frozen_grown (f0 1) (by omega) hg3 hzb
      have g2 := frozen_grown (f0 2) (by omega) hg3 hzb
      have g3 := frozen_grown (f0 3) (by omega) hg3 hzb
      have hs3 := hg3.size
      clear q2 r0 r1 r2 r3 f0 hr2 hne hlk
      go_wp2
      obtain ⟨W, hW, e0, e1, e2, e3, hgW, hfW⟩ := set_four (.string ⟨#[110, 117, 109]⟩) (.int .i64 (t.num : Int)) (.string ⟨#[]⟩) (.slice none 0 0) s0 s1 s2 s3
      rw [hW]
      clear hW
      have hgE := grown_new (grownBy_trans' hg2 hg3) hgW (by have := hz.out; omega)
      have hrE : RdAt W b s t' d := hr3.grown (hgW.block b (by omega) (by simp; omega))
      refine bodyPost_ret (v := .agg (exC [110, 117, 109] (t.num : Int) [] (.slice none 0 0))) (by simp [results, Tryz.results129, go_sem, e0, e1, e2, e3, exC]) rfl ?_
      exact ⟨⟨_, rfl, exR_leaf _ _ _ _ _⟩, hrE, hgE, hpl.2⟩
    | none =>
      rw [hlk] at h hr0
      obtain ⟨rfl, hg3⟩ := h
      simp only at hr0
      subst hr0
      exact ⟨rfl, rfl, grownBy_trans' hg2 hg3⟩
  · by_cases h2 : t.kind = 2
    · rw [if_neg h1, if_pos h2] at hr0
      have hc1 := hr.c1
      have hc2 := hr.c2
      have hc3 := hr.c3
      have hc4 := hr.c4
      rw [h2] at hc1
      have hblt : b < w.heap.size := World.block_lt_of_cell? w ⟨b, 0, none⟩ hr.c0
      have hr0 := Lib.hid hr0
      go_enter Tryz.func129, Tryz.ntmps129
      go_wp2_with fail
      obtain ⟨w2, hW2, hs2, hgr, hcz, hcz1, hfz, _, hold⟩ := two_new w #[.string ⟨#[]⟩, .int .i64 0, .string ⟨#[]⟩, .slice none 0 0] #[.int .i64 2, .string ⟨t.text.toArray⟩, .int .i64 (t.num : Int), .int .i64 (t.place : Int)] 30 120
      rw [hW2]
      have hg2 := hgr (some b)
      have hr2 : RdAt w2 b s t d := hr.grown (hold b hblt)
      have q2 := hcz1 1 _ rfl
      have r0 := hcz 0 _ rfl
      have r1 := hcz 1 _ rfl
      have r2 := hcz 2 _ rfl
      have r3 := hcz 3 _ rfl
      have f0 := hfz
      obtain ⟨z, hz⟩ : ∃ z, w.heap.size = z := ⟨_, rfl⟩
      rw [hz] at q2 r0 r1 r2 r3 f0 hs2 ⊢
      have hzb : z ≠ b := by omega
      have hzb1 : z + 1 ≠ b := by omega
      have hz := Lib.hid hz
      clear hW2 hc1 hc2 hc3 hc4 hr hgr hcz hcz1 hfz hold
      refine (step_any s b t d w2 hr2 hp hs).mono ?_
      intro e w3 h
      unfold Goes at h
      have hr0 := hr0.out
      unfold stepT goT at hr0
      cases hlk : lookP (tl s) (t.place + t.text.length) with
      | some t' =>
        rw [hlk] at h hr0
        obtain ⟨⟨v, rfl⟩, hr3, hg3⟩ := h
        simp only at hr0
        subst hr0
        have hpl := lookP_place hlk (by rw [tl_len]; omega)
        rw [tl_len] at hpl
        have q3 := cell_grown q2 hg3 hzb1
        have s0 := cell_grown r0 hg3 hzb
        have s1 := cell_grown r1 hg3 hzb
        have s2 := cell_grown r2 hg3 hzb
        have s3 := cell_grown r3 hg3 hzb
        have g0 := frozen_grown (f0 0) (by omega) hg3 hzb
        have g1 := frozen_grown (f0 1) (by omega) hg3 hzb
        have g2 := frozen_grown (f0 2) (by omega) hg3 hzb
        have g3 := frozen_grown (f0 3) (by omega) hg3 hzb
        have hs3 := hg3.size
        clear q2 r0 r1 r2 r3 f0 hr2 hne hlk
        go_wp2
        obtain ⟨W, hW, e0, e1, e2, e3, hgW, hfW⟩ := set_four (.string ⟨#[110, 97, 109, 101]⟩) (.int .i64 0) (.string ⟨t.text.toArray⟩) (.slice none 0 0) s0 s1 s2 s3
        rw [hW]
        clear hW
        have hgE := grown_new (grownBy_trans' hg2 hg3) hgW (by have := hz.out; omega)
        have hrE : RdAt W b s t' d := hr3.grown (hgW.block b (by omega) (by simp; omega))
        refine bodyPost_ret (v := .agg (exC [110, 97, 109, 101] 0 t.text (.slice none 0 0))) (by simp [results, Tryz.results129, go_sem, e0, e1, e2, e3, exC]) rfl ?_
        exact ⟨⟨_, rfl, exR_leaf _ _ _ _ _⟩, hrE, hgE, hpl.2⟩
      | none =>
        rw [hlk] at h hr0
        obtain ⟨rfl, hg3⟩ := h
        simp only at hr0
        subst hr0
        exact ⟨rfl, rfl, grownBy_trans' hg2 hg3⟩
    · rw [if_neg h1, if_neg h2] at hr0
      have i1 : ¬ (t.kind : Int) = 1 := by omega
      have i2 : ¬ (t.kind : Int) = 2 := by omega
      have hc1 := hr.c1
      have hc2 := hr.c2
      have hc3 := hr.c3
      have hc4 := hr.c4
      have hblt : b < w.heap.size := World.block_lt_of_cell? w ⟨b, 0, none⟩ hr.c0
      have hr0 := Lib.hid hr0
      by_cases h3 : t.text = [40]
      · have hr0 := hr0.out
        rw [if_pos h3] at hr0
        have g3 : ((⟨t.text.toArray⟩ : ByteArray).toList == [40]) = true := by rw [Lib.toList_data, h3]; rfl
        obtain ⟨x, hx⟩ : ∃ x : ByteArray, (⟨t.text.toArray⟩ : ByteArray) = x := ⟨_, rfl⟩
        rw [hx] at hc2 g3
        clear h3 hx
        have hr0 := Lib.hid hr0
        go_enter Tryz.func129, Tryz.ntmps129
        go_wp2_with fail
        obtain ⟨w2, hW2, hs2, hgr, hcz, _, hfz, _, hold⟩ := two_new w #[.string ⟨#[]⟩, .int .i64 0, .string ⟨#[]⟩, .slice none 0 0] #[.int .i64 (t.kind : Int), .string x, .int .i64 (t.num : Int), .int .i64 (t.place : Int)] 30 120
        rw [hW2]
        have hg2 := hgr (some b)
        have hr2 : RdAt w2 b s t d := hr.grown (hold b hblt)
        obtain ⟨z, hz⟩ : ∃ z, w.heap.size = z := ⟨_, rfl⟩
        rw [hz] at hcz hfz hs2 ⊢
        have hzb : z ≠ b := by omega
        have hz := Lib.hid hz
        clear hW2 hc1 hc2 hc3 hc4 hr hgr hold i1 i2 g3
        refine (enter_any s b t d w2 hr2 hd hp hs).mono ?_
        intro e w3 h
        unfold Enters at h
        have hr0 := hr0.out
        unfold enterT at hr0
        by_cases h40 : d = 40
        · rw [if_pos h40] at h hr0
          obtain ⟨rfl, hg3⟩ := h
          subst hr0
          exact ⟨rfl, rfl, grownBy_trans' hg2 hg3⟩
        · rw [if_neg h40] at h hr0
          unfold Goes at h
          unfold stepT goT at hr0
          cases hlk : lookP (tl s) (t.place + t.text.length) with
          | none =>
            rw [hlk] at h hr0
            obtain ⟨rfl, hg3⟩ := h
            simp only at hr0
            subst hr0
            exact ⟨rfl, rfl, grownBy_trans' hg2 hg3⟩
          | some t1 =>
            rw [hlk] at h hr0
            obtain ⟨⟨v, rfl⟩, hr3, hg3⟩ := h
            simp only at hr0
            have hpl := lookP_place hlk (by rw [tl_len]; omega)
            rw [tl_len] at hpl
            obtain ⟨r1, hr1⟩ : ∃ r1, assignP n (tl s) t1 (d + 1) = r1 := ⟨_, rfl⟩
            rw [hr1] at hr0
            have hne1 : r1 ≠ .out := fun h => hne (by rw [← hr0, h]; rfl)
            have ih := ha w3 t1 (d + 1) hr3 (by omega) hpl.2 (by rw [hr1]; exact hne1)
            rw [hr1] at ih
            have hg23 := grownBy_trans' hg2 hg3
            have hs3 := hg3.size
            have s0 := cell_grown (hcz 0 _ rfl) hg3 hzb
            have s1 := cell_grown (hcz 1 _ rfl) hg3 hzb
            have s2 := cell_grown (hcz 2 _ rfl) hg3 hzb
            have s3 := cell_grown (hcz 3 _ rfl) hg3 hzb
            have g0 := fun j => frozen_grown (hfz j) (by omega) hg3 hzb
            have hr0 := Lib.hid hr0
            clear hlk hr1 hr2 hcz hfz hg2 hg3
            go_wp2_with fail
            refine ih.mono ?_
            intro e w4 h
            unfold Parses at h
            have hr0 := hr0.out
            cases r1 with
            | out => exact absurd rfl hne1
            | no c k =>
              obtain ⟨rfl, hg4⟩ := h
              simp only [Res.next] at hr0
              subst hr0
              exact ⟨rfl, rfl, grownBy_trans' hg23 hg4⟩
            | ok e1 t2 =>
              obtain ⟨⟨v, rfl, hx⟩, hr4, hg4, hp4⟩ := h
              simp only [Res.next] at hr0
              obtain ⟨op, num, name, kids⟩ := e1
              have hx0 := hx
              unfold ExR at hx
              obtain ⟨A, c, rfl, hcc, hcm, _⟩ := hx
              have hg24 := grownBy_trans' hg23 hg4
              have hs4 := hg4.size
              have s0 := cell_grown s0 hg4 hzb
              have s1 := cell_grown s1 hg4 hzb
              have s2 := cell_grown s2 hg4 hzb
              have s3 := cell_grown s3 hg4 hzb
              have g0 := fun j => frozen_grown (g0 j) (by omega) hg4 hzb
              have hr0 := Lib.hid hr0
              obtain ⟨KL, hKL⟩ : ∃ KL, kids.length = KL := ⟨_, rfl⟩
              rw [hKL] at hcc hx0 ⊢
              have hx0 := Lib.hid hx0
              unfold exC
              clear ih hne1
              go_wp2_with fail
              obtain ⟨w5, hW5, hs5, hgr5, hcy, hfy, hold5⟩ := one_new w4 #[.string ⟨op.toArray⟩, .int .i64 num, .string ⟨name.toArray⟩, .slice A KL c] 30
              rw [hW5]
              have hb4 : b < w4.heap.size := World.block_lt_of_cell? w4 ⟨b, 0, none⟩ hr4.c0
              have hr5 : RdAt w5 b s t2 (d + 1) := hr4.grown (hold5 b hb4)
              have hg45 := hgr5 (some b)
              have s0 := cell_grown s0 hg45 hzb
              have s1 := cell_grown s1 hg45 hzb
              have s2 := cell_grown s2 hg45 hzb
              have s3 := cell_grown s3 hg45 hzb
              have g0 := fun j => frozen_grown (g0 j) (by omega) hg45 hzb
              obtain ⟨y, hy⟩ : ∃ y, w4.heap.size = y := ⟨_, rfl⟩
              rw [hy] at hcy hs5 hs4 ⊢
              have hyb : y ≠ b := by omega
              have hyz : y ≠ z := by omega
              have hy := Lib.hid hy
              clear hW5 hgr5 hr4 hfy
              refine (need_any [41] s b t2 (d + 1) w5 hr5 hp4 hs).mono ?_
              intro e w6 h
              unfold Needs at h
              have hr0 := hr0.out
              unfold needT at hr0
              have hg25 := grownBy_trans' hg24 hg45
              by_cases h41 : t2.text = [41]
              · rw [if_pos h41] at h hr0
                unfold Goes at h
                unfold stepT goT at hr0
                cases hlk : lookP (tl s) (t2.place + t2.text.length) with
                | none =>
                  rw [hlk] at h hr0
                  obtain ⟨rfl, hg6⟩ := h
                  simp only at hr0
                  subst hr0
                  exact ⟨rfl, rfl, grownBy_trans' hg25 hg6⟩
                | some t3 =>
                  rw [hlk] at h hr0
                  obtain ⟨⟨v, rfl⟩, hr6, hg6⟩ := h
                  simp only at hr0
                  subst hr0
                  have hpl3 := lookP_place hlk (by rw [tl_len]; omega)
                  rw [tl_len] at hpl3
                  have s0 := cell_grown s0 hg6 hzb
                  have s1 := cell_grown s1 hg6 hzb
                  have s2 := cell_grown s2 hg6 hzb
                  have s3 := cell_grown s3 hg6 hzb
                  have g0 := fun j => frozen_grown (g0 j) (by omega) hg6 hzb
                  have y0 := cell_grown (hcy 0 _ rfl) hg6 hyb
                  have y1 := cell_grown (hcy 1 _ rfl) hg6 hyb
                  have y2 := cell_grown (hcy 2 _ rfl) hg6 hyb
                  have y3 := cell_grown (hcy 3 _ rfl) hg6 hyb
                  have hs6 := hg6.size
                  have c5 := hr6.c5
                  have fb5 := hr6.fz 5
                  have hw5 := hr6.within d
                  have hgw5 := grownBy_setC w6 b 5 (.int .i64 (d : Int))
                  have hsw5 := hgw5.size
                  have k1 : IntKind.i64.wrap (((d + 1 : Nat) : Int) - 1) = (d : Int) := by rw [show ((d + 1 : Nat) : Int) - 1 = (d : Int) by omega]; exact IntWalk.i64_in _ (by omega)
                  have z0 := g0 0
                  have z1 := g0 1
                  have z2 := g0 2
                  have z3 := g0 3
                  have hx6 : Hid (ExR w6 (fun g => w3.heap.size ≤ g ∧ g < w4.heap.size) (.mk op num name kids) (.agg (exC op num name (.slice A KL c)))) := hx0.out.keep (fun g h => h) (fun g h => (hg6.block g (by have := h.2; have := hy.out; omega) (by simp; omega)).trans (hold5 g h.2))
                  clear hlk hcy g0 hr5 hne
                  go_wp2
                  have hs23 : z + 2 ≤ w3.heap.size := by omega
                  have hzlt : z < w6.heap.size := by omega
                  have hzw : ∀ j, (w6.setCell ⟨b, 5, none⟩ (.int .i64 (d : Int))).cell? ⟨z, j, none⟩ = w6.cell? ⟨z, j, none⟩ := fun j => World.cell?_of_block (a := ⟨z, j, none⟩) (hgw5.block z hzlt (by simpa using hzb))
                  obtain ⟨W, hW, e0, e1, e2, e3, hgW, hfW⟩ := set_four (.string ⟨op.toArray⟩) (.int .i64 num) (.string ⟨name.toArray⟩) (.slice A KL c) ((hzw 0).trans s0) ((hzw 1).trans s1) ((hzw 2).trans s2) ((hzw 3).trans s3)
                  rw [hW]
                  clear hW
                  have hgE := grown_new (grownBy_trans' (grownBy_trans' hg25 hg6) hgw5) hgW (by have := hz.out; omega)
                  have hrE : RdAt W b s t3 d := hw5.grown (hgW.block b (by omega) (by simp; omega))
                  have hWs := hgW.size
                  have hxE : ExR W (fun g => w.heap.size ≤ g ∧ g < W.heap.size) (.mk op num name kids) (.agg (exC op num name (.slice A KL c))) := hx6.out.keep (fun g h => by have := hz.out; have := hy.out; omega)
                    (fun g h => (hgW.block g (by have := hy.out; omega) (by simp; omega)).trans (hgw5.block g (by have := hy.out; omega) (by simp; omega)))
                  refine bodyPost_ret (v := .agg (exC op num name (.slice A KL c))) (by simp [results, Tryz.results129, go_sem, e0, e1, e2, e3, exC]) rfl ?_
                  exact ⟨⟨_, rfl, hxE⟩, hrE, hgE, hpl3.2⟩
              · rw [if_neg h41] at h hr0
                obtain ⟨rfl, hg6⟩ := h
                subst hr0
                exact ⟨rfl, rfl, grownBy_trans' hg25 hg6⟩
      · have g3 : ((⟨t.text.toArray⟩ : ByteArray).toList == [40]) = false := by rw [Lib.toList_data, beq_eq_false_iff_ne]; exact h3
        have hop := fun W => opAhead_any ⟨t.text.toArray⟩ W
        rw [tl_mk] at hop
        by_cases h4 : opV t.text = []
        · have hr0 := hr0.out
          rw [if_neg h3, if_neg (by simpa using h4)] at hr0
          subst hr0
          rw [h4] at hop
          have hth := fun W => throw_any 31 t.place W
          obtain ⟨x, hx⟩ : ∃ x : ByteArray, (⟨t.text.toArray⟩ : ByteArray) = x := ⟨_, rfl⟩
          rw [hx] at hc2 g3 hop
          clear h1 h2 h3 h4 hx hr
          go_enter Tryz.func129, Tryz.ntmps129
          go_wp2_with fail
          refine (hop _).mono ?_
          rintro e w3 ⟨rfl, rfl⟩
          go_wp2_with fail
          refine (hth _).mono ?_
          rintro e w3 ⟨rfl, rfl⟩
          exact ⟨rfl, rfl, grownBy_trans' (World.grownBy_alloc _ _ _) (World.grownBy_alloc _ _ _)⟩
        · have hr0 := hr0.out
          rw [if_neg h3, if_pos (by simpa using h4)] at hr0
          have hyo := str_empty (opV t.text)
          rw [show (opV t.text).isEmpty = false by cases h9 : opV t.text with | nil => exact absurd h9 h4 | cons _ _ => rfl] at hyo
          obtain ⟨OP, hOP⟩ : ∃ OP, opV t.text = OP := ⟨_, rfl⟩
          rw [hOP] at hop hyo hr0
          obtain ⟨oy, hoy⟩ : ∃ oy : ByteArray, (⟨OP.toArray⟩ : ByteArray) = oy := ⟨_, rfl⟩
          rw [hoy] at hop hyo
          obtain ⟨x, hx⟩ : ∃ x : ByteArray, (⟨t.text.toArray⟩ : ByteArray) = x := ⟨_, rfl⟩
          rw [hx] at hc2 g3 hop
          clear h3 h4 hx hOP
          have hoy := Lib.hid hoy
          have hr0 := Lib.hid hr0
          go_enter Tryz.func129, Tryz.ntmps129
          go_wp2_with fail
          refine (hop _).mono ?_
          rintro e wq ⟨rfl, rfl⟩
          go_wp2_with fail
          obtain ⟨w2, hW2, hs2, hgr, hcz, hcz1, hfz, _, hold⟩ := two_new w #[.string ⟨#[]⟩, .int .i64 0, .string ⟨#[]⟩, .slice none 0 0] #[.int .i64 (t.kind : Int), .string x, .int .i64 (t.num : Int), .int .i64 (t.place : Int)] 30 120
          rw [hW2]
          have hg2 := hgr (some b)
          have hr2 : RdAt w2 b s t d := hr.grown (hold b hblt)
          obtain ⟨z, hz⟩ : ∃ z, w.heap.size = z := ⟨_, rfl⟩
          rw [hz] at hcz hcz1 hfz hs2 ⊢
          have hzb : z ≠ b := by omega
          have hz := Lib.hid hz
          clear hW2 hc1 hc2 hc3 hc4 hr hgr hold i1 i2 g3
          refine (enter_any s b t d w2 hr2 hd hp hs).mono ?_
          intro e w3 h
          unfold Enters at h
          have hr0 := hr0.out
          unfold enterT at hr0
          by_cases h40 : d = 40
          · rw [if_pos h40] at h hr0
            obtain ⟨rfl, hg3⟩ := h
            subst hr0
            exact ⟨rfl, rfl, grownBy_trans' hg2 hg3⟩
          · rw [if_neg h40] at h hr0
            unfold Goes at h
            unfold stepT goT at hr0
            cases hlk : lookP (tl s) (t.place + t.text.length) with
            | none =>
              rw [hlk] at h hr0
              obtain ⟨rfl, hg3⟩ := h
              simp only at hr0
              subst hr0
              exact ⟨rfl, rfl, grownBy_trans' hg2 hg3⟩
            | some t1 =>
              rw [hlk] at h hr0
              obtain ⟨⟨v, rfl⟩, hr3, hg3⟩ := h
              simp only at hr0
              have hpl := lookP_place hlk (by rw [tl_len]; omega)
              rw [tl_len] at hpl
              obtain ⟨r1, hr1⟩ : ∃ r1, operandP n (tl s) t1 (d + 1) = r1 := ⟨_, rfl⟩
              rw [hr1] at hr0
              have hne1 : r1 ≠ .out := fun h => hne (by rw [← hr0, h]; rfl)
              have ih := ho w3 t1 (d + 1) hr3 (by omega) hpl.2 (by rw [hr1]; exact hne1)
              rw [hr1] at ih
              have hg23 := grownBy_trans' hg2 hg3
              have hs3 := hg3.size
              have s0 := cell_grown (hcz 0 _ rfl) hg3 hzb
              have s1 := cell_grown (hcz 1 _ rfl) hg3 hzb
              have s2 := cell_grown (hcz 2 _ rfl) hg3 hzb
              have s3 := cell_grown (hcz 3 _ rfl) hg3 hzb
              have g0 := fun j => frozen_grown (hfz j) (by omega) hg3 hzb
              have x1 := cell_grown (hcz1 1 _ rfl) hg3 (show z + 1 ≠ b by omega)
              have hr0 := Lib.hid hr0
              clear hlk hr1 hr2 hcz hcz1 hfz hg2 hg3
              go_wp2_with fail
              refine ih.mono ?_
              intro e w4 h
              unfold Parses at h
              have hr0 := hr0.out
              cases r1 with
              | out => exact absurd rfl hne1
              | no c k =>
                obtain ⟨rfl, hg4⟩ := h
                simp only [Res.next] at hr0
                subst hr0
                exact ⟨rfl, rfl, grownBy_trans' hg23 hg4⟩
              | ok e1 t2 =>
                obtain ⟨⟨v, rfl, hx⟩, hr4, hg4, hp4⟩ := h
                simp only [Res.next] at hr0
                subst hr0
                obtain ⟨op, num, name, kids⟩ := e1
                have hx0 := hx
                unfold ExR at hx
                obtain ⟨A, c, rfl, hcc, hcm, _⟩ := hx
                have hg24 := grownBy_trans' hg23 hg4
                have hs4 := hg4.size
                have s0 := cell_grown s0 hg4 hzb
                have s1 := cell_grown s1 hg4 hzb
                have s2 := cell_grown s2 hg4 hzb
                have s3 := cell_grown s3 hg4 hzb
                have g0 := fun j => frozen_grown (g0 j) (by omega) hg4 hzb
                have x1 := cell_grown x1 hg4 (show z + 1 ≠ b by omega)
                obtain ⟨KL, hKL⟩ : ∃ KL, kids.length = KL := ⟨_, rfl⟩
                rw [hKL] at hcc hx0 ⊢
                have hx0 := Lib.hid hx0
                have c5 := hr4.c5
                have fb5 := hr4.fz 5
                have hw5 := hr4.within d
                have k1 : IntKind.i64.wrap (((d + 1 : Nat) : Int) - 1) = (d : Int) := by rw [show ((d + 1 : Nat) : Int) - 1 = (d : Int) by omega]; exact IntWalk.i64_in _ (by omega)
                have hb4 : b < w4.heap.size := World.block_lt_of_cell? w4 ⟨b, 0, none⟩ hr4.c0
                have z0 := g0 0
                have z1 := g0 1
                have z2 := g0 2
                have z3 := g0 3
                unfold exC
                clear ih hne1
                go_wp2_with fail
                have hgw5 := grownBy_setC w4 b 5 (.int .i64 (d : Int))
                have hsw : (w4.setCell ⟨b, 5, none⟩ (.int .i64 (d : Int))).heap.size = w4.heap.size := by simp [World.setCell]
                generalize hw5e : w4.setCell ⟨b, 5, none⟩ (.int .i64 (d : Int)) = w5 at hgw5 hsw hw5 ⊢
                have x1 := cell_grown x1 hgw5 (show z + 1 ≠ b by omega)
                have s0 := cell_grown s0 hgw5 hzb
                have s1 := cell_grown s1 hgw5 hzb
                have s2 := cell_grown s2 hgw5 hzb
                have s3 := cell_grown s3 hgw5 hzb
                have g0 := fun j => frozen_grown (g0 j) (by omega) hgw5 hzb
                obtain ⟨w6, hW6, hs6, hgr6, hcy, hfy, hold6⟩ := one_new w5 #[.string ⟨op.toArray⟩, .int .i64 num, .string ⟨name.toArray⟩, .slice A KL c] 30
                rw [hW6]
                have hr6 : RdAt w6 b s t2 d := hw5.grown (hold6 b (by omega))
                have hg56 := hgr6 (some b)
                have x1 := cell_grown x1 hg56 (show z + 1 ≠ b by omega)
                have s0 := cell_grown s0 hg56 hzb
                have s1 := cell_grown s1 hg56 hzb
                have s2 := cell_grown s2 hg56 hzb
                have s3 := cell_grown s3 hg56 hzb
                have g0 := fun j => frozen_grown (g0 j) (by omega) hg56 hzb
                rw [hsw] at hcy hs6
                have hx6 : ExR w6 (fun g => w3.heap.size ≤ g ∧ g < w4.heap.size) (.mk op num name kids) (.agg (exC op num name (.slice A KL c))) := hx0.out.keep (fun g h => h) (fun g h => (hold6 g (by omega)).trans (hgw5.block g h.2 (by simp; omega)))
                have hx6 := Lib.hid hx6
                have hgE := grownBy_trans' hg24 (grownBy_trans' hgw5 hg56)
                obtain ⟨y, hy⟩ : ∃ y, w4.heap.size = y := ⟨_, rfl⟩
                rw [hy] at hcy hs6 ⊢
                have y0 := hcy 0 _ rfl
                have y1 := hcy 1 _ rfl
                have y2 := hcy 2 _ rfl
                have y3 := hcy 3 _ rfl
                have z0 := g0 0
                have z1 := g0 1
                have z2 := g0 2
                have z3 := g0 3
                have hy := Lib.hid hy
                have hyz : y ≠ z := by omega
                clear hW6 hgr6 hfy hold6 hw5 hw5e c5 fb5 k1 hr4 hcy hne hx0 g0
                have hzlt : z < w6.heap.size := by omega
                have hblk : ∀ o, (w6.alloc o).heap[z]? = w6.heap[z]? := fun o => Below.heap_alloc w6 o z hzlt
                have za0 : ∀ o, (w6.alloc o).cell? ⟨z, 0, none⟩ = some (.string ⟨#[]⟩) := fun o => (World.cell?_of_block (a := ⟨z, 0, none⟩) (hblk o)).trans s0
                have za1 : ∀ o, (w6.alloc o).cell? ⟨z, 1, none⟩ = some (.int .i64 0) := fun o => (World.cell?_of_block (a := ⟨z, 1, none⟩) (hblk o)).trans s1
                have za2 : ∀ o, (w6.alloc o).cell? ⟨z, 2, none⟩ = some (.string ⟨#[]⟩) := fun o => (World.cell?_of_block (a := ⟨z, 2, none⟩) (hblk o)).trans s2
                have za3 : ∀ o, (w6.alloc o).cell? ⟨z, 3, none⟩ = some (.slice none 0 0) := fun o => (World.cell?_of_block (a := ⟨z, 3, none⟩) (hblk o)).trans s3
                have zb0 : ∀ o, (w6.alloc o).frozen? ⟨z, 0, none⟩ = false := fun o => (World.frozen?_of_block (a := ⟨z, 0, none⟩) (hblk o)).trans z0
                have zb1 : ∀ o, (w6.alloc o).frozen? ⟨z, 1, none⟩ = false := fun o => (World.frozen?_of_block (a := ⟨z, 1, none⟩) (hblk o)).trans z1
                have zb2 : ∀ o, (w6.alloc o).frozen? ⟨z, 2, none⟩ = false := fun o => (World.frozen?_of_block (a := ⟨z, 2, none⟩) (hblk o)).trans z2
                have zb3 : ∀ o, (w6.alloc o).frozen? ⟨z, 3, none⟩ = false := fun o => (World.frozen?_of_block (a := ⟨z, 3, none⟩) (hblk o)).trans z3
                have xa1 : ∀ o, (w6.alloc o).cell? ⟨z + 1, 1, none⟩ = some (.string x) := fun o => (World.cell?_of_block (a := ⟨z + 1, 1, none⟩) (Below.heap_alloc w6 o (z + 1) (by omega))).trans x1
                clear hblk
                go_region_with (go_at_call 128; refine (hop _).mono ?_; rintro e wq ⟨rfl, rfl⟩)
                all_goals
                  have hme := mark_end (OP := OP) hgE hr6 hs6 hz.out hzb (by have := hz.out; omega) (by have := hy.out; omega) (y3 := w3.heap.size) (y4 := w4.heap.size) ⟨by omega, by have := hy.out; omega⟩ (by omega) hx6.out hp4 s0 s1 s2 s3
                  rw [hoy.out] at hme
                  obtain ⟨W, hW, e0, e1, e2, e3, hfin⟩ := hme
                  rw [hW]
                  clear za0 za1 za2 za3 zb0 zb1 zb2 zb3 xa1
                  go_wp2
                  refine bodyPost_ret (v := .agg #[.string oy, .int .i64 0, .string ⟨#[]⟩, .slice (some ⟨y + 1, 0, none⟩) 1 1]) (by simp [results, Tryz.results129, go_sem, e0, e1, e2, e3]) rfl ?_
                  exact hfin _ (by rw [← hoy.out]; rfl)
end Go.Proofs.YtlijlgbaikijnaaGreatDoor
