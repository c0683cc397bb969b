/-
  A condition is read as in plain words, by the package, if what stands within it is. Conditions: at most a million bytes.
-/
import Derived.Test.YtlijlgbaikijnaaGreatDoorSmAssign
namespace Go.Proofs.YtlijlgbaikijnaaGreatDoor
open Go Go.RowKit

def SaysB (f : Nat) (p : List UInt8 → Nat → Th → Nat → Res) (s : ByteArray) (b : Nat) : Prop :=
  ∀ (w : World) (l : Nat) (t : Th) (d : Nat), RdAt w b s t d → d ≤ 40 → l ≤ 1000 → t.place + t.text.length ≤ s.size → p (tl s) l t d ≠ .out →
    Calls Tryz.prog f #[.pointer (some ⟨b, 0, none⟩), .int .i64 (l : Int)] w (Parses s b d w (p (tl s) l t d))

theorem kids_three {w : World} {ok : Nat → Prop} {g : Nat} {x1 x2 x3 : E} {o1 o2 o3 m1 m2 m3 : List UInt8} {n1 n2 n3 : Int} {k1 k2 k3 : Value}
    (hc : ∀ (j : Nat) v, (#[.string ⟨o1.toArray⟩, .int .i64 n1, .string ⟨m1.toArray⟩, k1, .string ⟨o2.toArray⟩, .int .i64 n2, .string ⟨m2.toArray⟩, k2, .string ⟨o3.toArray⟩, .int .i64 n3, .string ⟨m3.toArray⟩, k3] : Array Value)[j]? = some v → w.cell? ⟨g, j, none⟩ = some v)
    (h1 : ExR w ok x1 (.agg (exC o1 n1 m1 k1))) (h2 : ExR w ok x2 (.agg (exC o2 n2 m2 k2))) (h3 : ExR w ok x3 (.agg (exC o3 n3 m3 k3))) : KidsR w ok g 0 [x1, x2, x3] := by
  unfold KidsR
  refine ⟨⟨_, rfl, fun j hj => ?_, h1⟩, ?_⟩
  · have hj4 : j < 4 := hj
    rw [Nat.zero_add]
    match j, hj4 with
    | 0, _ => exact hc 0 _ rfl
    | 1, _ => exact hc 1 _ rfl
    | 2, _ => exact hc 2 _ rfl
    | 3, _ => exact hc 3 _ rfl
  unfold KidsR
  refine ⟨⟨_, rfl, fun j hj => ?_, h2⟩, ?_⟩
  · have hj4 : j < 4 := hj
    match j, hj4 with
    | 0, _ => exact hc 4 _ rfl
    | 1, _ => exact hc 5 _ rfl
    | 2, _ => exact hc 6 _ rfl
    | 3, _ => exact hc 7 _ rfl
  unfold KidsR
  refine ⟨⟨_, rfl, fun j hj => ?_, h3⟩, by unfold KidsR; trivial⟩
  have hj4 : j < 4 := hj
  match j, hj4 with
  | 0, _ => exact hc 8 _ rfl
  | 1, _ => exact hc 9 _ rfl
  | 2, _ => exact hc 10 _ rfl
  | 3, _ => exact hc 11 _ rfl

/-- What a condition leaves: an expression with three kids. -/
theorem three_end {w w6 : World} {s : ByteArray} {b d z y : Nat} {t2 : Th} {OP o1 o2 o3 m1 m2 m3 : List UInt8} {x1 x2 x3 : E} {n1 n2 n3 : Int} {k1 k2 k3 : Value}
    (hgE : w.grownBy w6 (some b)) (hr6 : RdAt w6 b s t2 d) (hs6 : w6.heap.size = y + 1) (hz : w.heap.size = z) (hzb : z ≠ b) (hbz : b < z) (hzy : z < y)
    (h1 : ExR w6 (fun g => z < g ∧ g < y) x1 (.agg (exC o1 n1 m1 k1))) (h2 : ExR w6 (fun g => z < g ∧ g < y) x2 (.agg (exC o2 n2 m2 k2))) (h3 : ExR w6 (fun g => z < g ∧ g < y) x3 (.agg (exC o3 n3 m3 k3)))
    (hp : t2.place + t2.text.length ≤ s.size) {u0 u1 u2 u3 : Value}
    (s0 : w6.cell? ⟨z, 0, none⟩ = some u0) (s1 : w6.cell? ⟨z, 1, none⟩ = some u1) (s2 : w6.cell? ⟨z, 2, none⟩ = some u2) (s3 : w6.cell? ⟨z, 3, none⟩ = some u3) :
    ∃ W, ((((w6.alloc (.cells #[.string ⟨o1.toArray⟩, .int .i64 n1, .string ⟨m1.toArray⟩, k1, .string ⟨o2.toArray⟩, .int .i64 n2, .string ⟨m2.toArray⟩, k2, .string ⟨o3.toArray⟩, .int .i64 n3, .string ⟨m3.toArray⟩, k3] 30)).setCell ⟨z, 0, none⟩ (.string ⟨OP.toArray⟩)).setCell ⟨z, 1, none⟩ (.int .i64 0)).setCell ⟨z, 2, none⟩ (.string ⟨#[]⟩)).setCell ⟨z, 3, none⟩ (.slice (some ⟨y + 1, 0, none⟩) 3 3) = W ∧
      W.cell? ⟨z, 0, none⟩ = some (.string ⟨OP.toArray⟩) ∧ W.cell? ⟨z, 1, none⟩ = some (.int .i64 0) ∧ W.cell? ⟨z, 2, none⟩ = some (.string ⟨#[]⟩) ∧ W.cell? ⟨z, 3, none⟩ = some (.slice (some ⟨y + 1, 0, none⟩) 3 3) ∧
      ∀ e, e = .returned (.agg (exC OP 0 [] (.slice (some ⟨y + 1, 0, none⟩) 3 3))) → Parses s b d w (.ok (.mk OP 0 [] [x1, x2, x3]) t2) e W := by
  obtain ⟨w7, hW7, hs7, hgr7, hcr, _, hold7⟩ := one_new w6 #[.string ⟨o1.toArray⟩, .int .i64 n1, .string ⟨m1.toArray⟩, k1, .string ⟨o2.toArray⟩, .int .i64 n2, .string ⟨m2.toArray⟩, k2, .string ⟨o3.toArray⟩, .int .i64 n3, .string ⟨m3.toArray⟩, k3] 30
  rw [hW7]
  rw [hs6] at hcr hs7
  have hzb7 := fun {j : Nat} {v : Value} (h : w6.cell? ⟨z, j, none⟩ = some v) => cell_grown h (hgr7 (some b)) hzb
  obtain ⟨W, hW, e0, e1, e2, e3, hgW, _⟩ := set_four (.string ⟨OP.toArray⟩) (.int .i64 0) (.string ⟨#[]⟩) (.slice (some ⟨y + 1, 0, none⟩) 3 3) (hzb7 s0) (hzb7 s1) (hzb7 s2) (hzb7 s3)
  rw [hW]
  have hWs := hgW.size
  have hblk : ∀ g, g ≠ z → g < w6.heap.size → W.heap[g]? = w6.heap[g]? := fun g h1 h2 => (hgW.block g (by omega) (by simpa using h1)).trans (hold7 g h2)
  have hnew : W.heap[y + 1]? = w7.heap[y + 1]? := hgW.block (y + 1) (by omega) (by simp; omega)
  have hgF := grown_new (grownBy_trans' hgE (hgr7 (some b))) hgW (by omega)
  have hrW : RdAt W b s t2 d := hr6.grown (hblk b (by omega) (by omega))
  refine ⟨W, rfl, e0, e1, e2, e3, fun e he => ⟨⟨_, he, ?_⟩, hrW, hgF, hp⟩⟩
  unfold ExR
  refine ⟨some ⟨y + 1, 0, none⟩, 3, rfl, Nat.le_refl _, by unfold maxLen; omega, .inr ⟨y + 1, 0, rfl, ⟨by omega, by omega⟩, ?_⟩⟩
  have hc := fun (j : Nat) v h => (World.cell?_of_block (a := ⟨y + 1, j, none⟩) hnew).trans (hcr j v h)
  have hk := fun {x : E} {v : Value} (h : ExR w6 (fun g => z < g ∧ g < y) x v) => ExR.keep (ok' := fun g => w.heap.size ≤ g ∧ g < W.heap.size) (w' := W) (fun g h => ⟨by omega, by omega⟩) (fun g h => hblk g (by omega) (by omega)) h
  exact kids_three hc (hk h1) (hk h2) (hk h3)

set_option maxHeartbeats 8000000 in
set_option maxRecDepth 100000 in
theorem choice_step (n : Nat) (s : ByteArray) (b : Nat) (hs : s.size ≤ 1000000)
    (hbt : SaysB 117 (betweenP n) s b) (ha : Says 81 (assignP n) s b) (hch : Says 103 (choiceP n) s b) :
    Says 103 (choiceP (n + 1)) s b := by
  intro w t d hr hd hp hne
  obtain ⟨r, hr0⟩ : ∃ r, choiceP (n + 1) (tl s) t d = r := ⟨_, rfl⟩
  rw [hr0] at hne ⊢
  rw [choiceP] at hr0
  obtain ⟨r1, hr1⟩ : ∃ r1, betweenP n (tl s) 1 t d = r1 := ⟨_, rfl⟩
  rw [hr1] at hr0
  have hne1 : r1 ≠ .out := fun h => hne (by rw [← hr0, h]; rfl)
  have hblt : b < w.heap.size := World.block_lt_of_cell? w ⟨b, 0, none⟩ hr.c0
  have hr0 := Lib.hid hr0
  go_enter Tryz.func103, Tryz.ntmps103
  go_wp2_with fail
  obtain ⟨w2, hW2, hs2, hgr, hcz, hfz, hold⟩ := one_new w #[.string ⟨#[]⟩, .int .i64 0, .string ⟨#[]⟩, .slice none 0 0] 30
  rw [hW2]
  have hg2 := hgr (some b)
  have hr2 : RdAt w2 b s t d := hr.grown (hold b hblt)
  obtain ⟨z, hz⟩ : ∃ z, w.heap.size = z := ⟨_, rfl⟩
  rw [hz] at hcz hfz hs2 hblt ⊢
  have hzb : z ≠ b := by omega
  have hz := Lib.hid hz
  have ih : Calls Tryz.prog 117 #[.pointer (some ⟨b, 0, none⟩), .int .i64 1] w2 (Parses s b d w2 (betweenP n (tl s) 1 t d)) := hbt w2 1 t d hr2 hd (by omega) hp (by rw [hr1]; exact hne1)
  rw [hr1] at ih
  clear hW2 hr hgr hold hr2 hr1
  refine ih.mono ?_
  intro e w3 h
  unfold Parses at h
  have hr0 := hr0.out
  cases r1 with
  | out => exact absurd rfl hne1
  | no c k =>
    obtain ⟨rfl, hg3⟩ := h
    simp only [Res.next] at hr0
    subst hr0
    exact ⟨rfl, rfl, grownBy_trans' hg2 hg3⟩
  | ok e1 t1 =>
    obtain ⟨⟨v, rfl, hx⟩, hr3, hg3, hp3⟩ := h
    simp only [Res.next] at hr0
    obtain ⟨op, num, name, kids⟩ := e1
    have hx0 := hx
    unfold ExR at hx
    obtain ⟨A, c, rfl, hcc, hcm, _⟩ := hx
    have hg23 := grownBy_trans' hg2 hg3
    have hs3 := hg3.size
    have s0 := cell_grown (hcz 0 _ rfl) hg3 hzb
    have s1 := cell_grown (hcz 1 _ rfl) hg3 hzb
    have s2 := cell_grown (hcz 2 _ rfl) hg3 hzb
    have s3 := cell_grown (hcz 3 _ rfl) hg3 hzb
    have g0 := fun j => frozen_grown (hfz j) (by omega) hg3 hzb
    obtain ⟨KL, hKL⟩ : ∃ KL, kids.length = KL := ⟨_, rfl⟩
    rw [hKL] at hcc hx0 ⊢
    have hx0 := Lib.hid hx0
    have hb3 : b < w3.heap.size := World.block_lt_of_cell? w3 ⟨b, 0, none⟩ hr3.c0
    have hr0 := Lib.hid hr0
    clear ih hne1 hcz hfz hKL
    unfold exC
    have hc2 := hr3.c2
    obtain ⟨x, hxx⟩ : ∃ x : ByteArray, (⟨t1.text.toArray⟩ : ByteArray) = x := ⟨_, rfl⟩
    rw [hxx] at hc2
    go_upto_region 2 with fail
    obtain ⟨w4, hW4, hs4, hgr4, hcy, hfy, hold4⟩ := one_new w3 #[.string ⟨op.toArray⟩, .int .i64 num, .string ⟨name.toArray⟩, .slice A KL c] 30
    rw [hW4]
    have hr4 : RdAt w4 b s t1 d := hr3.grown (hold4 b hb3)
    have hg34 := hgr4 (some b)
    have s0 := cell_grown s0 hg34 hzb
    have s1 := cell_grown s1 hg34 hzb
    have s2 := cell_grown s2 hg34 hzb
    have s3 := cell_grown s3 hg34 hzb
    have g0 := fun j => frozen_grown (g0 j) (by omega) hg34 hzb
    have hx4 : Hid (ExR w4 (fun g => w2.heap.size ≤ g ∧ g < w3.heap.size) (.mk op num name kids) (.agg (exC op num name (.slice A KL c)))) := hx0.out.keep (fun g h => h) (fun g h => hold4 g h.2)
    obtain ⟨y, hy⟩ : ∃ y, w3.heap.size = y := ⟨_, rfl⟩
    rw [hy] at hcy hs4 hs3 hb3 ⊢
    have hyb : y ≠ b := by omega
    have hyz : y ≠ z := by omega
    have y0 := hcy 0 _ rfl
    have y1 := hcy 1 _ rfl
    have y2 := hcy 2 _ rfl
    have y3 := hcy 3 _ rfl
    have hy := Lib.hid hy
    have hg24 := grownBy_trans' hg23 hg34
    have hc2 := hr4.c2
    rw [hxx] at hc2
    clear hW4 hgr4 hfy hcy hold4 hr3 hx0 hg3 hg34
    by_cases hA : t1.text = [63]
    · have hr0 := hr0.out
      rw [if_neg (by simpa using hA)] at hr0
      have g3 : (x.toList == [63]) = true := by rw [← hxx, Lib.toList_data, hA]; rfl
      clear hA hxx
      have hr0 := Lib.hid hr0
      go_wp2_with fail
      refine (enter_any s b t1 d w4 hr4 hd hp3 hs).mono ?_
      intro e w5 h
      unfold Enters at h
      have hr0 := hr0.out
      unfold enterT at hr0
      by_cases h40 : d = 40
      · rw [if_pos h40] at h hr0
        obtain ⟨rfl, hg5⟩ := h
        subst hr0
        exact ⟨rfl, rfl, grownBy_trans' hg24 hg5⟩
      rw [if_neg h40] at h hr0
      unfold Goes at h
      unfold stepT goT at hr0
      cases hlk : lookP (tl s) (t1.place + t1.text.length) with
      | none =>
        rw [hlk] at h hr0
        obtain ⟨rfl, hg5⟩ := h
        simp only at hr0
        subst hr0
        exact ⟨rfl, rfl, grownBy_trans' hg24 hg5⟩
      | some t2 =>
        rw [hlk] at h hr0
        obtain ⟨⟨v, rfl⟩, hr5, hg5⟩ := h
        simp only at hr0
        have hpl := lookP_place hlk (by rw [tl_len]; omega)
        rw [tl_len] at hpl
        obtain ⟨r2, hr2⟩ : ∃ r2, assignP n (tl s) t2 (d + 1) = r2 := ⟨_, rfl⟩
        rw [hr2] at hr0
        have hne2 : r2 ≠ .out := fun h => hne (by rw [← hr0, h])
        have ih := ha w5 t2 (d + 1) hr5 (by omega) hpl.2 (by rw [hr2]; exact hne2)
        rw [hr2] at ih
        have hg25 := grownBy_trans' hg24 hg5
        have hs5 := hg5.size
        have s0 := cell_grown s0 hg5 hzb
        have s1 := cell_grown s1 hg5 hzb
        have s2 := cell_grown s2 hg5 hzb
        have s3 := cell_grown s3 hg5 hzb
        have g0 := fun j => frozen_grown (g0 j) (by omega) hg5 hzb
        have y0 := cell_grown y0 hg5 hyb
        have y1 := cell_grown y1 hg5 hyb
        have y2 := cell_grown y2 hg5 hyb
        have y3 := cell_grown y3 hg5 hyb
        have hx5 : Hid (ExR w5 (fun g => w2.heap.size ≤ g ∧ g < w3.heap.size) (.mk op num name kids) (.agg (exC op num name (.slice A KL c)))) := hx4.out.keep (fun g h => h) (fun g h => hg5.block g (by have := hy.out; omega) (by have := hz.out; simp; omega))
        have hr0 := Lib.hid hr0
        clear hlk hr2 hr4 hg24 hg5 g3 hc2 hx4
        go_wp2_with fail
        refine ih.mono ?_
        intro e w6 h
        unfold Parses at h
        have hr0 := hr0.out
        cases r2 with
        | out => exact absurd rfl hne2
        | no c k =>
          obtain ⟨rfl, hg6⟩ := h
          simp only at hr0
          subst hr0
          exact ⟨rfl, rfl, grownBy_trans' hg25 hg6⟩
        | ok e2 t3 =>
          obtain ⟨⟨v2, rfl, hx⟩, hr6, hg6, hp6⟩ := h
          simp only at hr0
          obtain ⟨op2, num2, name2, kids2⟩ := e2
          have hx6 := hx
          unfold ExR at hx
          obtain ⟨A2, c2, rfl, hcc2, hcm2, _⟩ := hx
          have hg26 := grownBy_trans' hg25 hg6
          have hs6 := hg6.size
          have s0 := cell_grown s0 hg6 hzb
          have s1 := cell_grown s1 hg6 hzb
          have s2 := cell_grown s2 hg6 hzb
          have s3 := cell_grown s3 hg6 hzb
          have g0 := fun j => frozen_grown (g0 j) (by omega) hg6 hzb
          have y0 := cell_grown y0 hg6 hyb
          have y1 := cell_grown y1 hg6 hyb
          have y2 := cell_grown y2 hg6 hyb
          have y3 := cell_grown y3 hg6 hyb
          have hx16 : Hid (ExR w6 (fun g => w2.heap.size ≤ g ∧ g < w3.heap.size) (.mk op num name kids) (.agg (exC op num name (.slice A KL c)))) := hx5.out.keep (fun g h => h) (fun g h => hg6.block g (by have := hy.out; omega) (by have := hz.out; simp; omega))
          obtain ⟨KL2, hKL2⟩ : ∃ KL2, kids2.length = KL2 := ⟨_, rfl⟩
          rw [hKL2] at hcc2 hx6 ⊢
          have hx6 := Lib.hid hx6
          have hr0 := Lib.hid hr0
          have hb6 : b < w6.heap.size := World.block_lt_of_cell? w6 ⟨b, 0, none⟩ hr6.c0
          unfold exC
          clear ih hne2 hKL2 hx5
          go_wp2_with fail
          obtain ⟨w7, hW7, hs7, hgr7, hcp, hfp, hold7⟩ := one_new w6 #[.string ⟨op2.toArray⟩, .int .i64 num2, .string ⟨name2.toArray⟩, .slice A2 KL2 c2] 30
          rw [hW7]
          have hr7 : RdAt w7 b s t3 (d + 1) := hr6.grown (hold7 b hb6)
          have hg67 := hgr7 (some b)
          have s0 := cell_grown s0 hg67 hzb
          have s1 := cell_grown s1 hg67 hzb
          have s2 := cell_grown s2 hg67 hzb
          have s3 := cell_grown s3 hg67 hzb
          have g0 := fun j => frozen_grown (g0 j) (by omega) hg67 hzb
          have y0 := cell_grown y0 hg67 hyb
          have y1 := cell_grown y1 hg67 hyb
          have y2 := cell_grown y2 hg67 hyb
          have y3 := cell_grown y3 hg67 hyb
          have hx17 : Hid (ExR w7 (fun g => w2.heap.size ≤ g ∧ g < w3.heap.size) (.mk op num name kids) (.agg (exC op num name (.slice A KL c)))) := hx16.out.keep (fun g h => h) (fun g h => hold7 g (by have := hy.out; omega))
          have hx27 : Hid (ExR w7 (fun g => w5.heap.size ≤ g ∧ g < w6.heap.size) (.mk op2 num2 name2 kids2) (.agg (exC op2 num2 name2 (.slice A2 KL2 c2)))) := hx6.out.keep (fun g h => h) (fun g h => hold7 g h.2)
          obtain ⟨p, hpp⟩ : ∃ p, w6.heap.size = p := ⟨_, rfl⟩
          rw [hpp] at hcp hs7 hs6 hb6 ⊢
          have hpb : p ≠ b := by omega
          have hpz : p ≠ z := by omega
          have p0 := hcp 0 _ rfl
          have p1 := hcp 1 _ rfl
          have p2 := hcp 2 _ rfl
          have p3 := hcp 3 _ rfl
          have hpp := Lib.hid hpp
          have hg27 := grownBy_trans' hg26 hg67
          clear hW7 hgr7 hfp hcp hold7 hr6 hx6 hx16 hg6 hg67
          refine (need_any [58] s b t3 (d + 1) w7 hr7 hp6 hs).mono ?_
          intro e w8 h
          unfold Needs at h
          have hr0 := hr0.out
          unfold needT at hr0
          by_cases h41 : t3.text = [58]
          case neg =>
            rw [if_neg h41] at h hr0
            obtain ⟨rfl, hg8⟩ := h
            subst hr0
            exact ⟨rfl, rfl, grownBy_trans' hg27 hg8⟩
          rw [if_pos h41] at h hr0
          unfold Goes at h
          unfold stepT goT at hr0
          cases hlk : lookP (tl s) (t3.place + t3.text.length) with
          | none =>
            rw [hlk] at h hr0
            obtain ⟨rfl, hg8⟩ := h
            simp only at hr0
            subst hr0
            exact ⟨rfl, rfl, grownBy_trans' hg27 hg8⟩
          | some t4 =>
            rw [hlk] at h hr0
            obtain ⟨⟨v3, rfl⟩, hr8, hg8⟩ := h
            simp only at hr0
            have hpl8 := lookP_place hlk (by rw [tl_len]; omega)
            rw [tl_len] at hpl8
            obtain ⟨r3, hr3⟩ : ∃ r3, choiceP n (tl s) t4 (d + 1) = r3 := ⟨_, rfl⟩
            rw [hr3] at hr0
            have hne3 : r3 ≠ .out := fun h => hne (by rw [← hr0, h])
            have ih := hch w8 t4 (d + 1) hr8 (by omega) hpl8.2 (by rw [hr3]; exact hne3)
            rw [hr3] at ih
            have hg28 := grownBy_trans' hg27 hg8
            have hs8 := hg8.size
            have s0 := cell_grown s0 hg8 hzb
            have s1 := cell_grown s1 hg8 hzb
            have s2 := cell_grown s2 hg8 hzb
            have s3 := cell_grown s3 hg8 hzb
            have g0 := fun j => frozen_grown (g0 j) (by omega) hg8 hzb
            have y0 := cell_grown y0 hg8 hyb
            have y1 := cell_grown y1 hg8 hyb
            have y2 := cell_grown y2 hg8 hyb
            have y3 := cell_grown y3 hg8 hyb
            have p0 := cell_grown p0 hg8 hpb
            have p1 := cell_grown p1 hg8 hpb
            have p2 := cell_grown p2 hg8 hpb
            have p3 := cell_grown p3 hg8 hpb
            have hx18 : Hid (ExR w8 (fun g => w2.heap.size ≤ g ∧ g < w3.heap.size) (.mk op num name kids) (.agg (exC op num name (.slice A KL c)))) := hx17.out.keep (fun g h => h) (fun g h => hg8.block g (by have := hy.out; omega) (by have := hz.out; simp; omega))
            have hx28 : Hid (ExR w8 (fun g => w5.heap.size ≤ g ∧ g < w6.heap.size) (.mk op2 num2 name2 kids2) (.agg (exC op2 num2 name2 (.slice A2 KL2 c2)))) := hx27.out.keep (fun g h => h) (fun g h => hg8.block g (by have := hpp.out; omega) (by simp; omega))
            have hr0 := Lib.hid hr0
            clear hlk hr3 hr7 hg27 hg8 hx17 hx27
            go_wp2_with fail
            refine ih.mono ?_
            intro e w9 h
            unfold Parses at h
            have hr0 := hr0.out
            cases r3 with
            | out => exact absurd rfl hne3
            | no c k =>
              obtain ⟨rfl, hg9⟩ := h
              simp only at hr0
              subst hr0
              exact ⟨rfl, rfl, grownBy_trans' hg28 hg9⟩
            | ok e3 t5 =>
              obtain ⟨⟨v4, rfl, hx⟩, hr9, hg9, hp9⟩ := h
              simp only at hr0
              subst hr0
              obtain ⟨op3, num3, name3, kids3⟩ := e3
              have hx9 := hx
              unfold ExR at hx
              obtain ⟨A3, c3, rfl, hcc3, hcm3, _⟩ := hx
              have hg29 := grownBy_trans' hg28 hg9
              have hs9 := hg9.size
              have s0 := cell_grown s0 hg9 hzb
              have s1 := cell_grown s1 hg9 hzb
              have s2 := cell_grown s2 hg9 hzb
              have s3 := cell_grown s3 hg9 hzb
              have g0 := fun j => frozen_grown (g0 j) (by omega) hg9 hzb
              have y0 := cell_grown y0 hg9 hyb
              have y1 := cell_grown y1 hg9 hyb
              have y2 := cell_grown y2 hg9 hyb
              have y3 := cell_grown y3 hg9 hyb
              have p0 := cell_grown p0 hg9 hpb
              have p1 := cell_grown p1 hg9 hpb
              have p2 := cell_grown p2 hg9 hpb
              have p3 := cell_grown p3 hg9 hpb
              have hx19 : Hid (ExR w9 (fun g => w2.heap.size ≤ g ∧ g < w3.heap.size) (.mk op num name kids) (.agg (exC op num name (.slice A KL c)))) := hx18.out.keep (fun g h => h) (fun g h => hg9.block g (by have := hy.out; omega) (by have := hz.out; simp; omega))
              have hx29 : Hid (ExR w9 (fun g => w5.heap.size ≤ g ∧ g < w6.heap.size) (.mk op2 num2 name2 kids2) (.agg (exC op2 num2 name2 (.slice A2 KL2 c2)))) := hx28.out.keep (fun g h => h) (fun g h => hg9.block g (by have := hpp.out; omega) (by simp; omega))
              obtain ⟨KL3, hKL3⟩ : ∃ KL3, kids3.length = KL3 := ⟨_, rfl⟩
              rw [hKL3] at hcc3 hx9 ⊢
              have hx9 := Lib.hid hx9
              have c5 := hr9.c5
              have fb5 := hr9.fz 5
              have hwA := hr9.within d
              have k1 : IntKind.i64.wrap (((d + 1 : Nat) : Int) - 1) = (d : Int) := by rw [show ((d + 1 : Nat) : Int) - 1 = (d : Int) by omega]; exact IntWalk.i64_in _ (by omega)
              have hb9 : b < w9.heap.size := World.block_lt_of_cell? w9 ⟨b, 0, none⟩ hr9.c0
              unfold exC
              have hgwA := grownBy_setC w9 b 5 (.int .i64 (d : Int))
              have hsw : (w9.setCell ⟨b, 5, none⟩ (.int .i64 (d : Int))).heap.size = w9.heap.size := by simp [World.setCell]
              clear ih hne3 hKL3 hx18 hx28
              go_upto_region 9 with fail
              generalize hwAe : w9.setCell ⟨b, 5, none⟩ (.int .i64 (d : Int)) = wA at hgwA hsw hwA ⊢
              have s0 := cell_grown s0 hgwA hzb
              have s1 := cell_grown s1 hgwA hzb
              have s2 := cell_grown s2 hgwA hzb
              have s3 := cell_grown s3 hgwA hzb
              have g0 := fun j => frozen_grown (g0 j) (by omega) hgwA hzb
              have y0 := cell_grown y0 hgwA hyb
              have y1 := cell_grown y1 hgwA hyb
              have y2 := cell_grown y2 hgwA hyb
              have y3 := cell_grown y3 hgwA hyb
              have p0 := cell_grown p0 hgwA hpb
              have p1 := cell_grown p1 hgwA hpb
              have p2 := cell_grown p2 hgwA hpb
              have p3 := cell_grown p3 hgwA hpb
              obtain ⟨wB, hWB, hsB, hgrB, hcq, hfq, holdB⟩ := one_new wA #[.string ⟨op3.toArray⟩, .int .i64 num3, .string ⟨name3.toArray⟩, .slice A3 KL3 c3] 30
              rw [hWB]
              have hrB : RdAt wB b s t5 d := hwA.grown (holdB b (by omega))
              have hgAB := hgrB (some b)
              have s0 := cell_grown s0 hgAB hzb
              have s1 := cell_grown s1 hgAB hzb
              have s2 := cell_grown s2 hgAB hzb
              have s3 := cell_grown s3 hgAB hzb
              have g0 := fun j => frozen_grown (g0 j) (by omega) hgAB hzb
              have y0 := cell_grown y0 hgAB hyb
              have y1 := cell_grown y1 hgAB hyb
              have y2 := cell_grown y2 hgAB hyb
              have y3 := cell_grown y3 hgAB hyb
              have p0 := cell_grown p0 hgAB hpb
              have p1 := cell_grown p1 hgAB hpb
              have p2 := cell_grown p2 hgAB hpb
              have p3 := cell_grown p3 hgAB hpb
              rw [hsw] at hcq hsB
              have hbB : ∀ g, g < w9.heap.size → g ≠ b → wB.heap[g]? = w9.heap[g]? := fun g h1 h2 => (holdB g (by omega)).trans (hgwA.block g h1 (by simpa using h2))
              obtain ⟨q, hq⟩ : ∃ q, w9.heap.size = q := ⟨_, rfl⟩
              rw [hq] at hcq hsB hs9 hb9 hbB ⊢
              have hx1B : ExR wB (fun g => z < g ∧ g < q) (.mk op num name kids) (.agg (exC op num name (.slice A KL c))) := hx19.out.keep (fun g h => by have := hy.out; omega) (fun g h => hbB g (by have := hy.out; omega) (by omega))
              have hx2B : ExR wB (fun g => z < g ∧ g < q) (.mk op2 num2 name2 kids2) (.agg (exC op2 num2 name2 (.slice A2 KL2 c2))) := hx29.out.keep (fun g h => by have := hpp.out; omega) (fun g h => hbB g (by have := hpp.out; omega) (by omega))
              have hx3B : ExR wB (fun g => z < g ∧ g < q) (.mk op3 num3 name3 kids3) (.agg (exC op3 num3 name3 (.slice A3 KL3 c3))) := hx9.out.keep (fun g h => by omega) (fun g h => hbB g (by omega) (by omega))
              have hx1B := Lib.hid hx1B
              have hx2B := Lib.hid hx2B
              have hx3B := Lib.hid hx3B
              have hgE := grownBy_trans' hg29 (grownBy_trans' hgwA hgAB)
              have q0 := hcq 0 _ rfl
              have q1 := hcq 1 _ rfl
              have q2 := hcq 2 _ rfl
              have q3 := hcq 3 _ rfl
              have z0 := g0 0
              have z1 := g0 1
              have z2 := g0 2
              have z3 := g0 3
              have hqz : q ≠ z := by omega
              have hq := Lib.hid hq
              clear hWB hgrB hfq holdB hwA hwAe c5 fb5 k1 hr9 hcq hne hx9 hx19 hx29 hbB g0 hr8 hr5
              have hzlt : z < wB.heap.size := by omega
              have hblk : ∀ o, (wB.alloc o).heap[z]? = wB.heap[z]? := fun o => Below.heap_alloc wB o z hzlt
              have za0 : ∀ o, (wB.alloc o).cell? ⟨z, 0, none⟩ = some (.string ⟨#[]⟩) := fun o => (World.cell?_of_block (a := ⟨z, 0, none⟩) (hblk o)).trans s0
              have za1 : ∀ o, (wB.alloc o).cell? ⟨z, 1, none⟩ = some (.int .i64 0) := fun o => (World.cell?_of_block (a := ⟨z, 1, none⟩) (hblk o)).trans s1
              have za2 : ∀ o, (wB.alloc o).cell? ⟨z, 2, none⟩ = some (.string ⟨#[]⟩) := fun o => (World.cell?_of_block (a := ⟨z, 2, none⟩) (hblk o)).trans s2
              have za3 : ∀ o, (wB.alloc o).cell? ⟨z, 3, none⟩ = some (.slice none 0 0) := fun o => (World.cell?_of_block (a := ⟨z, 3, none⟩) (hblk o)).trans s3
              have zb0 : ∀ o, (wB.alloc o).frozen? ⟨z, 0, none⟩ = false := fun o => (World.frozen?_of_block (a := ⟨z, 0, none⟩) (hblk o)).trans z0
              have zb1 : ∀ o, (wB.alloc o).frozen? ⟨z, 1, none⟩ = false := fun o => (World.frozen?_of_block (a := ⟨z, 1, none⟩) (hblk o)).trans z1
              have zb2 : ∀ o, (wB.alloc o).frozen? ⟨z, 2, none⟩ = false := fun o => (World.frozen?_of_block (a := ⟨z, 2, none⟩) (hblk o)).trans z2
              have zb3 : ∀ o, (wB.alloc o).frozen? ⟨z, 3, none⟩ = false := fun o => (World.frozen?_of_block (a := ⟨z, 3, none⟩) (hblk o)).trans z3
              clear hblk
              go_wp2_with fail
              obtain ⟨W, hW, e0, e1, e2, e3, hfin⟩ := three_end (OP := [63]) hgE hrB hsB hz.out hzb hblt (by omega) hx1B.out hx2B.out hx3B.out hp9 s0 s1 s2 s3
              rw [hW]
              refine bodyPost_ret (v := .agg (exC [63] 0 [] (.slice (some ⟨q + 1, 0, none⟩) 3 3))) (by simp [results, Tryz.results103, go_sem, e0, e1, e2, e3, exC]) rfl ?_
              exact hfin _ rfl
    · have hr0 := hr0.out
      rw [if_pos (by simpa using hA)] at hr0
      subst hr0
      have g3 : (x.toList == [63]) = false := by rw [← hxx, Lib.toList_data, beq_eq_false_iff_ne]; exact hA
      have z0 := g0 0
      have z1 := g0 1
      have z2 := g0 2
      have z3 := g0 3
      clear hne hA hxx
      go_wp2
      obtain ⟨W, hW, e0, e1, e2, e3, hgW, hfW⟩ := set_four (.string ⟨op.toArray⟩) (.int .i64 num) (.string ⟨name.toArray⟩) (.slice A KL c) s0 s1 s2 s3
      rw [hW]
      clear hW
      have hgE := grown_new hg24 hgW (by have := hz.out; omega)
      have hrE : RdAt W b s t1 d := hr4.grown (hgW.block b (by omega) (by simp; omega))
      have hWs := hgW.size
      have hxE : ExR W (fun g => w.heap.size ≤ g ∧ g < W.heap.size) (.mk op num name kids) (.agg (exC op num name (.slice A KL c))) := hx4.out.keep (fun g h => by have := hz.out; have := hy.out; omega)
        (fun g h => hgW.block g (by have := hy.out; omega) (by simp; omega))
      refine bodyPost_ret (v := .agg (exC op num name (.slice A KL c))) (by simp [results, Tryz.results103, go_sem, e0, e1, e2, e3, exC]) rfl ?_
      exact ⟨⟨_, rfl, hxE⟩, hrE, hgE, hp3⟩
end Go.Proofs.YtlijlgbaikijnaaGreatDoor
