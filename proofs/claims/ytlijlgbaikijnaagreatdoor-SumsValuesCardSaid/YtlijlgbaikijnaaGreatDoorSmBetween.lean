/-
  Operands and the marks between them are read as in plain words, by the package, if what stands within them is. Conditions: at most a million bytes.
-/
import Derived.Test.YtlijlgbaikijnaaGreatDoorSmChoice
import Derived.Test.YtlijlgbaikijnaaGreatDoorMkLast2
import Derived.Deep.LoopGhost
namespace Go.Proofs.YtlijlgbaikijnaaGreatDoor
open Go Go.RowKit

theorem kids_two {w : World} {ok : Nat → Prop} {g : Nat} {x1 x2 : E} {o1 o2 m1 m2 : List UInt8} {n1 n2 : Int} {k1 k2 : Value}
    (hc : ∀ (j : Nat) v, (#[.string ⟨o1.toArray⟩, .int .i64 n1, .string ⟨m1.toArray⟩, k1, .string ⟨o2.toArray⟩, .int .i64 n2, .string ⟨m2.toArray⟩, k2] : Array Value)[j]? = some v → w.cell? ⟨g, j, none⟩ = some v)
    (h1 : ExR w ok x1 (.agg (exC o1 n1 m1 k1))) (h2 : ExR w ok x2 (.agg (exC o2 n2 m2 k2))) : KidsR w ok g 0 [x1, x2] := by
  unfold KidsR
  refine ⟨⟨_, rfl, fun j hj => ?_, h1⟩, ?_⟩
  · have hj4 : j < 4 := hj
    rw [Nat.zero_add]
    match j, hj4 with
    | 0, _ => exact hc 0 _ rfl
    | 1, _ => exact hc 1 _ rfl
    | 2, _ => exact hc 2 _ rfl
    | 3, _ => exact hc 3 _ rfl
  unfold KidsR
  refine ⟨⟨_, rfl, fun j hj => ?_, h2⟩, by unfold KidsR; trivial⟩
  have hj4 : j < 4 := hj
  match j, hj4 with
  | 0, _ => exact hc 4 _ rfl
  | 1, _ => exact hc 5 _ rfl
  | 2, _ => exact hc 6 _ rfl
  | 3, _ => exact hc 7 _ rfl

/-- What a mark between two operands leaves in the box. -/
theorem two_end {w : World} {z y : Nat} {OP o1 o2 m1 m2 : List UInt8} {x1 x2 : E} {n1 n2 : Int} {k1 k2 : Value} (hzy : z < y) (hyl : y < w.heap.size)
    (h1 : ExR w (fun g => z < g ∧ g < w.heap.size ∧ g ≠ y) x1 (.agg (exC o1 n1 m1 k1))) (h2 : ExR w (fun g => z < g ∧ g < w.heap.size ∧ g ≠ y) x2 (.agg (exC o2 n2 m2 k2))) {u0 u1 u2 u3 : Value}
    (s0 : w.cell? ⟨y, 0, none⟩ = some u0) (s1 : w.cell? ⟨y, 1, none⟩ = some u1) (s2 : w.cell? ⟨y, 2, none⟩ = some u2) (s3 : w.cell? ⟨y, 3, none⟩ = some u3) (hf : ∀ j, w.frozen? ⟨y, j, none⟩ = false) :
    ∃ W, ((((w.alloc (.cells #[.string ⟨o1.toArray⟩, .int .i64 n1, .string ⟨m1.toArray⟩, k1, .string ⟨o2.toArray⟩, .int .i64 n2, .string ⟨m2.toArray⟩, k2] 30)).setCell ⟨y, 0, none⟩ (.string ⟨OP.toArray⟩)).setCell ⟨y, 1, none⟩ (.int .i64 0)).setCell ⟨y, 2, none⟩ (.string ⟨#[]⟩)).setCell ⟨y, 3, none⟩ (.slice (some ⟨w.heap.size, 0, none⟩) 2 2) = W ∧
      W.cell? ⟨y, 0, none⟩ = some (.string ⟨OP.toArray⟩) ∧ W.cell? ⟨y, 1, none⟩ = some (.int .i64 0) ∧ W.cell? ⟨y, 2, none⟩ = some (.string ⟨#[]⟩) ∧ W.cell? ⟨y, 3, none⟩ = some (.slice (some ⟨w.heap.size, 0, none⟩) 2 2) ∧
      (∀ j, W.frozen? ⟨y, j, none⟩ = false) ∧ w.heap.size < W.heap.size ∧ w.grownBy W (some y) ∧
      ExR W (fun g => z < g ∧ g < W.heap.size ∧ g ≠ y) (.mk OP 0 [] [x1, x2]) (.agg (exC OP 0 [] (.slice (some ⟨w.heap.size, 0, none⟩) 2 2))) := by
  obtain ⟨w7, hW7, hs7, hgr7, hcr, _, hold7⟩ := one_new w #[.string ⟨o1.toArray⟩, .int .i64 n1, .string ⟨m1.toArray⟩, k1, .string ⟨o2.toArray⟩, .int .i64 n2, .string ⟨m2.toArray⟩, k2] 30
  rw [hW7]
  have hy7 := fun {j : Nat} {v : Value} (h : w.cell? ⟨y, j, none⟩ = some v) => (World.cell?_of_block (a := ⟨y, j, none⟩) (hold7 y hyl)).trans h
  obtain ⟨W, hW, e0, e1, e2, e3, hgW, hfW⟩ := set_four (.string ⟨OP.toArray⟩) (.int .i64 0) (.string ⟨#[]⟩) (.slice (some ⟨w.heap.size, 0, none⟩) 2 2) (hy7 s0) (hy7 s1) (hy7 s2) (hy7 s3)
  rw [hW]
  have hWs := hgW.size
  have hblk : ∀ g, g ≠ y → g < w.heap.size → W.heap[g]? = w.heap[g]? := fun g h1 h2 => (hgW.block g (by omega) (by simpa using h1)).trans (hold7 g h2)
  have hnew : W.heap[w.heap.size]? = w7.heap[w.heap.size]? := hgW.block w.heap.size (by omega) (by simp; omega)
  refine ⟨W, rfl, e0, e1, e2, e3, fun j => (hfW _).trans ((World.frozen?_of_block (a := ⟨y, j, none⟩) (hold7 y hyl)).trans (hf j)), by omega, grownBy_trans' (hgr7 (some y)) hgW, ?_⟩
  unfold ExR
  refine ⟨some ⟨w.heap.size, 0, none⟩, 2, rfl, Nat.le_refl _, by unfold maxLen; omega, .inr ⟨w.heap.size, 0, rfl, ⟨by omega, by omega, by omega⟩, ?_⟩⟩
  have hc := fun (j : Nat) v h => (World.cell?_of_block (a := ⟨w.heap.size, j, none⟩) hnew).trans (hcr j v h)
  have hk := fun {x : E} {v : Value} (h : ExR w (fun g => z < g ∧ g < w.heap.size ∧ g ≠ y) x v) => ExR.keep (ok' := fun g => z < g ∧ g < W.heap.size ∧ g ≠ y) (w' := W) (fun g h => ⟨by omega, by omega, by omega⟩) (fun g h => hblk g (by omega) (by omega)) h
  exact kids_two hc (hk h1) (hk h2)

theorem ite_le' {c : Prop} [Decidable c] {a b n : Nat} (h1 : a ≤ n) (h2 : b ≤ n) : (if c then a else b) ≤ n := by
  by_cases h : c
  · rw [if_pos h]; exact h1
  · rw [if_neg h]; exact h2
theorem rowV_le (l : List UInt8) : rowV l ≤ 10 := by
  unfold rowV
  repeat refine ite_le' (by decide) ?_
  exact Nat.zero_le _

/-- Ahead of a round. -/
def LoopR (w : World) (s : ByteArray) (b d z y l n : Nat) (r : Res) (m : Nat) (wr : World) : Prop :=
  ∃ (op : List UInt8) (num : Int) (name : List UInt8) (kids : List E) (A : Option Addr) (KL c : Nat) (t : Th), Hid (loopP m (tl s) l (.mk op num name kids) t d = r) ∧ m ≤ n ∧ RdAt wr b s t d ∧ t.place + t.text.length ≤ s.size ∧ w.grownBy wr (some b) ∧
    (wr.cell? ⟨z, 0, none⟩ = some (.string ⟨#[]⟩) ∧ wr.cell? ⟨z, 1, none⟩ = some (.int .i64 0) ∧ wr.cell? ⟨z, 2, none⟩ = some (.string ⟨#[]⟩) ∧ wr.cell? ⟨z, 3, none⟩ = some (.slice none 0 0)) ∧ (∀ j, wr.frozen? ⟨z, j, none⟩ = false) ∧ (∀ j, wr.frozen? ⟨y, j, none⟩ = false) ∧
    y < wr.heap.size ∧ KL ≤ c ∧ c ≤ maxLen ∧ (wr.cell? ⟨y, 0, none⟩ = some (.string ⟨op.toArray⟩) ∧ wr.cell? ⟨y, 1, none⟩ = some (.int .i64 num) ∧ wr.cell? ⟨y, 2, none⟩ = some (.string ⟨name.toArray⟩) ∧ wr.cell? ⟨y, 3, none⟩ = some (.slice A KL c)) ∧
    Hid (ExR wr (fun g => z < g ∧ g < wr.heap.size ∧ g ≠ y) (.mk op num name kids) (.agg (exC op num name (.slice A KL c))))

set_option maxHeartbeats 8000000 in
set_option maxRecDepth 100000 in
theorem between_step (n : Nat) (s : ByteArray) (b : Nat) (hs : s.size ≤ 1000000)
    (ho : Says 129 (operandP n) s b) (hb : ∀ m, m < n → SaysB 117 (betweenP m) s b) :
    SaysB 117 (betweenP (n + 1)) s b := by
  intro w l t d hr hd hl hp hne
  obtain ⟨r, hr0⟩ : ∃ r, betweenP (n + 1) (tl s) l t d = r := ⟨_, rfl⟩
  rw [hr0] at hne ⊢
  rw [betweenP] at hr0
  obtain ⟨r1, hr1⟩ : ∃ r1, operandP n (tl s) t d = r1 := ⟨_, rfl⟩
  rw [hr1] at hr0
  have hne1 : r1 ≠ .out := fun h => hne (by rw [← hr0, h]; rfl)
  have hblt : b < w.heap.size := World.block_lt_of_cell? w ⟨b, 0, none⟩ hr.c0
  have hr0 := Lib.hid hr0
  go_enter Tryz.func117, Tryz.ntmps117
  go_wp2_with fail
  obtain ⟨w2, hW2, hs2, hgr, hcz, hfz, hold⟩ := one_new w #[.string ⟨#[]⟩, .int .i64 0, .string ⟨#[]⟩, .slice none 0 0] 30
  rw [hW2]
  have hg2 := hgr (some b)
  have hr2 : RdAt w2 b s t d := hr.grown (hold b hblt)
  obtain ⟨z, hz⟩ : ∃ z, w.heap.size = z := ⟨_, rfl⟩
  rw [hz] at hcz hfz hs2 hblt ⊢
  have hzb : z ≠ b := by omega
  have hz := Lib.hid hz
  have ih := ho w2 t d hr2 hd hp (by rw [hr1]; exact hne1)
  rw [hr1] at ih
  clear hW2 hr hgr hold hr2 hr1 hp
  refine ih.mono ?_
  intro e w3 h
  unfold Parses at h
  have hr0 := hr0.out
  cases r1 with
  | out => exact absurd rfl hne1
  | no c k =>
    obtain ⟨rfl, hg3⟩ := h
    simp only [Res.next] at hr0
    subst hr0
    exact ⟨rfl, rfl, grownBy_trans' hg2 hg3⟩
  | ok e1 t1 =>
    obtain ⟨⟨v, rfl, hx⟩, hr3, hg3, hp3⟩ := h
    simp only [Res.next] at hr0
    obtain ⟨op, num, name, kids⟩ := e1
    have hx0 := hx
    unfold ExR at hx
    obtain ⟨A, c, rfl, hcc, hcm, _⟩ := hx
    have hg23 := grownBy_trans' hg2 hg3
    have hs3 := hg3.size
    have s0 := cell_grown (hcz 0 _ rfl) hg3 hzb
    have s1 := cell_grown (hcz 1 _ rfl) hg3 hzb
    have s2 := cell_grown (hcz 2 _ rfl) hg3 hzb
    have s3 := cell_grown (hcz 3 _ rfl) hg3 hzb
    have g0 := fun j => frozen_grown (hfz j) (by omega) hg3 hzb
    obtain ⟨KL, hKL⟩ : ∃ KL, kids.length = KL := ⟨_, rfl⟩
    rw [hKL] at hcc hx0 ⊢
    have hx0 := Lib.hid hx0
    have hb3 : b < w3.heap.size := World.block_lt_of_cell? w3 ⟨b, 0, none⟩ hr3.c0
    have hr0 := Lib.hid hr0
    clear ih hne1 hcz hfz hKL
    unfold exC
    go_wp2_with fail
    obtain ⟨w4, hW4, hs4, hgr4, hcy, hfy, hold4⟩ := one_new w3 #[.string ⟨op.toArray⟩, .int .i64 num, .string ⟨name.toArray⟩, .slice A KL c] 30
    rw [hW4]
    have hr4 : RdAt w4 b s t1 d := hr3.grown (hold4 b hb3)
    have hg34 := hgr4 (some b)
    have s0 := cell_grown s0 hg34 hzb
    have s1 := cell_grown s1 hg34 hzb
    have s2 := cell_grown s2 hg34 hzb
    have s3 := cell_grown s3 hg34 hzb
    have g0 := fun j => frozen_grown (g0 j) (by omega) hg34 hzb
    obtain ⟨y, hy⟩ : ∃ y, w3.heap.size = y := ⟨_, rfl⟩
    rw [hy] at hcy hs4 hs3 hb3 hfy ⊢
    have hyb : y ≠ b := by omega
    have hyz : z < y := by omega
    have hx4 : Hid (ExR w4 (fun g => z < g ∧ g < w4.heap.size ∧ g ≠ y) (.mk op num name kids) (.agg (exC op num name (.slice A KL c)))) := hx0.out.keep (fun g h => by omega) (fun g h => hold4 g h.2)
    have hI : LoopR w s b d z y l n r n w4 := ⟨op, num, name, kids, A, KL, c, t1, hr0, Nat.le_refl _, hr4, hp3, grownBy_trans' hg23 hg34, ⟨s0, s1, s2, s3⟩, g0, hfy, by omega, hcc, hcm, ⟨hcy 0 _ rfl, hcy 1 _ rfl, hcy 2 _ rfl, hcy 3 _ rfl⟩, hx4⟩
    clear hW4 hgr4 hfy hcy hold4 hr3 hx0 hg3 hg34 s0 s1 s2 s3 g0 hr4 hx4 hr0 hs4 hs3 hs2 hg2 hg23 hcc hcm hp3 hy
    go_loopg [6] n (fun m _v wr => LoopR w s b d z y l n r m wr)
    case atStart => exact hI
    case round =>
      clear hI
      unfold LoopR at hrel
      obtain ⟨op, num, name, kids, A, KL, c, t, hL, hm, hr, hp, hg, ⟨s0, s1, s2, s3⟩, g0, gy, hyl, hcc, hcm, ⟨y0, y1, y2, y3⟩, hx⟩ := hrel
      obtain _ | m := gk
      · exact absurd (by rw [← hL.out, loopP]) hne
      have hL0 := hL.out
      rw [loopP] at hL0
      clear hL
      have hc2 := hr.c2
      have hrow := fun W => row_any ⟨t.text.toArray⟩ W
      rw [tl_mk] at hrow
      have hR := rowV_le t.text
      obtain ⟨R, hRR⟩ : ∃ R, rowV t.text = R := ⟨_, rfl⟩
      rw [hRR] at hrow hR hL0
      obtain ⟨x, hxx⟩ : ∃ x : ByteArray, (⟨t.text.toArray⟩ : ByteArray) = x := ⟨_, rfl⟩
      rw [hxx] at hc2 hrow
      have hxx := Lib.hid hxx
      clear hRR
      by_cases hlt : R < l
      · rw [if_pos hlt] at hL0
        subst hL0
        have hltI : (R : Int) < (l : Int) := by omega
        have z0 := g0 0
        have z1 := g0 1
        have z2 := g0 2
        have z3 := g0 3
        clear hne hlt
        go_wp2_with fail
        refine (hrow _).mono ?_
        rintro e wr ⟨rfl, rfl⟩
        go_wp2
        obtain ⟨W, hW, e0, e1, e2, e3, hgW, hfW⟩ := set_four (.string ⟨op.toArray⟩) (.int .i64 num) (.string ⟨name.toArray⟩) (.slice A KL c) s0 s1 s2 s3
        rw [hW]
        clear hW
        have hgE := grown_new hg hgW (by have := hz.out; omega)
        have hrE : RdAt W b s t d := hr.grown (hgW.block b (by omega) (by simp; omega))
        have hWs := hgW.size
        have hxE : ExR W (fun g => w.heap.size ≤ g ∧ g < W.heap.size) (.mk op num name kids) (.agg (exC op num name (.slice A KL c))) := hx.out.keep (fun g h => by have := hz.out; omega)
          (fun g h => hgW.block g (by omega) (by simp; omega))
        try rw [Exit.noGoto_ret]
        refine bodyPost_ret (v := .agg (exC op num name (.slice A KL c))) (by simp [results, Tryz.results117, go_sem, e0, e1, e2, e3, exC]) rfl ?_
        exact ⟨⟨_, rfl, hxE⟩, hrE, hgE, hp⟩
      · rw [if_neg hlt] at hL0
        have hltI : ¬ (R : Int) < (l : Int) := by omega
        have hL0 := Lib.hid hL0
        go_wp2_with fail
        refine (hrow _).mono ?_
        rintro e wr ⟨rfl, rfl⟩
        go_wp2_with fail
        refine (step_any s b t d wr hr hp hs).mono ?_
        intro e w5 h
        unfold Goes at h
        have hL0 := hL0.out
        unfold stepT goT at hL0
        cases hlk : lookP (tl s) (t.place + t.text.length) with
        | none =>
          rw [hlk] at h hL0
          obtain ⟨rfl, hg5⟩ := h
          simp only at hL0
          subst hL0
          exact ⟨rfl, rfl, grownBy_trans' hg hg5⟩
        | some t2 =>
          rw [hlk] at h hL0
          obtain ⟨⟨v, rfl⟩, hr5, hg5⟩ := h
          simp only at hL0
          have hpl := lookP_place hlk (by rw [tl_len]; omega)
          rw [tl_len] at hpl
          obtain ⟨r2, hr2⟩ : ∃ r2, betweenP m (tl s) (R + 1) t2 d = r2 := ⟨_, rfl⟩
          rw [hr2] at hL0
          have hne2 : r2 ≠ .out := fun h => hne (by rw [← hL0, h]; rfl)
          have hr5d : RdAt w5.drew b s t2 d := ⟨hr5.c0, hr5.c1, hr5.c2, hr5.c3, hr5.c4, hr5.c5, hr5.fz⟩
          have ih := hb m (by omega) w5.drew (R + 1) t2 d hr5d hd (by omega) hpl.2 (by rw [hr2]; exact hne2)
          rw [hr2] at ih
          have hg05 := grownBy_trans' hg hg5
          have hg5d : w.grownBy w5.drew (some b) := ⟨hg05.os, hg05.tape, hg05.output, hg05.size, hg05.block⟩
          have hs5 := hg5.size
          have s0 := cell_grown s0 hg5 hzb
          have s1 := cell_grown s1 hg5 hzb
          have s2 := cell_grown s2 hg5 hzb
          have s3 := cell_grown s3 hg5 hzb
          have y0 := cell_grown y0 hg5 hyb
          have y1 := cell_grown y1 hg5 hyb
          have y2 := cell_grown y2 hg5 hyb
          have y3 := cell_grown y3 hg5 hyb
          have g0 := fun j => frozen_grown (g0 j) (by omega) hg5 hzb
          have gy := fun j => frozen_grown (gy j) (by omega) hg5 hyb
          have hx5 : Hid (ExR w5 (fun g => z < g ∧ g < w5.heap.size ∧ g ≠ y) (.mk op num name kids) (.agg (exC op num name (.slice A KL c)))) := hx.out.keep (fun g h => ⟨by omega, by omega, by omega⟩) (fun g h => hg5.block g (by omega) (by simp; omega))
          have k1 : IntKind.i64.wrap ((R : Int) + 1) = ((R + 1 : Nat) : Int) := by rw [Int.natCast_add]; exact IntWalk.i64_in _ (by omega)
          have hL0 := Lib.hid hL0
          clear hlk hr2 hr hg hg5 hx hc2 hrow hltI hlt hr5 hr5d
          go_wp2_with fail
          refine wp_region_last (L := 8) (S := (fun w' : World => w'.cell? ⟨y, 0, none⟩ = some (.string ⟨op.toArray⟩) ∧ w'.cell? ⟨y, 1, none⟩ = some (.int .i64 num) ∧ w'.cell? ⟨y, 2, none⟩ = some (.string ⟨name.toArray⟩) ∧ w'.cell? ⟨y, 3, none⟩ = some (.slice A KL c))) (by kernel_rfl) ?_
          have hS0 : (fun w' : World => w'.cell? ⟨y, 0, none⟩ = some (.string ⟨op.toArray⟩) ∧ w'.cell? ⟨y, 1, none⟩ = some (.int .i64 num) ∧ w'.cell? ⟨y, 2, none⟩ = some (.string ⟨name.toArray⟩) ∧ w'.cell? ⟨y, 3, none⟩ = some (.slice A KL c)) w5.drew := ⟨y0, y1, y2, y3⟩
          refine wpAnyT_takeT (n := 40) (i := 0) (v := .string x) rfl (by kernel_rfl) (by kernel_rfl) (by kernel_rfl) (by kernel_rfl) (by kernel_rfl) (fun _ _ _ h => h) (Or.inl ⟨by rfl, ?_⟩) hS0 ?_
          · intro W hW
            obtain ⟨k0, k1, k2, k3⟩ := hW
            clear hS0 ih y0 y1 y2 y3
            go_simp
            try (intro hx; exfalso; omega)
          try simp only [Act.put, List.setIfInBounds_toArray]
          refine wpAnyT_takeT (n := 40) (i := 1) (v := .agg #[.string ⟨op.toArray⟩, .int .i64 num, .string ⟨name.toArray⟩, .slice A KL c]) rfl (by kernel_rfl) (by kernel_rfl) (by kernel_rfl) (by kernel_rfl) (by kernel_rfl) (fun _ _ _ h => h) (Or.inl ⟨by rfl, ?_⟩) hS0 ?_
          · intro W hW
            obtain ⟨k0, k1, k2, k3⟩ := hW
            clear hS0 ih y0 y1 y2 y3
            go_simp
            try (intro hx; exfalso; omega)
          try simp only [Act.put]
          refine wpAnyT_takeT (n := 40) (i := 2) (v := .pointer (some ⟨b, 0, none⟩)) rfl (by kernel_rfl) (by kernel_rfl) (by kernel_rfl) (by kernel_rfl) (by kernel_rfl) (fun _ _ _ h => h) (Or.inl ⟨by rfl, ?_⟩) hS0 ?_
          · intro W hW
            obtain ⟨k0, k1, k2, k3⟩ := hW
            clear hS0 ih y0 y1 y2 y3
            go_simp
            try (intro hx; exfalso; omega)
          try simp only [Act.put]
          refine wpAnyT_takeT (n := 40) (i := 3) (v := .int .i64 (R : Int)) rfl (by kernel_rfl) (by kernel_rfl) (by kernel_rfl) (by kernel_rfl) (by kernel_rfl) (fun _ _ _ h => h) (Or.inl ⟨by rfl, ?_⟩) hS0 ?_
          · intro W hW
            obtain ⟨k0, k1, k2, k3⟩ := hW
            clear hS0 ih y0 y1 y2 y3
            go_simp
            try (intro hx; exfalso; omega)
          try simp only [Act.put]
          refine wpAnyT_takeT (n := 40) (i := 4) (v := .int .i64 ((R + 1 : Nat) : Int)) rfl (by kernel_rfl) (by kernel_rfl) (by kernel_rfl) (by kernel_rfl) (by kernel_rfl) (fun _ _ _ h => h) (Or.inl ⟨by rfl, ?_⟩) hS0 ?_
          · intro W hW
            obtain ⟨k0, k1, k2, k3⟩ := hW
            clear hS0 ih y0 y1 y2 y3
            go_simp
            try (intro hx; exfalso; omega)
          try simp only [Act.put]
          clear hS0
          refine wpAnyT_one (i := 5) rfl (by kernel_rfl) rfl ?_
          go_simp
          refine ih.mono ?_
          intro e w6 h
          unfold Parses at h
          have hL0 := hL0.out
          cases r2 with
          | out => exact absurd rfl hne2
          | no c k =>
            obtain ⟨rfl, hg6⟩ := h
            simp only [Res.next] at hL0
            subst hL0
            exact ⟨rfl, rfl, grownBy_trans' hg5d hg6⟩
          | ok e2 t3 =>
            obtain ⟨⟨v2, rfl, hx2⟩, hr6, hg6, hp6⟩ := h
            simp only [Res.next] at hL0
            obtain ⟨op2, num2, name2, kids2⟩ := e2
            have hx20 := hx2
            unfold ExR at hx2
            obtain ⟨A2, c2, rfl, hcc2, hcm2, _⟩ := hx2
            have hg06 := grownBy_trans' hg5d hg6
            have hs6 : w5.heap.size ≤ w6.heap.size := hg6.size
            have hg56 : w5.grownBy w6 (some b) := ⟨hg6.os, hg6.tape, hg6.output, hg6.size, hg6.block⟩
            have s0 := cell_grown s0 hg56 hzb
            have s1 := cell_grown s1 hg56 hzb
            have s2 := cell_grown s2 hg56 hzb
            have s3 := cell_grown s3 hg56 hzb
            have y0 := cell_grown y0 hg56 hyb
            have y1 := cell_grown y1 hg56 hyb
            have y2 := cell_grown y2 hg56 hyb
            have y3 := cell_grown y3 hg56 hyb
            have g0 := fun j => frozen_grown (g0 j) (by omega) hg56 hzb
            have gy := fun j => frozen_grown (gy j) (by omega) hg56 hyb
            have hx6 : ExR w6 (fun g => z < g ∧ g < w6.heap.size ∧ g ≠ y) (.mk op num name kids) (.agg (exC op num name (.slice A KL c))) := hx5.out.keep (fun g h => ⟨by omega, by omega, by omega⟩) (fun g h => hg56.block g (by omega) (by simp; omega))
            have hx26 : ExR w6 (fun g => z < g ∧ g < w6.heap.size ∧ g ≠ y) (.mk op2 num2 name2 kids2) (.agg (exC op2 num2 name2 (.slice A2 kids2.length c2))) := hx20.keep (fun g h => by have h1 : w5.heap.size ≤ g := h.1; exact ⟨by omega, by omega, by omega⟩) (fun _ _ => rfl)
            obtain ⟨W, hW, e0, e1, e2, e3, hfW, hsW, hgW, hxW⟩ := two_end (OP := t.text) hyz (show y < w6.heap.size by omega) hx6 hx26 y0 y1 y2 y3 gy
            rw [hxx.out] at hW e0
            obtain ⟨KL2, hKL2⟩ : ∃ KL2, kids2.length = KL2 := ⟨_, rfl⟩
            rw [hKL2] at hcc2 hW ⊢
            have f0 := gy 0
            have f1 := gy 1
            have f2 := gy 2
            have f3 := gy 3
            have hgF := grown_new hg06 hgW (by have := hz.out; omega)
            have hrW : RdAt W b s t3 d := hr6.grown (hgW.block b (by omega) (by simp; omega))
            have hblz : W.heap[z]? = w6.heap[z]? := hgW.block z (by omega) (by simp; omega)
            have hIW : Hid (LoopR w s b d z y l n r m W) := ⟨t.text, 0, [], [.mk op num name kids, .mk op2 num2 name2 kids2], some ⟨w6.heap.size, 0, none⟩, 2, 2, t3, hL0, by omega, hrW, hp6, hgF,
              ⟨(World.cell?_of_block (a := ⟨z, 0, none⟩) hblz).trans s0, (World.cell?_of_block (a := ⟨z, 1, none⟩) hblz).trans s1, (World.cell?_of_block (a := ⟨z, 2, none⟩) hblz).trans s2, (World.cell?_of_block (a := ⟨z, 3, none⟩) hblz).trans s3⟩,
              fun j => (World.frozen?_of_block (a := ⟨z, j, none⟩) hblz).trans (g0 j), hfW, by omega, Nat.le_refl _, by unfold maxLen; omega, ⟨by rw [hxx.out]; exact e0, e1, e2, e3⟩, hxW⟩
            unfold exC
            refine ⟨⟨y0, y1, y2, y3⟩, ?_⟩
            have hyl6 : y < w6.heap.size := by omega
            have hsz : ∀ (X : World) (a : Addr) (v : Value), (X.setCell a v).heap.size = X.heap.size := fun X a v => by simp [World.setCell]
            have hmv := fun (X : World) (o : Obj) (i : Nat) (v : Value) (h : y < X.heap.size) => World.setCell_alloc_past (w := X) o y i v h
            rw [hmv w6 _ _ _ hyl6, hmv (w6.setCell ⟨y, 0, none⟩ (.string x)) _ _ _ (by rw [hsz]; exact hyl6), hmv ((w6.setCell ⟨y, 0, none⟩ (.string x)).setCell ⟨y, 1, none⟩ (.int .i64 0)) _ _ _ (by rw [hsz, hsz]; exact hyl6),
              hmv (((w6.setCell ⟨y, 0, none⟩ (.string x)).setCell ⟨y, 1, none⟩ (.int .i64 0)).setCell ⟨y, 2, none⟩ (.string ⟨#[]⟩)) _ _ _ (by rw [hsz, hsz, hsz]; exact hyl6)] at hW
            clear hsz hmv

            clear hx20 hKL2 hx5 hx6 hx26 hxW hgW hgF hrW hblz hL0 ih hr6 hg6 hg56 hg06 g0 gy e0 e1 e2 e3 hfW hxx s0 s1 s2 s3
            have hblk : ∀ o, (w6.alloc o).heap[y]? = w6.heap[y]? := fun o => Below.heap_alloc w6 o y hyl6
            have ya0 : ∀ o, (w6.alloc o).cell? ⟨y, 0, none⟩ = some (.string ⟨op.toArray⟩) := fun o => (World.cell?_of_block (a := ⟨y, 0, none⟩) (hblk o)).trans y0
            have ya1 : ∀ o, (w6.alloc o).cell? ⟨y, 1, none⟩ = some (.int .i64 num) := fun o => (World.cell?_of_block (a := ⟨y, 1, none⟩) (hblk o)).trans y1
            have ya2 : ∀ o, (w6.alloc o).cell? ⟨y, 2, none⟩ = some (.string ⟨name.toArray⟩) := fun o => (World.cell?_of_block (a := ⟨y, 2, none⟩) (hblk o)).trans y2
            have ya3 : ∀ o, (w6.alloc o).cell? ⟨y, 3, none⟩ = some (.slice A KL c) := fun o => (World.cell?_of_block (a := ⟨y, 3, none⟩) (hblk o)).trans y3
            have yb0 : ∀ o, (w6.alloc o).frozen? ⟨y, 0, none⟩ = false := fun o => (World.frozen?_of_block (a := ⟨y, 0, none⟩) (hblk o)).trans f0
            have yb1 : ∀ o, (w6.alloc o).frozen? ⟨y, 1, none⟩ = false := fun o => (World.frozen?_of_block (a := ⟨y, 1, none⟩) (hblk o)).trans f1
            have yb2 : ∀ o, (w6.alloc o).frozen? ⟨y, 2, none⟩ = false := fun o => (World.frozen?_of_block (a := ⟨y, 2, none⟩) (hblk o)).trans f2
            have yb3 : ∀ o, (w6.alloc o).frozen? ⟨y, 3, none⟩ = false := fun o => (World.frozen?_of_block (a := ⟨y, 3, none⟩) (hblk o)).trans f3
            clear hblk
            refine wpAnyT_one (i := 6) rfl (by kernel_rfl) rfl ?_
            go_simp
            refine wpAnyT_one (i := 7) rfl (by kernel_rfl) rfl ?_
            go_simp
            refine wpAnyT_one (i := 8) rfl (by kernel_rfl) rfl ?_
            go_simp
            refine wpAnyT_done (by kernel_rfl) ?_ _
            clear ya0 ya1 ya2 ya3 yb0 yb1 yb2 yb3 y0 y1 y2 y3 f0 f1 f2 f3
            go_wp2
            go_roundg m
            case rel => exact hIW.out
            case measure => omega
end Go.Proofs.YtlijlgbaikijnaaGreatDoor
