/-
  What the statements ask of an expression itself: how many Ops it has, and whether it is not too much. Conditions: none.
-/
import Derived.Test.YtlijlgbaikijnaaGreatDoorSmCheck
namespace Go.Proofs.YtlijlgbaikijnaaGreatDoor
open Go Go.RowKit

/-- A Kid as it lies, in a later world. -/
theorem kid_at {w wr : World} {ok : Nat → Prop} {A : Option Addr} {kids : List E} (hk : kids = [] ∨ ∃ g off : Nat, A = some ⟨g, off, none⟩ ∧ ok g ∧ KidsR w ok g off kids)
    (hg : ∀ g, ok g → wr.heap[g]? = w.heap[g]?) (m : Nat) (h : m < kids.length) : ∃ (g off : Nat) (v0 v1 v2 v3 : Value), A = some ⟨g, off, none⟩ ∧
      wr.cell? ⟨g, off + m * 4, none⟩ = some v0 ∧ wr.cell? ⟨g, off + m * 4 + 1, none⟩ = some v1 ∧ wr.cell? ⟨g, off + m * 4 + 2, none⟩ = some v2 ∧ wr.cell? ⟨g, off + m * 4 + 3, none⟩ = some v3 ∧ ExR wr ok kids[m] (.agg #[v0, v1, v2, v3]) := by
  obtain ⟨g, off, rfl, hgo, hkr⟩ := hk.resolve_left (fun e => by rw [e] at h; simp at h)
  obtain ⟨v0, v1, v2, v3, c0, c1, c2, c3, hx⟩ := hkr.at_ m h
  have hblk := hg g hgo
  exact ⟨g, off, v0, v1, v2, v3, rfl, (World.cell?_of_block (a := ⟨g, off + m * 4, none⟩) hblk).trans c0, (World.cell?_of_block (a := ⟨g, off + m * 4 + 1, none⟩) hblk).trans c1, (World.cell?_of_block (a := ⟨g, off + m * 4 + 2, none⟩) hblk).trans c2,
    (World.cell?_of_block (a := ⟨g, off + m * 4 + 3, none⟩) hblk).trans c3, hx.keep (fun g h => h) hg⟩
/-- A function of an expression alone that answers this, whatever the world. -/
def Answers (f : Nat) (x : E) (r : Value) : Prop := ∀ (v : Value) (ok : Nat → Prop) (w : World), ExR w ok x v → (∀ g, ok g → g < w.heap.size) → Calls Tryz.prog f #[v] w fun e w' => e = .returned r ∧ w.grownBy w' none

theorem kidsR_of {w : World} {ok : Nat → Prop} {g : Nat} : ∀ (l : List E) (off : Nat), (∀ i (hi : i < l.length), ∃ cs : Array Value, cs.size = 4 ∧ (∀ j (hj : j < cs.size), w.cell? ⟨g, off + i * 4 + j, none⟩ = some cs[j]) ∧ ExR w ok l[i] (.agg cs)) → KidsR w ok g off l
  | [], _, _ => trivial
  | x :: l, off, h => by
    unfold KidsR
    refine ⟨?_, kidsR_of l (off + 4) fun i hi => ?_⟩
    · obtain ⟨cs, h1, h2, h3⟩ := h 0 (by simp)
      exact ⟨cs, h1, fun j hj => by have := h2 j hj; rwa [show off + 0 * 4 + j = off + j by omega] at this, h3⟩
    · obtain ⟨cs, h1, h2, h3⟩ := h (i + 1) (by simpa using hi)
      refine ⟨cs, h1, fun j hj => ?_, h3⟩
      have := h2 j hj
      rwa [show off + (i + 1) * 4 + j = off + 4 + i * 4 + j by omega] at this
theorem sizeL_take : ∀ (l : List E) (m : Nat) (h : m < l.length), sizeL (l.take (m + 1)) = sizeL (l.take m) + sizeE l[m]
  | [], m, h => by simp at h
  | x :: l, 0, _ => by simp [sizeL]
  | x :: l, m + 1, h => by
    have := sizeL_take l m (by simpa using h)
    simp only [List.take_succ_cons, sizeL, List.getElem_cons_succ]
    omega

theorem wrap64_bw (z : Int) : wrap64 z = (BitVec.ofInt 64 z).toInt := by
  rw [BitVec.toInt_ofInt, Int.bmod_def]
  unfold wrap64
  have e : ((2 ^ 64 : Nat) : Int) = 18446744073709551616 := by decide
  rw [e]
  split <;> omega
theorem wrap64_sum (a b : Int) : wrap64 (wrap64 a + wrap64 b) = wrap64 (a + b) := by
  simp only [wrap64_bw, BitVec.ofInt_add, BitVec.ofInt_toInt]

set_option maxHeartbeats 2000000 in
set_option maxRecDepth 100000 in
theorem size_step (op name : List UInt8) (num : Int) (kids : List E) (ih : ∀ x ∈ kids, Answers 32 x (.int .i64 (wrap64 (sizeE x : Int)))) : Answers 32 (.mk op num name kids) (.int .i64 (wrap64 (sizeE (.mk op num name kids) : Int))) := by
  intro v ok w hx hok
  obtain ⟨A, cc, rfl, hcc, hcm, hkr⟩ := hx.form
  unfold maxLen at hcm
  obtain ⟨S, hS⟩ : ∃ S, wrap64 ((sizeE (.mk op num name kids) : Nat) : Int) = S := ⟨_, rfl⟩
  rw [hS]
  rw [sizeE] at hS
  obtain ⟨KL, hKL⟩ : ∃ KL, kids.length = KL := ⟨_, rfl⟩
  rw [hKL] at hcc ⊢
  have hS := Lib.hid hS
  have hKL := Lib.hid hKL
  have hkr := Lib.hid hkr
  have hok := Lib.hid hok
  have ih := Lib.hid ih
  clear hx
  go_enter Tryz.func32, Tryz.ntmps32
  go_upto_region 1 with fail
  obtain ⟨w2, hW2, hs2, hgr, hcz, hfz, hold⟩ := one_new w #[.string ⟨op.toArray⟩, .int .i64 num, .string ⟨name.toArray⟩, .slice A KL cc] 30
  rw [hW2]
  obtain ⟨z, hz⟩ : ∃ z, w.heap.size = z := ⟨_, rfl⟩
  rw [hz] at hcz hs2 ⊢
  have q3 := hcz 3 _ rfl
  have hg2 := Lib.hid (hgr none)
  have hz := Lib.hid hz
  clear hW2 hgr hcz hfz hold
  go_wp2
  go_loopw [3, 4] (fun sv nv wr => ∃ m : Nat, m ≤ KL ∧ nv = .int .i64 (m : Int) ∧ sv = .int .i64 (wrap64 ((1 + sizeL (kids.take m) : Nat) : Int)) ∧ Hid (w2.grownBy wr none)) (fun _ nv _ => KL - (intOf nv).toNat)
  case atStart => exact ⟨0, Nat.zero_le _, rfl, by simp [sizeL, wrap64], grownBy_refl' _ _⟩
  case round =>
    obtain ⟨m, hm, rfl, rfl, hg⟩ := hrel
    have q3r := hg.out.cell q3 (by simp)
    by_cases hlt : m < KL
    · have hlt' : m < kids.length := by rw [hKL.out]; exact hlt
      have hgw := grownBy_trans' hg2.out hg.out
      obtain ⟨g, off, v0, v1, v2, v3, rfl, c0, c1, c2, c3, hxk⟩ := kid_at hkr.out (fun g h => hgw.block g (hok.out g h) (by simp)) m hlt'
      have hcl := ih.out kids[m] (List.getElem_mem hlt') _ ok wr hxk (fun g h => Nat.lt_of_lt_of_le (hok.out g h) hgw.size)
      have hnx : wrap64 (wrap64 ((1 + sizeL (kids.take m) : Nat) : Int) + wrap64 (sizeE kids[m] : Int)) = wrap64 ((1 + sizeL (kids.take (m + 1)) : Nat) : Int) := by
        rw [sizeL_take kids m hlt', wrap64_sum]
        congr 1
        omega
      clear hxk hgw q3
      generalize wrap64 (sizeE kids[m] : Int) = sk at hcl hnx
      generalize wrap64 ((1 + sizeL (kids.take m) : Nat) : Int) = sm at hnx ⊢
      have hnx := Lib.hid hnx
      go_wp2_with fail
      refine hcl.mono ?_
      rintro e w5 ⟨rfl, hg5⟩
      have hgE := Lib.hid (grownBy_trans' hg.out hg5)
      clear hcl c0 c1 c2 c3 hg5 hg q3r
      go_wp2
      go_roundw
      case rel => exact ⟨m + 1, by omega, by go_num, by rw [hnx.out], hgE⟩
      case measure => simp [intOf]; omega
    · obtain rfl : m = KL := by omega
      have hfin : wrap64 ((1 + sizeL (kids.take m) : Nat) : Int) = S := by rw [List.take_of_length_le (by have := hKL.out; omega)]; exact hS.out
      rw [hfin]
      clear hfin
      go_wp2
      go_ret
      exact ⟨rfl, grownBy_trans' hg2.out hg.out⟩
theorem size_all : ∀ (n : Nat) (x : E), sizeE x ≤ n → Answers 32 x (.int .i64 (wrap64 (sizeE x : Int)))
  | 0, .mk _ _ _ _, h => by unfold sizeE at h; omega
  | n + 1, .mk op num name kids, h => by
    unfold sizeE at h
    exact size_step op name num kids fun x hx => size_all n x (by have := sizeL.mem x hx; omega)
theorem size_any (x : E) : Answers 32 x (.int .i64 (wrap64 (sizeE x : Int))) := size_all _ x (Nat.le_refl _)

mutual
/-- Whether an expression is not too much, as it is counted. -/
def fewE : E → Bool
  | .mk _ _ name kids => !decide (600 < wrap64 ((1 + sizeL kids : Nat) : Int)) && !decide (100 < name.length) && fewL kids
def fewL : List E → Bool
  | [] => true
  | e :: es => fewE e && fewL es
end
theorem fewL_iff : ∀ {l : List E}, fewL l = true ↔ ∀ x ∈ l, fewE x = true
  | [] => by simp [fewL]
  | e :: es => by rw [fewL, Bool.and_eq_true, fewL_iff]; simp

set_option maxHeartbeats 2000000 in
set_option maxRecDepth 100000 in
theorem few_step (op name : List UInt8) (num : Int) (kids : List E) (ih : ∀ x ∈ kids, Answers 12 x (.bool (fewE x))) : Answers 12 (.mk op num name kids) (.bool (fewE (.mk op num name kids))) := by
  intro v ok w hx hok
  have hsz := size_any (.mk op num name kids)
  unfold Answers at hsz
  have hx0 := Lib.hid hx
  obtain ⟨A, cc, rfl, hcc, hcm, hkr⟩ := hx.form
  unfold maxLen at hcm
  obtain ⟨r, hr⟩ : ∃ r, fewE (.mk op num name kids) = r := ⟨_, rfl⟩
  rw [hr]
  rw [fewE] at hr
  rw [sizeE] at hsz
  obtain ⟨S, hS⟩ : ∃ S, wrap64 ((1 + sizeL kids : Nat) : Int) = S := ⟨_, rfl⟩
  rw [hS] at hr hsz
  obtain ⟨KL, hKL⟩ : ∃ KL, kids.length = KL := ⟨_, rfl⟩
  rw [hKL] at hcc hx0 ⊢
  obtain ⟨nx, hnx⟩ : ∃ nx : ByteArray, (⟨name.toArray⟩ : ByteArray) = nx := ⟨_, rfl⟩
  have hnl : nx.size = name.length := by rw [← hnx]; simp [ByteArray.size]
  rw [hnx] at hx0 ⊢
  have hKL := Lib.hid hKL
  have hkr := Lib.hid hkr
  have hok := Lib.hid hok
  have ih := Lib.hid ih
  rw [← hnl] at hr
  have hr := Lib.hid hr
  clear hx hS hnl hnx
  go_enter Tryz.func12, Tryz.ntmps12
  go_upto_region 1 with fail
  obtain ⟨w2, hW2, hs2, hgr, hcz, hfz, hold⟩ := one_new w #[.string ⟨op.toArray⟩, .int .i64 num, .string nx, .slice A KL cc] 30
  rw [hW2]
  obtain ⟨z, hz⟩ : ∃ z, w.heap.size = z := ⟨_, rfl⟩
  rw [hz] at hcz hs2 ⊢
  have q0 := hcz 0 _ rfl
  have q1 := hcz 1 _ rfl
  have q2 := hcz 2 _ rfl
  have q3 := hcz 3 _ rfl
  have hg2 := Lib.hid (hgr none)
  have hsz2 := hsz _ ok w2 (hx0.out.keep (fun g h => h) (fun g h => hg2.out.block g (hok.out g h) (by simp))) (fun g h => Nat.lt_of_lt_of_le (hok.out g h) hg2.out.size)
  have hz := Lib.hid hz
  clear hW2 hgr hcz hfz hold hsz hx0
  go_wp2_with fail
  refine hsz2.mono ?_
  rintro e w3 ⟨rfl, hg3⟩
  have q2 := hg3.cell q2 (by simp)
  have q3 := hg3.cell q3 (by simp)
  have hg2 := Lib.hid (grownBy_trans' hg2.out hg3)
  clear hsz2 q0 q1 hg3 hs2
  by_cases h1 : 600 < S
  · have hrf : r = false := by rw [← hr.out, decide_eq_true h1]; rfl
    subst hrf
    clear hr
    go_wp2
    go_ret
    exact ⟨rfl, hg2.out⟩
  by_cases h2 : 100 < nx.size
  · have hrf : r = false := by rw [← hr.out, decide_eq_true h2]; simp
    subst hrf
    have h2' : (100 : Int) < (nx.size : Int) := by omega
    clear hr h2
    go_wp2
    go_ret
    exact ⟨rfl, hg2.out⟩
  have hrp : Hid (fewL kids = r) := by rw [Hid, ← hr.out, decide_eq_false h1, decide_eq_false h2]; rfl
  have h2' : ¬ (100 : Int) < (nx.size : Int) := by omega
  clear hr h2
  go_wp2
  go_loopw [3] (fun nv wr => ∃ m : Nat, m ≤ KL ∧ nv = .int .i64 (m : Int) ∧ Hid (w3.grownBy wr none) ∧ Hid (∀ i (hi : i < kids.length), i < m → fewE kids[i] = true)) (fun nv _ => KL - (intOf nv).toNat)
  case atStart => exact ⟨0, Nat.zero_le _, rfl, grownBy_refl' _ _, fun _ _ h => absurd h (Nat.not_lt_zero _)⟩
  case round =>
    obtain ⟨m, hm, rfl, hg, hyes⟩ := hrel
    have q3r := hg.out.cell q3 (by simp)
    by_cases hlt : m < KL
    · have hlt' : m < kids.length := by rw [hKL.out]; exact hlt
      have hgw := grownBy_trans' hg2.out hg.out
      obtain ⟨g, off, v0, v1, v2, v3, rfl, c0, c1, c2, c3, hxk⟩ := kid_at hkr.out (fun g h => hgw.block g (hok.out g h) (by simp)) m hlt'
      have hcl := ih.out kids[m] (List.getElem_mem hlt') _ ok wr hxk (fun g h => Nat.lt_of_lt_of_le (hok.out g h) hgw.size)
      obtain ⟨q, hq⟩ : ∃ q, fewE kids[m] = q := ⟨_, rfl⟩
      rw [hq] at hcl
      have hq := Lib.hid hq
      clear hxk hgw q3 q2
      cases q with
      | true =>
        have hyes2 : Hid (∀ i (hi : i < kids.length), i < m + 1 → fewE kids[i] = true) := fun i hi h => by
          rcases Nat.lt_or_ge i m with h' | h'
          · exact hyes.out i hi h'
          · obtain rfl : i = m := by omega
            exact hq.out
        clear hyes hq
        go_wp2_with fail
        refine hcl.mono ?_
        rintro e w5 ⟨rfl, hg5⟩
        have hgE := Lib.hid (grownBy_trans' hg.out hg5)
        clear hcl c0 c1 c2 c3 hg5 hg q3r
        go_wp2
        go_roundw
        case rel => exact ⟨m + 1, by omega, by go_num, hgE, hyes2⟩
        case measure => simp [intOf]; omega
      | false =>
        have hrf : r = false := by
          rw [← hrp.out, Bool.eq_false_iff]
          intro h
          have := fewL_iff.1 h kids[m] (List.getElem_mem hlt')
          rw [hq.out] at this
          cases this
        subst hrf
        clear hyes hq hrp
        go_wp2_with fail
        refine hcl.mono ?_
        rintro e w5 ⟨rfl, hg5⟩
        have hgE := grownBy_trans' hg2.out (grownBy_trans' hg.out hg5)
        clear hcl c0 c1 c2 c3 hg5 hg q3r
        go_wp2
        go_ret
        exact ⟨rfl, hgE⟩
    · obtain rfl : m = KL := by omega
      have hrf : r = true := by
        rw [← hrp.out, fewL_iff]
        intro y hy
        obtain ⟨i, hi, rfl⟩ := List.getElem_of_mem hy
        exact hyes.out i hi (by have := hKL.out; omega)
      subst hrf
      clear hyes hrp
      go_wp2
      go_ret
      exact ⟨rfl, grownBy_trans' hg2.out hg.out⟩
theorem few_all : ∀ (n : Nat) (x : E), sizeE x ≤ n → Answers 12 x (.bool (fewE x))
  | 0, .mk _ _ _ _, h => by unfold sizeE at h; omega
  | n + 1, .mk op num name kids, h => by
    unfold sizeE at h
    exact few_step op name num kids fun x hx => few_all n x (by have := sizeL.mem x hx; omega)
theorem few_any (x : E) : Answers 12 x (.bool (fewE x)) := few_all _ x (Nat.le_refl _)

theorem sizeL_le {l : List E} (h : ∀ x ∈ l, sizeE x ≤ 600) : sizeL l ≤ 600 * l.length := by
  induction l with
  | nil => simp [sizeL]
  | cons x l ih =>
    have h1 := h x (by simp)
    have h2 := ih fun y hy => h y (by simp [hy])
    simp only [sizeL, List.length_cons]
    omega
mutual
/-- No row of Kids is longer than memory can hold. -/
def WideE : E → Prop
  | .mk _ _ _ kids => kids.length ≤ 4398046511104 ∧ WideL kids
def WideL : List E → Prop
  | [] => True
  | e :: es => WideE e ∧ WideL es
end
theorem WideL.mem : ∀ {l : List E}, WideL l → ∀ x ∈ l, WideE x
  | [], _, x, hx => by cases hx
  | e :: es, h, x, hx => by
    unfold WideL at h
    rcases List.mem_cons.1 hx with rfl | hx
    · exact h.1
    · exact WideL.mem h.2 x hx
theorem wideL_of : ∀ (l : List E), (∀ x ∈ l, WideE x) → WideL l
  | [], _ => trivial
  | x :: l, h => ⟨h x (by simp), wideL_of l fun y hy => h y (by simp [hy])⟩
theorem shortL_of : ∀ (l : List E), (∀ x ∈ l, ShortE x) → ShortL l
  | [], _ => trivial
  | x :: l, h => ⟨h x (by simp), shortL_of l fun y hy => h y (by simp [hy])⟩
/-- What is not too much as it is counted is not: the count does not run over. -/
theorem few_facts : ∀ (n : Nat) (x : E), sizeE x ≤ n → WideE x → fewE x = true → sizeE x ≤ 600 ∧ ShortE x
  | 0, .mk _ _ _ _, h, _, _ => by unfold sizeE at h; omega
  | n + 1, .mk op num name kids, h, hw, hf => by
    rw [sizeE] at h
    unfold WideE at hw
    rw [fewE] at hf
    simp only [Bool.and_eq_true, Bool.not_eq_true', decide_eq_false_iff_not] at hf
    obtain ⟨⟨h1, h2⟩, h3⟩ := hf
    have hk : ∀ x ∈ kids, sizeE x ≤ 600 ∧ ShortE x := fun x hx => few_facts n x (by have := sizeL.mem x hx; omega) (hw.2.mem x hx) (fewL_iff.1 h3 _ hx)
    have hs := sizeL_le fun x hx => (hk x hx).1
    refine ⟨?_, ?_⟩
    · rw [sizeE]
      unfold wrap64 at h1
      omega
    · unfold ShortE
      exact ⟨by omega, shortL_of kids fun x hx => (hk x hx).2⟩
end Go.Proofs.YtlijlgbaikijnaaGreatDoor
