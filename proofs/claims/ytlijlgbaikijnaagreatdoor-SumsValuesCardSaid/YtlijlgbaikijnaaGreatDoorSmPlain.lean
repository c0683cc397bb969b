/-
  What the statements ask of an expression itself: how many Ops it has, and whether it is not too much. Conditions: none.
  A copy of an expression that is being made: its Kids so far, in a row of the call's own. No walk in it.
  Plain makes the reference's expression out of the package's. Conditions: at most a million Ops.
-/
import Derived.Test.YtlijlgbaikijnaaGreatDoorSmCheck
namespace Go.Proofs.YtlijlgbaikijnaaGreatDoor
open Go Go.RowKit

/-- A Kid as it lies, in a later world. -/
theorem kid_at {w wr : World} {ok : Nat → Prop} {A : Option Addr} {kids : List E} (hk : kids = [] ∨ ∃ g off : Nat, A = some ⟨g, off, none⟩ ∧ ok g ∧ KidsR w ok g off kids)
    (hg : ∀ g, ok g → wr.heap[g]? = w.heap[g]?) (m : Nat) (h : m < kids.length) : ∃ (g off : Nat) (v0 v1 v2 v3 : Value), A = some ⟨g, off, none⟩ ∧
      wr.cell? ⟨g, off + m * 4, none⟩ = some v0 ∧ wr.cell? ⟨g, off + m * 4 + 1, none⟩ = some v1 ∧ wr.cell? ⟨g, off + m * 4 + 2, none⟩ = some v2 ∧ wr.cell? ⟨g, off + m * 4 + 3, none⟩ = some v3 ∧ ExR wr ok kids[m] (.agg #[v0, v1, v2, v3]) := by
  obtain ⟨g, off, rfl, hgo, hkr⟩ := hk.resolve_left (fun e => by rw [e] at h; simp at h)
  obtain ⟨v0, v1, v2, v3, c0, c1, c2, c3, hx⟩ := hkr.at_ m h
  have hblk := hg g hgo
  exact ⟨g, off, v0, v1, v2, v3, rfl, (World.cell?_of_block (a := ⟨g, off + m * 4, none⟩) hblk).trans c0, (World.cell?_of_block (a := ⟨g, off + m * 4 + 1, none⟩) hblk).trans c1, (World.cell?_of_block (a := ⟨g, off + m * 4 + 2, none⟩) hblk).trans c2,
    (World.cell?_of_block (a := ⟨g, off + m * 4 + 3, none⟩) hblk).trans c3, hx.keep (fun g h => h) hg⟩
/-- A function of an expression alone that answers this, whatever the world. -/
def Answers (f : Nat) (x : E) (r : Value) : Prop := ∀ (v : Value) (ok : Nat → Prop) (w : World), ExR w ok x v → (∀ g, ok g → g < w.heap.size) → Calls Tryz.prog f #[v] w fun e w' => e = .returned r ∧ w.grownBy w' none

theorem kidsR_of {w : World} {ok : Nat → Prop} {g : Nat} : ∀ (l : List E) (off : Nat), (∀ i (hi : i < l.length), ∃ cs : Array Value, cs.size = 4 ∧ (∀ j (hj : j < cs.size), w.cell? ⟨g, off + i * 4 + j, none⟩ = some cs[j]) ∧ ExR w ok l[i] (.agg cs)) → KidsR w ok g off l
  | [], _, _ => trivial
  | x :: l, off, h => by
    unfold KidsR
    refine ⟨?_, kidsR_of l (off + 4) fun i hi => ?_⟩
    · obtain ⟨cs, h1, h2, h3⟩ := h 0 (by simp)
      exact ⟨cs, h1, fun j hj => by have := h2 j hj; rwa [show off + 0 * 4 + j = off + j by omega] at this, h3⟩
    · obtain ⟨cs, h1, h2, h3⟩ := h (i + 1) (by simpa using hi)
      refine ⟨cs, h1, fun j hj => ?_, h3⟩
      have := h2 j hj
      rwa [show off + (i + 1) * 4 + j = off + 4 + i * 4 + j by omega] at this
theorem sizeL_take : ∀ (l : List E) (m : Nat) (h : m < l.length), sizeL (l.take (m + 1)) = sizeL (l.take m) + sizeE l[m]
  | [], m, h => by simp at h
  | x :: l, 0, _ => by simp [sizeL]
  | x :: l, m + 1, h => by
    have := sizeL_take l m (by simpa using h)
    simp only [List.take_succ_cons, sizeL, List.getElem_cons_succ]
    omega

theorem wrap64_bw (z : Int) : wrap64 z = (BitVec.ofInt 64 z).toInt := by
  rw [BitVec.toInt_ofInt, Int.bmod_def]
  unfold wrap64
  have e : ((2 ^ 64 : Nat) : Int) = 18446744073709551616 := by decide
  rw [e]
  split <;> omega
theorem wrap64_sum (a b : Int) : wrap64 (wrap64 a + wrap64 b) = wrap64 (a + b) := by
  simp only [wrap64_bw, BitVec.ofInt_add, BitVec.ofInt_toInt]

set_option maxHeartbeats 2000000 in
set_option maxRecDepth 100000 in
theorem size_step (op name : List UInt8) (num : Int) (kids : List E) (ih : ∀ x ∈ kids, Answers 32 x (.int .i64 (wrap64 (sizeE x : Int)))) : Answers 32 (.mk op num name kids) (.int .i64 (wrap64 (sizeE (.mk op num name kids) : Int))) := by
  intro v ok w hx hok
  obtain ⟨A, cc, rfl, hcc, hcm, hkr⟩ := hx.form
  unfold maxLen at hcm
  obtain ⟨S, hS⟩ : ∃ S, wrap64 ((sizeE (.mk op num name kids) : Nat) : Int) = S := ⟨_, rfl⟩
  rw [hS]
  rw [sizeE] at hS
  obtain ⟨KL, hKL⟩ : ∃ KL, kids.length = KL := ⟨_, rfl⟩
  rw [hKL] at hcc ⊢
  have hS := Lib.hid hS
  have hKL := Lib.hid hKL
  have hkr := Lib.hid hkr
  have hok := Lib.hid hok
  have ih := Lib.hid ih
  clear hx
  go_enter Tryz.func32, Tryz.ntmps32
  go_upto_region 1 with fail
  obtain ⟨w2, hW2, hs2, hgr, hcz, hfz, hold⟩ := one_new w #[.string ⟨op.toArray⟩, .int .i64 num, .string ⟨name.toArray⟩, .slice A KL cc] 30
  rw [hW2]
  obtain ⟨z, hz⟩ : ∃ z, w.heap.size = z := ⟨_, rfl⟩
  rw [hz] at hcz hs2 ⊢
  have q3 := hcz 3 _ rfl
  have hg2 := Lib.hid (hgr none)
  have hz := Lib.hid hz
  clear hW2 hgr hcz hfz hold
  go_wp2
  go_loopw [3, 4] (fun sv nv wr => ∃ m : Nat, m ≤ KL ∧ nv = .int .i64 (m : Int) ∧ sv = .int .i64 (wrap64 ((1 + sizeL (kids.take m) : Nat) : Int)) ∧ Hid (w2.grownBy wr none)) (fun _ nv _ => KL - (intOf nv).toNat)
  case atStart => exact ⟨0, Nat.zero_le _, rfl, by simp [sizeL, wrap64], grownBy_refl' _ _⟩
  case round =>
    obtain ⟨m, hm, rfl, rfl, hg⟩ := hrel
    have q3r := hg.out.cell q3 (by simp)
    by_cases hlt : m < KL
    · have hlt' : m < kids.length := by rw [hKL.out]; exact hlt
      have hgw := grownBy_trans' hg2.out hg.out
      obtain ⟨g, off, v0, v1, v2, v3, rfl, c0, c1, c2, c3, hxk⟩ := kid_at hkr.out (fun g h => hgw.block g (hok.out g h) (by simp)) m hlt'
      have hcl := ih.out kids[m] (List.getElem_mem hlt') _ ok wr hxk (fun g h => Nat.lt_of_lt_of_le (hok.out g h) hgw.size)
      have hnx : wrap64 (wrap64 ((1 + sizeL (kids.take m) : Nat) : Int) + wrap64 (sizeE kids[m] : Int)) = wrap64 ((1 + sizeL (kids.take (m + 1)) : Nat) : Int) := by
        rw [sizeL_take kids m hlt', wrap64_sum]
        congr 1
        omega
      clear hxk hgw q3
      generalize wrap64 (sizeE kids[m] : Int) = sk at hcl hnx
      generalize wrap64 ((1 + sizeL (kids.take m) : Nat) : Int) = sm at hnx ⊢
      have hnx := Lib.hid hnx
      go_wp2_with fail
      refine hcl.mono ?_
      rintro e w5 ⟨rfl, hg5⟩
      have hgE := Lib.hid (grownBy_trans' hg.out hg5)
      clear hcl c0 c1 c2 c3 hg5 hg q3r
      go_wp2
      go_roundw
      case rel => exact ⟨m + 1, by omega, by go_num, by rw [hnx.out], hgE⟩
      case measure => simp [intOf]; omega
    · obtain rfl : m = KL := by omega
      have hfin : wrap64 ((1 + sizeL (kids.take m) : Nat) : Int) = S := by rw [List.take_of_length_le (by have := hKL.out; omega)]; exact hS.out
      rw [hfin]
      clear hfin
      go_wp2
      go_ret
      exact ⟨rfl, grownBy_trans' hg2.out hg.out⟩
theorem size_all : ∀ (n : Nat) (x : E), sizeE x ≤ n → Answers 32 x (.int .i64 (wrap64 (sizeE x : Int)))
  | 0, .mk _ _ _ _, h => by unfold sizeE at h; omega
  | n + 1, .mk op num name kids, h => by
    unfold sizeE at h
    exact size_step op name num kids fun x hx => size_all n x (by have := sizeL.mem x hx; omega)
theorem size_any (x : E) : Answers 32 x (.int .i64 (wrap64 (sizeE x : Int))) := size_all _ x (Nat.le_refl _)

mutual
/-- Whether an expression is not too much, as it is counted. -/
def fewE : E → Bool
  | .mk _ _ name kids => !decide (600 < wrap64 ((1 + sizeL kids : Nat) : Int)) && !decide (100 < name.length) && fewL kids
def fewL : List E → Bool
  | [] => true
  | e :: es => fewE e && fewL es
end
theorem fewL_iff : ∀ {l : List E}, fewL l = true ↔ ∀ x ∈ l, fewE x = true
  | [] => by simp [fewL]
  | e :: es => by rw [fewL, Bool.and_eq_true, fewL_iff]; simp

set_option maxHeartbeats 2000000 in
set_option maxRecDepth 100000 in
theorem few_step (op name : List UInt8) (num : Int) (kids : List E) (ih : ∀ x ∈ kids, Answers 12 x (.bool (fewE x))) : Answers 12 (.mk op num name kids) (.bool (fewE (.mk op num name kids))) := by
  intro v ok w hx hok
  have hsz := size_any (.mk op num name kids)
  unfold Answers at hsz
  have hx0 := Lib.hid hx
  obtain ⟨A, cc, rfl, hcc, hcm, hkr⟩ := hx.form
  unfold maxLen at hcm
  obtain ⟨r, hr⟩ : ∃ r, fewE (.mk op num name kids) = r := ⟨_, rfl⟩
  rw [hr]
  rw [fewE] at hr
  rw [sizeE] at hsz
  obtain ⟨S, hS⟩ : ∃ S, wrap64 ((1 + sizeL kids : Nat) : Int) = S := ⟨_, rfl⟩
  rw [hS] at hr hsz
  obtain ⟨KL, hKL⟩ : ∃ KL, kids.length = KL := ⟨_, rfl⟩
  rw [hKL] at hcc hx0 ⊢
  obtain ⟨nx, hnx⟩ : ∃ nx : ByteArray, (⟨name.toArray⟩ : ByteArray) = nx := ⟨_, rfl⟩
  have hnl : nx.size = name.length := by rw [← hnx]; simp [ByteArray.size]
  rw [hnx] at hx0 ⊢
  have hKL := Lib.hid hKL
  have hkr := Lib.hid hkr
  have hok := Lib.hid hok
  have ih := Lib.hid ih
  rw [← hnl] at hr
  have hr := Lib.hid hr
  clear hx hS hnl hnx
  go_enter Tryz.func12, Tryz.ntmps12
  go_upto_region 1 with fail
  obtain ⟨w2, hW2, hs2, hgr, hcz, hfz, hold⟩ := one_new w #[.string ⟨op.toArray⟩, .int .i64 num, .string nx, .slice A KL cc] 30
  rw [hW2]
  obtain ⟨z, hz⟩ : ∃ z, w.heap.size = z := ⟨_, rfl⟩
  rw [hz] at hcz hs2 ⊢
  have q0 := hcz 0 _ rfl
  have q1 := hcz 1 _ rfl
  have q2 := hcz 2 _ rfl
  have q3 := hcz 3 _ rfl
  have hg2 := Lib.hid (hgr none)
  have hsz2 := hsz _ ok w2 (hx0.out.keep (fun g h => h) (fun g h => hg2.out.block g (hok.out g h) (by simp))) (fun g h => Nat.lt_of_lt_of_le (hok.out g h) hg2.out.size)
  have hz := Lib.hid hz
  clear hW2 hgr hcz hfz hold hsz hx0
  go_wp2_with fail
  refine hsz2.mono ?_
  rintro e w3 ⟨rfl, hg3⟩
  have q2 := hg3.cell q2 (by simp)
  have q3 := hg3.cell q3 (by simp)
  have hg2 := Lib.hid (grownBy_trans' hg2.out hg3)
  clear hsz2 q0 q1 hg3 hs2
  by_cases h1 : 600 < S
  · have hrf : r = false := by rw [← hr.out, decide_eq_true h1]; rfl
    subst hrf
    clear hr
    go_wp2
    go_ret
    exact ⟨rfl, hg2.out⟩
  by_cases h2 : 100 < nx.size
  · have hrf : r = false := by rw [← hr.out, decide_eq_true h2]; simp
    subst hrf
    have h2' : (100 : Int) < (nx.size : Int) := by omega
    clear hr h2
    go_wp2
    go_ret
    exact ⟨rfl, hg2.out⟩
  have hrp : Hid (fewL kids = r) := by rw [Hid, ← hr.out, decide_eq_false h1, decide_eq_false h2]; rfl
  have h2' : ¬ (100 : Int) < (nx.size : Int) := by omega
  clear hr h2
  go_wp2
  go_loopw [3] (fun nv wr => ∃ m : Nat, m ≤ KL ∧ nv = .int .i64 (m : Int) ∧ Hid (w3.grownBy wr none) ∧ Hid (∀ i (hi : i < kids.length), i < m → fewE kids[i] = true)) (fun nv _ => KL - (intOf nv).toNat)
  case atStart => exact ⟨0, Nat.zero_le _, rfl, grownBy_refl' _ _, fun _ _ h => absurd h (Nat.not_lt_zero _)⟩
  case round =>
    obtain ⟨m, hm, rfl, hg, hyes⟩ := hrel
    have q3r := hg.out.cell q3 (by simp)
    by_cases hlt : m < KL
    · have hlt' : m < kids.length := by rw [hKL.out]; exact hlt
      have hgw := grownBy_trans' hg2.out hg.out
      obtain ⟨g, off, v0, v1, v2, v3, rfl, c0, c1, c2, c3, hxk⟩ := kid_at hkr.out (fun g h => hgw.block g (hok.out g h) (by simp)) m hlt'
      have hcl := ih.out kids[m] (List.getElem_mem hlt') _ ok wr hxk (fun g h => Nat.lt_of_lt_of_le (hok.out g h) hgw.size)
      obtain ⟨q, hq⟩ : ∃ q, fewE kids[m] = q := ⟨_, rfl⟩
      rw [hq] at hcl
      have hq := Lib.hid hq
      clear hxk hgw q3 q2
      cases q with
      | true =>
        have hyes2 : Hid (∀ i (hi : i < kids.length), i < m + 1 → fewE kids[i] = true) := fun i hi h => by
          rcases Nat.lt_or_ge i m with h' | h'
          · exact hyes.out i hi h'
          · obtain rfl : i = m := by omega
            exact hq.out
        clear hyes hq
        go_wp2_with fail
        refine hcl.mono ?_
        rintro e w5 ⟨rfl, hg5⟩
        have hgE := Lib.hid (grownBy_trans' hg.out hg5)
        clear hcl c0 c1 c2 c3 hg5 hg q3r
        go_wp2
        go_roundw
        case rel => exact ⟨m + 1, by omega, by go_num, hgE, hyes2⟩
        case measure => simp [intOf]; omega
      | false =>
        have hrf : r = false := by
          rw [← hrp.out, Bool.eq_false_iff]
          intro h
          have := fewL_iff.1 h kids[m] (List.getElem_mem hlt')
          rw [hq.out] at this
          cases this
        subst hrf
        clear hyes hq hrp
        go_wp2_with fail
        refine hcl.mono ?_
        rintro e w5 ⟨rfl, hg5⟩
        have hgE := grownBy_trans' hg2.out (grownBy_trans' hg.out hg5)
        clear hcl c0 c1 c2 c3 hg5 hg q3r
        go_wp2
        go_ret
        exact ⟨rfl, hgE⟩
    · obtain rfl : m = KL := by omega
      have hrf : r = true := by
        rw [← hrp.out, fewL_iff]
        intro y hy
        obtain ⟨i, hi, rfl⟩ := List.getElem_of_mem hy
        exact hyes.out i hi (by have := hKL.out; omega)
      subst hrf
      clear hyes hrp
      go_wp2
      go_ret
      exact ⟨rfl, grownBy_trans' hg2.out hg.out⟩
theorem few_all : ∀ (n : Nat) (x : E), sizeE x ≤ n → Answers 12 x (.bool (fewE x))
  | 0, .mk _ _ _ _, h => by unfold sizeE at h; omega
  | n + 1, .mk op num name kids, h => by
    unfold sizeE at h
    exact few_step op name num kids fun x hx => few_all n x (by have := sizeL.mem x hx; omega)
theorem few_any (x : E) : Answers 12 x (.bool (fewE x)) := few_all _ x (Nat.le_refl _)

theorem sizeL_le {l : List E} (h : ∀ x ∈ l, sizeE x ≤ 600) : sizeL l ≤ 600 * l.length := by
  induction l with
  | nil => simp [sizeL]
  | cons x l ih =>
    have h1 := h x (by simp)
    have h2 := ih fun y hy => h y (by simp [hy])
    simp only [sizeL, List.length_cons]
    omega
mutual
/-- No row of Kids is longer than memory can hold. -/
def WideE : E → Prop
  | .mk _ _ _ kids => kids.length ≤ 4398046511104 ∧ WideL kids
def WideL : List E → Prop
  | [] => True
  | e :: es => WideE e ∧ WideL es
end
theorem WideL.mem : ∀ {l : List E}, WideL l → ∀ x ∈ l, WideE x
  | [], _, x, hx => by cases hx
  | e :: es, h, x, hx => by
    unfold WideL at h
    rcases List.mem_cons.1 hx with rfl | hx
    · exact h.1
    · exact WideL.mem h.2 x hx
theorem wideL_of : ∀ (l : List E), (∀ x ∈ l, WideE x) → WideL l
  | [], _ => trivial
  | x :: l, h => ⟨h x (by simp), wideL_of l fun y hy => h y (by simp [hy])⟩
theorem shortL_of : ∀ (l : List E), (∀ x ∈ l, ShortE x) → ShortL l
  | [], _ => trivial
  | x :: l, h => ⟨h x (by simp), shortL_of l fun y hy => h y (by simp [hy])⟩
/-- What is not too much as it is counted is not: the count does not run over. -/
theorem few_facts : ∀ (n : Nat) (x : E), sizeE x ≤ n → WideE x → fewE x = true → sizeE x ≤ 600 ∧ ShortE x
  | 0, .mk _ _ _ _, h, _, _ => by unfold sizeE at h; omega
  | n + 1, .mk op num name kids, h, hw, hf => by
    rw [sizeE] at h
    unfold WideE at hw
    rw [fewE] at hf
    simp only [Bool.and_eq_true, Bool.not_eq_true', decide_eq_false_iff_not] at hf
    obtain ⟨⟨h1, h2⟩, h3⟩ := hf
    have hk : ∀ x ∈ kids, sizeE x ≤ 600 ∧ ShortE x := fun x hx => few_facts n x (by have := sizeL.mem x hx; omega) (hw.2.mem x hx) (fewL_iff.1 h3 _ hx)
    have hs := sizeL_le fun x hx => (hk x hx).1
    refine ⟨?_, ?_⟩
    · rw [sizeE]
      unfold wrap64 at h1
      omega
    · unfold ShortE
      exact ⟨by omega, shortL_of kids fun x hx => (hk x hx).2⟩
end Go.Proofs.YtlijlgbaikijnaaGreatDoor

namespace Go.Proofs.YtlijlgbaikijnaaGreatDoor
open Go Go.RowKit

/-- A function of an expression that makes one anew, in memory of its own. -/
def Copies (f : Nat) (x y : E) : Prop := ∀ (v : Value) (ok : Nat → Prop) (w : World), ExR w ok x v → (∀ g, ok g → g < w.heap.size) →
  Calls Tryz.prog f #[v] w fun e w' => (∃ u, e = .returned u ∧ ExR w' (fun g => w.heap.size ≤ g ∧ g < w'.heap.size) y u) ∧ w.grownBy w' none

def cellsK (vs : List (Array Value)) : List Value := vs.flatMap (·.toList)
theorem cellsK_len : ∀ {vs : List (Array Value)}, (∀ u ∈ vs, u.size = 4) → (cellsK vs).length = vs.length * 4
  | [], _ => rfl
  | u :: vs, h => by
    have h1 := h u (by simp)
    have h2 := cellsK_len (vs := vs) fun y hy => h y (by simp [hy])
    unfold cellsK at h2 ⊢
    rw [List.flatMap_cons, List.length_append, h2, List.length_cons, Array.length_toList, h1]
    omega
theorem cellsK_at : ∀ {vs : List (Array Value)}, (∀ u ∈ vs, u.size = 4) → ∀ (i : Nat) (h : i < vs.length) (j : Nat) (hj : j < vs[i].size), (cellsK vs)[i * 4 + j]? = some vs[i][j]
  | [], _, i, h, _, _ => by simp at h
  | u :: vs, h4, 0, _, j, hj => by
    simp only [List.getElem_cons_zero] at hj ⊢
    unfold cellsK
    rw [List.flatMap_cons, List.getElem?_append_left (by simpa using hj)]
    simp [hj]
  | u :: vs, h4, i + 1, h, j, hj => by
    simp only [List.getElem_cons_succ] at hj ⊢
    have h1 : u.toList.length = 4 := by rw [Array.length_toList]; exact h4 u (by simp)
    have h2 := cellsK_at (vs := vs) (fun y hy => h4 y (by simp [hy])) i (by simpa using h) j hj
    unfold cellsK at h2 ⊢
    rw [List.flatMap_cons, List.getElem?_append_right (by omega), h1, show (i + 1) * 4 + j - 4 = i * 4 + j by omega]
    exact h2
theorem cellsK_snoc (vs : List (Array Value)) (u : Array Value) : cellsK (vs ++ [u]) = cellsK vs ++ u.toList := by simp [cellsK]

/-- The Kids of a copy so far. -/
structure CopyK (w : World) (B : Nat) (ty : TypeId) (v : Value) (l : List E) (vs : List (Array Value)) : Prop where
  len : vs.length = l.length
  four : ∀ u ∈ vs, u.size = 4
  own : w.ownsRow B ty 4 v l.length (cellsK vs)
  kid : ∃ ok : Nat → Prop, (∀ g, ok g → B ≤ g ∧ g < w.heap.size ∧ v.ownBlock ≠ some g) ∧ ∀ (i : Nat) (h : i < l.length) (h2 : i < vs.length), ExR w ok l[i] (.agg vs[i])

theorem CopyK.nil (w : World) (B : Nat) (ty : TypeId) : CopyK w B ty (.slice none 0 0) [] [] :=
  ⟨rfl, by simp, World.ownsRow_nil _ _ _ _, fun _ => False, by simp, by simp⟩
theorem own_keep {w w' : World} {B : Nat} {ty : TypeId} {size n : Nat} {v : Value} {xs : List Value} (h : w.ownsRow B ty size v n xs) (hk : ∀ g, B ≤ g → g < w.heap.size → w'.heap[g]? = w.heap[g]?) : w'.ownsRow B ty size v n xs := by
  obtain ⟨h1, h2⟩ := h
  refine ⟨h1, ?_⟩
  rcases h2 with h | ⟨g, cap, cur, hv, hb, hg, r⟩
  · exact .inl h
  · exact .inr ⟨g, cap, cur, hv, hb, by rw [hk g hb (Array.getElem?_eq_some_iff.1 hg).1]; exact hg, r⟩
theorem CopyK.keep {w w' : World} {B : Nat} {ty : TypeId} {v : Value} {l : List E} {vs : List (Array Value)} (h : CopyK w B ty v l vs) (hk : ∀ g, B ≤ g → g < w.heap.size → w'.heap[g]? = w.heap[g]?) (hs : w.heap.size ≤ w'.heap.size) : CopyK w' B ty v l vs := by
  obtain ⟨h1, h2, h3, ok, h4, h5⟩ := h
  refine ⟨h1, h2, own_keep h3 hk, ok, fun g hg => ?_, fun i hi hi2 => (h5 i hi hi2).keep (fun g h => h) fun g hg => hk g (h4 g hg).1 (h4 g hg).2.1⟩
  have := h4 g hg
  exact ⟨this.1, by omega, this.2.2⟩
theorem CopyK.grown {w w' : World} {B : Nat} {ty : TypeId} {v : Value} {l : List E} {vs : List (Array Value)} (h : CopyK w B ty v l vs) (hg : w.grownBy w' none) : CopyK w' B ty v l vs :=
  h.keep (fun g _ hl => hg.block g hl (by simp)) hg.size
theorem CopyK.set {w : World} {B : Nat} {ty : TypeId} {v : Value} {l : List E} {vs : List (Array Value)} (h : CopyK w B ty v l vs) {b j : Nat} (hb : b < B) (u : Value) : CopyK (w.setCell ⟨b, j, none⟩ u) B ty v l vs :=
  h.keep (fun g hg _ => heap_setCell_other w ⟨b, j, none⟩ g u (by show g ≠ b; omega)) (by simp [World.setCell])
theorem CopyK.snoc {w w3 : World} {B : Nat} {ty : TypeId} {v : Value} {l : List E} {vs : List (Array Value)} (h : CopyK w B ty v l vs) {x : E} {u : Array Value} {okk : Nat → Prop} {g cap : Nat} (hu : u.size = 4) (hx : ExR w okk x (.agg u))
    (hok : ∀ g, okk g → B ≤ g ∧ g < w.heap.size ∧ v.ownBlock ≠ some g) (hown : w3.ownsRow B ty 4 (.slice (some ⟨g, 0, none⟩) (l.length + 1) cap) (l.length + 1) (cellsK vs ++ u.toList)) (hgrow : w.grownBy w3 v.ownBlock) (hat : v.ownBlock = some g ∨ g = w.heap.size) :
    CopyK w3 B ty (.slice (some ⟨g, 0, none⟩) (l.length + 1) cap) (l ++ [x]) (vs ++ [u]) := by
  obtain ⟨h1, h2, h3, ok, h4, h5⟩ := h
  have hne : ∀ k, (ok k ∨ okk k) → B ≤ k ∧ k < w.heap.size ∧ v.ownBlock ≠ some k := fun k hk => hk.elim (h4 k) (hok k)
  refine ⟨by simp [h1], fun y hy => ?_, ?_, fun k => ok k ∨ okk k, fun k hk => ?_, fun i hi hi2 => ?_⟩
  · rcases List.mem_append.1 hy with hy | hy
    · exact h2 y hy
    · simp at hy; subst hy; exact hu
  · rw [cellsK_snoc, List.length_append]
    exact hown
  · have h := hne k hk
    refine ⟨h.1, Nat.lt_of_lt_of_le h.2.1 hgrow.size, ?_⟩
    intro e
    have e : g = k := Option.some.inj e
    rcases hat with h' | h'
    · exact h.2.2 (by rw [h', e])
    · omega
  · have hkeep : ∀ k, (ok k ∨ okk k) → w3.heap[k]? = w.heap[k]? := fun k hk => hgrow.block k (hne k hk).2.1 (fun e => (hne k hk).2.2 e.symm)
    rcases Nat.lt_or_ge i l.length with h' | h'
    · have e1 : (l ++ [x])[i] = l[i] := List.getElem_append_left h'
      have e2 : (vs ++ [u])[i] = vs[i]'(by omega) := List.getElem_append_left (by omega)
      rw [e1, e2]
      exact (h5 i h' (by omega)).keep (fun k hk => .inl hk) fun k hk => hkeep k (.inl hk)
    · have hi3 : i = l.length := by simp at hi; omega
      subst hi3
      have e1 : (l ++ [x])[l.length] = x := by simp
      have e2 : (vs ++ [u])[l.length] = u := by simp [← h1]
      rw [e1, e2]
      exact hx.keep (fun k hk => .inr hk) fun k hk => hkeep k (.inr hk)
/-- The copy that is made. -/
theorem CopyK.fin {w : World} {B : Nat} {ty : TypeId} {v : Value} {l : List E} {vs : List (Array Value)} (h : CopyK w B ty v l vs) {b : Nat} (hb : b ≤ B) (op name : List UInt8) (num : Int) :
    ExR w (fun g => b ≤ g ∧ g < w.heap.size) (.mk op num name l) (.agg (exC op num name v)) := by
  obtain ⟨h1, h2, h3, ok, h4, h5⟩ := h
  obtain ⟨hl, h6⟩ := h3
  unfold ExR
  rcases h6 with ⟨rfl, h0⟩ | ⟨g, cap, cur, rfl, hbg, hg, hc, hm, hs, ht⟩
  · obtain rfl := List.eq_nil_of_length_eq_zero h0
    exact ⟨none, 0, rfl, Nat.le_refl _, Nat.zero_le _, .inl rfl⟩
  · refine ⟨_, cap, rfl, hc, hm, .inr ⟨g, 0, rfl, ⟨by omega, (Array.getElem?_eq_some_iff.1 hg).1⟩, kidsR_of l 0 fun i hi => ?_⟩⟩
    have hi2 : i < vs.length := by omega
    refine ⟨vs[i], h2 _ (List.getElem_mem hi2), fun j hj => ?_, (h5 i hi hi2).keep (fun k hk => ⟨by have := (h4 k hk).1; omega, (h4 k hk).2.1⟩) fun _ _ => rfl⟩
    have hj4 : j < 4 := by rw [← h2 _ (List.getElem_mem hi2)]; exact hj
    have := cellsK_at h2 i hi2 j hj
    rw [← ht, List.getElem?_take_of_lt (by omega), Array.getElem?_toList] at this
    rw [cell_of_row w g _ _ _ _ hg, Nat.zero_add]
    exact this
theorem CopyK.form {w : World} {B : Nat} {ty : TypeId} {v : Value} {l : List E} {vs : List (Array Value)} (h : CopyK w B ty v l vs) : ∃ (A : Option Addr) (cap : Nat), v = .slice A l.length cap := by
  obtain ⟨_, h6⟩ := h.own
  rcases h6 with ⟨rfl, h0⟩ | ⟨g, cap, cur, rfl, _⟩
  · exact ⟨none, 0, by rw [h0]⟩
  · exact ⟨_, cap, rfl⟩
theorem grown_over {a w W : World} {r : Option Nat} (h : a.grownBy w none) (k : w.grownBy W r) (hr : ∀ g, r = some g → a.heap.size ≤ g) : a.grownBy W none :=
  ⟨k.os.trans h.os, k.tape.trans h.tape, k.output.trans h.output, Nat.le_trans h.size k.size, fun i hi _ => (k.block i (Nat.lt_of_lt_of_le hi h.size) (fun e => by have := hr i e.symm; omega)).trans (h.block i hi (by simp))⟩
/-- In the midst of a copy: the expression's own variable, the result, the copy. -/
structure CpSt (w wr : World) (z : Nat) (tb ty : TypeId) (bx : Array Value) (y0 y1 y2 vK : Value) (l : List E) (vs : List (Array Value)) : Prop where
  r0 : wr.heap[z]? = some (.cells bx tb (0, 0))
  r1 : wr.heap[z + 1]? = some (.cells #[.string ⟨#[]⟩, .int .i64 0, .string ⟨#[]⟩, .slice none 0 0] ty (0, 0))
  r2 : wr.heap[z + 2]? = some (.cells #[y0, y1, y2, vK] ty (0, 0))
  cp : CopyK wr (z + 3) ty vK l vs
  gr : w.grownBy wr none
  zz : w.heap.size = z
theorem cpSt_new (w : World) (tb ty : TypeId) (bx : Array Value) (y0 y1 y2 : Value) :
    CpSt w (((w.alloc (.cells bx tb)).alloc (.cells #[.string ⟨#[]⟩, .int .i64 0, .string ⟨#[]⟩, .slice none 0 0] ty)).alloc (.cells #[y0, y1, y2, .slice none 0 0] ty)) w.heap.size tb ty bx y0 y1 y2 (.slice none 0 0) [] [] := by
  have s1 : (w.alloc (.cells bx tb)).heap.size = w.heap.size + 1 := by simp
  have s2 : ((w.alloc (.cells bx tb)).alloc (.cells #[.string ⟨#[]⟩, .int .i64 0, .string ⟨#[]⟩, .slice none 0 0] ty)).heap.size = w.heap.size + 2 := by simp
  refine ⟨?_, ?_, ?_, CopyK.nil _ _ _, grownBy_trans' (grownBy_trans' (World.grownBy_alloc _ _ _) (World.grownBy_alloc _ _ _)) (World.grownBy_alloc _ _ _), rfl⟩
  · rw [Below.heap_alloc _ _ _ (by omega), Below.heap_alloc _ _ _ (by omega)]
    exact heap_alloc_new w _
  · rw [Below.heap_alloc _ _ _ (by omega)]
    have := heap_alloc_new (w.alloc (.cells bx tb)) (.cells #[.string ⟨#[]⟩, .int .i64 0, .string ⟨#[]⟩, .slice none 0 0] ty)
    rwa [s1] at this
  · have := heap_alloc_new ((w.alloc (.cells bx tb)).alloc (.cells #[.string ⟨#[]⟩, .int .i64 0, .string ⟨#[]⟩, .slice none 0 0] ty)) (.cells #[y0, y1, y2, .slice none 0 0] ty)
    rwa [s2] at this
section
variable {w wr : World} {z : Nat} {tb ty : TypeId} {bx : Array Value} {y0 y1 y2 vK : Value} {l : List E} {vs : List (Array Value)}
theorem CpSt.sz (h : CpSt w wr z tb ty bx y0 y1 y2 vK l vs) : z + 3 ≤ wr.heap.size := by
  have := (Array.getElem?_eq_some_iff.1 h.r2).1
  omega
theorem CpSt.app (h : CpSt w wr z tb ty bx y0 y1 y2 vK l vs) {w1 W2 w3 : World} {x : E} {u : Array Value} {g cap : Nat} (h1 : wr.grownBy w1 none) (h2 : w1.grownBy W2 none) (hu4 : u.size = 4)
    (hx : ExR w1 (fun g => wr.heap.size ≤ g ∧ g < w1.heap.size) x (.agg u)) (hown : w3.ownsRow (z + 3) ty 4 (.slice (some ⟨g, 0, none⟩) (l.length + 1) cap) (l.length + 1) (cellsK vs ++ u.toList))
    (hgrow : W2.grownBy w3 vK.ownBlock) (hat : vK.ownBlock = some g ∨ g = W2.heap.size) :
    w3.heap[z]? = some (.cells bx tb (0, 0)) ∧ w3.heap[z + 2]? = some (.cells #[y0, y1, y2, vK] ty (0, 0)) ∧ (∀ k, k < w.heap.size → w3.heap[k]? = wr.heap[k]?) ∧
    CpSt w (w3.setCell ⟨z + 2, 3, none⟩ (.slice (some ⟨g, 0, none⟩) (l.length + 1) cap)) z tb ty bx y0 y1 y2 (.slice (some ⟨g, 0, none⟩) (l.length + 1) cap) (l ++ [x]) (vs ++ [u]) := by
  have h12 := grownBy_trans' h1 h2
  have hlt := h.cp.own.lt
  have hsz := h.sz
  have hzz := h.zz
  have hs1 := h1.size
  have hs2 := h2.size
  have hne : ∀ k, k < z + 3 → some k ≠ vK.ownBlock := fun k hk e => by have := (hlt k e.symm).1; omega
  have hkeep : ∀ k, k < z + 3 → w3.heap[k]? = wr.heap[k]? := fun k hk => (hgrow.block k (by omega) (hne k hk)).trans (h12.block k (by omega) (by simp))
  have hgE : w.grownBy w3 none := grown_over (grownBy_trans' h.gr h12) hgrow fun k e => by have := (hlt k e).1; omega
  have hck := (h.cp.grown h12).snoc hu4 (hx.keep (fun k hk => hk) (fun k hk => h2.block k hk.2 (by simp))) (fun k hk => ⟨by omega, by omega, fun e => by have := (hlt k e).2; omega⟩) hown hgrow hat
  refine ⟨(hkeep z (by omega)).trans h.r0, (hkeep _ (by omega)).trans h.r2, fun k hk => hkeep k (by omega), ?_, ?_, ?_, hck.set (by omega) _, ?_, hzz⟩
  · rw [heap_setCell_other w3 ⟨z + 2, 3, none⟩ z _ (by show z ≠ z + 2; omega)]
    exact (hkeep z (by omega)).trans h.r0
  · rw [heap_setCell_other w3 ⟨z + 2, 3, none⟩ (z + 1) _ (by show z + 1 ≠ z + 2; omega)]
    exact (hkeep _ (by omega)).trans h.r1
  · exact heap_setCell_same w3 (z + 2) 3 _ _ _ ((hkeep _ (by omega)).trans h.r2)
  · exact grown_over hgE (grownBy_setC w3 (z + 2) 3 _) fun k e => by cases e; omega
end
end Go.Proofs.YtlijlgbaikijnaaGreatDoor

namespace Go.Proofs.YtlijlgbaikijnaaGreatDoor
open Go Go.RowKit

theorem infoRExpr : (Tryz.prog.info? 37).map (fun i => (i.zero, i.size, i.bytes)) = some (some (.agg #[.string ⟨#[]⟩, .int .i64 0, .string ⟨#[]⟩, .slice none 0 0]), 4, 64) := by kernel_rfl

theorem len_size : ∀ l : List E, l.length ≤ sizeL l
  | [] => Nat.zero_le _
  | .mk o n m k :: l => by
    have := len_size l
    simp only [sizeL, sizeE, List.length_cons]
    omega

set_option maxHeartbeats 4000000 in
set_option maxRecDepth 100000 in
theorem plain_step (op name : List UInt8) (num : Int) (kids : List E) (ih : ∀ x ∈ kids, Copies 15 x x) (hsz : kids.length ≤ 1000000) : Copies 15 (.mk op num name kids) (.mk op num name kids) := by
  intro v ok w hx hok
  obtain ⟨A, cc, rfl, hcc, hcm, hkr⟩ := hx.form
  unfold maxLen at hcm
  obtain ⟨i0, hi, hz0, hz1, hz2⟩ := info_parts infoRExpr
  obtain ⟨x, hxx⟩ : ∃ x : ByteArray, (⟨op.toArray⟩ : ByteArray) = x := ⟨_, rfl⟩
  obtain ⟨nx, hnx⟩ : ∃ nx : ByteArray, (⟨name.toArray⟩ : ByteArray) = nx := ⟨_, rfl⟩
  obtain ⟨KL, hKL⟩ : ∃ KL, kids.length = KL := ⟨_, rfl⟩
  rw [hxx, hnx]
  rw [hKL] at hcc hsz ⊢
  replace hxx := Lib.hid hxx
  replace hnx := Lib.hid hnx
  replace hKL := Lib.hid hKL
  replace hkr := Lib.hid hkr
  replace hok := Lib.hid hok
  replace ih := Lib.hid ih
  clear hx
  go_enter Tryz.func15, Tryz.ntmps15
  go_upto_region 3 with fail
  have hst := cpSt_new w 30 37 #[.string x, .int .i64 num, .string nx, .slice A KL cc] (.string x) (.int .i64 num) (.string nx)
  have hsw2 : w.heap.size + 1 + 1 = w.heap.size + 2 := rfl
  rw [hsw2]
  obtain ⟨z, hz⟩ : ∃ z, w.heap.size = z := ⟨_, rfl⟩
  rw [hz] at hst ⊢
  obtain ⟨w2, hw2⟩ : ∃ w2, (((w.alloc (.cells #[.string x, .int .i64 num, .string nx, .slice A KL cc] 30)).alloc (.cells #[.string ⟨#[]⟩, .int .i64 0, .string ⟨#[]⟩, .slice none 0 0] 37)).alloc (.cells #[.string x, .int .i64 num, .string nx, .slice none 0 0] 37)) = w2 := ⟨_, rfl⟩
  rw [hw2] at hst ⊢
  replace hst := Lib.hid hst
  replace hz := Lib.hid hz
  clear hw2 hsw2
  go_loopw [4] (fun nv wr => ∃ (m : Nat) (vK : Value) (vs : List (Array Value)), m ≤ KL ∧ nv = .int .i64 (m : Int) ∧ Hid (CpSt w wr z 30 37 #[.string x, .int .i64 num, .string nx, .slice A KL cc] (.string x) (.int .i64 num) (.string nx) vK (kids.take m) vs)) (fun nv _ => KL - (intOf nv).toNat)
  case atStart => exact ⟨0, _, _, Nat.zero_le _, rfl, hst⟩
  case round =>
    obtain ⟨m, vK, vs, hm, rfl, hs⟩ := hrel
    by_cases hlt : m < KL
    · have hlt' : m < kids.length := by rw [hKL.out]; exact hlt
      have hgw := hs.out.gr
      obtain ⟨g, off, v0, v1, v2, v3, rfl, c0, c1, c2, c3, hxk⟩ := kid_at (wr := wr) hkr.out (fun g h => hgw.block g (hok.out g h) (by simp)) m hlt'
      have hgz : g < z := by
        obtain ⟨g', off', he, hg', _⟩ := hkr.out.resolve_left (fun e => by rw [e] at hlt'; simp at hlt')
        cases he
        have h1 := hok.out g hg'
        have h2 := hs.out.zz
        omega
      obtain ⟨AK, cK, hvK⟩ := hs.out.cp.form
      obtain ⟨KM, hKM⟩ : ∃ KM, (kids.take m).length = KM := ⟨_, rfl⟩
      have hKM2 : KM = m := by rw [← hKM]; simp; omega
      rw [hKM] at hvK
      subst hvK
      have hcl := ih.out kids[m] (List.getElem_mem hlt') (.agg #[v0, v1, v2, v3]) ok wr.drew (hxk.keep (w := wr) (w' := wr.drew) (fun _ h => h) (fun _ _ => rfl)) (fun g h => Nat.lt_of_lt_of_le (hok.out g h) hgw.size)
      have q0 : wr.cell? ⟨z + 2, 3, none⟩ = some (.slice AK KM cK) := by rw [cell_of_row wr _ _ _ _ _ hs.out.r2]; rfl
      have q1 : wr.cell? ⟨z, 3, none⟩ = some (.slice (some ⟨g, off, none⟩) KL cc) := by rw [cell_of_row wr _ _ _ _ _ hs.out.r0]; rfl
      have hsz := hs.out.sz
      clear hxk hgw
      obtain ⟨kop, knum, kname, kkids, hkk⟩ : ∃ eo en em el, kids[m] = E.mk eo en em el := by cases kids[m]; exact ⟨_, _, _, _, rfl⟩
      rw [hkk] at hcl
      replace hkk := Lib.hid hkk
      replace hKM := Lib.hid hKM
      replace hKM2 := Lib.hid hKM2
      go_wp2_with fail
      refine wp_region_last (L := 11) (S := (fun w' : World => w'.cell? ⟨z + 2, 3, none⟩ = some (.slice AK KM cK) ∧ w'.cell? ⟨z, 3, none⟩ = some (.slice (some ⟨g, off, none⟩) KL cc) ∧ w'.cell? ⟨g, off + m * 4, none⟩ = some v0 ∧ w'.cell? ⟨g, off + m * 4 + 1, none⟩ = some v1 ∧ w'.cell? ⟨g, off + m * 4 + 2, none⟩ = some v2 ∧ w'.cell? ⟨g, off + m * 4 + 3, none⟩ = some v3)) (by kernel_rfl) ?_
      have hS0 : (fun w' : World => w'.cell? ⟨z + 2, 3, none⟩ = some (.slice AK KM cK) ∧ w'.cell? ⟨z, 3, none⟩ = some (.slice (some ⟨g, off, none⟩) KL cc) ∧ w'.cell? ⟨g, off + m * 4, none⟩ = some v0 ∧ w'.cell? ⟨g, off + m * 4 + 1, none⟩ = some v1 ∧ w'.cell? ⟨g, off + m * 4 + 2, none⟩ = some v2 ∧ w'.cell? ⟨g, off + m * 4 + 3, none⟩ = some v3) wr.drew := ⟨q0, q1, c0, c1, c2, c3⟩
      refine wpAnyT_takeT (n := 40) (i := 0) (v := .pointer (some ⟨z + 2, 3, none⟩)) rfl (by kernel_rfl) (by kernel_rfl) (by kernel_rfl) (by kernel_rfl) (by kernel_rfl) (fun _ _ _ h => h) (Or.inl ⟨by rfl, ?_⟩) hS0 ?_
      · intro W hW
        obtain ⟨k0, k1, k2, k3, k4, k5⟩ := hW
        clear hS0 hcl q0 q1 c0 c1 c2 c3
        go_simp
        try (intro hx; exfalso; omega)
      try simp only [Act.put, List.setIfInBounds_toArray]
      refine wpAnyT_takeT (n := 40) (i := 1) (v := .slice AK KM cK) rfl (by kernel_rfl) (by kernel_rfl) (by kernel_rfl) (by kernel_rfl) (by kernel_rfl) (fun _ _ _ h => h) (Or.inl ⟨by rfl, ?_⟩) hS0 ?_
      · intro W hW
        obtain ⟨k0, k1, k2, k3, k4, k5⟩ := hW
        clear hS0 hcl q0 q1 c0 c1 c2 c3
        go_simp
        try (intro hx; exfalso; omega)
      try simp only [Act.put]
      refine wpAnyT_takeT (n := 40) (i := 2) (v := .pointer (some ⟨z, 3, none⟩)) rfl (by kernel_rfl) (by kernel_rfl) (by kernel_rfl) (by kernel_rfl) (by kernel_rfl) (fun _ _ _ h => h) (Or.inl ⟨by rfl, ?_⟩) hS0 ?_
      · intro W hW
        obtain ⟨k0, k1, k2, k3, k4, k5⟩ := hW
        clear hS0 hcl q0 q1 c0 c1 c2 c3
        go_simp
        try (intro hx; exfalso; omega)
      try simp only [Act.put]
      refine wpAnyT_takeT (n := 40) (i := 3) (v := .slice (some ⟨g, off, none⟩) KL cc) rfl (by kernel_rfl) (by kernel_rfl) (by kernel_rfl) (by kernel_rfl) (by kernel_rfl) (fun _ _ _ h => h) (Or.inl ⟨by rfl, ?_⟩) hS0 ?_
      · intro W hW
        obtain ⟨k0, k1, k2, k3, k4, k5⟩ := hW
        clear hS0 hcl q0 q1 c0 c1 c2 c3
        go_simp
        try (intro hx; exfalso; omega)
      try simp only [Act.put]
      refine wpAnyT_takeT (n := 40) (i := 4) (v := .int .i64 (m : Int)) rfl (by kernel_rfl) (by kernel_rfl) (by kernel_rfl) (by kernel_rfl) (by kernel_rfl) (fun _ _ _ h => h) (Or.inl ⟨by rfl, ?_⟩) hS0 ?_
      · intro W hW
        obtain ⟨k0, k1, k2, k3, k4, k5⟩ := hW
        clear hS0 hcl q0 q1 c0 c1 c2 c3
        go_simp
        try (intro hx; exfalso; omega)
      try simp only [Act.put]
      refine wpAnyT_takeT (n := 40) (i := 5) (v := .pointer (some ⟨g, off + m * 4, none⟩)) rfl (by kernel_rfl) (by kernel_rfl) (by kernel_rfl) (by kernel_rfl) (by kernel_rfl) (fun _ _ _ h => h) (Or.inl ⟨by rfl, ?_⟩) hS0 ?_
      · intro W hW
        obtain ⟨k0, k1, k2, k3, k4, k5⟩ := hW
        clear hS0 hcl q0 q1 c0 c1 c2 c3
        go_simp
        try (intro hx; exfalso; omega)
      try simp only [Act.put]
      refine wpAnyT_takeT (n := 40) (i := 6) (v := .agg #[v0, v1, v2, v3]) rfl (by kernel_rfl) (by kernel_rfl) (by kernel_rfl) (by kernel_rfl) (by kernel_rfl) (fun _ _ _ h => h) (Or.inl ⟨by rfl, ?_⟩) hS0 ?_
      · intro W hW
        obtain ⟨k0, k1, k2, k3, k4, k5⟩ := hW
        clear hS0 hcl q0 q1 c0 c1 c2 c3
        go_simp
        try (intro hx; exfalso; omega)
      try simp only [Act.put]
      clear hS0
      refine wpAnyT_one (i := 7) rfl (by kernel_rfl) rfl ?_
      go_simp
      refine hcl.mono ?_
      rintro e w1 ⟨⟨u, rfl, hu⟩, hg1'⟩
      have hg1 : wr.grownBy w1 none := ⟨hg1'.os, hg1'.tape, hg1'.output, hg1'.size, hg1'.block⟩
      have hu : ExR w1 (fun g => wr.heap.size ≤ g ∧ g < w1.heap.size) (.mk kop knum kname kkids) u := hu
      obtain ⟨uA, uc, rfl, _⟩ := hu.form
      generalize hkl : kkids.length = kl at hu
      have q0 := hg1.cell q0 (by simp)
      have q1 := hg1.cell q1 (by simp)
      have c0 := hg1.cell c0 (by simp)
      have c1 := hg1.cell c1 (by simp)
      have c2 := hg1.cell c2 (by simp)
      have c3 := hg1.cell c3 (by simp)
      clear hcl hg1'
      refine ⟨⟨q0, q1, c0, c1, c2, c3⟩, ?_⟩
      refine wpAnyT_one (i := 8) rfl (by kernel_rfl) rfl ?_
      go_simp
      have hal : w1.grownBy (w1.alloc (.cells #[.string ⟨kop.toArray⟩, .int .i64 knum, .string ⟨kname.toArray⟩, .slice uA kl uc] 37)) none := World.grownBy_alloc _ _ _
      have hnw := new_cells w1 #[.string ⟨kop.toArray⟩, .int .i64 knum, .string ⟨kname.toArray⟩, .slice uA kl uc] 37
      have hsA : (w1.alloc (.cells #[.string ⟨kop.toArray⟩, .int .i64 knum, .string ⟨kname.toArray⟩, .slice uA kl uc] 37)).heap.size = w1.heap.size + 1 := by simp
      generalize w1.alloc (.cells #[.string ⟨kop.toArray⟩, .int .i64 knum, .string ⟨kname.toArray⟩, .slice uA kl uc] 37) = W2 at hal hnw hsA ⊢
      have q0 := hal.cell q0 (by simp)
      have q1 := hal.cell q1 (by simp)
      have c0 := hal.cell c0 (by simp)
      have c1 := hal.cell c1 (by simp)
      have c2 := hal.cell c2 (by simp)
      have c3 := hal.cell c3 (by simp)
      refine ⟨⟨q0, q1, c0, c1, c2, c3⟩, ?_⟩
      refine wpAnyT_one (i := 9) rfl (by kernel_rfl) rfl ?_
      have hown2 := (hs.out.cp.grown (grownBy_trans' hg1 hal)).own
      rw [hKM.out] at hown2
      refine wp_append_lies _ (.tmp 20) (.tmp 27) 35 rfl (z + 3) 37 i0 _ 4 64 Tryz.underlying35 hi hz0 hz1 hz2 rfl (by decide) (.slice AK KM cK) KM (cellsK vs) rfl hown2 ⟨w1.heap.size, 0, none⟩ 1 1 [.string ⟨kop.toArray⟩, .int .i64 knum, .string ⟨kname.toArray⟩, .slice uA kl uc] rfl rfl hnw (by simp [Value.oneCell']) (by decide) (by have := hKM2.out; simp only [maxLen]; omega) (by have := hKM2.out; omega) (by have := hg1.size; omega) (w1.heap.size + 1) hsA ?_
      intro gg cap w3 hown3 hgrow hat hgg
      have hlt := hown2.lt
      rw [← hKM.out] at hown3
      obtain ⟨r0, r2, hold, hst⟩ := hs.out.app hg1 hal rfl hu hown3 hgrow (by rw [hsA]; exact hat)
      have q0 : w3.cell? ⟨z + 2, 3, none⟩ = some (.slice AK KM cK) := by rw [cell_of_row w3 _ _ _ _ _ r2]; rfl
      have q1 : w3.cell? ⟨z, 3, none⟩ = some (.slice (some ⟨g, off, none⟩) KL cc) := by rw [cell_of_row w3 _ _ _ _ _ r0]; rfl
      have hb : some g ≠ (Value.slice AK KM cK).ownBlock := fun e => by have := (hlt g e.symm).1; omega
      have c0 := hgrow.cell c0 hb
      have c1 := hgrow.cell c1 hb
      have c2 := hgrow.cell c2 hb
      have c3 := hgrow.cell c3 hb
      have f0 : w3.frozen? ⟨z + 2, 3, none⟩ = false := frozen_of_row w3 _ _ _ _ r2
      refine ⟨fun _ => ⟨q0, q1, c0, c1, c2, c3⟩, ?_⟩
      try simp only [Act.put, List.setIfInBounds_toArray]
      refine wpAnyT_one (i := 10) rfl (by kernel_rfl) rfl ?_
      go_simp
      refine wpAnyT_one (i := 11) rfl (by kernel_rfl) rfl ?_
      clear hlt hown2 hown3 hgrow hat hal hnw r0 r2 hold c0 c1 c2 c3 hb q1 hs hu hsA
      go_simp
      refine wpAnyT_done (by kernel_rfl) ?_ _
      rw [← hkk.out] at hst
      rw [hKM.out] at hst
      replace hst := Lib.hid hst
      generalize w3.setCell ⟨z + 2, 3, none⟩ (.slice (some ⟨gg, 0, none⟩) (KM + 1) cap) = w4 at hst ⊢
      clear q0 f0
      go_wp2
      go_roundw
      case rel => exact ⟨m + 1, _, _, by omega, by go_num, (by rw [List.take_succ_eq_append_getElem hlt']; exact hst)⟩
      case measure => simp [intOf]; omega
    · obtain rfl : m = KL := by omega
      have hr0 := hs.out.r0
      have hr1 := hs.out.r1
      have hr2 := hs.out.r2
      obtain ⟨AK, cK, hvK⟩ := hs.out.cp.form
      obtain ⟨KM, hKM⟩ : ∃ KM, (kids.take m).length = KM := ⟨_, rfl⟩
      rw [hKM] at hvK
      subst hvK
      have q1 : wr.cell? ⟨z, 3, none⟩ = some (.slice A m cc) := by rw [cell_of_row wr _ _ _ _ _ hr0]; rfl
      have p0 : wr.cell? ⟨z + 1, 0, none⟩ = some (.string ⟨#[]⟩) := by rw [cell_of_row wr _ _ _ _ _ hr1]; rfl
      have p1 : wr.cell? ⟨z + 1, 1, none⟩ = some (.int .i64 0) := by rw [cell_of_row wr _ _ _ _ _ hr1]; rfl
      have p2 : wr.cell? ⟨z + 1, 2, none⟩ = some (.string ⟨#[]⟩) := by rw [cell_of_row wr _ _ _ _ _ hr1]; rfl
      have p3 : wr.cell? ⟨z + 1, 3, none⟩ = some (.slice none 0 0) := by rw [cell_of_row wr _ _ _ _ _ hr1]; rfl
      have f0 : wr.frozen? ⟨z + 1, 0, none⟩ = false := frozen_of_row wr _ _ _ _ hr1
      have f1 : wr.frozen? ⟨z + 1, 1, none⟩ = false := frozen_of_row wr _ _ _ _ hr1
      have f2 : wr.frozen? ⟨z + 1, 2, none⟩ = false := frozen_of_row wr _ _ _ _ hr1
      have f3 : wr.frozen? ⟨z + 1, 3, none⟩ = false := frozen_of_row wr _ _ _ _ hr1
      have d0 : wr.cell? ⟨z + 2, 0, none⟩ = some (.string x) := by rw [cell_of_row wr _ _ _ _ _ hr2]; rfl
      have d1 : wr.cell? ⟨z + 2, 1, none⟩ = some (.int .i64 num) := by rw [cell_of_row wr _ _ _ _ _ hr2]; rfl
      have d2 : wr.cell? ⟨z + 2, 2, none⟩ = some (.string nx) := by rw [cell_of_row wr _ _ _ _ _ hr2]; rfl
      have d3 : wr.cell? ⟨z + 2, 3, none⟩ = some (.slice AK KM cK) := by rw [cell_of_row wr _ _ _ _ _ hr2]; rfl
      clear hr0 hr1 hr2
      replace hKM := Lib.hid hKM
      go_wp2
      obtain ⟨W, hW, e0, e1, e2, e3, hgW, _⟩ := set_four (.string x) (.int .i64 num) (.string nx) (.slice AK KM cK) p0 p1 p2 p3
      rw [hW]
      refine bodyPost_ret (v := .agg #[.string x, .int .i64 num, .string nx, .slice AK KM cK]) (by simp [results, Tryz.results15, go_sem, e0, e1, e2, e3]) rfl ?_
      have hsz := hs.out.sz
      have hck := hs.out.cp.keep (w' := W) (fun g hg hl => hgW.block g hl (fun e => by cases e; omega)) hgW.size
      have hfin := hck.fin (b := w.heap.size) (by have := hs.out.zz; omega) op name num
      rw [List.take_of_length_le (by rw [hKL.out]; omega)] at hfin
      unfold exC at hfin
      rw [hxx.out, hnx.out] at hfin
      exact ⟨⟨_, rfl, hfin⟩, grown_over hs.out.gr hgW fun k e => by cases e; have := hs.out.zz; omega⟩
theorem plain_all : ∀ (n : Nat) (x : E), sizeE x ≤ n → sizeE x ≤ 1000000 → Copies 15 x x
  | 0, .mk _ _ _ _, h, _ => by unfold sizeE at h; omega
  | n + 1, .mk op num name kids, h, h6 => by
    unfold sizeE at h h6
    refine plain_step op name num kids (fun x hx => plain_all n x (by have := sizeL.mem x hx; omega) (by have := sizeL.mem x hx; omega)) ?_
    have := len_size kids
    omega
theorem plain_any (x : E) (h : sizeE x ≤ 1000000) : Copies 15 x x := plain_all _ x (Nat.le_refl _) h
end Go.Proofs.YtlijlgbaikijnaaGreatDoor
