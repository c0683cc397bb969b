/-
  How an expression that may be shown is told, by the reference. Conditions: at most 600 Ops; names of at most a million bytes; numbers of 64 bits.
  The reference's Show; SumsShows answers true. Conditions: the table of powers of ten holds them; numbers of 64 bits; no row of Kids is longer than memory can hold.
-/
import Derived.Test.YtlijlgbaikijnaaGreatDoorSmRRight
import Derived.Test.YtlijlgbaikijnaaGreatDoorSmRText
import Derived.Test.YtlijlgbaikijnaaGreatDoorSmBack2
import Derived.Laws.Concat
namespace Go.Proofs.YtlijlgbaikijnaaGreatDoor
open Go Go.RowKit

theorem add_str (l m : List UInt8) (h : l.length + m.length ≤ 10000000000) (W : World) : (Op.stringOp .add ⟨l.toArray⟩ ⟨m.toArray⟩).run Tryz.prog W = .ok (.string ⟨(l ++ m).toArray⟩) W := by
  rw [run_string_add_sum W ⟨l.toArray⟩ ⟨m.toArray⟩ (by show l.toArray.size + m.toArray.size ≤ _; rw [List.size_toArray, List.size_toArray]; omega)]
  congr 2
theorem show_len : ∀ (n : Nat) (x : E), sizeE x ≤ n → rightE x = true → NumE x → ShortE x → (showE x).length ≤ 3000000 * sizeE x
  | 0, .mk _ _ _ _, h, _, _, _ => by unfold sizeE at h; omega
  | n + 1, .mk op num name kids, h, hr, hn, hs => by
    have hK := (right_parts hr).1
    have hrk := (right_parts hr).2.2.2
    have hnk := numL_mem hn
    have hop := right_short hr
    unfold sizeE at h
    unfold ShortE at hs
    unfold NumE at hn
    have ih : ∀ x ∈ kids, (showE x).length ≤ 3000000 * sizeE x := fun x hx => show_len n x (by have := sizeL.mem x hx; omega) (hrk x hx) (hnk x hx) (hs.2.mem x hx)
    rw [showE, sizeE]
    by_cases e1 : op = [110, 117, 109]
    · rw [if_pos e1]
      have := itoa_small hn.1.1 hn.1.2
      omega
    rw [if_neg e1]
    by_cases e2 : op = [110, 97, 109, 101]
    · rw [if_pos e2]; omega
    rw [if_neg e2]
    have hm := markV_len op
    match kids, ih, hK with
    | [], _, _ => simp [showL, bodyS]; omega
    | [a], ih, _ =>
      have := ih a (by simp)
      simp only [showL, bodyS, sizeL, List.length_append, List.length_cons, List.length_nil]
      split <;> (try simp only [List.length_append]) <;> omega
    | [a, b], ih, _ =>
      have h1 := ih a (by simp)
      have h2 := ih b (by simp)
      simp only [showL, bodyS, sizeL, List.length_append, List.length_cons, List.length_nil]
      omega
    | [a, b, c], ih, _ =>
      have h1 := ih a (by simp)
      have h2 := ih b (by simp)
      have h3 := ih c (by simp)
      simp only [showL, bodyS, sizeL, List.length_append, List.length_cons, List.length_nil]
      omega
    | a :: b :: c :: d :: l, _, hK =>
      exfalso
      simp only [List.length_cons] at hK
      have := kidsV_cases op
      omega
/-- What the reference tells of an expression. -/
def RSh (x : E) : Prop := Answers 41 x (.string ⟨(showE x).toArray⟩)
theorem asg_none {m : List UInt8} (h : asgV m = true) : (m == [110, 117, 109]) = false ∧ (m == [110, 97, 109, 101]) = false ∧ (m == [110, 101, 103]) = false ∧ (m == [112, 111, 115]) = false ∧ (m == [110, 111, 116]) = false ∧ (m == [99, 111, 109]) = false ∧ (m == [63]) = false := by
  have hm := asg_mem (l := m) (by rw [h]; decide)
  have : ∀ m ∈ allM, asgV m = true → (m == [110, 117, 109]) = false ∧ (m == [110, 97, 109, 101]) = false ∧ (m == [110, 101, 103]) = false ∧ (m == [112, 111, 115]) = false ∧ (m == [110, 111, 116]) = false ∧ (m == [99, 111, 109]) = false ∧ (m == [63]) = false := by decide +kernel
  exact this m hm h
theorem row_none {m : List UInt8} (h : 0 < rowV m) : (m == [110, 117, 109]) = false ∧ (m == [110, 97, 109, 101]) = false ∧ (m == [110, 101, 103]) = false ∧ (m == [112, 111, 115]) = false ∧ (m == [110, 111, 116]) = false ∧ (m == [99, 111, 109]) = false ∧ (m == [63]) = false := by
  have hm := row_mem (l := m) (by omega)
  have : ∀ m ∈ allM, 0 < rowV m → (m == [110, 117, 109]) = false ∧ (m == [110, 97, 109, 101]) = false ∧ (m == [110, 101, 103]) = false ∧ (m == [112, 111, 115]) = false ∧ (m == [110, 111, 116]) = false ∧ (m == [99, 111, 109]) = false ∧ (m == [63]) = false := by decide +kernel
  exact this m hm h

set_option maxHeartbeats 8000000 in
set_option maxRecDepth 100000 in
theorem rsh_num (op name : List UInt8) (num : Int) (hop : op = [110, 117, 109]) (hn : InR num) : RSh (.mk op num name []) := by
  intro v ok w hx hok
  obtain ⟨A, cc, rfl, hcc, hcm, hkr⟩ := hx.form
  unfold maxLen at hcm
  simp only [List.length_nil] at hcc ⊢
  obtain ⟨x, hxx⟩ : ∃ x : ByteArray, (⟨op.toArray⟩ : ByteArray) = x := ⟨_, rfl⟩
  obtain ⟨nx, hnx⟩ : ∃ nx : ByteArray, (⟨name.toArray⟩ : ByteArray) = nx := ⟨_, rfl⟩
  have hxt : tl x = op := by rw [← hxx]; rfl
  have hxl : x.toList = op := by rw [Lib.toList_data]; exact hxt
  have gnum : (x.toList == [110, 117, 109]) = true := by rw [hxl, hop]; decide
  have gname : (x.toList == [110, 97, 109, 101]) = false := by rw [hxl, hop]; decide
  have gneg : (x.toList == [110, 101, 103]) = false := by rw [hxl, hop]; decide
  have gpos : (x.toList == [112, 111, 115]) = false := by rw [hxl, hop]; decide
  have gnot : (x.toList == [110, 111, 116]) = false := by rw [hxl, hop]; decide
  have gcom : (x.toList == [99, 111, 109]) = false := by rw [hxl, hop]; decide
  have gq : (x.toList == [63]) = false := by rw [hxl, hop]; decide
  rw [hxx, hnx]
  obtain ⟨T, hT⟩ : ∃ T : ByteArray, (⟨(showE (.mk op num name [])).toArray⟩ : ByteArray) = T := ⟨_, rfl⟩
  rw [hT]
  have hsh : showE (.mk op num name []) = Lib.itoa num := by rw [showE, if_pos hop]
  rw [hsh] at hT
  have hrt := fun W => rText_any num hn W
  unfold TextR at hrt
  rw [hT] at hrt
  clear hx hxx hnx hxt hxl hT hsh hop
  go_enter Tryz.func41, Tryz.ntmps41
  go_upto_region 1 with fail
  obtain ⟨w2, hW2, hs2, hgr, hcz, hfz, hold⟩ := one_new w #[.string x, .int .i64 num, .string nx, .slice A 0 cc] 37
  rw [hW2]
  obtain ⟨z, hz⟩ : ∃ z, w.heap.size = z := ⟨_, rfl⟩
  rw [hz] at hcz hs2 ⊢
  have q0 := hcz 0 _ rfl
  have q1 := hcz 1 _ rfl
  have q2 := hcz 2 _ rfl
  have q3 := hcz 3 _ rfl
  have hg2 := hgr none
  replace hz := Lib.hid hz
  clear hW2 hgr hcz hfz hold hs2
  have hrt2 := hrt w2
  clear hrt
  go_wp2_with fail
  refine hrt2.mono ?_
  rintro e w3 ⟨rfl, hg3⟩
  have hgE := grownBy_trans' hg2 hg3
  go_wp2
  go_ret
  exact ⟨rfl, hgE⟩

set_option maxHeartbeats 8000000 in
set_option maxRecDepth 100000 in
theorem rsh_name (op name : List UInt8) (num : Int) (hop : op = [110, 97, 109, 101]) : RSh (.mk op num name []) := by
  intro v ok w hx hok
  obtain ⟨A, cc, rfl, hcc, hcm, hkr⟩ := hx.form
  unfold maxLen at hcm
  simp only [List.length_nil] at hcc ⊢
  obtain ⟨x, hxx⟩ : ∃ x : ByteArray, (⟨op.toArray⟩ : ByteArray) = x := ⟨_, rfl⟩
  obtain ⟨nx, hnx⟩ : ∃ nx : ByteArray, (⟨name.toArray⟩ : ByteArray) = nx := ⟨_, rfl⟩
  have hxt : tl x = op := by rw [← hxx]; rfl
  have hxl : x.toList = op := by rw [Lib.toList_data]; exact hxt
  have gnum : (x.toList == [110, 117, 109]) = false := by rw [hxl, hop]; decide
  have gname : (x.toList == [110, 97, 109, 101]) = true := by rw [hxl, hop]; decide
  have gneg : (x.toList == [110, 101, 103]) = false := by rw [hxl, hop]; decide
  have gpos : (x.toList == [112, 111, 115]) = false := by rw [hxl, hop]; decide
  have gnot : (x.toList == [110, 111, 116]) = false := by rw [hxl, hop]; decide
  have gcom : (x.toList == [99, 111, 109]) = false := by rw [hxl, hop]; decide
  have gq : (x.toList == [63]) = false := by rw [hxl, hop]; decide
  rw [hxx, hnx]
  obtain ⟨T, hT⟩ : ∃ T : ByteArray, (⟨(showE (.mk op num name [])).toArray⟩ : ByteArray) = T := ⟨_, rfl⟩
  rw [hT]
  have hsh : showE (.mk op num name []) = name := by rw [showE, if_neg (by rw [hop]; decide), if_pos hop]
  rw [hsh, hnx] at hT
  subst hT
  clear hx hxx hnx hxt hxl hsh hop
  go_enter Tryz.func41, Tryz.ntmps41
  go_upto_region 1 with fail
  obtain ⟨w2, hW2, hs2, hgr, hcz, hfz, hold⟩ := one_new w #[.string x, .int .i64 num, .string nx, .slice A 0 cc] 37
  rw [hW2]
  obtain ⟨z, hz⟩ : ∃ z, w.heap.size = z := ⟨_, rfl⟩
  rw [hz] at hcz hs2 ⊢
  have q0 := hcz 0 _ rfl
  have q1 := hcz 1 _ rfl
  have q2 := hcz 2 _ rfl
  have q3 := hcz 3 _ rfl
  have hg2 := hgr none
  replace hz := Lib.hid hz
  clear hW2 hgr hcz hfz hold hs2
  go_wp2
  go_ret
  exact ⟨rfl, hg2⟩

set_option maxHeartbeats 8000000 in
set_option maxRecDepth 100000 in
theorem rsh_neg (op name : List UInt8) (num : Int) (a : E) (hop : op = [110, 101, 103]) (iha : RSh a) (hla : (showE a).length ≤ 2000000000) : RSh (.mk op num name [a]) := by
  intro v ok w hx hok
  obtain ⟨A, cc, rfl, hcc, hcm, hkr⟩ := hx.form
  obtain ⟨g, off, rfl, hgo, hkr⟩ := hkr.resolve_left (by simp)
  obtain ⟨a0, a1, a2, a3, ca0, ca1, ca2, ca3, hka⟩ := hkr.at_ 0 (by simp)
  simp only [List.getElem_cons_zero, Nat.zero_mul, Nat.add_zero] at ca0 ca1 ca2 ca3 hka
  have hgl := hok g hgo
  have iha := fun W (hW : w.grownBy W none) => iha _ ok W (hka.keep (fun _ h => h) (fun g h => hW.block g (hok g h) (by simp))) (fun g h => Nat.lt_of_lt_of_le (hok g h) hW.size)
  unfold maxLen at hcm
  simp only [List.length_cons, List.length_nil, Nat.zero_add] at hcc ⊢
  obtain ⟨x, hxx⟩ : ∃ x : ByteArray, (⟨op.toArray⟩ : ByteArray) = x := ⟨_, rfl⟩
  obtain ⟨nx, hnx⟩ : ∃ nx : ByteArray, (⟨name.toArray⟩ : ByteArray) = nx := ⟨_, rfl⟩
  have hxt : tl x = op := by rw [← hxx]; rfl
  have hxl : x.toList = op := by rw [Lib.toList_data]; exact hxt
  have gnum : (x.toList == [110, 117, 109]) = false := by rw [hxl, hop]; decide
  have gname : (x.toList == [110, 97, 109, 101]) = false := by rw [hxl, hop]; decide
  have gneg : (x.toList == [110, 101, 103]) = true := by rw [hxl, hop]; decide
  have gpos : (x.toList == [112, 111, 115]) = false := by rw [hxl, hop]; decide
  have gnot : (x.toList == [110, 111, 116]) = false := by rw [hxl, hop]; decide
  have gcom : (x.toList == [99, 111, 109]) = false := by rw [hxl, hop]; decide
  have gq : (x.toList == [63]) = false := by rw [hxl, hop]; decide
  rw [hxx, hnx]
  obtain ⟨T, hT⟩ : ∃ T : ByteArray, (⟨(showE (.mk op num name [a])).toArray⟩ : ByteArray) = T := ⟨_, rfl⟩
  rw [hT]
  have hsh : showE (.mk op num name [a]) = ([40, 45] ++ showE a) ++ [41] := by rw [showE, if_neg (by rw [hop]; decide), if_neg (by rw [hop]; decide), hop]; rfl
  rw [hsh] at hT
  obtain ⟨TA, hTA⟩ : ∃ T : ByteArray, (⟨(showE a).toArray⟩ : ByteArray) = T := ⟨_, rfl⟩
  obtain ⟨T1, hT1⟩ : ∃ T : ByteArray, (⟨([40, 45] ++ showE a).toArray⟩ : ByteArray) = T := ⟨_, rfl⟩
  have ha1 : ∀ W, (Op.stringOp .add ⟨#[40, 45]⟩ TA).run Tryz.prog W = .ok (.string T1) W := fun W => by rw [← hTA, ← hT1]; exact add_str [40, 45] (showE a) (by simp; omega) W
  have ha2 : ∀ W, (Op.stringOp .add T1 ⟨#[41]⟩).run Tryz.prog W = .ok (.string T) W := fun W => by rw [← hT1, ← hT]; exact add_str ([40, 45] ++ showE a) [41] (by simp; omega) W
  rw [hTA] at iha
  clear hx hkr hka hxx hnx hxt hxl hT hsh hop hTA hT1 hla
  go_enter Tryz.func41, Tryz.ntmps41
  go_upto_region 1 with fail
  obtain ⟨w2, hW2, hs2, hgr, hcz, hfz, hold⟩ := one_new w #[.string x, .int .i64 num, .string nx, .slice (some ⟨g, off, none⟩) 1 cc] 37
  rw [hW2]
  obtain ⟨z, hz⟩ : ∃ z, w.heap.size = z := ⟨_, rfl⟩
  rw [hz] at hcz hs2 ⊢
  have q0 := hcz 0 _ rfl
  have q1 := hcz 1 _ rfl
  have q2 := hcz 2 _ rfl
  have q3 := hcz 3 _ rfl
  have ca0 := (World.cell?_of_block (a := ⟨g, off, none⟩) (hold g hgl)).trans ca0
  have ca1 := (World.cell?_of_block (a := ⟨g, off + 1, none⟩) (hold g hgl)).trans ca1
  have ca2 := (World.cell?_of_block (a := ⟨g, off + 2, none⟩) (hold g hgl)).trans ca2
  have ca3 := (World.cell?_of_block (a := ⟨g, off + 3, none⟩) (hold g hgl)).trans ca3
  have hg2 := hgr none
  replace hz := Lib.hid hz
  clear hW2 hgr hcz hfz hold hs2
  have iha2 := iha w2 hg2
  clear iha
  go_wp2_with fail
  refine iha2.mono ?_
  rintro e w3 ⟨rfl, hg3⟩
  have hgE := grownBy_trans' hg2 hg3
  clear iha2
  go_wp2
  go_ret
  exact ⟨rfl, hgE⟩

set_option maxHeartbeats 8000000 in
set_option maxRecDepth 100000 in
theorem rsh_pos (op name : List UInt8) (num : Int) (a : E) (hop : op = [112, 111, 115]) (iha : RSh a) (hla : (showE a).length ≤ 2000000000) : RSh (.mk op num name [a]) := by
  intro v ok w hx hok
  obtain ⟨A, cc, rfl, hcc, hcm, hkr⟩ := hx.form
  obtain ⟨g, off, rfl, hgo, hkr⟩ := hkr.resolve_left (by simp)
  obtain ⟨a0, a1, a2, a3, ca0, ca1, ca2, ca3, hka⟩ := hkr.at_ 0 (by simp)
  simp only [List.getElem_cons_zero, Nat.zero_mul, Nat.add_zero] at ca0 ca1 ca2 ca3 hka
  have hgl := hok g hgo
  have iha := fun W (hW : w.grownBy W none) => iha _ ok W (hka.keep (fun _ h => h) (fun g h => hW.block g (hok g h) (by simp))) (fun g h => Nat.lt_of_lt_of_le (hok g h) hW.size)
  unfold maxLen at hcm
  simp only [List.length_cons, List.length_nil, Nat.zero_add] at hcc ⊢
  obtain ⟨x, hxx⟩ : ∃ x : ByteArray, (⟨op.toArray⟩ : ByteArray) = x := ⟨_, rfl⟩
  obtain ⟨nx, hnx⟩ : ∃ nx : ByteArray, (⟨name.toArray⟩ : ByteArray) = nx := ⟨_, rfl⟩
  have hxt : tl x = op := by rw [← hxx]; rfl
  have hxl : x.toList = op := by rw [Lib.toList_data]; exact hxt
  have gnum : (x.toList == [110, 117, 109]) = false := by rw [hxl, hop]; decide
  have gname : (x.toList == [110, 97, 109, 101]) = false := by rw [hxl, hop]; decide
  have gneg : (x.toList == [110, 101, 103]) = false := by rw [hxl, hop]; decide
  have gpos : (x.toList == [112, 111, 115]) = true := by rw [hxl, hop]; decide
  have gnot : (x.toList == [110, 111, 116]) = false := by rw [hxl, hop]; decide
  have gcom : (x.toList == [99, 111, 109]) = false := by rw [hxl, hop]; decide
  have gq : (x.toList == [63]) = false := by rw [hxl, hop]; decide
  rw [hxx, hnx]
  obtain ⟨T, hT⟩ : ∃ T : ByteArray, (⟨(showE (.mk op num name [a])).toArray⟩ : ByteArray) = T := ⟨_, rfl⟩
  rw [hT]
  have hsh : showE (.mk op num name [a]) = ([40, 43] ++ showE a) ++ [41] := by rw [showE, if_neg (by rw [hop]; decide), if_neg (by rw [hop]; decide), hop]; rfl
  rw [hsh] at hT
  obtain ⟨TA, hTA⟩ : ∃ T : ByteArray, (⟨(showE a).toArray⟩ : ByteArray) = T := ⟨_, rfl⟩
  obtain ⟨T1, hT1⟩ : ∃ T : ByteArray, (⟨([40, 43] ++ showE a).toArray⟩ : ByteArray) = T := ⟨_, rfl⟩
  have ha1 : ∀ W, (Op.stringOp .add ⟨#[40, 43]⟩ TA).run Tryz.prog W = .ok (.string T1) W := fun W => by rw [← hTA, ← hT1]; exact add_str [40, 43] (showE a) (by simp; omega) W
  have ha2 : ∀ W, (Op.stringOp .add T1 ⟨#[41]⟩).run Tryz.prog W = .ok (.string T) W := fun W => by rw [← hT1, ← hT]; exact add_str ([40, 43] ++ showE a) [41] (by simp; omega) W
  rw [hTA] at iha
  clear hx hkr hka hxx hnx hxt hxl hT hsh hop hTA hT1 hla
  go_enter Tryz.func41, Tryz.ntmps41
  go_upto_region 1 with fail
  obtain ⟨w2, hW2, hs2, hgr, hcz, hfz, hold⟩ := one_new w #[.string x, .int .i64 num, .string nx, .slice (some ⟨g, off, none⟩) 1 cc] 37
  rw [hW2]
  obtain ⟨z, hz⟩ : ∃ z, w.heap.size = z := ⟨_, rfl⟩
  rw [hz] at hcz hs2 ⊢
  have q0 := hcz 0 _ rfl
  have q1 := hcz 1 _ rfl
  have q2 := hcz 2 _ rfl
  have q3 := hcz 3 _ rfl
  have ca0 := (World.cell?_of_block (a := ⟨g, off, none⟩) (hold g hgl)).trans ca0
  have ca1 := (World.cell?_of_block (a := ⟨g, off + 1, none⟩) (hold g hgl)).trans ca1
  have ca2 := (World.cell?_of_block (a := ⟨g, off + 2, none⟩) (hold g hgl)).trans ca2
  have ca3 := (World.cell?_of_block (a := ⟨g, off + 3, none⟩) (hold g hgl)).trans ca3
  have hg2 := hgr none
  replace hz := Lib.hid hz
  clear hW2 hgr hcz hfz hold hs2
  have iha2 := iha w2 hg2
  clear iha
  go_wp2_with fail
  refine iha2.mono ?_
  rintro e w3 ⟨rfl, hg3⟩
  have hgE := grownBy_trans' hg2 hg3
  clear iha2
  go_wp2
  go_ret
  exact ⟨rfl, hgE⟩

set_option maxHeartbeats 8000000 in
set_option maxRecDepth 100000 in
theorem rsh_not (op name : List UInt8) (num : Int) (a : E) (hop : op = [110, 111, 116]) (iha : RSh a) (hla : (showE a).length ≤ 2000000000) : RSh (.mk op num name [a]) := by
  intro v ok w hx hok
  obtain ⟨A, cc, rfl, hcc, hcm, hkr⟩ := hx.form
  obtain ⟨g, off, rfl, hgo, hkr⟩ := hkr.resolve_left (by simp)
  obtain ⟨a0, a1, a2, a3, ca0, ca1, ca2, ca3, hka⟩ := hkr.at_ 0 (by simp)
  simp only [List.getElem_cons_zero, Nat.zero_mul, Nat.add_zero] at ca0 ca1 ca2 ca3 hka
  have hgl := hok g hgo
  have iha := fun W (hW : w.grownBy W none) => iha _ ok W (hka.keep (fun _ h => h) (fun g h => hW.block g (hok g h) (by simp))) (fun g h => Nat.lt_of_lt_of_le (hok g h) hW.size)
  unfold maxLen at hcm
  simp only [List.length_cons, List.length_nil, Nat.zero_add] at hcc ⊢
  obtain ⟨x, hxx⟩ : ∃ x : ByteArray, (⟨op.toArray⟩ : ByteArray) = x := ⟨_, rfl⟩
  obtain ⟨nx, hnx⟩ : ∃ nx : ByteArray, (⟨name.toArray⟩ : ByteArray) = nx := ⟨_, rfl⟩
  have hxt : tl x = op := by rw [← hxx]; rfl
  have hxl : x.toList = op := by rw [Lib.toList_data]; exact hxt
  have gnum : (x.toList == [110, 117, 109]) = false := by rw [hxl, hop]; decide
  have gname : (x.toList == [110, 97, 109, 101]) = false := by rw [hxl, hop]; decide
  have gneg : (x.toList == [110, 101, 103]) = false := by rw [hxl, hop]; decide
  have gpos : (x.toList == [112, 111, 115]) = false := by rw [hxl, hop]; decide
  have gnot : (x.toList == [110, 111, 116]) = true := by rw [hxl, hop]; decide
  have gcom : (x.toList == [99, 111, 109]) = false := by rw [hxl, hop]; decide
  have gq : (x.toList == [63]) = false := by rw [hxl, hop]; decide
  rw [hxx, hnx]
  obtain ⟨T, hT⟩ : ∃ T : ByteArray, (⟨(showE (.mk op num name [a])).toArray⟩ : ByteArray) = T := ⟨_, rfl⟩
  rw [hT]
  have hsh : showE (.mk op num name [a]) = ([40, 33] ++ showE a) ++ [41] := by rw [showE, if_neg (by rw [hop]; decide), if_neg (by rw [hop]; decide), hop]; rfl
  rw [hsh] at hT
  obtain ⟨TA, hTA⟩ : ∃ T : ByteArray, (⟨(showE a).toArray⟩ : ByteArray) = T := ⟨_, rfl⟩
  obtain ⟨T1, hT1⟩ : ∃ T : ByteArray, (⟨([40, 33] ++ showE a).toArray⟩ : ByteArray) = T := ⟨_, rfl⟩
  have ha1 : ∀ W, (Op.stringOp .add ⟨#[40, 33]⟩ TA).run Tryz.prog W = .ok (.string T1) W := fun W => by rw [← hTA, ← hT1]; exact add_str [40, 33] (showE a) (by simp; omega) W
  have ha2 : ∀ W, (Op.stringOp .add T1 ⟨#[41]⟩).run Tryz.prog W = .ok (.string T) W := fun W => by rw [← hT1, ← hT]; exact add_str ([40, 33] ++ showE a) [41] (by simp; omega) W
  rw [hTA] at iha
  clear hx hkr hka hxx hnx hxt hxl hT hsh hop hTA hT1 hla
  go_enter Tryz.func41, Tryz.ntmps41
  go_upto_region 1 with fail
  obtain ⟨w2, hW2, hs2, hgr, hcz, hfz, hold⟩ := one_new w #[.string x, .int .i64 num, .string nx, .slice (some ⟨g, off, none⟩) 1 cc] 37
  rw [hW2]
  obtain ⟨z, hz⟩ : ∃ z, w.heap.size = z := ⟨_, rfl⟩
  rw [hz] at hcz hs2 ⊢
  have q0 := hcz 0 _ rfl
  have q1 := hcz 1 _ rfl
  have q2 := hcz 2 _ rfl
  have q3 := hcz 3 _ rfl
  have ca0 := (World.cell?_of_block (a := ⟨g, off, none⟩) (hold g hgl)).trans ca0
  have ca1 := (World.cell?_of_block (a := ⟨g, off + 1, none⟩) (hold g hgl)).trans ca1
  have ca2 := (World.cell?_of_block (a := ⟨g, off + 2, none⟩) (hold g hgl)).trans ca2
  have ca3 := (World.cell?_of_block (a := ⟨g, off + 3, none⟩) (hold g hgl)).trans ca3
  have hg2 := hgr none
  replace hz := Lib.hid hz
  clear hW2 hgr hcz hfz hold hs2
  have iha2 := iha w2 hg2
  clear iha
  go_wp2_with fail
  refine iha2.mono ?_
  rintro e w3 ⟨rfl, hg3⟩
  have hgE := grownBy_trans' hg2 hg3
  clear iha2
  go_wp2
  go_ret
  exact ⟨rfl, hgE⟩

set_option maxHeartbeats 8000000 in
set_option maxRecDepth 100000 in
theorem rsh_com (op name : List UInt8) (num : Int) (a : E) (hop : op = [99, 111, 109]) (iha : RSh a) (hla : (showE a).length ≤ 2000000000) : RSh (.mk op num name [a]) := by
  intro v ok w hx hok
  obtain ⟨A, cc, rfl, hcc, hcm, hkr⟩ := hx.form
  obtain ⟨g, off, rfl, hgo, hkr⟩ := hkr.resolve_left (by simp)
  obtain ⟨a0, a1, a2, a3, ca0, ca1, ca2, ca3, hka⟩ := hkr.at_ 0 (by simp)
  simp only [List.getElem_cons_zero, Nat.zero_mul, Nat.add_zero] at ca0 ca1 ca2 ca3 hka
  have hgl := hok g hgo
  have iha := fun W (hW : w.grownBy W none) => iha _ ok W (hka.keep (fun _ h => h) (fun g h => hW.block g (hok g h) (by simp))) (fun g h => Nat.lt_of_lt_of_le (hok g h) hW.size)
  unfold maxLen at hcm
  simp only [List.length_cons, List.length_nil, Nat.zero_add] at hcc ⊢
  obtain ⟨x, hxx⟩ : ∃ x : ByteArray, (⟨op.toArray⟩ : ByteArray) = x := ⟨_, rfl⟩
  obtain ⟨nx, hnx⟩ : ∃ nx : ByteArray, (⟨name.toArray⟩ : ByteArray) = nx := ⟨_, rfl⟩
  have hxt : tl x = op := by rw [← hxx]; rfl
  have hxl : x.toList = op := by rw [Lib.toList_data]; exact hxt
  have gnum : (x.toList == [110, 117, 109]) = false := by rw [hxl, hop]; decide
  have gname : (x.toList == [110, 97, 109, 101]) = false := by rw [hxl, hop]; decide
  have gneg : (x.toList == [110, 101, 103]) = false := by rw [hxl, hop]; decide
  have gpos : (x.toList == [112, 111, 115]) = false := by rw [hxl, hop]; decide
  have gnot : (x.toList == [110, 111, 116]) = false := by rw [hxl, hop]; decide
  have gcom : (x.toList == [99, 111, 109]) = true := by rw [hxl, hop]; decide
  have gq : (x.toList == [63]) = false := by rw [hxl, hop]; decide
  rw [hxx, hnx]
  obtain ⟨T, hT⟩ : ∃ T : ByteArray, (⟨(showE (.mk op num name [a])).toArray⟩ : ByteArray) = T := ⟨_, rfl⟩
  rw [hT]
  have hsh : showE (.mk op num name [a]) = ([40, 126] ++ showE a) ++ [41] := by rw [showE, if_neg (by rw [hop]; decide), if_neg (by rw [hop]; decide), hop]; rfl
  rw [hsh] at hT
  obtain ⟨TA, hTA⟩ : ∃ T : ByteArray, (⟨(showE a).toArray⟩ : ByteArray) = T := ⟨_, rfl⟩
  obtain ⟨T1, hT1⟩ : ∃ T : ByteArray, (⟨([40, 126] ++ showE a).toArray⟩ : ByteArray) = T := ⟨_, rfl⟩
  have ha1 : ∀ W, (Op.stringOp .add ⟨#[40, 126]⟩ TA).run Tryz.prog W = .ok (.string T1) W := fun W => by rw [← hTA, ← hT1]; exact add_str [40, 126] (showE a) (by simp; omega) W
  have ha2 : ∀ W, (Op.stringOp .add T1 ⟨#[41]⟩).run Tryz.prog W = .ok (.string T) W := fun W => by rw [← hT1, ← hT]; exact add_str ([40, 126] ++ showE a) [41] (by simp; omega) W
  rw [hTA] at iha
  clear hx hkr hka hxx hnx hxt hxl hT hsh hop hTA hT1 hla
  go_enter Tryz.func41, Tryz.ntmps41
  go_upto_region 1 with fail
  obtain ⟨w2, hW2, hs2, hgr, hcz, hfz, hold⟩ := one_new w #[.string x, .int .i64 num, .string nx, .slice (some ⟨g, off, none⟩) 1 cc] 37
  rw [hW2]
  obtain ⟨z, hz⟩ : ∃ z, w.heap.size = z := ⟨_, rfl⟩
  rw [hz] at hcz hs2 ⊢
  have q0 := hcz 0 _ rfl
  have q1 := hcz 1 _ rfl
  have q2 := hcz 2 _ rfl
  have q3 := hcz 3 _ rfl
  have ca0 := (World.cell?_of_block (a := ⟨g, off, none⟩) (hold g hgl)).trans ca0
  have ca1 := (World.cell?_of_block (a := ⟨g, off + 1, none⟩) (hold g hgl)).trans ca1
  have ca2 := (World.cell?_of_block (a := ⟨g, off + 2, none⟩) (hold g hgl)).trans ca2
  have ca3 := (World.cell?_of_block (a := ⟨g, off + 3, none⟩) (hold g hgl)).trans ca3
  have hg2 := hgr none
  replace hz := Lib.hid hz
  clear hW2 hgr hcz hfz hold hs2
  have iha2 := iha w2 hg2
  clear iha
  go_wp2_with fail
  refine iha2.mono ?_
  rintro e w3 ⟨rfl, hg3⟩
  have hgE := grownBy_trans' hg2 hg3
  clear iha2
  go_wp2
  go_ret
  exact ⟨rfl, hgE⟩

set_option maxHeartbeats 8000000 in
set_option maxRecDepth 100000 in
theorem rsh_three (op name : List UInt8) (num : Int) (a b c : E) (hop : op = [63]) (iha : RSh a) (ihb : RSh b) (ihc : RSh c) (hla : (showE a).length ≤ 2000000000) (hlb : (showE b).length ≤ 2000000000) (hlc : (showE c).length ≤ 2000000000) : RSh (.mk op num name [a, b, c]) := by
  intro v ok w hx hok
  obtain ⟨A, cc, rfl, hcc, hcm, hkr⟩ := hx.form
  obtain ⟨g, off, rfl, hgo, hkr⟩ := hkr.resolve_left (by simp)
  obtain ⟨a0, a1, a2, a3, ca0, ca1, ca2, ca3, hka⟩ := hkr.at_ 0 (by simp)
  obtain ⟨b0, b1, b2, b3, cb0, cb1, cb2, cb3, hkb⟩ := hkr.at_ 1 (by simp)
  obtain ⟨c0, c1, c2, c3, cc0, cc1, cc2, cc3, hkc⟩ := hkr.at_ 2 (by simp)
  simp only [List.getElem_cons_zero, List.getElem_cons_succ, Nat.zero_mul, Nat.add_zero, Nat.one_mul, Nat.reduceMul] at ca0 ca1 ca2 ca3 cb0 cb1 cb2 cb3 cc0 cc1 cc2 cc3 hka hkb hkc
  have hgl := hok g hgo
  have iha := fun W (hW : w.grownBy W none) => iha _ ok W (hka.keep (fun _ h => h) (fun g h => hW.block g (hok g h) (by simp))) (fun g h => Nat.lt_of_lt_of_le (hok g h) hW.size)
  have ihb := fun W (hW : w.grownBy W none) => ihb _ ok W (hkb.keep (fun _ h => h) (fun g h => hW.block g (hok g h) (by simp))) (fun g h => Nat.lt_of_lt_of_le (hok g h) hW.size)
  have ihc := fun W (hW : w.grownBy W none) => ihc _ ok W (hkc.keep (fun _ h => h) (fun g h => hW.block g (hok g h) (by simp))) (fun g h => Nat.lt_of_lt_of_le (hok g h) hW.size)
  unfold maxLen at hcm
  simp only [List.length_cons, List.length_nil, Nat.zero_add, Nat.reduceAdd] at hcc ⊢
  obtain ⟨x, hxx⟩ : ∃ x : ByteArray, (⟨op.toArray⟩ : ByteArray) = x := ⟨_, rfl⟩
  obtain ⟨nx, hnx⟩ : ∃ nx : ByteArray, (⟨name.toArray⟩ : ByteArray) = nx := ⟨_, rfl⟩
  have hxt : tl x = op := by rw [← hxx]; rfl
  have hxl : x.toList = op := by rw [Lib.toList_data]; exact hxt
  have gnum : (x.toList == [110, 117, 109]) = false := by rw [hxl, hop]; decide
  have gname : (x.toList == [110, 97, 109, 101]) = false := by rw [hxl, hop]; decide
  have gneg : (x.toList == [110, 101, 103]) = false := by rw [hxl, hop]; decide
  have gpos : (x.toList == [112, 111, 115]) = false := by rw [hxl, hop]; decide
  have gnot : (x.toList == [110, 111, 116]) = false := by rw [hxl, hop]; decide
  have gcom : (x.toList == [99, 111, 109]) = false := by rw [hxl, hop]; decide
  have gq : (x.toList == [63]) = true := by rw [hxl, hop]; decide
  rw [hxx, hnx]
  obtain ⟨T, hT⟩ : ∃ T : ByteArray, (⟨(showE (.mk op num name [a, b, c])).toArray⟩ : ByteArray) = T := ⟨_, rfl⟩
  rw [hT]
  have hsh : showE (.mk op num name [a, b, c]) = ([40] ++ showE a ++ [63] ++ showE b ++ [58] ++ showE c) ++ [41] := by rw [showE, if_neg (by rw [hop]; decide), if_neg (by rw [hop]; decide)]; simp [showL, bodyS]
  rw [hsh] at hT
  obtain ⟨Ta, hTa⟩ : ∃ T : ByteArray, (⟨(showE a).toArray⟩ : ByteArray) = T := ⟨_, rfl⟩
  obtain ⟨Tb, hTb⟩ : ∃ T : ByteArray, (⟨(showE b).toArray⟩ : ByteArray) = T := ⟨_, rfl⟩
  obtain ⟨Tc, hTc⟩ : ∃ T : ByteArray, (⟨(showE c).toArray⟩ : ByteArray) = T := ⟨_, rfl⟩
  obtain ⟨T1, hT1⟩ : ∃ T : ByteArray, (⟨([40] ++ showE a).toArray⟩ : ByteArray) = T := ⟨_, rfl⟩
  obtain ⟨T2, hT2⟩ : ∃ T : ByteArray, (⟨([40] ++ showE a ++ [63]).toArray⟩ : ByteArray) = T := ⟨_, rfl⟩
  obtain ⟨T3, hT3⟩ : ∃ T : ByteArray, (⟨([40] ++ showE a ++ [63] ++ showE b).toArray⟩ : ByteArray) = T := ⟨_, rfl⟩
  obtain ⟨T4, hT4⟩ : ∃ T : ByteArray, (⟨([40] ++ showE a ++ [63] ++ showE b ++ [58]).toArray⟩ : ByteArray) = T := ⟨_, rfl⟩
  obtain ⟨T5, hT5⟩ : ∃ T : ByteArray, (⟨([40] ++ showE a ++ [63] ++ showE b ++ [58] ++ showE c).toArray⟩ : ByteArray) = T := ⟨_, rfl⟩
  have ha0 : ∀ W, (Op.stringOp .add ⟨#[40]⟩ Ta).run Tryz.prog W = .ok (.string T1) W := fun W => by rw [← hTa, ← hT1]; exact add_str ([40]) (showE a) (by simp; omega) W
  have ha1 : ∀ W, (Op.stringOp .add T1 ⟨#[63]⟩).run Tryz.prog W = .ok (.string T2) W := fun W => by rw [← hT1, ← hT2]; exact add_str ([40] ++ showE a) ([63]) (by simp; omega) W
  have ha2 : ∀ W, (Op.stringOp .add T2 Tb).run Tryz.prog W = .ok (.string T3) W := fun W => by rw [← hT2, ← hTb, ← hT3]; exact add_str ([40] ++ showE a ++ [63]) (showE b) (by simp; omega) W
  have ha3 : ∀ W, (Op.stringOp .add T3 ⟨#[58]⟩).run Tryz.prog W = .ok (.string T4) W := fun W => by rw [← hT3, ← hT4]; exact add_str ([40] ++ showE a ++ [63] ++ showE b) ([58]) (by simp; omega) W
  have ha4 : ∀ W, (Op.stringOp .add T4 Tc).run Tryz.prog W = .ok (.string T5) W := fun W => by rw [← hT4, ← hTc, ← hT5]; exact add_str ([40] ++ showE a ++ [63] ++ showE b ++ [58]) (showE c) (by simp; omega) W
  have ha5 : ∀ W, (Op.stringOp .add T5 ⟨#[41]⟩).run Tryz.prog W = .ok (.string T) W := fun W => by rw [← hT5, ← hT]; exact add_str ([40] ++ showE a ++ [63] ++ showE b ++ [58] ++ showE c) ([41]) (by simp; omega) W
  rw [hTa] at iha
  rw [hTb] at ihb
  rw [hTc] at ihc
  clear hx hkr hka hkb hkc hxx hnx hxt hT hsh hTa hTb hTc hT1 hT2 hT3 hT4 hT5 hla hlb hlc hop hxl
  go_enter Tryz.func41, Tryz.ntmps41
  go_upto_region 1 with fail
  obtain ⟨w2, hW2, hs2, hgr, hcz, hfz, hold⟩ := one_new w #[.string x, .int .i64 num, .string nx, .slice (some ⟨g, off, none⟩) 3 cc] 37
  rw [hW2]
  obtain ⟨z, hz⟩ : ∃ z, w.heap.size = z := ⟨_, rfl⟩
  rw [hz] at hcz hs2 ⊢
  have q0 := hcz 0 _ rfl
  have q1 := hcz 1 _ rfl
  have q2 := hcz 2 _ rfl
  have q3 := hcz 3 _ rfl
  have ca0 := (World.cell?_of_block (a := ⟨g, off, none⟩) (hold g hgl)).trans ca0
  have ca1 := (World.cell?_of_block (a := ⟨g, off + 1, none⟩) (hold g hgl)).trans ca1
  have ca2 := (World.cell?_of_block (a := ⟨g, off + 2, none⟩) (hold g hgl)).trans ca2
  have ca3 := (World.cell?_of_block (a := ⟨g, off + 3, none⟩) (hold g hgl)).trans ca3
  have cb0 := (World.cell?_of_block (a := ⟨g, off + 4, none⟩) (hold g hgl)).trans cb0
  have cb1 := (World.cell?_of_block (a := ⟨g, off + 4 + 1, none⟩) (hold g hgl)).trans cb1
  have cb2 := (World.cell?_of_block (a := ⟨g, off + 4 + 2, none⟩) (hold g hgl)).trans cb2
  have cb3 := (World.cell?_of_block (a := ⟨g, off + 4 + 3, none⟩) (hold g hgl)).trans cb3
  have cc0 := (World.cell?_of_block (a := ⟨g, off + 8, none⟩) (hold g hgl)).trans cc0
  have cc1 := (World.cell?_of_block (a := ⟨g, off + 8 + 1, none⟩) (hold g hgl)).trans cc1
  have cc2 := (World.cell?_of_block (a := ⟨g, off + 8 + 2, none⟩) (hold g hgl)).trans cc2
  have cc3 := (World.cell?_of_block (a := ⟨g, off + 8 + 3, none⟩) (hold g hgl)).trans cc3
  have hg2 := hgr none
  replace hz := Lib.hid hz
  clear hW2 hgr hcz hfz hold hs2
  go_wp2_with fail
  refine wp_region_last (L := 21) (S := (fun w' : World => w'.cell? ⟨z, 0, none⟩ = some (.string x) ∧ w'.cell? ⟨z, 2, none⟩ = some (.string nx) ∧ w'.cell? ⟨z, 3, none⟩ = some (.slice (some ⟨g, off, none⟩) 3 cc) ∧ w'.cell? ⟨g, off, none⟩ = some (a0) ∧ w'.cell? ⟨g, off + 1, none⟩ = some (a1) ∧ w'.cell? ⟨g, off + 2, none⟩ = some (a2) ∧ w'.cell? ⟨g, off + 3, none⟩ = some (a3) ∧ w'.cell? ⟨g, off + 4, none⟩ = some (b0) ∧ w'.cell? ⟨g, off + 4 + 1, none⟩ = some (b1) ∧ w'.cell? ⟨g, off + 4 + 2, none⟩ = some (b2) ∧ w'.cell? ⟨g, off + 4 + 3, none⟩ = some (b3) ∧ w'.cell? ⟨g, off + 8, none⟩ = some (c0) ∧ w'.cell? ⟨g, off + 8 + 1, none⟩ = some (c1) ∧ w'.cell? ⟨g, off + 8 + 2, none⟩ = some (c2) ∧ w'.cell? ⟨g, off + 8 + 3, none⟩ = some (c3))) (by kernel_rfl) ?_
  have hS0 : (fun w' : World => w'.cell? ⟨z, 0, none⟩ = some (.string x) ∧ w'.cell? ⟨z, 2, none⟩ = some (.string nx) ∧ w'.cell? ⟨z, 3, none⟩ = some (.slice (some ⟨g, off, none⟩) 3 cc) ∧ w'.cell? ⟨g, off, none⟩ = some (a0) ∧ w'.cell? ⟨g, off + 1, none⟩ = some (a1) ∧ w'.cell? ⟨g, off + 2, none⟩ = some (a2) ∧ w'.cell? ⟨g, off + 3, none⟩ = some (a3) ∧ w'.cell? ⟨g, off + 4, none⟩ = some (b0) ∧ w'.cell? ⟨g, off + 4 + 1, none⟩ = some (b1) ∧ w'.cell? ⟨g, off + 4 + 2, none⟩ = some (b2) ∧ w'.cell? ⟨g, off + 4 + 3, none⟩ = some (b3) ∧ w'.cell? ⟨g, off + 8, none⟩ = some (c0) ∧ w'.cell? ⟨g, off + 8 + 1, none⟩ = some (c1) ∧ w'.cell? ⟨g, off + 8 + 2, none⟩ = some (c2) ∧ w'.cell? ⟨g, off + 8 + 3, none⟩ = some (c3)) w2.drew := ⟨q0, q2, q3, ca0, ca1, ca2, ca3, cb0, cb1, cb2, cb3, cc0, cc1, cc2, cc3⟩
  refine wpAnyT_takeT (n := 40) (i := 0) (v := .pointer (some ⟨z, 3, none⟩)) rfl (by kernel_rfl) (by kernel_rfl) (by kernel_rfl) (by kernel_rfl) (by kernel_rfl) (fun _ _ _ h => h) (Or.inl ⟨by rfl, ?_⟩) hS0 ?_
  · intro W hW
    obtain ⟨k0, k1, k2, k3, k4, k5, k6, k7, k8, k9, k10, k11, k12, k13, k14⟩ := hW
    clear q0 q2 q3 ca0 ca1 ca2 ca3 cb0 cb1 cb2 cb3 cc0 cc1 cc2 cc3 hS0 iha ihb ihc
    go_simp
  try simp only [Act.put, List.setIfInBounds_toArray]
  refine wpAnyT_takeT (n := 40) (i := 1) (v := .slice (some ⟨g, off, none⟩) 3 cc) rfl (by kernel_rfl) (by kernel_rfl) (by kernel_rfl) (by kernel_rfl) (by kernel_rfl) (fun _ _ _ h => h) (Or.inl ⟨by rfl, ?_⟩) hS0 ?_
  · intro W hW
    obtain ⟨k0, k1, k2, k3, k4, k5, k6, k7, k8, k9, k10, k11, k12, k13, k14⟩ := hW
    clear q0 q2 q3 ca0 ca1 ca2 ca3 cb0 cb1 cb2 cb3 cc0 cc1 cc2 cc3 hS0 iha ihb ihc
    go_simp
  try simp only [Act.put]
  refine wpAnyT_takeT (n := 40) (i := 2) (v := .pointer (some ⟨g, off, none⟩)) rfl (by kernel_rfl) (by kernel_rfl) (by kernel_rfl) (by kernel_rfl) (by kernel_rfl) (fun _ _ _ h => h) (Or.inl ⟨by rfl, ?_⟩) hS0 ?_
  · intro W hW
    obtain ⟨k0, k1, k2, k3, k4, k5, k6, k7, k8, k9, k10, k11, k12, k13, k14⟩ := hW
    clear q0 q2 q3 ca0 ca1 ca2 ca3 cb0 cb1 cb2 cb3 cc0 cc1 cc2 cc3 hS0 iha ihb ihc
    go_simp
  try simp only [Act.put]
  refine wpAnyT_takeT (n := 40) (i := 3) (v := .agg #[a0, a1, a2, a3]) rfl (by kernel_rfl) (by kernel_rfl) (by kernel_rfl) (by kernel_rfl) (by kernel_rfl) (fun _ _ _ h => h) (Or.inl ⟨by rfl, ?_⟩) hS0 ?_
  · intro W hW
    obtain ⟨k0, k1, k2, k3, k4, k5, k6, k7, k8, k9, k10, k11, k12, k13, k14⟩ := hW
    clear q0 q2 q3 ca0 ca1 ca2 ca3 cb0 cb1 cb2 cb3 cc0 cc1 cc2 cc3 hS0 iha ihb ihc
    go_simp
  try simp only [Act.put]
  refine wpAnyT_takeT (n := 40) (i := 7) (v := .pointer (some ⟨z, 3, none⟩)) rfl (by kernel_rfl) (by kernel_rfl) (by kernel_rfl) (by kernel_rfl) (by kernel_rfl) (fun _ _ _ h => h) (Or.inl ⟨by rfl, ?_⟩) hS0 ?_
  · intro W hW
    obtain ⟨k0, k1, k2, k3, k4, k5, k6, k7, k8, k9, k10, k11, k12, k13, k14⟩ := hW
    clear q0 q2 q3 ca0 ca1 ca2 ca3 cb0 cb1 cb2 cb3 cc0 cc1 cc2 cc3 hS0 iha ihb ihc
    go_simp
  try simp only [Act.put]
  refine wpAnyT_takeT (n := 40) (i := 8) (v := .slice (some ⟨g, off, none⟩) 3 cc) rfl (by kernel_rfl) (by kernel_rfl) (by kernel_rfl) (by kernel_rfl) (by kernel_rfl) (fun _ _ _ h => h) (Or.inl ⟨by rfl, ?_⟩) hS0 ?_
  · intro W hW
    obtain ⟨k0, k1, k2, k3, k4, k5, k6, k7, k8, k9, k10, k11, k12, k13, k14⟩ := hW
    clear q0 q2 q3 ca0 ca1 ca2 ca3 cb0 cb1 cb2 cb3 cc0 cc1 cc2 cc3 hS0 iha ihb ihc
    go_simp
  try simp only [Act.put]
  refine wpAnyT_takeT (n := 40) (i := 9) (v := .pointer (some ⟨g, off + 4, none⟩)) rfl (by kernel_rfl) (by kernel_rfl) (by kernel_rfl) (by kernel_rfl) (by kernel_rfl) (fun _ _ _ h => h) (Or.inl ⟨by rfl, ?_⟩) hS0 ?_
  · intro W hW
    obtain ⟨k0, k1, k2, k3, k4, k5, k6, k7, k8, k9, k10, k11, k12, k13, k14⟩ := hW
    clear q0 q2 q3 ca0 ca1 ca2 ca3 cb0 cb1 cb2 cb3 cc0 cc1 cc2 cc3 hS0 iha ihb ihc
    go_simp
  try simp only [Act.put]
  refine wpAnyT_takeT (n := 40) (i := 10) (v := .agg #[b0, b1, b2, b3]) rfl (by kernel_rfl) (by kernel_rfl) (by kernel_rfl) (by kernel_rfl) (by kernel_rfl) (fun _ _ _ h => h) (Or.inl ⟨by rfl, ?_⟩) hS0 ?_
  · intro W hW
    obtain ⟨k0, k1, k2, k3, k4, k5, k6, k7, k8, k9, k10, k11, k12, k13, k14⟩ := hW
    clear q0 q2 q3 ca0 ca1 ca2 ca3 cb0 cb1 cb2 cb3 cc0 cc1 cc2 cc3 hS0 iha ihb ihc
    go_simp
  try simp only [Act.put]
  refine wpAnyT_takeT (n := 40) (i := 14) (v := .pointer (some ⟨z, 3, none⟩)) rfl (by kernel_rfl) (by kernel_rfl) (by kernel_rfl) (by kernel_rfl) (by kernel_rfl) (fun _ _ _ h => h) (Or.inl ⟨by rfl, ?_⟩) hS0 ?_
  · intro W hW
    obtain ⟨k0, k1, k2, k3, k4, k5, k6, k7, k8, k9, k10, k11, k12, k13, k14⟩ := hW
    clear q0 q2 q3 ca0 ca1 ca2 ca3 cb0 cb1 cb2 cb3 cc0 cc1 cc2 cc3 hS0 iha ihb ihc
    go_simp
  try simp only [Act.put]
  refine wpAnyT_takeT (n := 40) (i := 15) (v := .slice (some ⟨g, off, none⟩) 3 cc) rfl (by kernel_rfl) (by kernel_rfl) (by kernel_rfl) (by kernel_rfl) (by kernel_rfl) (fun _ _ _ h => h) (Or.inl ⟨by rfl, ?_⟩) hS0 ?_
  · intro W hW
    obtain ⟨k0, k1, k2, k3, k4, k5, k6, k7, k8, k9, k10, k11, k12, k13, k14⟩ := hW
    clear q0 q2 q3 ca0 ca1 ca2 ca3 cb0 cb1 cb2 cb3 cc0 cc1 cc2 cc3 hS0 iha ihb ihc
    go_simp
  try simp only [Act.put]
  refine wpAnyT_takeT (n := 40) (i := 16) (v := .pointer (some ⟨g, off + 8, none⟩)) rfl (by kernel_rfl) (by kernel_rfl) (by kernel_rfl) (by kernel_rfl) (by kernel_rfl) (fun _ _ _ h => h) (Or.inl ⟨by rfl, ?_⟩) hS0 ?_
  · intro W hW
    obtain ⟨k0, k1, k2, k3, k4, k5, k6, k7, k8, k9, k10, k11, k12, k13, k14⟩ := hW
    clear q0 q2 q3 ca0 ca1 ca2 ca3 cb0 cb1 cb2 cb3 cc0 cc1 cc2 cc3 hS0 iha ihb ihc
    go_simp
  try simp only [Act.put]
  refine wpAnyT_takeT (n := 40) (i := 17) (v := .agg #[c0, c1, c2, c3]) rfl (by kernel_rfl) (by kernel_rfl) (by kernel_rfl) (by kernel_rfl) (by kernel_rfl) (fun _ _ _ h => h) (Or.inl ⟨by rfl, ?_⟩) hS0 ?_
  · intro W hW
    obtain ⟨k0, k1, k2, k3, k4, k5, k6, k7, k8, k9, k10, k11, k12, k13, k14⟩ := hW
    clear q0 q2 q3 ca0 ca1 ca2 ca3 cb0 cb1 cb2 cb3 cc0 cc1 cc2 cc3 hS0 iha ihb ihc
    go_simp
  try simp only [Act.put]
  clear hS0
  refine wpAnyT_one (i := 4) rfl (by kernel_rfl) rfl ?_
  go_simp
  refine (iha w2.drew ⟨hg2.os, hg2.tape, hg2.output, hg2.size, hg2.block⟩).mono ?_
  rintro e v1 ⟨rfl, hh1⟩
  have gg1 : w2.grownBy v1 none := ⟨hh1.os, hh1.tape, hh1.output, hh1.size, hh1.block⟩
  have q0 := gg1.cell q0 (by simp)
  have q2 := gg1.cell q2 (by simp)
  have q3 := gg1.cell q3 (by simp)
  have ca0 := gg1.cell ca0 (by simp)
  have ca1 := gg1.cell ca1 (by simp)
  have ca2 := gg1.cell ca2 (by simp)
  have ca3 := gg1.cell ca3 (by simp)
  have cb0 := gg1.cell cb0 (by simp)
  have cb1 := gg1.cell cb1 (by simp)
  have cb2 := gg1.cell cb2 (by simp)
  have cb3 := gg1.cell cb3 (by simp)
  have cc0 := gg1.cell cc0 (by simp)
  have cc1 := gg1.cell cc1 (by simp)
  have cc2 := gg1.cell cc2 (by simp)
  have cc3 := gg1.cell cc3 (by simp)
  have hgE := grownBy_trans' hg2 gg1
  refine ⟨⟨q0, q2, q3, ca0, ca1, ca2, ca3, cb0, cb1, cb2, cb3, cc0, cc1, cc2, cc3⟩, ?_⟩
  have hS0 : (fun w' : World => w'.cell? ⟨z, 0, none⟩ = some (.string x) ∧ w'.cell? ⟨z, 2, none⟩ = some (.string nx) ∧ w'.cell? ⟨z, 3, none⟩ = some (.slice (some ⟨g, off, none⟩) 3 cc) ∧ w'.cell? ⟨g, off, none⟩ = some (a0) ∧ w'.cell? ⟨g, off + 1, none⟩ = some (a1) ∧ w'.cell? ⟨g, off + 2, none⟩ = some (a2) ∧ w'.cell? ⟨g, off + 3, none⟩ = some (a3) ∧ w'.cell? ⟨g, off + 4, none⟩ = some (b0) ∧ w'.cell? ⟨g, off + 4 + 1, none⟩ = some (b1) ∧ w'.cell? ⟨g, off + 4 + 2, none⟩ = some (b2) ∧ w'.cell? ⟨g, off + 4 + 3, none⟩ = some (b3) ∧ w'.cell? ⟨g, off + 8, none⟩ = some (c0) ∧ w'.cell? ⟨g, off + 8 + 1, none⟩ = some (c1) ∧ w'.cell? ⟨g, off + 8 + 2, none⟩ = some (c2) ∧ w'.cell? ⟨g, off + 8 + 3, none⟩ = some (c3)) v1 := ⟨q0, q2, q3, ca0, ca1, ca2, ca3, cb0, cb1, cb2, cb3, cc0, cc1, cc2, cc3⟩
  clear iha hh1 gg1
  refine wpAnyT_takeT (n := 40) (i := 5) (v := .string T1) rfl (by kernel_rfl) (by kernel_rfl) (by kernel_rfl) (by kernel_rfl) (by kernel_rfl) (fun _ _ _ h => h) (Or.inl ⟨by rfl, ?_⟩) hS0 ?_
  · intro W hW
    obtain ⟨k0, k1, k2, k3, k4, k5, k6, k7, k8, k9, k10, k11, k12, k13, k14⟩ := hW
    clear q0 q2 q3 ca0 ca1 ca2 ca3 cb0 cb1 cb2 cb3 cc0 cc1 cc2 cc3 hS0 ihb ihc hgE
    go_simp
  try simp only [Act.put]
  refine wpAnyT_takeT (n := 40) (i := 6) (v := .string T2) rfl (by kernel_rfl) (by kernel_rfl) (by kernel_rfl) (by kernel_rfl) (by kernel_rfl) (fun _ _ _ h => h) (Or.inl ⟨by rfl, ?_⟩) hS0 ?_
  · intro W hW
    obtain ⟨k0, k1, k2, k3, k4, k5, k6, k7, k8, k9, k10, k11, k12, k13, k14⟩ := hW
    clear q0 q2 q3 ca0 ca1 ca2 ca3 cb0 cb1 cb2 cb3 cc0 cc1 cc2 cc3 hS0 ihb ihc hgE
    go_simp
  try simp only [Act.put]
  clear hS0
  refine wpAnyT_one (i := 11) rfl (by kernel_rfl) rfl ?_
  go_simp
  refine (ihb v1 hgE).mono ?_
  rintro e v2 ⟨rfl, hh2⟩
  have gg2 : v1.grownBy v2 none := ⟨hh2.os, hh2.tape, hh2.output, hh2.size, hh2.block⟩
  have q0 := gg2.cell q0 (by simp)
  have q2 := gg2.cell q2 (by simp)
  have q3 := gg2.cell q3 (by simp)
  have ca0 := gg2.cell ca0 (by simp)
  have ca1 := gg2.cell ca1 (by simp)
  have ca2 := gg2.cell ca2 (by simp)
  have ca3 := gg2.cell ca3 (by simp)
  have cb0 := gg2.cell cb0 (by simp)
  have cb1 := gg2.cell cb1 (by simp)
  have cb2 := gg2.cell cb2 (by simp)
  have cb3 := gg2.cell cb3 (by simp)
  have cc0 := gg2.cell cc0 (by simp)
  have cc1 := gg2.cell cc1 (by simp)
  have cc2 := gg2.cell cc2 (by simp)
  have cc3 := gg2.cell cc3 (by simp)
  have hgE := grownBy_trans' hgE gg2
  refine ⟨⟨q0, q2, q3, ca0, ca1, ca2, ca3, cb0, cb1, cb2, cb3, cc0, cc1, cc2, cc3⟩, ?_⟩
  have hS0 : (fun w' : World => w'.cell? ⟨z, 0, none⟩ = some (.string x) ∧ w'.cell? ⟨z, 2, none⟩ = some (.string nx) ∧ w'.cell? ⟨z, 3, none⟩ = some (.slice (some ⟨g, off, none⟩) 3 cc) ∧ w'.cell? ⟨g, off, none⟩ = some (a0) ∧ w'.cell? ⟨g, off + 1, none⟩ = some (a1) ∧ w'.cell? ⟨g, off + 2, none⟩ = some (a2) ∧ w'.cell? ⟨g, off + 3, none⟩ = some (a3) ∧ w'.cell? ⟨g, off + 4, none⟩ = some (b0) ∧ w'.cell? ⟨g, off + 4 + 1, none⟩ = some (b1) ∧ w'.cell? ⟨g, off + 4 + 2, none⟩ = some (b2) ∧ w'.cell? ⟨g, off + 4 + 3, none⟩ = some (b3) ∧ w'.cell? ⟨g, off + 8, none⟩ = some (c0) ∧ w'.cell? ⟨g, off + 8 + 1, none⟩ = some (c1) ∧ w'.cell? ⟨g, off + 8 + 2, none⟩ = some (c2) ∧ w'.cell? ⟨g, off + 8 + 3, none⟩ = some (c3)) v2 := ⟨q0, q2, q3, ca0, ca1, ca2, ca3, cb0, cb1, cb2, cb3, cc0, cc1, cc2, cc3⟩
  clear ihb hh2 gg2
  refine wpAnyT_takeT (n := 40) (i := 12) (v := .string T3) rfl (by kernel_rfl) (by kernel_rfl) (by kernel_rfl) (by kernel_rfl) (by kernel_rfl) (fun _ _ _ h => h) (Or.inl ⟨by rfl, ?_⟩) hS0 ?_
  · intro W hW
    obtain ⟨k0, k1, k2, k3, k4, k5, k6, k7, k8, k9, k10, k11, k12, k13, k14⟩ := hW
    clear q0 q2 q3 ca0 ca1 ca2 ca3 cb0 cb1 cb2 cb3 cc0 cc1 cc2 cc3 hS0 ihc hgE
    go_simp
  try simp only [Act.put]
  refine wpAnyT_takeT (n := 40) (i := 13) (v := .string T4) rfl (by kernel_rfl) (by kernel_rfl) (by kernel_rfl) (by kernel_rfl) (by kernel_rfl) (fun _ _ _ h => h) (Or.inl ⟨by rfl, ?_⟩) hS0 ?_
  · intro W hW
    obtain ⟨k0, k1, k2, k3, k4, k5, k6, k7, k8, k9, k10, k11, k12, k13, k14⟩ := hW
    clear q0 q2 q3 ca0 ca1 ca2 ca3 cb0 cb1 cb2 cb3 cc0 cc1 cc2 cc3 hS0 ihc hgE
    go_simp
  try simp only [Act.put]
  clear hS0
  refine wpAnyT_one (i := 18) rfl (by kernel_rfl) rfl ?_
  go_simp
  refine (ihc v2 hgE).mono ?_
  rintro e v3 ⟨rfl, hh3⟩
  have gg3 : v2.grownBy v3 none := ⟨hh3.os, hh3.tape, hh3.output, hh3.size, hh3.block⟩
  have q0 := gg3.cell q0 (by simp)
  have q2 := gg3.cell q2 (by simp)
  have q3 := gg3.cell q3 (by simp)
  have ca0 := gg3.cell ca0 (by simp)
  have ca1 := gg3.cell ca1 (by simp)
  have ca2 := gg3.cell ca2 (by simp)
  have ca3 := gg3.cell ca3 (by simp)
  have cb0 := gg3.cell cb0 (by simp)
  have cb1 := gg3.cell cb1 (by simp)
  have cb2 := gg3.cell cb2 (by simp)
  have cb3 := gg3.cell cb3 (by simp)
  have cc0 := gg3.cell cc0 (by simp)
  have cc1 := gg3.cell cc1 (by simp)
  have cc2 := gg3.cell cc2 (by simp)
  have cc3 := gg3.cell cc3 (by simp)
  have hgE := grownBy_trans' hgE gg3
  refine ⟨⟨q0, q2, q3, ca0, ca1, ca2, ca3, cb0, cb1, cb2, cb3, cc0, cc1, cc2, cc3⟩, ?_⟩
  have hS0 : (fun w' : World => w'.cell? ⟨z, 0, none⟩ = some (.string x) ∧ w'.cell? ⟨z, 2, none⟩ = some (.string nx) ∧ w'.cell? ⟨z, 3, none⟩ = some (.slice (some ⟨g, off, none⟩) 3 cc) ∧ w'.cell? ⟨g, off, none⟩ = some (a0) ∧ w'.cell? ⟨g, off + 1, none⟩ = some (a1) ∧ w'.cell? ⟨g, off + 2, none⟩ = some (a2) ∧ w'.cell? ⟨g, off + 3, none⟩ = some (a3) ∧ w'.cell? ⟨g, off + 4, none⟩ = some (b0) ∧ w'.cell? ⟨g, off + 4 + 1, none⟩ = some (b1) ∧ w'.cell? ⟨g, off + 4 + 2, none⟩ = some (b2) ∧ w'.cell? ⟨g, off + 4 + 3, none⟩ = some (b3) ∧ w'.cell? ⟨g, off + 8, none⟩ = some (c0) ∧ w'.cell? ⟨g, off + 8 + 1, none⟩ = some (c1) ∧ w'.cell? ⟨g, off + 8 + 2, none⟩ = some (c2) ∧ w'.cell? ⟨g, off + 8 + 3, none⟩ = some (c3)) v3 := ⟨q0, q2, q3, ca0, ca1, ca2, ca3, cb0, cb1, cb2, cb3, cc0, cc1, cc2, cc3⟩
  clear ihc hh3 gg3
  refine wpAnyT_takeT (n := 40) (i := 19) (v := .string T5) rfl (by kernel_rfl) (by kernel_rfl) (by kernel_rfl) (by kernel_rfl) (by kernel_rfl) (fun _ _ _ h => h) (Or.inl ⟨by rfl, ?_⟩) hS0 ?_
  · intro W hW
    obtain ⟨k0, k1, k2, k3, k4, k5, k6, k7, k8, k9, k10, k11, k12, k13, k14⟩ := hW
    clear q0 q2 q3 ca0 ca1 ca2 ca3 cb0 cb1 cb2 cb3 cc0 cc1 cc2 cc3 hS0 hgE
    go_simp
  try simp only [Act.put]
  refine wpAnyT_takeT (n := 40) (i := 20) (v := .string T) rfl (by kernel_rfl) (by kernel_rfl) (by kernel_rfl) (by kernel_rfl) (by kernel_rfl) (fun _ _ _ h => h) (Or.inl ⟨by rfl, ?_⟩) hS0 ?_
  · intro W hW
    obtain ⟨k0, k1, k2, k3, k4, k5, k6, k7, k8, k9, k10, k11, k12, k13, k14⟩ := hW
    clear q0 q2 q3 ca0 ca1 ca2 ca3 cb0 cb1 cb2 cb3 cc0 cc1 cc2 cc3 hS0 hgE
    go_simp
  try simp only [Act.put]
  refine wpAnyT_one (i := 21) rfl (by kernel_rfl) rfl ?_
  go_simp
  refine wpAnyT_done (by kernel_rfl) ?_ _
  clear hS0 q0 q2 q3 ca0 ca1 ca2 ca3 cb0 cb1 cb2 cb3 cc0 cc1 cc2 cc3
  go_wp2
  go_ret
  exact ⟨rfl, hgE⟩

set_option maxHeartbeats 8000000 in
set_option maxRecDepth 100000 in
theorem rsh_two (op name : List UInt8) (num : Int) (a b : E) (hrow : 0 < rowV op) (iha : RSh a) (ihb : RSh b) (hla : (showE a).length ≤ 2000000000) (hlb : (showE b).length ≤ 2000000000) : RSh (.mk op num name [a, b]) := by
  intro v ok w hx hok
  obtain ⟨A, cc, rfl, hcc, hcm, hkr⟩ := hx.form
  obtain ⟨g, off, rfl, hgo, hkr⟩ := hkr.resolve_left (by simp)
  obtain ⟨a0, a1, a2, a3, ca0, ca1, ca2, ca3, hka⟩ := hkr.at_ 0 (by simp)
  obtain ⟨b0, b1, b2, b3, cb0, cb1, cb2, cb3, hkb⟩ := hkr.at_ 1 (by simp)
  simp only [List.getElem_cons_zero, List.getElem_cons_succ, Nat.zero_mul, Nat.add_zero, Nat.one_mul] at ca0 ca1 ca2 ca3 cb0 cb1 cb2 cb3 hka hkb
  have hgl := hok g hgo
  have iha := fun W (hW : w.grownBy W none) => iha _ ok W (hka.keep (fun _ h => h) (fun g h => hW.block g (hok g h) (by simp))) (fun g h => Nat.lt_of_lt_of_le (hok g h) hW.size)
  have ihb := fun W (hW : w.grownBy W none) => ihb _ ok W (hkb.keep (fun _ h => h) (fun g h => hW.block g (hok g h) (by simp))) (fun g h => Nat.lt_of_lt_of_le (hok g h) hW.size)
  unfold maxLen at hcm
  simp only [List.length_cons, List.length_nil, Nat.zero_add, Nat.reduceAdd] at hcc ⊢
  obtain ⟨x, hxx⟩ : ∃ x : ByteArray, (⟨op.toArray⟩ : ByteArray) = x := ⟨_, rfl⟩
  obtain ⟨nx, hnx⟩ : ∃ nx : ByteArray, (⟨name.toArray⟩ : ByteArray) = nx := ⟨_, rfl⟩
  have hxt : tl x = op := by rw [← hxx]; rfl
  have hxl : x.toList = op := by rw [Lib.toList_data]; exact hxt
  obtain ⟨enum, ename, eneg, epos, enot, ecom, eq⟩ := (row_none hrow)
  have gnum : (x.toList == [110, 117, 109]) = false := by rw [hxl, enum]
  have gname : (x.toList == [110, 97, 109, 101]) = false := by rw [hxl, ename]
  have gneg : (x.toList == [110, 101, 103]) = false := by rw [hxl, eneg]
  have gpos : (x.toList == [112, 111, 115]) = false := by rw [hxl, epos]
  have gnot : (x.toList == [110, 111, 116]) = false := by rw [hxl, enot]
  have gcom : (x.toList == [99, 111, 109]) = false := by rw [hxl, ecom]
  have gq : (x.toList == [63]) = false := by rw [hxl, eq]
  rw [hxx, hnx]
  obtain ⟨T, hT⟩ : ∃ T : ByteArray, (⟨(showE (.mk op num name [a, b])).toArray⟩ : ByteArray) = T := ⟨_, rfl⟩
  rw [hT]
  have hsh : showE (.mk op num name [a, b]) = ([40] ++ showE a ++ op ++ showE b) ++ [41] := by rw [showE, if_neg (row_facts hrow).2.2.1, if_neg (row_facts hrow).2.2.2]; simp [showL, bodyS]
  rw [hsh] at hT
  have hol : op.length ≤ 3 := allM_short _ (row_mem (by omega))
  have has := fun W => rSets_any x W
  rw [hxt, (row_facts hrow).2.1] at has
  obtain ⟨Ta, hTa⟩ : ∃ T : ByteArray, (⟨(showE a).toArray⟩ : ByteArray) = T := ⟨_, rfl⟩
  obtain ⟨Tb, hTb⟩ : ∃ T : ByteArray, (⟨(showE b).toArray⟩ : ByteArray) = T := ⟨_, rfl⟩
  obtain ⟨T1, hT1⟩ : ∃ T : ByteArray, (⟨([40] ++ showE a).toArray⟩ : ByteArray) = T := ⟨_, rfl⟩
  obtain ⟨T2, hT2⟩ : ∃ T : ByteArray, (⟨([40] ++ showE a ++ op).toArray⟩ : ByteArray) = T := ⟨_, rfl⟩
  obtain ⟨T3, hT3⟩ : ∃ T : ByteArray, (⟨([40] ++ showE a ++ op ++ showE b).toArray⟩ : ByteArray) = T := ⟨_, rfl⟩
  have ha0 : ∀ W, (Op.stringOp .add ⟨#[40]⟩ Ta).run Tryz.prog W = .ok (.string T1) W := fun W => by rw [← hTa, ← hT1]; exact add_str ([40]) (showE a) (by simp; omega) W
  have ha1 : ∀ W, (Op.stringOp .add T1 x).run Tryz.prog W = .ok (.string T2) W := fun W => by rw [← hT1, ← hxx, ← hT2]; exact add_str ([40] ++ showE a) (op) (by simp; omega) W
  have ha2 : ∀ W, (Op.stringOp .add T2 Tb).run Tryz.prog W = .ok (.string T3) W := fun W => by rw [← hT2, ← hTb, ← hT3]; exact add_str ([40] ++ showE a ++ op) (showE b) (by simp; omega) W
  have ha3 : ∀ W, (Op.stringOp .add T3 ⟨#[41]⟩).run Tryz.prog W = .ok (.string T) W := fun W => by rw [← hT3, ← hT]; exact add_str ([40] ++ showE a ++ op ++ showE b) ([41]) (by simp; omega) W
  rw [hTa] at iha
  rw [hTb] at ihb
  clear hx hkr hka hkb hxx hnx hxt hT hsh hTa hTb hT1 hT2 hT3 hla hlb enum ename eneg epos enot ecom eq hxl hol
  go_enter Tryz.func41, Tryz.ntmps41
  go_upto_region 1 with fail
  obtain ⟨w2, hW2, hs2, hgr, hcz, hfz, hold⟩ := one_new w #[.string x, .int .i64 num, .string nx, .slice (some ⟨g, off, none⟩) 2 cc] 37
  rw [hW2]
  obtain ⟨z, hz⟩ : ∃ z, w.heap.size = z := ⟨_, rfl⟩
  rw [hz] at hcz hs2 ⊢
  have q0 := hcz 0 _ rfl
  have q1 := hcz 1 _ rfl
  have q2 := hcz 2 _ rfl
  have q3 := hcz 3 _ rfl
  have ca0 := (World.cell?_of_block (a := ⟨g, off, none⟩) (hold g hgl)).trans ca0
  have ca1 := (World.cell?_of_block (a := ⟨g, off + 1, none⟩) (hold g hgl)).trans ca1
  have ca2 := (World.cell?_of_block (a := ⟨g, off + 2, none⟩) (hold g hgl)).trans ca2
  have ca3 := (World.cell?_of_block (a := ⟨g, off + 3, none⟩) (hold g hgl)).trans ca3
  have cb0 := (World.cell?_of_block (a := ⟨g, off + 4, none⟩) (hold g hgl)).trans cb0
  have cb1 := (World.cell?_of_block (a := ⟨g, off + 4 + 1, none⟩) (hold g hgl)).trans cb1
  have cb2 := (World.cell?_of_block (a := ⟨g, off + 4 + 2, none⟩) (hold g hgl)).trans cb2
  have cb3 := (World.cell?_of_block (a := ⟨g, off + 4 + 3, none⟩) (hold g hgl)).trans cb3
  have hg2 := hgr none
  replace hz := Lib.hid hz
  clear hW2 hgr hcz hfz hold hs2
  go_wp2_with fail
  refine (has w2).mono ?_
  rintro e wq ⟨rfl, hwq⟩
  obtain rfl := hwq.symm
  clear has
  go_wp2_with fail
  refine wp_region_last (L := 16) (S := (fun w' : World => w'.cell? ⟨z, 0, none⟩ = some (.string x) ∧ w'.cell? ⟨z, 2, none⟩ = some (.string nx) ∧ w'.cell? ⟨z, 3, none⟩ = some (.slice (some ⟨g, off, none⟩) 2 cc) ∧ w'.cell? ⟨g, off, none⟩ = some (a0) ∧ w'.cell? ⟨g, off + 1, none⟩ = some (a1) ∧ w'.cell? ⟨g, off + 2, none⟩ = some (a2) ∧ w'.cell? ⟨g, off + 3, none⟩ = some (a3) ∧ w'.cell? ⟨g, off + 4, none⟩ = some (b0) ∧ w'.cell? ⟨g, off + 4 + 1, none⟩ = some (b1) ∧ w'.cell? ⟨g, off + 4 + 2, none⟩ = some (b2) ∧ w'.cell? ⟨g, off + 4 + 3, none⟩ = some (b3))) (by kernel_rfl) ?_
  have hS0 : (fun w' : World => w'.cell? ⟨z, 0, none⟩ = some (.string x) ∧ w'.cell? ⟨z, 2, none⟩ = some (.string nx) ∧ w'.cell? ⟨z, 3, none⟩ = some (.slice (some ⟨g, off, none⟩) 2 cc) ∧ w'.cell? ⟨g, off, none⟩ = some (a0) ∧ w'.cell? ⟨g, off + 1, none⟩ = some (a1) ∧ w'.cell? ⟨g, off + 2, none⟩ = some (a2) ∧ w'.cell? ⟨g, off + 3, none⟩ = some (a3) ∧ w'.cell? ⟨g, off + 4, none⟩ = some (b0) ∧ w'.cell? ⟨g, off + 4 + 1, none⟩ = some (b1) ∧ w'.cell? ⟨g, off + 4 + 2, none⟩ = some (b2) ∧ w'.cell? ⟨g, off + 4 + 3, none⟩ = some (b3)) w2.drew := ⟨q0, q2, q3, ca0, ca1, ca2, ca3, cb0, cb1, cb2, cb3⟩
  refine wpAnyT_takeT (n := 40) (i := 0) (v := .pointer (some ⟨z, 3, none⟩)) rfl (by kernel_rfl) (by kernel_rfl) (by kernel_rfl) (by kernel_rfl) (by kernel_rfl) (fun _ _ _ h => h) (Or.inl ⟨by rfl, ?_⟩) hS0 ?_
  · intro W hW
    obtain ⟨k0, k1, k2, k3, k4, k5, k6, k7, k8, k9, k10⟩ := hW
    clear q0 q2 q3 ca0 ca1 ca2 ca3 cb0 cb1 cb2 cb3 hS0 iha ihb
    go_simp
  try simp only [Act.put, List.setIfInBounds_toArray]
  refine wpAnyT_takeT (n := 40) (i := 1) (v := .slice (some ⟨g, off, none⟩) 2 cc) rfl (by kernel_rfl) (by kernel_rfl) (by kernel_rfl) (by kernel_rfl) (by kernel_rfl) (fun _ _ _ h => h) (Or.inl ⟨by rfl, ?_⟩) hS0 ?_
  · intro W hW
    obtain ⟨k0, k1, k2, k3, k4, k5, k6, k7, k8, k9, k10⟩ := hW
    clear q0 q2 q3 ca0 ca1 ca2 ca3 cb0 cb1 cb2 cb3 hS0 iha ihb
    go_simp
  try simp only [Act.put]
  refine wpAnyT_takeT (n := 40) (i := 2) (v := .pointer (some ⟨g, off, none⟩)) rfl (by kernel_rfl) (by kernel_rfl) (by kernel_rfl) (by kernel_rfl) (by kernel_rfl) (fun _ _ _ h => h) (Or.inl ⟨by rfl, ?_⟩) hS0 ?_
  · intro W hW
    obtain ⟨k0, k1, k2, k3, k4, k5, k6, k7, k8, k9, k10⟩ := hW
    clear q0 q2 q3 ca0 ca1 ca2 ca3 cb0 cb1 cb2 cb3 hS0 iha ihb
    go_simp
  try simp only [Act.put]
  refine wpAnyT_takeT (n := 40) (i := 3) (v := .agg #[a0, a1, a2, a3]) rfl (by kernel_rfl) (by kernel_rfl) (by kernel_rfl) (by kernel_rfl) (by kernel_rfl) (fun _ _ _ h => h) (Or.inl ⟨by rfl, ?_⟩) hS0 ?_
  · intro W hW
    obtain ⟨k0, k1, k2, k3, k4, k5, k6, k7, k8, k9, k10⟩ := hW
    clear q0 q2 q3 ca0 ca1 ca2 ca3 cb0 cb1 cb2 cb3 hS0 iha ihb
    go_simp
  try simp only [Act.put]
  refine wpAnyT_takeT (n := 40) (i := 6) (v := .pointer (some ⟨z, 0, none⟩)) rfl (by kernel_rfl) (by kernel_rfl) (by kernel_rfl) (by kernel_rfl) (by kernel_rfl) (fun _ _ _ h => h) (Or.inl ⟨by rfl, ?_⟩) hS0 ?_
  · intro W hW
    obtain ⟨k0, k1, k2, k3, k4, k5, k6, k7, k8, k9, k10⟩ := hW
    clear q0 q2 q3 ca0 ca1 ca2 ca3 cb0 cb1 cb2 cb3 hS0 iha ihb
    go_simp
  try simp only [Act.put]
  refine wpAnyT_takeT (n := 40) (i := 7) (v := .string x) rfl (by kernel_rfl) (by kernel_rfl) (by kernel_rfl) (by kernel_rfl) (by kernel_rfl) (fun _ _ _ h => h) (Or.inl ⟨by rfl, ?_⟩) hS0 ?_
  · intro W hW
    obtain ⟨k0, k1, k2, k3, k4, k5, k6, k7, k8, k9, k10⟩ := hW
    clear q0 q2 q3 ca0 ca1 ca2 ca3 cb0 cb1 cb2 cb3 hS0 iha ihb
    go_simp
  try simp only [Act.put]
  refine wpAnyT_takeT (n := 40) (i := 9) (v := .pointer (some ⟨z, 3, none⟩)) rfl (by kernel_rfl) (by kernel_rfl) (by kernel_rfl) (by kernel_rfl) (by kernel_rfl) (fun _ _ _ h => h) (Or.inl ⟨by rfl, ?_⟩) hS0 ?_
  · intro W hW
    obtain ⟨k0, k1, k2, k3, k4, k5, k6, k7, k8, k9, k10⟩ := hW
    clear q0 q2 q3 ca0 ca1 ca2 ca3 cb0 cb1 cb2 cb3 hS0 iha ihb
    go_simp
  try simp only [Act.put]
  refine wpAnyT_takeT (n := 40) (i := 10) (v := .slice (some ⟨g, off, none⟩) 2 cc) rfl (by kernel_rfl) (by kernel_rfl) (by kernel_rfl) (by kernel_rfl) (by kernel_rfl) (fun _ _ _ h => h) (Or.inl ⟨by rfl, ?_⟩) hS0 ?_
  · intro W hW
    obtain ⟨k0, k1, k2, k3, k4, k5, k6, k7, k8, k9, k10⟩ := hW
    clear q0 q2 q3 ca0 ca1 ca2 ca3 cb0 cb1 cb2 cb3 hS0 iha ihb
    go_simp
  try simp only [Act.put]
  refine wpAnyT_takeT (n := 40) (i := 11) (v := .pointer (some ⟨g, off + 4, none⟩)) rfl (by kernel_rfl) (by kernel_rfl) (by kernel_rfl) (by kernel_rfl) (by kernel_rfl) (fun _ _ _ h => h) (Or.inl ⟨by rfl, ?_⟩) hS0 ?_
  · intro W hW
    obtain ⟨k0, k1, k2, k3, k4, k5, k6, k7, k8, k9, k10⟩ := hW
    clear q0 q2 q3 ca0 ca1 ca2 ca3 cb0 cb1 cb2 cb3 hS0 iha ihb
    go_simp
  try simp only [Act.put]
  refine wpAnyT_takeT (n := 40) (i := 12) (v := .agg #[b0, b1, b2, b3]) rfl (by kernel_rfl) (by kernel_rfl) (by kernel_rfl) (by kernel_rfl) (by kernel_rfl) (fun _ _ _ h => h) (Or.inl ⟨by rfl, ?_⟩) hS0 ?_
  · intro W hW
    obtain ⟨k0, k1, k2, k3, k4, k5, k6, k7, k8, k9, k10⟩ := hW
    clear q0 q2 q3 ca0 ca1 ca2 ca3 cb0 cb1 cb2 cb3 hS0 iha ihb
    go_simp
  try simp only [Act.put]
  clear hS0
  refine wpAnyT_one (i := 4) rfl (by kernel_rfl) rfl ?_
  go_simp
  refine (iha w2.drew ⟨hg2.os, hg2.tape, hg2.output, hg2.size, hg2.block⟩).mono ?_
  rintro e v1 ⟨rfl, hh1⟩
  have gg1 : w2.grownBy v1 none := ⟨hh1.os, hh1.tape, hh1.output, hh1.size, hh1.block⟩
  have q0 := gg1.cell q0 (by simp)
  have q2 := gg1.cell q2 (by simp)
  have q3 := gg1.cell q3 (by simp)
  have ca0 := gg1.cell ca0 (by simp)
  have ca1 := gg1.cell ca1 (by simp)
  have ca2 := gg1.cell ca2 (by simp)
  have ca3 := gg1.cell ca3 (by simp)
  have cb0 := gg1.cell cb0 (by simp)
  have cb1 := gg1.cell cb1 (by simp)
  have cb2 := gg1.cell cb2 (by simp)
  have cb3 := gg1.cell cb3 (by simp)
  have hgE := grownBy_trans' hg2 gg1
  refine ⟨⟨q0, q2, q3, ca0, ca1, ca2, ca3, cb0, cb1, cb2, cb3⟩, ?_⟩
  have hS0 : (fun w' : World => w'.cell? ⟨z, 0, none⟩ = some (.string x) ∧ w'.cell? ⟨z, 2, none⟩ = some (.string nx) ∧ w'.cell? ⟨z, 3, none⟩ = some (.slice (some ⟨g, off, none⟩) 2 cc) ∧ w'.cell? ⟨g, off, none⟩ = some (a0) ∧ w'.cell? ⟨g, off + 1, none⟩ = some (a1) ∧ w'.cell? ⟨g, off + 2, none⟩ = some (a2) ∧ w'.cell? ⟨g, off + 3, none⟩ = some (a3) ∧ w'.cell? ⟨g, off + 4, none⟩ = some (b0) ∧ w'.cell? ⟨g, off + 4 + 1, none⟩ = some (b1) ∧ w'.cell? ⟨g, off + 4 + 2, none⟩ = some (b2) ∧ w'.cell? ⟨g, off + 4 + 3, none⟩ = some (b3)) v1 := ⟨q0, q2, q3, ca0, ca1, ca2, ca3, cb0, cb1, cb2, cb3⟩
  clear iha hh1 gg1
  refine wpAnyT_takeT (n := 40) (i := 5) (v := .string T1) rfl (by kernel_rfl) (by kernel_rfl) (by kernel_rfl) (by kernel_rfl) (by kernel_rfl) (fun _ _ _ h => h) (Or.inl ⟨by rfl, ?_⟩) hS0 ?_
  · intro W hW
    obtain ⟨k0, k1, k2, k3, k4, k5, k6, k7, k8, k9, k10⟩ := hW
    clear q0 q2 q3 ca0 ca1 ca2 ca3 cb0 cb1 cb2 cb3 hS0 ihb hgE
    go_simp
  try simp only [Act.put]
  refine wpAnyT_takeT (n := 40) (i := 8) (v := .string T2) rfl (by kernel_rfl) (by kernel_rfl) (by kernel_rfl) (by kernel_rfl) (by kernel_rfl) (fun _ _ _ h => h) (Or.inl ⟨by rfl, ?_⟩) hS0 ?_
  · intro W hW
    obtain ⟨k0, k1, k2, k3, k4, k5, k6, k7, k8, k9, k10⟩ := hW
    clear q0 q2 q3 ca0 ca1 ca2 ca3 cb0 cb1 cb2 cb3 hS0 ihb hgE
    go_simp
  try simp only [Act.put]
  clear hS0
  refine wpAnyT_one (i := 13) rfl (by kernel_rfl) rfl ?_
  go_simp
  refine (ihb v1 hgE).mono ?_
  rintro e v2 ⟨rfl, hh2⟩
  have gg2 : v1.grownBy v2 none := ⟨hh2.os, hh2.tape, hh2.output, hh2.size, hh2.block⟩
  have q0 := gg2.cell q0 (by simp)
  have q2 := gg2.cell q2 (by simp)
  have q3 := gg2.cell q3 (by simp)
  have ca0 := gg2.cell ca0 (by simp)
  have ca1 := gg2.cell ca1 (by simp)
  have ca2 := gg2.cell ca2 (by simp)
  have ca3 := gg2.cell ca3 (by simp)
  have cb0 := gg2.cell cb0 (by simp)
  have cb1 := gg2.cell cb1 (by simp)
  have cb2 := gg2.cell cb2 (by simp)
  have cb3 := gg2.cell cb3 (by simp)
  have hgE := grownBy_trans' hgE gg2
  refine ⟨⟨q0, q2, q3, ca0, ca1, ca2, ca3, cb0, cb1, cb2, cb3⟩, ?_⟩
  have hS0 : (fun w' : World => w'.cell? ⟨z, 0, none⟩ = some (.string x) ∧ w'.cell? ⟨z, 2, none⟩ = some (.string nx) ∧ w'.cell? ⟨z, 3, none⟩ = some (.slice (some ⟨g, off, none⟩) 2 cc) ∧ w'.cell? ⟨g, off, none⟩ = some (a0) ∧ w'.cell? ⟨g, off + 1, none⟩ = some (a1) ∧ w'.cell? ⟨g, off + 2, none⟩ = some (a2) ∧ w'.cell? ⟨g, off + 3, none⟩ = some (a3) ∧ w'.cell? ⟨g, off + 4, none⟩ = some (b0) ∧ w'.cell? ⟨g, off + 4 + 1, none⟩ = some (b1) ∧ w'.cell? ⟨g, off + 4 + 2, none⟩ = some (b2) ∧ w'.cell? ⟨g, off + 4 + 3, none⟩ = some (b3)) v2 := ⟨q0, q2, q3, ca0, ca1, ca2, ca3, cb0, cb1, cb2, cb3⟩
  clear ihb hh2 gg2
  refine wpAnyT_takeT (n := 40) (i := 14) (v := .string T3) rfl (by kernel_rfl) (by kernel_rfl) (by kernel_rfl) (by kernel_rfl) (by kernel_rfl) (fun _ _ _ h => h) (Or.inl ⟨by rfl, ?_⟩) hS0 ?_
  · intro W hW
    obtain ⟨k0, k1, k2, k3, k4, k5, k6, k7, k8, k9, k10⟩ := hW
    clear q0 q2 q3 ca0 ca1 ca2 ca3 cb0 cb1 cb2 cb3 hS0 hgE
    go_simp
  try simp only [Act.put]
  refine wpAnyT_takeT (n := 40) (i := 15) (v := .string T) rfl (by kernel_rfl) (by kernel_rfl) (by kernel_rfl) (by kernel_rfl) (by kernel_rfl) (fun _ _ _ h => h) (Or.inl ⟨by rfl, ?_⟩) hS0 ?_
  · intro W hW
    obtain ⟨k0, k1, k2, k3, k4, k5, k6, k7, k8, k9, k10⟩ := hW
    clear q0 q2 q3 ca0 ca1 ca2 ca3 cb0 cb1 cb2 cb3 hS0 hgE
    go_simp
  try simp only [Act.put]
  refine wpAnyT_one (i := 16) rfl (by kernel_rfl) rfl ?_
  go_simp
  refine wpAnyT_done (by kernel_rfl) ?_ _
  clear hS0 q0 q2 q3 ca0 ca1 ca2 ca3 cb0 cb1 cb2 cb3
  go_wp2
  go_ret
  exact ⟨rfl, hgE⟩

set_option maxHeartbeats 8000000 in
set_option maxRecDepth 100000 in
theorem rsh_asg (op name : List UInt8) (num : Int) (a : E) (hA : asgV op = true) (iha : RSh a) (hla : (showE a).length ≤ 2000000000) (hln : name.length ≤ 1000000) : RSh (.mk op num name [a]) := by
  intro v ok w hx hok
  obtain ⟨A, cc, rfl, hcc, hcm, hkr⟩ := hx.form
  obtain ⟨g, off, rfl, hgo, hkr⟩ := hkr.resolve_left (by simp)
  obtain ⟨a0, a1, a2, a3, ca0, ca1, ca2, ca3, hka⟩ := hkr.at_ 0 (by simp)
  simp only [List.getElem_cons_zero, Nat.zero_mul, Nat.add_zero] at ca0 ca1 ca2 ca3 hka
  have hgl := hok g hgo
  have iha := fun W (hW : w.grownBy W none) => iha _ ok W (hka.keep (fun _ h => h) (fun g h => hW.block g (hok g h) (by simp))) (fun g h => Nat.lt_of_lt_of_le (hok g h) hW.size)
  unfold maxLen at hcm
  simp only [List.length_cons, List.length_nil, Nat.zero_add] at hcc ⊢
  obtain ⟨x, hxx⟩ : ∃ x : ByteArray, (⟨op.toArray⟩ : ByteArray) = x := ⟨_, rfl⟩
  obtain ⟨nx, hnx⟩ : ∃ nx : ByteArray, (⟨name.toArray⟩ : ByteArray) = nx := ⟨_, rfl⟩
  have hxt : tl x = op := by rw [← hxx]; rfl
  have hxl : x.toList = op := by rw [Lib.toList_data]; exact hxt
  obtain ⟨enum, ename, eneg, epos, enot, ecom, eq⟩ := (asg_none hA)
  have gnum : (x.toList == [110, 117, 109]) = false := by rw [hxl, enum]
  have gname : (x.toList == [110, 97, 109, 101]) = false := by rw [hxl, ename]
  have gneg : (x.toList == [110, 101, 103]) = false := by rw [hxl, eneg]
  have gpos : (x.toList == [112, 111, 115]) = false := by rw [hxl, epos]
  have gnot : (x.toList == [110, 111, 116]) = false := by rw [hxl, enot]
  have gcom : (x.toList == [99, 111, 109]) = false := by rw [hxl, ecom]
  have gq : (x.toList == [63]) = false := by rw [hxl, eq]
  rw [hxx, hnx]
  obtain ⟨T, hT⟩ : ∃ T : ByteArray, (⟨(showE (.mk op num name [a])).toArray⟩ : ByteArray) = T := ⟨_, rfl⟩
  rw [hT]
  have hsh : showE (.mk op num name [a]) = ([40] ++ name ++ op ++ showE a) ++ [41] := by rw [showE, if_neg (asg_facts hA).2.2.2.2.1, if_neg (asg_facts hA).2.2.2.2.2]; simp [showL, bodyS, hA]
  rw [hsh] at hT
  have hol : op.length ≤ 3 := allM_short _ (asg_mem (by rw [hA]; decide))
  have has := fun W => rSets_any x W
  rw [hxt, hA] at has
  obtain ⟨Ta, hTa⟩ : ∃ T : ByteArray, (⟨(showE a).toArray⟩ : ByteArray) = T := ⟨_, rfl⟩
  obtain ⟨T1, hT1⟩ : ∃ T : ByteArray, (⟨([40] ++ name).toArray⟩ : ByteArray) = T := ⟨_, rfl⟩
  obtain ⟨T2, hT2⟩ : ∃ T : ByteArray, (⟨([40] ++ name ++ op).toArray⟩ : ByteArray) = T := ⟨_, rfl⟩
  obtain ⟨T3, hT3⟩ : ∃ T : ByteArray, (⟨([40] ++ name ++ op ++ showE a).toArray⟩ : ByteArray) = T := ⟨_, rfl⟩
  have ha0 : ∀ W, (Op.stringOp .add ⟨#[40]⟩ nx).run Tryz.prog W = .ok (.string T1) W := fun W => by rw [← hnx, ← hT1]; exact add_str ([40]) (name) (by simp; omega) W
  have ha1 : ∀ W, (Op.stringOp .add T1 x).run Tryz.prog W = .ok (.string T2) W := fun W => by rw [← hT1, ← hxx, ← hT2]; exact add_str ([40] ++ name) (op) (by simp; omega) W
  have ha2 : ∀ W, (Op.stringOp .add T2 Ta).run Tryz.prog W = .ok (.string T3) W := fun W => by rw [← hT2, ← hTa, ← hT3]; exact add_str ([40] ++ name ++ op) (showE a) (by simp; omega) W
  have ha3 : ∀ W, (Op.stringOp .add T3 ⟨#[41]⟩).run Tryz.prog W = .ok (.string T) W := fun W => by rw [← hT3, ← hT]; exact add_str ([40] ++ name ++ op ++ showE a) ([41]) (by simp; omega) W
  rw [hTa] at iha
  clear hx hkr hka hxx hnx hxt hT hsh hTa hT1 hT2 hT3 hla enum ename eneg epos enot ecom eq hxl hln hol
  go_enter Tryz.func41, Tryz.ntmps41
  go_upto_region 1 with fail
  obtain ⟨w2, hW2, hs2, hgr, hcz, hfz, hold⟩ := one_new w #[.string x, .int .i64 num, .string nx, .slice (some ⟨g, off, none⟩) 1 cc] 37
  rw [hW2]
  obtain ⟨z, hz⟩ : ∃ z, w.heap.size = z := ⟨_, rfl⟩
  rw [hz] at hcz hs2 ⊢
  have q0 := hcz 0 _ rfl
  have q1 := hcz 1 _ rfl
  have q2 := hcz 2 _ rfl
  have q3 := hcz 3 _ rfl
  have ca0 := (World.cell?_of_block (a := ⟨g, off, none⟩) (hold g hgl)).trans ca0
  have ca1 := (World.cell?_of_block (a := ⟨g, off + 1, none⟩) (hold g hgl)).trans ca1
  have ca2 := (World.cell?_of_block (a := ⟨g, off + 2, none⟩) (hold g hgl)).trans ca2
  have ca3 := (World.cell?_of_block (a := ⟨g, off + 3, none⟩) (hold g hgl)).trans ca3
  have hg2 := hgr none
  replace hz := Lib.hid hz
  clear hW2 hgr hcz hfz hold hs2
  go_wp2_with fail
  refine (has w2).mono ?_
  rintro e wq ⟨rfl, hwq⟩
  obtain rfl := hwq.symm
  clear has
  go_wp2_with fail
  refine wp_region_last (L := 13) (S := (fun w' : World => w'.cell? ⟨z, 0, none⟩ = some (.string x) ∧ w'.cell? ⟨z, 2, none⟩ = some (.string nx) ∧ w'.cell? ⟨z, 3, none⟩ = some (.slice (some ⟨g, off, none⟩) 1 cc) ∧ w'.cell? ⟨g, off, none⟩ = some (a0) ∧ w'.cell? ⟨g, off + 1, none⟩ = some (a1) ∧ w'.cell? ⟨g, off + 2, none⟩ = some (a2) ∧ w'.cell? ⟨g, off + 3, none⟩ = some (a3))) (by kernel_rfl) ?_
  have hS0 : (fun w' : World => w'.cell? ⟨z, 0, none⟩ = some (.string x) ∧ w'.cell? ⟨z, 2, none⟩ = some (.string nx) ∧ w'.cell? ⟨z, 3, none⟩ = some (.slice (some ⟨g, off, none⟩) 1 cc) ∧ w'.cell? ⟨g, off, none⟩ = some (a0) ∧ w'.cell? ⟨g, off + 1, none⟩ = some (a1) ∧ w'.cell? ⟨g, off + 2, none⟩ = some (a2) ∧ w'.cell? ⟨g, off + 3, none⟩ = some (a3)) w2.drew := ⟨q0, q2, q3, ca0, ca1, ca2, ca3⟩
  refine wpAnyT_takeT (n := 40) (i := 0) (v := .pointer (some ⟨z, 2, none⟩)) rfl (by kernel_rfl) (by kernel_rfl) (by kernel_rfl) (by kernel_rfl) (by kernel_rfl) (fun _ _ _ h => h) (Or.inl ⟨by rfl, ?_⟩) hS0 ?_
  · intro W hW
    obtain ⟨k0, k1, k2, k3, k4, k5, k6⟩ := hW
    clear q0 q2 q3 ca0 ca1 ca2 ca3 hS0 iha
    go_simp
  try simp only [Act.put, List.setIfInBounds_toArray]
  refine wpAnyT_takeT (n := 40) (i := 1) (v := .string nx) rfl (by kernel_rfl) (by kernel_rfl) (by kernel_rfl) (by kernel_rfl) (by kernel_rfl) (fun _ _ _ h => h) (Or.inl ⟨by rfl, ?_⟩) hS0 ?_
  · intro W hW
    obtain ⟨k0, k1, k2, k3, k4, k5, k6⟩ := hW
    clear q0 q2 q3 ca0 ca1 ca2 ca3 hS0 iha
    go_simp
  try simp only [Act.put]
  refine wpAnyT_takeT (n := 40) (i := 2) (v := .string T1) rfl (by kernel_rfl) (by kernel_rfl) (by kernel_rfl) (by kernel_rfl) (by kernel_rfl) (fun _ _ _ h => h) (Or.inl ⟨by rfl, ?_⟩) hS0 ?_
  · intro W hW
    obtain ⟨k0, k1, k2, k3, k4, k5, k6⟩ := hW
    clear q0 q2 q3 ca0 ca1 ca2 ca3 hS0 iha
    go_simp
  try simp only [Act.put]
  refine wpAnyT_takeT (n := 40) (i := 3) (v := .pointer (some ⟨z, 0, none⟩)) rfl (by kernel_rfl) (by kernel_rfl) (by kernel_rfl) (by kernel_rfl) (by kernel_rfl) (fun _ _ _ h => h) (Or.inl ⟨by rfl, ?_⟩) hS0 ?_
  · intro W hW
    obtain ⟨k0, k1, k2, k3, k4, k5, k6⟩ := hW
    clear q0 q2 q3 ca0 ca1 ca2 ca3 hS0 iha
    go_simp
  try simp only [Act.put]
  refine wpAnyT_takeT (n := 40) (i := 4) (v := .string x) rfl (by kernel_rfl) (by kernel_rfl) (by kernel_rfl) (by kernel_rfl) (by kernel_rfl) (fun _ _ _ h => h) (Or.inl ⟨by rfl, ?_⟩) hS0 ?_
  · intro W hW
    obtain ⟨k0, k1, k2, k3, k4, k5, k6⟩ := hW
    clear q0 q2 q3 ca0 ca1 ca2 ca3 hS0 iha
    go_simp
  try simp only [Act.put]
  refine wpAnyT_takeT (n := 40) (i := 5) (v := .string T2) rfl (by kernel_rfl) (by kernel_rfl) (by kernel_rfl) (by kernel_rfl) (by kernel_rfl) (fun _ _ _ h => h) (Or.inl ⟨by rfl, ?_⟩) hS0 ?_
  · intro W hW
    obtain ⟨k0, k1, k2, k3, k4, k5, k6⟩ := hW
    clear q0 q2 q3 ca0 ca1 ca2 ca3 hS0 iha
    go_simp
  try simp only [Act.put]
  refine wpAnyT_takeT (n := 40) (i := 6) (v := .pointer (some ⟨z, 3, none⟩)) rfl (by kernel_rfl) (by kernel_rfl) (by kernel_rfl) (by kernel_rfl) (by kernel_rfl) (fun _ _ _ h => h) (Or.inl ⟨by rfl, ?_⟩) hS0 ?_
  · intro W hW
    obtain ⟨k0, k1, k2, k3, k4, k5, k6⟩ := hW
    clear q0 q2 q3 ca0 ca1 ca2 ca3 hS0 iha
    go_simp
  try simp only [Act.put]
  refine wpAnyT_takeT (n := 40) (i := 7) (v := .slice (some ⟨g, off, none⟩) 1 cc) rfl (by kernel_rfl) (by kernel_rfl) (by kernel_rfl) (by kernel_rfl) (by kernel_rfl) (fun _ _ _ h => h) (Or.inl ⟨by rfl, ?_⟩) hS0 ?_
  · intro W hW
    obtain ⟨k0, k1, k2, k3, k4, k5, k6⟩ := hW
    clear q0 q2 q3 ca0 ca1 ca2 ca3 hS0 iha
    go_simp
  try simp only [Act.put]
  refine wpAnyT_takeT (n := 40) (i := 8) (v := .pointer (some ⟨g, off, none⟩)) rfl (by kernel_rfl) (by kernel_rfl) (by kernel_rfl) (by kernel_rfl) (by kernel_rfl) (fun _ _ _ h => h) (Or.inl ⟨by rfl, ?_⟩) hS0 ?_
  · intro W hW
    obtain ⟨k0, k1, k2, k3, k4, k5, k6⟩ := hW
    clear q0 q2 q3 ca0 ca1 ca2 ca3 hS0 iha
    go_simp
  try simp only [Act.put]
  refine wpAnyT_takeT (n := 40) (i := 9) (v := .agg #[a0, a1, a2, a3]) rfl (by kernel_rfl) (by kernel_rfl) (by kernel_rfl) (by kernel_rfl) (by kernel_rfl) (fun _ _ _ h => h) (Or.inl ⟨by rfl, ?_⟩) hS0 ?_
  · intro W hW
    obtain ⟨k0, k1, k2, k3, k4, k5, k6⟩ := hW
    clear q0 q2 q3 ca0 ca1 ca2 ca3 hS0 iha
    go_simp
  try simp only [Act.put]
  clear hS0
  refine wpAnyT_one (i := 10) rfl (by kernel_rfl) rfl ?_
  go_simp
  refine (iha w2.drew ⟨hg2.os, hg2.tape, hg2.output, hg2.size, hg2.block⟩).mono ?_
  rintro e v1 ⟨rfl, hh1⟩
  have gg1 : w2.grownBy v1 none := ⟨hh1.os, hh1.tape, hh1.output, hh1.size, hh1.block⟩
  have q0 := gg1.cell q0 (by simp)
  have q2 := gg1.cell q2 (by simp)
  have q3 := gg1.cell q3 (by simp)
  have ca0 := gg1.cell ca0 (by simp)
  have ca1 := gg1.cell ca1 (by simp)
  have ca2 := gg1.cell ca2 (by simp)
  have ca3 := gg1.cell ca3 (by simp)
  have hgE := grownBy_trans' hg2 gg1
  refine ⟨⟨q0, q2, q3, ca0, ca1, ca2, ca3⟩, ?_⟩
  have hS0 : (fun w' : World => w'.cell? ⟨z, 0, none⟩ = some (.string x) ∧ w'.cell? ⟨z, 2, none⟩ = some (.string nx) ∧ w'.cell? ⟨z, 3, none⟩ = some (.slice (some ⟨g, off, none⟩) 1 cc) ∧ w'.cell? ⟨g, off, none⟩ = some (a0) ∧ w'.cell? ⟨g, off + 1, none⟩ = some (a1) ∧ w'.cell? ⟨g, off + 2, none⟩ = some (a2) ∧ w'.cell? ⟨g, off + 3, none⟩ = some (a3)) v1 := ⟨q0, q2, q3, ca0, ca1, ca2, ca3⟩
  clear iha hh1 gg1
  refine wpAnyT_takeT (n := 40) (i := 11) (v := .string T3) rfl (by kernel_rfl) (by kernel_rfl) (by kernel_rfl) (by kernel_rfl) (by kernel_rfl) (fun _ _ _ h => h) (Or.inl ⟨by rfl, ?_⟩) hS0 ?_
  · intro W hW
    obtain ⟨k0, k1, k2, k3, k4, k5, k6⟩ := hW
    clear q0 q2 q3 ca0 ca1 ca2 ca3 hS0 hgE
    go_simp
  try simp only [Act.put]
  refine wpAnyT_takeT (n := 40) (i := 12) (v := .string T) rfl (by kernel_rfl) (by kernel_rfl) (by kernel_rfl) (by kernel_rfl) (by kernel_rfl) (fun _ _ _ h => h) (Or.inl ⟨by rfl, ?_⟩) hS0 ?_
  · intro W hW
    obtain ⟨k0, k1, k2, k3, k4, k5, k6⟩ := hW
    clear q0 q2 q3 ca0 ca1 ca2 ca3 hS0 hgE
    go_simp
  try simp only [Act.put]
  refine wpAnyT_one (i := 13) rfl (by kernel_rfl) rfl ?_
  go_simp
  refine wpAnyT_done (by kernel_rfl) ?_ _
  clear hS0 q0 q2 q3 ca0 ca1 ca2 ca3
  go_wp2
  go_ret
  exact ⟨rfl, hgE⟩
theorem rsh_all : ∀ (n : Nat) (x : E), sizeE x ≤ n → sizeE x ≤ 600 → rightE x = true → NumE x → ShortE x → RSh x
  | 0, .mk _ _ _ _, h, _, _, _, _ => by unfold sizeE at h; omega
  | n + 1, .mk op num name kids, h, h6, hr, hn, hs => by
    have hK := (right_parts hr).1
    have hrk := (right_parts hr).2.2.2
    have hnk := numL_mem hn
    unfold sizeE at h h6
    unfold ShortE at hs
    unfold NumE at hn
    have ih : ∀ x ∈ kids, RSh x := fun x hx => rsh_all n x (by have := sizeL.mem x hx; omega) (by have := sizeL.mem x hx; omega) (hrk x hx) (hnk x hx) (hs.2.mem x hx)
    have il : ∀ x ∈ kids, (showE x).length ≤ 2000000000 := fun x hx => by
      have h1 := show_len _ x (Nat.le_refl _) (hrk x hx) (hnk x hx) (hs.2.mem x hx)
      have h2 := sizeL.mem x hx
      omega
    match kids, ih, il, hK with
    | [], _, _, hK =>
      rcases kidsV_0 (op := op) (by simpa using hK.symm) with e | e
      · exact rsh_num op name num e hn.1
      · exact rsh_name op name num e
    | [a], ih, il, hK =>
      by_cases hA : asgV op = true
      · exact rsh_asg op name num a hA (ih a (by simp)) (il a (by simp)) hs.1
      · have hM := (kidsV_n1 (op := op) (by simpa using hK.symm)).resolve_right hA
        have := mark_four hM
        simp only [fourM, List.mem_cons, List.mem_nil_iff, or_false] at this
        rcases this with e | e | e | e
        · exact rsh_neg op name num a e (ih a (by simp)) (il a (by simp))
        · exact rsh_pos op name num a e (ih a (by simp)) (il a (by simp))
        · exact rsh_not op name num a e (ih a (by simp)) (il a (by simp))
        · exact rsh_com op name num a e (ih a (by simp)) (il a (by simp))
    | [a, b], ih, il, hK => exact rsh_two op name num a b (kidsV_n2 (by simpa using hK.symm)).1 (ih a (by simp)) (ih b (by simp)) (il a (by simp)) (il b (by simp))
    | [a, b, c], ih, il, hK => exact rsh_three op name num a b c (kidsV_3 (by simpa using hK.symm)) (ih a (by simp)) (ih b (by simp)) (ih c (by simp)) (il a (by simp)) (il b (by simp)) (il c (by simp))
    | a :: b :: c :: d :: l, _, _, hK =>
      exfalso
      simp only [List.length_cons] at hK
      have := kidsV_cases op
      omega
theorem rshow_any {x : E} (h6 : sizeE x ≤ 600) (hr : rightE x = true) (hn : NumE x) (hs : ShortE x) : RSh x := rsh_all _ x (Nat.le_refl _) h6 hr hn hs
end Go.Proofs.YtlijlgbaikijnaaGreatDoor

namespace Go.Proofs.YtlijlgbaikijnaaGreatDoor
open Go Go.RowKit

set_option maxHeartbeats 4000000 in
set_option maxRecDepth 100000 in
theorem rShowF_any (x : E) (h6 : sizeE x ≤ 600) (hn : NumE x) (hs : ShortE x) : Answers 14 x (.tuple #[.string ⟨(showF x).1.toArray⟩, .int .i64 (showF x).2]) := by
  intro v ok w hx hok
  have hri := fun W (hW : w.grownBy W none) => rRight_any x hs v ok W (hx.keep (fun _ h => h) (fun g h => hW.block g (hok g h) (by simp))) (fun g h => Nat.lt_of_lt_of_le (hok g h) hW.size)
  have hde := fun W (hW : w.grownBy W none) => rDeep_any x (by omega) v ok W (hx.keep (fun _ h => h) (fun g h => hW.block g (hok g h) (by simp))) (fun g h => Nat.lt_of_lt_of_le (hok g h) hW.size)
  have hsh := fun (hr : rightE x = true) W (hW : w.grownBy W none) => rshow_any h6 hr hn hs v ok W (hx.keep (fun _ h => h) (fun g h => hW.block g (hok g h) (by simp))) (fun g h => Nat.lt_of_lt_of_le (hok g h) hW.size)
  have hds := deep_size x
  obtain ⟨D, hD⟩ : ∃ D, deepE x = D := ⟨_, rfl⟩
  obtain ⟨rb, hrb⟩ : ∃ b, rightE x = b := ⟨_, rfl⟩
  have hdp : dpLe 20 x = decide (D ≤ 20) := by rw [dpLe_deep, hD]
  obtain ⟨RT, hRT⟩ : ∃ T : ByteArray, (⟨(showF x).1.toArray⟩ : ByteArray) = T := ⟨_, rfl⟩
  obtain ⟨RC, hRC⟩ : ∃ c, (showF x).2 = c := ⟨_, rfl⟩
  rw [hRT, hRC]
  unfold showF at hRT hRC
  rw [hdp, hrb] at hRT hRC
  rw [hrb] at hri hsh
  rw [hD] at hde hds
  obtain ⟨l, hl⟩ : ∃ l, showE x = l := ⟨_, rfl⟩
  rw [hl] at hsh hRT hRC
  replace hRT := Lib.hid hRT
  replace hRC := Lib.hid hRC
  obtain ⟨op, num, name, kids⟩ := x
  obtain ⟨A, cc, rfl, hcc, hcm, _⟩ := hx.form
  generalize kids.length = KL at hcc hri hde hsh ⊢
  generalize (⟨op.toArray⟩ : ByteArray) = sx at hri hde hsh ⊢
  generalize (⟨name.toArray⟩ : ByteArray) = nx at hri hde hsh ⊢
  clear hx hok hD hrb hdp hl hn hs
  go_enter Tryz.func14, Tryz.ntmps14
  go_upto_region 1 with fail
  obtain ⟨w2, hW2, hs2, hgr, hcz, _, _⟩ := one_new w #[.string sx, .int .i64 num, .string nx, .slice A KL cc] 37
  rw [hW2]
  obtain ⟨z, hz⟩ : ∃ z, w.heap.size = z := ⟨_, rfl⟩
  rw [hz] at hcz hs2 ⊢
  have q0 := hcz 0 _ rfl
  have q1 := hcz 1 _ rfl
  have q2 := hcz 2 _ rfl
  have q3 := hcz 3 _ rfl
  have hg2 := hgr none
  have hri2 := hri w2 hg2
  clear hW2 hgr hcz hri hs2
  go_wp2_with fail
  refine hri2.mono ?_
  rintro e w3 ⟨rfl, hg3⟩
  have q0 := hg3.cell q0 (by simp)
  have q1 := hg3.cell q1 (by simp)
  have q2 := hg3.cell q2 (by simp)
  have q3 := hg3.cell q3 (by simp)
  have hg3 := grownBy_trans' hg2 hg3
  clear hri2 hg2
  cases rb with
  | false =>
    obtain rfl : RT = ⟨#[]⟩ := hRT.out.symm
    obtain rfl : RC = 1 := hRC.out.symm
    clear hsh hde hRT hRC
    go_wp2
    go_ret2
    exact ⟨rfl, hg3⟩
  | true =>
  have hde3 := hde w3 hg3
  replace hsh := hsh rfl
  clear hde
  by_cases hD2 : D ≤ 20
  · have i0 : ¬ (20 : Int) < (D : Int) := by omega
    have hRT := hRT.out
    have hRC := hRC.out
    rw [if_neg (by simp), if_neg (by simp [hD2])] at hRT hRC
    replace hRT := Lib.hid hRT
    replace hRC := Lib.hid hRC
    clear hD2
    go_wp2_with fail
    refine hde3.mono ?_
    rintro e w4 ⟨rfl, hg4⟩
    have q0 := hg4.cell q0 (by simp)
    have q1 := hg4.cell q1 (by simp)
    have q2 := hg4.cell q2 (by simp)
    have q3 := hg4.cell q3 (by simp)
    have hg4 := grownBy_trans' hg3 hg4
    have hsh4 := hsh w4 hg4
    have hTs : (⟨l.toArray⟩ : ByteArray).size = l.length := by show l.toArray.size = _; simp
    obtain ⟨T, hT⟩ : ∃ T : ByteArray, (⟨l.toArray⟩ : ByteArray) = T := ⟨_, rfl⟩
    rw [hT] at hsh4 hTs
    clear hde3 hsh hg3
    by_cases hl4 : l.length ≤ 4096
    · have i1 : ¬ (4096 : Int) < (T.size : Int) := by omega
      have hRT := hRT.out
      have hRC := hRC.out
      rw [if_pos hl4] at hRT hRC
      obtain rfl : RT = T := hRT.symm.trans hT
      obtain rfl : RC = 0 := hRC.symm
      clear hl4 hTs hT hRT hRC
      go_wp2_with fail
      refine hsh4.mono ?_
      rintro e w5 ⟨rfl, hg5⟩
      have hgE := grownBy_trans' hg4 hg5
      clear hsh4 q0 q1 q2 q3 hg5 hg4
      go_wp2
      go_ret2
      exact ⟨rfl, hgE⟩
    · have i1 : (4096 : Int) < (T.size : Int) := by omega
      have hRT := hRT.out
      have hRC := hRC.out
      rw [if_neg hl4] at hRT hRC
      obtain rfl : RT = ⟨#[]⟩ := hRT.symm
      obtain rfl : RC = 21 := hRC.symm
      clear hl4 hTs hT hRT hRC
      go_wp2_with fail
      refine hsh4.mono ?_
      rintro e w5 ⟨rfl, hg5⟩
      have hgE := grownBy_trans' hg4 hg5
      clear hsh4 q0 q1 q2 q3 hg5 hg4
      go_wp2
      go_ret2
      exact ⟨rfl, hgE⟩
  · have i0 : (20 : Int) < (D : Int) := by omega
    have hRT := hRT.out
    have hRC := hRC.out
    rw [if_neg (by simp), if_pos (by simp [hD2])] at hRT hRC
    obtain rfl : RT = ⟨#[]⟩ := hRT.symm
    obtain rfl : RC = 32 := hRC.symm
    clear hD2 hsh hRT hRC
    go_wp2_with fail
    refine hde3.mono ?_
    rintro e w4 ⟨rfl, hg4⟩
    have hgE := grownBy_trans' hg3 hg4
    clear hde3 q0 q1 q2 q3 hg4 hg3
    go_wp2
    go_ret2
    exact ⟨rfl, hgE⟩

set_option maxHeartbeats 8000000 in
set_option maxRecDepth 100000 in
theorem lawShows_any (X : E) (v : Value) (w : World) (hx : ExR w (fun g => g < w.heap.size) X v) (hnX : NumE X) (hwX : WideE X) (ht : Tab w) :
    Calls Tryz.prog 4 #[v] w fun e w' => e = .returned (.bool true) ∧ w.grownBy w' none := by
  have haw := fun W (hg : w.grownBy W none) => awake_any W (ht.below (below_of_none hg))
  have hkeep := fun W (hg : w.grownBy W none) => (⟨hx.keep (fun _ h => h) (fun g h => hg.block g h (by simp)), fun g h => Nat.lt_of_lt_of_le h hg.size⟩ : ExR W (fun g => g < w.heap.size) X v ∧ ∀ g, g < w.heap.size → g < W.heap.size)
  have hfw := fun W hg => few_any X v (fun g => g < w.heap.size) W (hkeep W hg).1 (hkeep W hg).2
  obtain ⟨fb, hfb⟩ : ∃ fb, fewE X = fb := ⟨_, rfl⟩
  rw [hfb] at hfw
  obtain ⟨T, hT⟩ : ∃ T : ByteArray, (⟨(showF X).1.toArray⟩ : ByteArray) = T := ⟨_, rfl⟩
  obtain ⟨c, hc⟩ : ∃ c, (showF X).2 = c := ⟨_, rfl⟩
  have hfew : fb = true → (∀ W, w.grownBy W none → Calls Tryz.prog 13 #[v] W fun e w' => e = .returned (.tuple #[.string T, .int .i64 c]) ∧ W.grownBy w' none) ∧
      (∀ W, w.grownBy W none → Calls Tryz.prog 15 #[v] W fun e w' => (∃ u, e = .returned u ∧ ExR w' (fun g => W.heap.size ≤ g ∧ g < w'.heap.size) X u) ∧ W.grownBy w' none) ∧
      (∀ W u ok, ExR W ok X u → (∀ g, ok g → g < W.heap.size) → Calls Tryz.prog 14 #[u] W fun e w' => e = .returned (.tuple #[.string T, .int .i64 c]) ∧ W.grownBy w' none) := by
    intro h
    subst h
    obtain ⟨hsz, hsh⟩ := few_facts _ _ (Nat.le_refl _) hwX hfb
    refine ⟨fun W hg => ?_, fun W hg => ?_, fun W u ok h1 h2 => ?_⟩
    · have := Show_any X v _ W (hkeep W hg).1 (hkeep W hg).2 (ht.below (below_of_none hg)) hnX hsh (by omega)
      rwa [hT, hc] at this
    · exact plain_any X (by omega) v _ W (hkeep W hg).1 (hkeep W hg).2
    · have := rShowF_any X hsz hnX hsh u ok W h1 h2
      rwa [hT, hc] at this
  obtain ⟨op, num, name, kids⟩ := X
  obtain ⟨A, cc, rfl, _⟩ := hx.form
  generalize kids.length = KL at hfw hfew ⊢
  generalize (⟨op.toArray⟩ : ByteArray) = sx at hfw hfew ⊢
  generalize (⟨name.toArray⟩ : ByteArray) = nx at hfw hfew ⊢
  replace hfew := Lib.hid hfew
  clear hx hT hc hfb hkeep hnX hwX ht
  go_enter Tryz.func4, Tryz.ntmps4
  go_upto_region 1 with fail
  obtain ⟨w2, hW2, hs2, hgr, hcz, _, _⟩ := one_new w #[.string sx, .int .i64 num, .string nx, .slice A KL cc] 30
  rw [hW2]
  obtain ⟨z, hz⟩ : ∃ z, w.heap.size = z := ⟨_, rfl⟩
  rw [hz] at hcz hs2 ⊢
  have q0 := hcz 0 _ rfl
  have q1 := hcz 1 _ rfl
  have q2 := hcz 2 _ rfl
  have q3 := hcz 3 _ rfl
  have hg2 := hgr none
  have hf2 := hfw w2 hg2
  clear hW2 hgr hcz hfw hs2 hz
  cases fb with
  | false =>
    clear hfew
    go_wp2_with fail
    refine hf2.mono ?_
    rintro e w3 ⟨rfl, hg3⟩
    have hg3 := grownBy_trans' hg2 hg3
    have haw3 := haw w3 hg3
    clear haw hf2 q0 q1 q2 q3
    go_wp2_with fail
    refine haw3.mono ?_
    rintro e w4 ⟨rfl, hg4⟩
    have hgE := grownBy_trans' hg3 hg4
    go_wp2
    go_ret
    exact ⟨rfl, hgE⟩
  | true =>
  obtain ⟨hsa, hpl, hrs⟩ := hfew.out rfl
  clear hfew
  go_wp2_with fail
  refine hf2.mono ?_
  rintro e w3 ⟨rfl, hg3⟩
  have q0 := hg3.cell q0 (by simp)
  have q1 := hg3.cell q1 (by simp)
  have q2 := hg3.cell q2 (by simp)
  have q3 := hg3.cell q3 (by simp)
  have hg3 := grownBy_trans' hg2 hg3
  have hsa3 := hsa w3 hg3
  clear hf2 hsa hg2
  go_wp2_with fail
  refine hsa3.mono ?_
  rintro e w4 ⟨rfl, hg4⟩
  have q0 := hg4.cell q0 (by simp)
  have q1 := hg4.cell q1 (by simp)
  have q2 := hg4.cell q2 (by simp)
  have q3 := hg4.cell q3 (by simp)
  have hg4 := grownBy_trans' hg3 hg4
  have hpl4 := hpl w4 hg4
  clear hsa3 hpl hg3
  go_wp2_with fail
  refine hpl4.mono ?_
  rintro e w5 ⟨⟨u, rfl, hu⟩, hg5⟩
  have hrs5 := hrs w5 u _ hu (fun g h => h.2)
  have hg5 := grownBy_trans' hg4 hg5
  clear hpl4 hrs hu hg4 q0 q1 q2 q3
  go_wp2_with fail
  refine hrs5.mono ?_
  rintro e w6 ⟨rfl, hg6⟩
  have hg6 := grownBy_trans' hg5 hg6
  have haw6 := haw w6 hg6
  have e0 : (T.toList == T.toList) = true := by simp
  have e1 : (c == c) = true := by simp
  clear hrs5 haw hg5
  go_wp2_with fail
  refine haw6.mono ?_
  rintro e w7 ⟨rfl, hg7⟩
  have hgE := grownBy_trans' hg6 hg7
  clear haw6 hg6 hg7
  go_wp2
  go_ret
  exact ⟨rfl, hgE⟩
end Go.Proofs.YtlijlgbaikijnaaGreatDoor
