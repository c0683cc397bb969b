/-
  A table in memory: its pairs; the first of a name, Get. Conditions: none.
  A table's Set, by the package: the pairs are cloned first. Conditions: at most a million pairs.
-/
import Derived.Test.YtlijlgbaikijnaaGreatDoorSmDeeper
import Derived.Test.YtlijlgbaikijnaaGreatDoorMkAppend
import Derived.Test.YtlijlgbaikijnaaGreatDoorSmFace
namespace Go.Proofs.YtlijlgbaikijnaaGreatDoor
open Go Go.RowKit

/-- A pair: its name, its text, whether it stays. -/
abbrev Pr := ByteArray × ByteArray × Bool
def cellsPr (l : List Pr) : List Value := l.flatMap fun p => [.string p.1, .string p.2.1, .bool p.2.2]
theorem cellsPr_length (l : List Pr) : (cellsPr l).length = l.length * 3 := by
  induction l with
  | nil => rfl
  | cons a l ih => simp only [cellsPr, List.flatMap_cons, List.length_append, List.length_cons, List.length_nil] at ih ⊢; omega
theorem cellsPr_append (l m : List Pr) : cellsPr (l ++ m) = cellsPr l ++ cellsPr m := by simp [cellsPr]
theorem cellsPr_at (l : List Pr) (k : Nat) (h : k < l.length) : (cellsPr l)[k * 3]? = some (.string l[k].1) ∧ (cellsPr l)[k * 3 + 1]? = some (.string l[k].2.1) ∧ (cellsPr l)[k * 3 + 2]? = some (.bool l[k].2.2) := by
  induction l generalizing k with
  | nil => simp at h
  | cons a l ih =>
    cases k with
    | zero => exact ⟨rfl, rfl, rfl⟩
    | succ k =>
      have e : (k + 1) * 3 = k * 3 + 1 + 1 + 1 := by omega
      have := ih k (by simpa using h)
      simp only [cellsPr, List.flatMap_cons, e, List.cons_append, List.nil_append, List.getElem?_cons_succ, List.getElem_cons_succ] at this ⊢
      exact this
theorem cellsPr_set (l : List Pr) (k : Nat) (h : k < l.length) (v : ByteArray) : cellsPr (l.set k (l[k].1, v, l[k].2.2)) = (cellsPr l).set (k * 3 + 1) (.string v) := by
  induction l generalizing k with
  | nil => simp at h
  | cons a l ih =>
    cases k with
    | zero => rfl
    | succ k =>
      have e : (k + 1) * 3 + 1 = k * 3 + 1 + 1 + 1 + 1 := by omega
      have := ih k (by simpa using h)
      simp only [cellsPr, List.set_cons_succ, List.flatMap_cons, e, List.cons_append, List.nil_append, List.getElem_cons_succ] at this ⊢
      rw [this]
theorem cellsPr_one (l : List Pr) : ∀ u ∈ cellsPr l, u.oneCell' = true := by
  intro u hu
  simp only [cellsPr, List.mem_flatMap, List.mem_cons, List.mem_nil_iff, or_false] at hu
  obtain ⟨a, _, rfl | rfl | rfl⟩ := hu <;> rfl

/-- A slice reads as pairs; their block is not tb. -/
def PrS (w : World) (tb : Nat) (v : Value) (ps : List Pr) : Prop :=
  Sl w w.heap.size 3 v ps.length (cellsPr ps) ∧ ∀ (b off n c : Nat), v = .slice (some ⟨b, off, none⟩) n c → 0 < n → b ≠ tb
theorem PrS.keep {w w' : World} {tb : Nat} {v : Value} {ps : List Pr} (h : PrS w tb v ps) (hg : w.grownBy w' (some tb)) : PrS w' tb v ps := by
  obtain ⟨⟨A, c, hv, h1, h2, h3, h4⟩, hb⟩ := h
  refine ⟨⟨A, c, hv, h1, h2, h3, fun hn => ?_⟩, hb⟩
  obtain ⟨b, off, hA, hlt, hc⟩ := h4 hn
  have hne := hb b off _ c (by rw [hv, hA]) hn
  exact ⟨b, off, hA, Nat.lt_of_lt_of_le hlt hg.size, fun j u hu => hg.cell (hc j u hu) (by simpa using hne)⟩
theorem PrS.form {w : World} {tb : Nat} {v : Value} {ps : List Pr} (h : PrS w tb v ps) : ∃ (A : Option Addr) (c : Nat), v = .slice A ps.length c ∧ ps.length ≤ c ∧ c ≤ maxLen := by
  obtain ⟨⟨A, c, hv, h1, h2, _⟩, _⟩ := h
  exact ⟨A, c, hv, h1, h2⟩
theorem PrS.at_ {w : World} {tb : Nat} {A : Option Addr} {n c : Nat} {ps : List Pr} (h : PrS w tb (.slice A n c) ps) (k : Nat) (hk : k < ps.length) : ∃ b off : Nat, A = some ⟨b, off, none⟩ ∧ b < w.heap.size ∧ b ≠ tb ∧
    w.cell? ⟨b, off + k * 3, none⟩ = some (.string ps[k].1) ∧ w.cell? ⟨b, off + k * 3 + 1, none⟩ = some (.string ps[k].2.1) ∧ w.cell? ⟨b, off + k * 3 + 2, none⟩ = some (.bool ps[k].2.2) := by
  obtain ⟨⟨A', c', hv, h1, h2, h3, h4⟩, hb⟩ := h
  injection hv with e1 e2 e3
  subst e1 e2 e3
  obtain ⟨b, off, hA, hlt, hc⟩ := h4 (by omega)
  have hne := hb b off _ _ (by rw [hA]) (by omega)
  obtain ⟨c0, c1, c2⟩ := cellsPr_at ps k hk
  exact ⟨b, off, hA, hlt, hne, hc _ _ c0, by rw [Nat.add_assoc]; exact hc _ _ c1, by rw [Nat.add_assoc]; exact hc _ _ c2⟩

/-- A table in memory. -/
structure TabAt (w : World) (tb : Nat) (ps : List Pr) : Prop where
  cell : ∃ v, w.cell? ⟨tb, 0, none⟩ = some v ∧ PrS w tb v ps
  fz : w.frozen? ⟨tb, 0, none⟩ = false
  ty : 0 < ps.length → ∀ (b off n c : Nat), w.cell? ⟨tb, 0, none⟩ = some (.slice (some ⟨b, off, none⟩) n c) → ∃ cur o, w.heap[b]? = some (.cells cur 57 o)
theorem own_ty {w : World} {base tb n' b off n c : Nat} {e : TypeId} {v : Value} {xs : List Value} (h : w.ownsRow base e 3 v n' xs) (hv : w.cell? ⟨tb, 0, none⟩ = some v) (hs : w.cell? ⟨tb, 0, none⟩ = some (.slice (some ⟨b, off, none⟩) n c)) : ∃ cur o, w.heap[b]? = some (.cells cur e o) := by
  rw [hv] at hs
  obtain rfl := Option.some.inj hs
  rcases h.2 with ⟨h, _⟩ | ⟨g, cap, cur, h, _, hh, _⟩
  · cases h
  · injection h with h1
    obtain ⟨rfl, _⟩ := Addr.mk.inj (Option.some.inj h1)
    exact ⟨cur, _, hh⟩
theorem TabAt.keep {w w' : World} {tb : Nat} {ps : List Pr} (h : TabAt w tb ps) (hg : w.grownBy w' none) : TabAt w' tb ps := by
  obtain ⟨⟨v, hc, hp⟩, hf, hty⟩ := h
  have hlt := World.block_lt_of_cell? w ⟨tb, 0, none⟩ hc
  have hb := hg.block tb hlt (by simp)
  refine ⟨⟨v, hg.cell hc (by simp), hp.keep ⟨hg.os, hg.tape, hg.output, hg.size, fun k hk _ => hg.block k hk (by simp)⟩⟩, ?_, fun hn b off n c h => ?_⟩
  · exact (World.frozen?_of_block (a := ⟨tb, 0, none⟩) hb).trans hf
  · obtain ⟨cur, o, hh⟩ := hty hn b off n c ((World.cell?_of_block (a := ⟨tb, 0, none⟩) hb).symm.trans h)
    exact ⟨cur, o, (hg.block b (Array.getElem?_eq_some_iff.1 hh).1 (by simp)).trans hh⟩

/-- The place of the first pair of a name. -/
def firstP (ps : List Pr) (nm : ByteArray) : Option Nat := ps.findIdx? fun p => p.1.toList == nm.toList
def optI : Option Nat → Int | some i => i | none => -1
def getP (ps : List Pr) (nm : ByteArray) : Option ByteArray := match firstP ps nm with | some i => ps[i]?.map (·.2.1) | none => none
theorem firstP_lt {ps : List Pr} {nm : ByteArray} {i : Nat} (h : firstP ps nm = some i) : i < ps.length := by
  unfold firstP at h
  rw [List.findIdx?_eq_some_iff_getElem] at h
  exact h.1

set_option maxHeartbeats 1000000 in
set_option maxRecDepth 100000 in
theorem first1_any (a : Addr) (nm x v : ByteArray) (f : Bool) (w : World) (ha : w.cell? a = some (.string nm)) :
    Calls Tryz.prog 79 #[.agg #[.string x, .string v, .bool f], .pointer (some a)] w fun e w' => e = .returned (.bool (x.toList == nm.toList)) ∧ w.grownBy w' none := by
  have hab := World.block_lt_of_cell? w a ha
  go_enter Tryz.func79, Tryz.ntmps79
  go_upto_region 1 with fail
  obtain ⟨w2, hW2, hs2, hgr, hcz, _, hold⟩ := one_new w #[.string x, .string v, .bool f] 57
  rw [hW2]
  obtain ⟨z, hz⟩ : ∃ z, w.heap.size = z := ⟨_, rfl⟩
  rw [hz] at hcz hs2 ⊢
  have c0 := hcz 0 _ rfl
  have ha3 := (hgr none).cell ha (by simp)
  have hg2 := hgr none
  clear hW2 hgr hcz hold ha
  go_wp2
  go_ret
  exact ⟨rfl, hg2⟩

set_option maxHeartbeats 2000000 in
set_option maxRecDepth 100000 in
theorem indexPr_any (a : Addr) (nm : ByteArray) (tb : Nat) (ps : List Pr) (v : Value) (w : World) (hp : PrS w tb v ps) (ha : w.cell? a = some (.string nm)) :
    Calls Tryz.prog 78 #[v, .func (.func 79) #[] #[.pointer (some a)]] w fun e w' => e = .returned (.int .i64 (optI (firstP ps nm))) ∧ w.grownBy w' none := by
  obtain ⟨A, c, rfl, hc, hcm⟩ := hp.form
  unfold maxLen at hcm
  obtain ⟨r, hr⟩ : ∃ r : Int, optI (firstP ps nm) = r := ⟨_, rfl⟩
  rw [hr]
  have hr := Lib.hid hr
  have hab := World.block_lt_of_cell? w a ha
  have ha := Lib.hid ha
  have hp := Lib.hid hp
  obtain ⟨KL, hKL⟩ : ∃ KL, ps.length = KL := ⟨_, rfl⟩
  rw [hKL] at hc hp ⊢
  have hKL := Lib.hid hKL
  go_enter Tryz.func78, Tryz.ntmps78
  go_wp2
  go_loopw [8] (fun nv wr => ∃ n : Nat, n ≤ KL ∧ nv = .int .i64 (n : Int) ∧ Hid (w.grownBy wr none) ∧ Hid (∀ i (hi : i < ps.length), i < n → (ps[i].1.toList == nm.toList) = false)) (fun nv _ => KL - (intOf nv).toNat)
  case atStart => exact ⟨0, Nat.zero_le _, rfl, grownBy_refl' _ _, fun _ _ h => absurd h (Nat.not_lt_zero _)⟩
  case round =>
    obtain ⟨n, hn, rfl, hg, hno⟩ := hrel
    by_cases hlt : n < KL
    · have hlt' : n < ps.length := by rw [hKL.out]; exact hlt
      obtain ⟨b, off, rfl, hb, hbt, c0, c1, c2⟩ := hp.out.at_ n hlt'
      have hblk := hg.out.block b hb (by simp)
      have d0 := (World.cell?_of_block (a := ⟨b, off + n * 3, none⟩) hblk).trans c0
      have d1 := (World.cell?_of_block (a := ⟨b, off + n * 3 + 1, none⟩) hblk).trans c1
      have d2 := (World.cell?_of_block (a := ⟨b, off + n * 3 + 2, none⟩) hblk).trans c2
      have hcl := first1_any a nm ps[n].1 ps[n].2.1 ps[n].2.2 wr (hg.out.cell ha.out (by simp))
      obtain ⟨q, hq⟩ : ∃ q, (ps[n].1.toList == nm.toList) = q := ⟨_, rfl⟩
      rw [hq] at hcl
      generalize ps[n].1 = x0 at d0 hcl
      generalize ps[n].2.1 = x1 at d1 hcl
      generalize ps[n].2.2 = x2 at d2 hcl
      clear c0 c1 c2 hblk
      have hq := Lib.hid hq
      cases q with
      | true =>
        have hrn : r = (n : Int) := by
          rw [← hr.out]
          have h1 : firstP ps nm = some n := by
            unfold firstP
            rw [List.findIdx?_eq_some_iff_getElem]
            exact ⟨hlt', hq.out, fun j hj => by rw [hno.out j (by omega) hj]; simp⟩
          rw [h1]; rfl
        subst hrn
        clear hr hno hq
        go_wp2_with fail
        refine hcl.mono ?_
        rintro e w1 ⟨rfl, hg1⟩
        have hgE := grownBy_trans' hg.out hg1
        clear hcl
        go_wp2
        go_ret
        exact ⟨rfl, hgE⟩
      | false =>
        have hno2 : Hid (∀ i (hi : i < ps.length), i < n + 1 → (ps[i].1.toList == nm.toList) = false) := fun i hi h => by
          rcases Nat.lt_or_ge i n with h' | h'
          · exact hno.out i hi h'
          · obtain rfl : i = n := by omega
            exact hq.out
        clear hno hq
        go_wp2_with fail
        refine hcl.mono ?_
        rintro e w1 ⟨rfl, hg1⟩
        have hgE := Lib.hid (grownBy_trans' hg.out hg1)
        clear hcl
        go_wp2
        go_roundw
        case rel => exact ⟨n + 1, by omega, by go_num, hgE, hno2⟩
        case measure => simp [intOf]; omega
    · obtain rfl : n = KL := by omega
      have hrn : r = -1 := by
        rw [← hr.out]
        have h1 : firstP ps nm = none := by
          unfold firstP
          rw [List.findIdx?_eq_none_iff]
          intro x hx
          obtain ⟨i, hi, rfl⟩ := List.getElem_of_mem hx
          exact hno.out i hi (by have := hKL.out; omega)
        rw [h1]; rfl
      subst hrn
      clear hr hno
      go_wp2
      go_ret
      exact ⟨rfl, hg.out⟩

set_option maxHeartbeats 1000000 in
set_option maxRecDepth 100000 in
theorem first_any (nm : ByteArray) (tb : Nat) (ps : List Pr) (w : World) (ht : TabAt w tb ps) :
    Calls Tryz.prog 45 #[.pointer (some ⟨tb, 0, none⟩), .string nm] w fun e w' => e = .returned (.int .i64 (optI (firstP ps nm))) ∧ w.grownBy w' none := by
  have hmf : ∀ (fn : Fn) (first cap : Array Value) (w : World), (Instr.makeFunc fn first cap).run Tryz.prog w = .ok (.func fn first cap) w := fun _ _ _ _ => rfl
  obtain ⟨r, hr⟩ : ∃ r : Int, optI (firstP ps nm) = r := ⟨_, rfl⟩
  have hix := fun a W v (h1 : PrS W tb v ps) h2 => indexPr_any a nm tb ps v W h1 h2
  rw [hr] at hix ⊢
  have ht0 := Lib.hid ht
  obtain ⟨⟨v, hv, hp⟩, hf, _⟩ := ht
  have hlt := World.block_lt_of_cell? w ⟨tb, 0, none⟩ hv
  obtain ⟨A, c, rfl, hc, hcm⟩ := hp.form
  obtain ⟨KL, hKL⟩ : ∃ KL, ps.length = KL := ⟨_, rfl⟩
  rw [hKL] at hv hp
  have hp := Lib.hid hp
  clear hr hf hKL
  go_enter Tryz.func45, Tryz.ntmps45
  go_upto_region 1 with fail
  obtain ⟨w2, hW2, hs2, hgr, hcz, _, hold⟩ := one_new w #[.string nm] 9
  rw [hW2]
  obtain ⟨z, hz⟩ : ∃ z, w.heap.size = z := ⟨_, rfl⟩
  rw [hz] at hcz hs2 ⊢
  have c0 := hcz 0 _ rfl
  have hv2 := (hgr none).cell hv (by simp)
  have hg2 := hgr none
  have hix2 := hix ⟨z, 0, none⟩ w2 _ (hp.out.keep (hgr (some tb))) c0
  clear hW2 hgr hcz hold hv hix
  go_wp2_with fail
  refine hix2.mono ?_
  rintro e w3 ⟨rfl, hg3⟩
  have hgE := grownBy_trans' hg2 hg3
  clear hix2
  go_wp2
  go_ret
  exact ⟨rfl, hgE⟩

set_option maxHeartbeats 1000000 in
set_option maxRecDepth 100000 in
theorem get_any (nm : ByteArray) (tb : Nat) (ps : List Pr) (w : World) (ht : TabAt w tb ps) :
    Calls Tryz.prog 20 #[.pointer (some ⟨tb, 0, none⟩), .string nm] w fun e w' => e = .returned (.tuple (match getP ps nm with | some s => #[.string s, .bool true] | none => #[.string ⟨#[]⟩, .bool false])) ∧ w.grownBy w' none := by
  have hfi := first_any nm tb ps w ht
  obtain ⟨⟨v, hv, hp⟩, hf, _⟩ := ht
  obtain ⟨A, c, rfl, hc, hcm⟩ := hp.form
  unfold getP
  cases hfp : firstP ps nm with
  | none =>
    rw [hfp] at hfi
    simp only [optI] at hfi ⊢
    clear hv hp hf hfp hc hcm
    go_enter Tryz.func20, Tryz.ntmps20
    go_wp2_with fail
    refine hfi.mono ?_
    rintro e w2 ⟨rfl, hg⟩
    go_wp2
    go_ret2
    exact ⟨rfl, hg⟩
  | some i =>
    rw [hfp] at hfi
    simp only [optI] at hfi ⊢
    have hi := firstP_lt hfp
    obtain ⟨b, off, rfl, hb, hbt, c0, c1, c2⟩ := hp.at_ i hi
    rw [List.getElem?_eq_getElem hi]
    simp only [Option.map_some]
    generalize ps[i].2.1 = s at c1 ⊢
    clear hp hf hfp c0 c2
    generalize ps.length = KL at hv hc hi
    unfold maxLen at hcm
    go_enter Tryz.func20, Tryz.ntmps20
    go_wp2_with fail
    refine hfi.mono ?_
    rintro e w2 ⟨rfl, hg⟩
    have hv := hg.cell hv (by simp)
    have c1 := hg.cell c1 (by simp)
    go_wp2
    go_ret2
    exact ⟨rfl, hg⟩
end Go.Proofs.YtlijlgbaikijnaaGreatDoor

namespace Go.Proofs.YtlijlgbaikijnaaGreatDoor
open Go Go.RowKit

/-- What a table has behind a Set; none, if the first pair of that name stays. -/
def setP (ps : List Pr) (nm v : ByteArray) : Option (List Pr) :=
  match firstP ps nm with
  | none => some (ps ++ [(nm, v, false)])
  | some i => match ps[i]? with
    | some p => if p.2.2 then none else some (ps.set i (p.1, v, p.2.2))
    | none => none

theorem infoPr : (Tryz.prog.info? 57).map (fun i => (i.zero, i.size, i.bytes)) = some (some (.agg #[.string ⟨#[]⟩, .string ⟨#[]⟩, .bool false]), 3, 40) := by kernel_rfl

set_option maxHeartbeats 1000000 in
set_option maxRecDepth 100000 in
theorem clonePr_any (tb : Nat) (ps : List Pr) (v : Value) (w : World) (hp : PrS w tb v ps) (hl : ps.length ≤ 1000000) :
    Calls Tryz.prog 147 #[v] w fun e w' => ∃ v', e = .returned v' ∧ w'.ownsRow w.heap.size 57 3 v' ps.length (cellsPr ps) ∧ w.grownBy w' none := by
  obtain ⟨⟨A, c, rfl, hc, hcm, hlen, hcell⟩, _⟩ := hp
  unfold maxLen at hcm
  obtain ⟨i0, hi, hz0, hz1, hz2⟩ := info_parts infoPr
  have q22 : ∀ (w : World) (a : Option Addr) (n c n' c' : Nat), (binOp .eql 39 (.slice a n c) (.slice none n' c')).run Tryz.prog w = .ok (.bool a.isNone) w := fun w a n c n' c' => Lib.run_eql_slice_nil w _ _ a n c n' c' Tryz.underlying39
  cases A with
  | none =>
    have h0 : ps.length = 0 := by
      rcases Nat.eq_zero_or_pos ps.length with h | h
      · exact h
      · obtain ⟨b, off, h', _⟩ := hcell h
        cases h'
    obtain rfl := List.eq_nil_of_length_eq_zero h0
    clear hi hz0 hz1 hz2
    go_enter Tryz.func147, Tryz.ntmps147
    go_wp2
    go_ret
    exact ⟨_, rfl, World.ownsRow_nil _ _ _ _, grownBy_refl' _ _⟩
  | some ad =>
    have hnews : ∀ j u, (cellsPr ps)[j]? = some u → w.cell? (ad.add j) = some u := by
      intro j u hu
      have hpos : 0 < ps.length := by
        rcases Nat.eq_zero_or_pos ps.length with h | h
        · rw [List.getElem?_eq_none (by rw [hlen, h]; omega)] at hu; cases hu
        · exact h
      obtain ⟨b, off, h', _, hcc⟩ := hcell hpos
      injection h' with h'
      subst h'
      rw [add_plain0]
      exact hcc j u hu
    have hnews := Lib.hid hnews
    have hone := cellsPr_one ps
    clear hcell
    go_enter Tryz.func147, Tryz.ntmps147
    go_wp2_with (at_builtin; refine wpList_append_own _ rfl _ _ 39 rfl w.heap.size 57 i0 _ 3 40 Tryz.underlying39 hi hz0 hz1 hz2 rfl (by decide) _ _ _ rfl (World.ownsRow_made w #[] 0 (Nat.le_refl _) (Nat.zero_le _) (by simp)) ad ps.length c (cellsPr ps) rfl ?qc1 ?qc2 ?qc3 ?qc4 ?qc5 ?qc6 ?_)
    case qc1 => exact hlen
    case qc2 =>
      intro j u hj
      exact Lib.cell?_alloc_some _ (hnews.out j u hj)
    case qc3 => exact hone
    case qc4 => rw [Nat.zero_add]; simp only [maxLen]; omega
    case qc5 => rw [Nat.zero_add]; omega
    case qc6 => simp
    intro v' w1 hown hgrow _
    have hb : Below w.heap.size w w1 := ((Below.refl _ w).alloc (Nat.le_refl _) _).grown hgrow (by simp) (by intro k hk; simp [Value.ownBlock] at hk; omega)
    go_wp2
    go_ret
    exact ⟨v', rfl, by simpa using hown, hb.os, hb.tape, hb.output, hb.size, fun k hk _ => hb.block k hk⟩

/-- A row of the call's own as a table's pairs. -/
theorem prS_own {w : World} {base tb n : Nat} {e : TypeId} {v : Value} {ps : List Pr} (h : w.ownsRow base e 3 v n (cellsPr ps)) (hn : n = ps.length) (hb : tb < base) : PrS w tb v ps := by
  subst hn
  refine ⟨Sl.of_own h, fun b off n c hv _ => ?_⟩
  have := h.lt b (by rw [hv]; rfl)
  omega

set_option maxHeartbeats 2000000 in
set_option maxRecDepth 100000 in
theorem set_any (nm v : ByteArray) (tb : Nat) (ps : List Pr) (w : World) (ht : TabAt w tb ps) (hl : ps.length < 1000000) :
    Calls Tryz.prog 146 #[.pointer (some ⟨tb, 0, none⟩), .string nm, .string v] w fun e w' => match setP ps nm v with
      | none => e = .returned (.int .i64 26) ∧ w.grownBy w' none
      | some qs => e = .returned (.int .i64 0) ∧ w.grownBy w' (some tb) ∧ TabAt w' tb qs := by
  have hfi := first_any nm tb ps w ht
  have ht0 := Lib.hid ht
  obtain ⟨⟨u, hv, hp⟩, hf, _⟩ := ht
  have htb := World.block_lt_of_cell? w ⟨tb, 0, none⟩ hv
  unfold setP
  cases hfp : firstP ps nm with
  | none =>
    rw [hfp] at hfi
    simp only [optI] at hfi ⊢
    obtain ⟨A, c, rfl, hc, hcm⟩ := hp.form
    have hcl := fun W (h : PrS W tb (.slice A ps.length c) ps) => clonePr_any tb ps _ W h (by omega)
    obtain ⟨i0, hi, hz0, hz1, hz2⟩ := info_parts infoPr
    obtain ⟨KL, hKL⟩ : ∃ KL, ps.length = KL := ⟨_, rfl⟩
    rw [hKL] at hv hp hcl hl hc
    have hp := Lib.hid hp
    have hKL := Lib.hid hKL
    clear hfp
    go_enter Tryz.func146, Tryz.ntmps146
    go_wp2_with fail
    refine hfi.mono ?_
    rintro e w2 ⟨rfl, hg⟩
    have hv := hg.cell hv (by simp)
    have hsz2 := hg.size
    have hcl2 := hcl w2 (hp.out.keep ⟨hg.os, hg.tape, hg.output, hg.size, fun k hk _ => hg.block k hk (by simp)⟩)
    clear hfi hcl
    go_wp2_with fail
    refine hcl2.mono ?_
    rintro e w3 ⟨v', rfl, hown, hg3⟩
    have hown := Lib.hid hown
    have hgE := grownBy_trans' hg hg3
    have hsz3 := hg3.size
    have hv := hg3.cell hv (by simp)
    have hf3 := (World.frozen?_of_block (a := ⟨tb, 0, none⟩) (hgE.block tb htb (by simp))).trans hf
    clear hcl2
    go_wp2_with (at_builtin; refine wpList_append_own _ rfl _ _ 39 rfl w2.heap.size 57 i0 _ 3 40 Tryz.underlying39 hi hz0 hz1 hz2 rfl (by decide) _ KL _ rfl (hown.out.alloc _) ⟨w3.heap.size, 0, none⟩ 1 1 [.string nm, .string v, .bool false] rfl ?qc1 ?qc2 ?qc3 ?qc4 ?qc5 ?qc6 ?_)
    case qc1 => rfl
    case qc2 => exact new_cells w3 _ _
    case qc3 => intro u hu; simp at hu; rcases hu with rfl | rfl | rfl <;> rfl
    case qc4 => simp only [maxLen]; omega
    case qc5 => omega
    case qc6 => simp; omega
    intro v2 w4 hown2 hgrow _
    obtain ⟨g, cap, rfl⟩ : ∃ g cap, v2 = .slice (some ⟨g, 0, none⟩) (KL + 1) cap := by
      rcases hown2.2 with ⟨_, h⟩ | ⟨g, cap, _, h, _⟩
      · omega
      · exact ⟨g, cap, h⟩
    have hown2 := Lib.hid hown2
    have hg4 : w.grownBy w4 none := by
      have h1 := grownBy_trans' hgE (World.grownBy_alloc w3 (.cells #[.string nm, .string v, .bool false] 57) none)
      refine ⟨hgrow.os.trans h1.os, hgrow.tape.trans h1.tape, hgrow.output.trans h1.output, Nat.le_trans h1.size hgrow.size, fun k hk _ => ?_⟩
      refine (hgrow.block k (Nat.lt_of_lt_of_le hk h1.size) ?_).trans (h1.block k hk (by simp))
      intro h
      have := hown.out.lt k h.symm
      omega
    have hv4 := hg4.cell (show w.cell? ⟨tb, 0, none⟩ = _ from by assumption) (by simp)
    have hf4 := (World.frozen?_of_block (a := ⟨tb, 0, none⟩) (hg4.block tb htb (by simp))).trans hf
    clear hgrow hf3 hgE hg3 hg hi hz0 hz1 hz2 hv
    go_wp2
    go_ret
    have h1 : (w4.setCell ⟨tb, 0, none⟩ (.slice (some ⟨g, 0, none⟩) (KL + 1) cap)).ownsRow w2.heap.size 57 3 (.slice (some ⟨g, 0, none⟩) (KL + 1) cap) (KL + 1) (cellsPr (ps ++ [(nm, v, false)])) := by
      refine ownsRow_setCell_below ?_ (by show tb < _; omega) _
      rw [cellsPr_append]
      exact hown2.out
    refine ⟨rfl, ?_, ⟨⟨_, setC_same w4 tb 0 _ _ hv4, ?_⟩, by rw [World.frozen?_setCell]; exact hf4, fun _ b off n c h => own_ty h1 (setC_same w4 tb 0 _ _ hv4) h⟩⟩
    · exact grownBy_trans' ⟨hg4.os, hg4.tape, hg4.output, hg4.size, fun k hk _ => hg4.block k hk (by simp)⟩ (grownBy_setC w4 tb 0 _)
    · exact prS_own h1 (by rw [List.length_append, hKL.out]; rfl) (by omega)
  | some i =>
    rw [hfp] at hfi
    have hi := firstP_lt hfp
    simp only [optI] at hfi
    simp only [List.getElem?_eq_getElem hi]
    obtain ⟨A, c, rfl, hc, hcm⟩ := hp.form
    have hcl := fun W (h : PrS W tb (.slice A ps.length c) ps) => clonePr_any tb ps _ W h (by omega)
    obtain ⟨b, off, rfl, hb, hbt, c0, c1, c2⟩ := hp.at_ i hi
    have hset := Lib.hid (cellsPr_set ps i hi v)
    obtain ⟨x0, x1, x2, hx⟩ : ∃ x0 x1 x2, ps[i] = (x0, x1, x2) := ⟨_, _, _, rfl⟩
    rw [hx] at c0 c1 c2 hset ⊢
    simp only at c0 c1 c2 hset ⊢
    have hx := Lib.hid hx
    have hl2 := Lib.hid (show (ps.set i (x0, v, x2)).length = ps.length from List.length_set)
    obtain ⟨KL, hKL⟩ : ∃ KL, ps.length = KL := ⟨_, rfl⟩
    rw [hKL] at hv hp hcl hl hc hi hl2
    have hp := Lib.hid hp
    have hKL := Lib.hid hKL
    unfold maxLen at hcm
    clear hfp
    cases x2 with
    | true =>
      simp only [if_true]
      clear hcl hset hf
      go_enter Tryz.func146, Tryz.ntmps146
      go_wp2_with fail
      refine hfi.mono ?_
      rintro e w2 ⟨rfl, hg⟩
      have hv := hg.cell hv (by simp)
      have c2 := hg.cell c2 (by simp)
      clear hfi c0 c1
      go_wp2
      go_ret
      exact ⟨rfl, hg⟩
    | false =>
      simp only [Bool.false_eq_true, if_false]
      go_enter Tryz.func146, Tryz.ntmps146
      go_wp2_with fail
      refine hfi.mono ?_
      rintro e w2 ⟨rfl, hg⟩
      have hv := hg.cell hv (by simp)
      have c2 := hg.cell c2 (by simp)
      have hsz2 := hg.size
      have hcl2 := hcl w2 (hp.out.keep ⟨hg.os, hg.tape, hg.output, hg.size, fun k hk _ => hg.block k hk (by simp)⟩)
      clear hfi hcl c0 c1
      go_wp2_with fail
      refine hcl2.mono ?_
      rintro e w3 ⟨v', rfl, hown, hg3⟩
      obtain ⟨g, cap, rfl⟩ : ∃ g cap, v' = .slice (some ⟨g, 0, none⟩) KL cap := by
        rcases hown.2 with ⟨_, h⟩ | ⟨g, cap, _, h, _⟩
        · omega
        · exact ⟨g, cap, h⟩
      have hgb := hown.lt g rfl
      have k1 := hown.cellAt (i * 3 + 1) (by omega)
      rw [(cellsPr_at ps i (by rw [hKL.out]; exact hi)).2.1] at k1
      have kf := hown.frozenAt (i * 3 + 1)
      have hcap : KL ≤ cap ∧ cap ≤ 9223372036854775807 := by
        rcases hown.2 with ⟨h, _⟩ | ⟨g', cap', _, h, _, _, h1, h2, _⟩
        · cases h
        · simp only [Value.slice.injEq] at h
          rw [h.2.2]; exact ⟨h1, h2⟩
      obtain ⟨h5, h6⟩ := hown.stored (i * 3 + 1) (.string v)
      rw [← hset.out] at h5
      have hown := Lib.hid h5
      have hgE := grownBy_trans' hg hg3
      have hsz3 := hg3.size
      have hg4 := grown_none hgE h6 (by omega)
      have hg4 := Lib.hid hg4
      have hv := hg3.cell hv (by simp)
      have hv4 := cell_grown hv h6 (by omega)
      have hf3 := (World.frozen?_of_block (a := ⟨tb, 0, none⟩) (hgE.block tb htb (by simp))).trans hf
      generalize ps[i].2.1 = y at k1
      have hgh := Lib.hid hgE
      have h6 := Lib.hid h6
      clear hcl2 hset h5 hgE hf c2 hg hg3
      go_wp2
      go_ret
      have h7 : (w3.setCell ⟨g, i * 3 + 1, none⟩ (.string v)).frozen? ⟨tb, 0, none⟩ = false := by rw [World.frozen?_setCell]; exact hf3
      have h1 : ((w3.setCell ⟨g, i * 3 + 1, none⟩ (.string v)).setCell ⟨tb, 0, none⟩ (.slice (some ⟨g, 0, none⟩) KL cap)).ownsRow w2.heap.size 57 3 (.slice (some ⟨g, 0, none⟩) KL cap) KL (cellsPr (ps.set i (x0, v, false))) :=
          ownsRow_setCell_below hown.out (by show tb < _; omega) _
      refine ⟨rfl, ?_, ⟨⟨_, setC_same _ tb 0 _ _ hv4, ?_⟩, by rw [World.frozen?_setCell]; exact h7, fun _ b off n c h => own_ty h1 (setC_same _ tb 0 _ _ hv4) h⟩⟩
      · exact grownBy_trans' ⟨hg4.out.os, hg4.out.tape, hg4.out.output, hg4.out.size, fun k hk _ => hg4.out.block k hk (by simp)⟩ (grownBy_setC _ tb 0 _)
      · exact prS_own h1 (by rw [hl2.out]) (by omega)
end Go.Proofs.YtlijlgbaikijnaaGreatDoor
