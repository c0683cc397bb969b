/-
  Arguments opened: an expression, however deep, and a slice of pairs. Conditions: none.
  An argument opened that is a slice of pairs. Conditions: none.
-/
import Derived.Test.YtlijlgbaikijnaaGreatDoorSmRow
import Derived.Test.YtlijlgbaikijnaaGreatDoorSmPlain
import Derived.Deep.SlicePairs
import Derived.SizedLaws
import Derived.Test.YtlijlgbaikijnaaGreatDoorSmSet
namespace Go.Proofs.YtlijlgbaikijnaaGreatDoor
open Go Go.ChangeShapes Go.WideShapes Go.ChangeAt Go.RowKit Go.Deep

theorem cellsExpr : Tryz.prog.cellsOf 30 = 4 := by kernel_rfl
theorem cellsPair : Tryz.prog.cellsOf 57 = 3 := by kernel_rfl
theorem cellsStr : Tryz.prog.cellsOf 9 = 1 := by kernel_rfl
theorem cellsI64 : Tryz.prog.cellsOf 2 = 1 := by kernel_rfl
theorem cellsBool : Tryz.prog.cellsOf 4 = 1 := by kernel_rfl
theorem cellsExprs : Tryz.prog.cellsOf 28 = 1 := by kernel_rfl
theorem exprFields : ∃ f0 f1 f2 f3 : Field, Tryz.prog.underlying 30 = some (.struct #[f0, f1, f2, f3]) ∧ (f0.offset = 0 ∧ f1.offset = 1 ∧ f2.offset = 2 ∧ f3.offset = 3) ∧ f0.type = 9 ∧ f1.type = 2 ∧ f2.type = 9 ∧ f3.type = 28 :=
  ⟨_, _, _, _, Tryz.underlying30, ⟨rfl, rfl, rfl, rfl⟩, rfl, rfl, rfl, rfl⟩
theorem pairFields : ∃ f0 f1 f2 : Field, Tryz.prog.underlying 57 = some (.struct #[f0, f1, f2]) ∧ (f0.offset = 0 ∧ f1.offset = 1 ∧ f2.offset = 2) ∧ f0.type = 9 ∧ f1.type = 9 ∧ f2.type = 4 :=
  ⟨_, _, _, Tryz.underlying57, ⟨rfl, rfl, rfl⟩, rfl, rfl, rfl⟩

instance : Inhabited E := ⟨.mk [] 0 [] []⟩
theorem numL_of : ∀ (l : List E), (∀ x ∈ l, NumE x) → NumL l
  | [], _ => trivial
  | x :: l, h => ⟨h x (by simp), numL_of l fun y hy => h y (by simp [hy])⟩
theorem bytesExpr : Tryz.prog.bytesOf 30 = 64 := by kernel_rfl
theorem weights_mem_all {H : Type} {P : Program} {e : TypeId} : ∀ {l : List (DataW H)} {d : DataW H}, d ∈ l → ∀ n ∈ d.weights P e, n ∈ DataW.weightsAll P e l
  | [], _, h, _, _ => by cases h
  | y :: l, d, h, n, hn => by
    rw [DataW.weightsAll, List.mem_append]
    rcases List.mem_cons.1 h with rfl | h
    · exact .inl hn
    · exact .inr (weights_mem_all h n hn)
theorem ba_list (s : ByteArray) : (⟨s.data.toList.toArray⟩ : ByteArray) = s := by cases s; rfl

section
variable {H : Type} {enc : TypeId × Value → H} {W : World}
set_option maxRecDepth 100000 in
theorem open_expr_cells : ∀ (fuel : Nat) (cs : List Value) (d : DataW H) (p : List MemPlace), DataW.trod enc Tryz.prog W 0 (fun _ => true) true fuel 30 cs = some (d, p) → (∀ x ∈ p, x.block < W.heap.size) → (∀ n ∈ d.weights Tryz.prog 30, n ≤ reachBytes) → ∃ x : E, ExR W (fun g => g < W.heap.size) x (.agg cs.toArray) ∧ NumE x ∧ WideE x := by
  obtain ⟨f0, f1, f2, f3, he, ⟨o0, o1, o2, o3⟩, t0, t1, t2, t3⟩ := exprFields
  intro fuel
  induction fuel using Nat.strongRecOn with
  | ind fuel ih =>
    intro cs d p h hlt hwt
    obtain ⟨xs, k, hk, hxy, hlen, hxl, hg⟩ := DataW.trod_struct he h
    rw [cellsExpr] at hlen
    match cs, hlen with
    | [c0, c1, c2, c3], _ =>
      have hxl4 : xs.length = 4 := by simpa using hxl
      have g0 := hg 0 f0 rfl
      have g1 := hg 1 f1 rfl
      have g2 := hg 2 f2 rfl
      have g3 := hg 3 f3 rfl
      rw [o0, t0, cellsStr, List.getElem?_eq_getElem (by omega)] at g0
      rw [o1, t1, cellsI64, List.getElem?_eq_getElem (by omega)] at g1
      rw [o2, t2, cellsStr, List.getElem?_eq_getElem (by omega)] at g2
      rw [o3, t3, cellsExprs, List.getElem?_eq_getElem (by omega)] at g3
      obtain ⟨s0, e0, _, _⟩ := DataW.trod_string Tryz.underlying9 g0
      obtain rfl : c0 = .string s0 := by simpa using e0
      obtain ⟨n, e1, _, wk⟩ := DataW.trod_int Tryz.underlying2 g1
      obtain rfl : c1 = .int .i64 n := by simpa using e1
      have hn : InR n := by
        have m1 : IntKind.i64.min = -9223372036854775808 := rfl
        have m2 : IntKind.i64.max = 9223372036854775807 := rfl
        simp only [Lit.wf, Bool.and_eq_true, decide_eq_true_eq] at wk
        unfold InR
        omega
      obtain ⟨s2, e2, _, _⟩ := DataW.trod_string Tryz.underlying9 g2
      obtain rfl : c2 = .string s2 := by simpa using e2
      simp only [Prod.mk.injEq] at hxy
      have hwt3 : ∀ n ∈ (xs[3]).1.weights Tryz.prog 28, n ≤ reachBytes := by
        intro n hn
        refine hwt n ?_
        rw [hxy.1, DataW.weights, he]
        exact DataW.weights_mem_each (j := 3) (t := 28) (d := (xs[3]).1) (by simp [t3]) (by rw [List.getElem?_map, List.getElem?_eq_getElem (by omega)]; rfl) n hn
      rcases DataW.trod_slice Tryz.underlying28 g3 with ⟨hcs, _⟩ | ⟨a, len, cap, elems, rest, m, hm, hcs, hx, _, hl, hmx, hel, hi, _, _⟩
      · obtain rfl : c3 = .slice none 0 0 := by simpa using hcs
        refine ⟨.mk s0.data.toList n s2.data.toList [], ?_, ?_, ?_⟩
        · unfold ExR exC
          refine ⟨none, 0, ?_, by simp, Nat.zero_le _, .inl rfl⟩
          rw [ba_list, ba_list]; rfl
        · unfold NumE; exact ⟨hn, trivial⟩
        · unfold WideE; exact ⟨by simp, trivial⟩
      · obtain rfl : c3 = .slice (some a) len cap := by simpa using hcs
        have hpl : ∀ y ∈ (xs[3]).2, y.block < W.heap.size := fun y hy => hlt y (by rw [hxy.2]; exact List.mem_flatMap.2 ⟨xs[3], List.getElem_mem _, hy⟩)
        have hx2 : (xs[3]).2 = MemPlace.row a ((elems.length + rest.length) * Tryz.prog.cellsOf 30) ++ (elems ++ rest).flatMap (·.2) := by rw [hx]
        have each : ∀ i, i < len → ∃ x : E, (∃ cs : Array Value, cs.size = 4 ∧ (∀ j (hj : j < cs.size), W.cell? (a.add (i * 4 + j)) = some cs[j]) ∧ ExR W (fun g => g < W.heap.size) x (.agg cs)) ∧ NumE x ∧ WideE x := by
          intro i hil
          have h1 := hi i hil
          rw [List.getElem?_eq_getElem (by omega)] at h1
          obtain ⟨cs', h2, h3⟩ := Option.bind_eq_some_iff.1 h1
          rw [cellsExpr] at h2
          obtain ⟨_, hlen2, hcell⟩ := World.cells?_some h2
          obtain ⟨x, hxr, hxn⟩ := ih m (by omega) cs' (elems[i]'(by omega)).1 (elems[i]'(by omega)).2 h3 (fun y hy => hpl y (by
            rw [hx2]
            refine List.mem_append_right _ (List.mem_flatMap.2 ⟨elems[i]'(by omega), List.mem_append_left _ (List.getElem_mem _), hy⟩))) (fun n hn => hwt3 n (by
            rw [hx, DataW.weights, Tryz.underlying28]
            exact List.mem_cons_of_mem _ (List.mem_append_left _ (weights_mem_all (List.mem_map.2 ⟨elems[i]'(by omega), List.getElem_mem _, rfl⟩) n hn))))
          refine ⟨x, ⟨cs'.toArray, by simpa using hlen2, fun j hj => ?_, hxr⟩, hxn⟩
          have hj4 : j < 4 := by simpa [hlen2] using hj
          have := hcell j hj4
          rw [add_add, List.getElem?_eq_getElem (by omega)] at this
          rw [this]
          simp
        obtain ⟨C, hC⟩ := choose_lt (α := E) each
        obtain ⟨l, hl0⟩ : ∃ l, (List.range len).map C = l := ⟨_, rfl⟩
        have hll : l.length = len := by rw [← hl0]; simp
        have hat : ∀ i (h : i < l.length), l[i] = C i := fun i h => by subst hl0; simp
        have hbig : (elems.length + rest.length) * 64 ≤ reachBytes := by
          have := hwt3 ((elems.length + rest.length) * 64) (by
            rw [hx, DataW.weights, Tryz.underlying28]
            refine List.mem_cons.2 (.inl ?_)
            rw [List.length_map, List.length_map, bytesExpr])
          exact this
        refine ⟨.mk s0.data.toList n s2.data.toList l, ?_, ?_, ?_⟩
        · unfold ExR exC
          refine ⟨some a, cap, ?_, by rw [hll]; exact hl, hmx, ?_⟩
          · rw [ba_list, ba_list, hll]
          · rcases Nat.eq_zero_or_pos len with h0 | hpos
            · exact .inl (List.eq_nil_of_length_eq_zero (by omega))
            · obtain ⟨b, off, spot⟩ := a
              obtain ⟨cs0, hs0, hc0, _⟩ := (hC 0 hpos).1
              have hspot : spot = none := by simpa [Addr.add] using World.cell?_spot (hc0 0 (by omega))
              subst hspot
              refine .inr ⟨b, off, rfl, ?_, kidsR_of l off fun i hi => ?_⟩
              · have := hpl (.cell b off) (by rw [hx2]; exact List.mem_append_left _ (MemPlace.mem_row.2 ⟨0, by rw [cellsExpr]; omega, by simp⟩))
                exact this
              · obtain ⟨⟨cs1, h1, h2, h3⟩, _⟩ := hC i (by omega)
                refine ⟨cs1, h1, fun j hj => ?_, by rw [hat i hi]; exact h3⟩
                have := h2 j hj
                rw [add_plain0] at this
                rwa [show off + i * 4 + j = off + (i * 4 + j) by omega]
        · unfold NumE
          refine ⟨hn, numL_of l fun x hx => ?_⟩
          rw [← hl0] at hx
          obtain ⟨i, hi, rfl⟩ := List.mem_map.1 hx
          exact (hC i (by simpa using hi)).2.1
        · unfold WideE
          refine ⟨?_, wideL_of l fun x hx => ?_⟩
          · have hrb : reachBytes = 140737488351232 := rfl
            omega
          · rw [← hl0] at hx
            obtain ⟨i, hi, rfl⟩ := List.mem_map.1 hx
            exact (hC i (by simpa using hi)).2.2

set_option maxRecDepth 100000 in
/-- An argument that is an expression. -/
theorem open_expr {base : Nat} {v : Value} {d : DataW H} {p : List MemPlace} (hv : Value.okWide Tryz.prog W .any base 30 v)
    (h : DataW.Trod enc Tryz.prog W 0 (fun _ => true) true 30 v d p) (hlt : ∀ x ∈ p, x.block < W.heap.size) (hwt : ∀ n ∈ d.weights Tryz.prog 30, n ≤ reachBytes) : ∃ x : E, ExR W (fun g => g < W.heap.size) x v ∧ NumE x ∧ WideE x := by
  obtain ⟨f0, f1, f2, f3, he, _⟩ := exprFields
  obtain ⟨cs, rfl, _⟩ := okWide_struct he hv
  obtain ⟨fuel, hf⟩ := h
  obtain ⟨x, hx⟩ := open_expr_cells fuel cs.toList d p (by simpa [Value.cells] using hf) hlt hwt
  exact ⟨x, by simpa using hx⟩
end
end Go.Proofs.YtlijlgbaikijnaaGreatDoor

namespace Go.Proofs.YtlijlgbaikijnaaGreatDoor
open Go Go.ChangeShapes Go.WideShapes Go.ChangeAt Go.RowKit Go.Deep

instance : Inhabited Pr := ⟨(⟨#[]⟩, ⟨#[]⟩, false)⟩
set_option maxRecDepth 100000 in
theorem open_pairs {H : Type} {enc : TypeId × Value → H} {W : World} {base : Nat} {v : Value} {d : DataW H} {p : List MemPlace} (hv : Value.okWide Tryz.prog W .any base 39 v)
    (h : DataW.Trod enc Tryz.prog W 0 (fun _ => true) true 39 v d p) (hlt : ∀ x ∈ p, x.block < W.heap.size) : ∃ l : List Pr, Sl W W.heap.size 3 v l.length (cellsPr l) := by
  obtain ⟨f0, f1, f2, he, ⟨o0, o1, o2⟩, t0, t1, t2⟩ := pairFields
  obtain ⟨a0, len0, cap0, rfl⟩ := okWide_slice Tryz.underlying39 hv
  obtain ⟨fuel, hf⟩ := h
  rcases open_slice (cs := [.slice a0 len0 cap0]) Tryz.underlying39 (by simpa [Value.cells] using hf) with ⟨hcs, _⟩ | ⟨a, len, cap, m, n, D, Pl, hcs, _, hl, hm, hmm, hx, hi⟩
  · obtain ⟨rfl, rfl, rfl⟩ : a0 = none ∧ len0 = 0 ∧ cap0 = 0 := by simpa using hcs
    exact ⟨[], Sl.nil_ _ _ _⟩
  · obtain ⟨rfl, rfl, rfl⟩ : a0 = some a ∧ len0 = len ∧ cap0 = cap := by simpa using hcs
    have hlm : len0 ≤ m := by rw [hmm]; split <;> omega
    simp only [Prod.mk.injEq] at hx
    have each : ∀ i, i < len0 → ∃ q : Pr, W.cell? (a.add (i * 3)) = some (.string q.1) ∧ W.cell? (a.add (i * 3 + 1)) = some (.string q.2.1) ∧ W.cell? (a.add (i * 3 + 2)) = some (.bool q.2.2) := by
      intro i hil
      obtain ⟨cs', h1, h2⟩ := hi i (by omega)
      rw [cellsPair] at h1
      obtain ⟨_, hlen, hcell⟩ := World.cells?_some h1
      obtain ⟨xs, k, _, hxy, _, hxl, hg⟩ := DataW.trod_struct he h2
      match cs', hlen with
      | [c0, c1, c2], _ =>
        have hxl3 : xs.length = 3 := by simpa using hxl
        have g0 := hg 0 f0 rfl
        have g1 := hg 1 f1 rfl
        have g2 := hg 2 f2 rfl
        rw [o0, t0, cellsStr, List.getElem?_eq_getElem (by omega)] at g0
        rw [o1, t1, cellsStr, List.getElem?_eq_getElem (by omega)] at g1
        rw [o2, t2, cellsBool, List.getElem?_eq_getElem (by omega)] at g2
        obtain ⟨s0, e0, _, _⟩ := DataW.trod_string Tryz.underlying9 g0
        obtain rfl : c0 = .string s0 := by simpa using e0
        obtain ⟨s1, e1, _, _⟩ := DataW.trod_string Tryz.underlying9 g1
        obtain rfl : c1 = .string s1 := by simpa using e1
        obtain ⟨q2, e2, _⟩ := DataW.trod_bool Tryz.underlying4 g2
        obtain rfl : c2 = .bool q2 := by simpa using e2
        have e0 := hcell 0 (by omega)
        have e1 := hcell 1 (by omega)
        have e2 := hcell 2 (by omega)
        rw [add_add] at e0 e1 e2
        exact ⟨(s0, s1, q2), by simpa using e0, by simpa using e1, by simpa using e2⟩
    obtain ⟨C, hC⟩ := choose_lt (α := Pr) each
    have hlen : ((List.range len0).map C).length = len0 := by simp
    refine ⟨(List.range len0).map C, some a, cap0, by rw [hlen], by rw [hlen]; exact hl, hm, by rw [cellsPr_length], fun hn => ?_⟩
    have hpos : 0 < len0 := by omega
    obtain ⟨b, off, spot⟩ := a
    have hspot : spot = none := by simpa [Addr.add] using World.cell?_spot (hC 0 (by omega)).1
    subst hspot
    have hb : b < W.heap.size := by
      have := hlt (.cell b off) (by rw [hx.2]; exact List.mem_append_left _ (MemPlace.mem_row.2 ⟨0, by rw [cellsPair]; omega, by simp⟩))
      exact this
    refine ⟨b, off, rfl, hb, fun j u hj => ?_⟩
    have hj2 : j < len0 * 3 := by
      have := (List.getElem?_eq_some_iff.1 hj).1
      rw [cellsPr_length, hlen] at this
      exact this
    have hC2 := hC (j / 3) (by omega)
    rw [add_plain0, add_plain0, add_plain0] at hC2
    have hg : ∀ (hh : j / 3 < ((List.range len0).map C).length), ((List.range len0).map C)[j / 3] = C (j / 3) := fun hh => by simp
    obtain ⟨k0, k1, k2⟩ := cellsPr_at ((List.range len0).map C) (j / 3) (by omega)
    rw [hg] at k0 k1 k2
    have hm3 : j % 3 = 0 ∨ j % 3 = 1 ∨ j % 3 = 2 := by omega
    rcases hm3 with e | e | e
    · have ej : j = j / 3 * 3 := by omega
      rw [← ej] at k0 hC2
      rw [k0] at hj
      injection hj with hj
      rw [← hj]; exact hC2.1
    · have ej : j = j / 3 * 3 + 1 := by omega
      rw [← ej] at k1 hC2
      rw [k1] at hj
      injection hj with hj
      rw [← hj]; exact hC2.2.1
    · have ej : j = j / 3 * 3 + 2 := by omega
      rw [← ej] at k2 hC2
      rw [k2] at hj
      injection hj with hj
      rw [← hj]; exact hC2.2.2
end Go.Proofs.YtlijlgbaikijnaaGreatDoor
