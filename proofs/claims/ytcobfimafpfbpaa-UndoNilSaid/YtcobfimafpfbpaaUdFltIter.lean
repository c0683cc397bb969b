/-
  Keys of a map of floats with at most one key: a slice of at most one. Conditions: none.
-/
import Derived.RangeFuncNested
import Derived.RangeFuncBound
import Derived.RangeFuncCalls
import Derived.RangeFuncLeaves
import Derived.RangeFuncBox
import Derived.Shelf.Abstract
import Derived.Shelf.RegionOpen
import Derived.WalkKit
import Derived.OwnWalkIn
import Derived.TacticsInMore
import Derived.LoopNIn
import Derived.LoopIn
import Derived.Maps.AppendAt
import Derived.Sort.MapsRangeIn
import Derived.Test.YtcobfimafpfbpaaUdFltSet
namespace Go.Proofs.Ytcobfimafpfbpaa
open Go Go.Proofs Go.RowKit Go.Shelf Go.ChangeMaps

attribute [local go_sem] Oper.semAt_some

/-- A map of at most one key. -/
inductive MF : Array MapEntry → Nat → Prop
  | none : MF #[] 0
  | one (x : Nat) : MF (oneF x) 1
section
variable {w : World} {r ob : Nat}
theorem leftF0 (s : Array Nat) : leftOf #[] s = #[] := by simp [leftOf]
theorem leftF1 (x : Nat) : leftOf (oneF x) #[] = oneF x := by simp [leftOf, oneF]
theorem leftF2 (x : Nat) : leftOf (oneF x) #[0] = #[] := by simp [leftOf, oneF]
theorem nextF0 (hr : w.heap[r]? = some (.mapIter (some ob) 0 #[] 0)) (hb : w.heap[ob]? = some (.map #[] 0)) (ty : TypeId) :
    (Instr.next (.pointer (some ⟨r, 0, none⟩)) false ty).run Try.prog w = .ok (.tuple #[.bool false]) w := by
  rcases run_next_at (P := Try.prog) w ty r ob 0 0 #[] #[] 0 hr hb (by simp) (Nat.le_refl _) with ⟨_, h⟩ | ⟨e, he, _⟩
  · exact h
  · rw [leftF0] at he; simp at he
theorem nextF2 {x : Nat} (hr : w.heap[r]? = some (.mapIter (some ob) 1 #[0] 1)) (hb : w.heap[ob]? = some (.map (oneF x) 1)) (ty : TypeId) :
    (Instr.next (.pointer (some ⟨r, 0, none⟩)) false ty).run Try.prog w = .ok (.tuple #[.bool false]) w := by
  rcases run_next_at (P := Try.prog) w ty r ob 1 1 #[0] (oneF x) 1 hr hb (by simp [oneF]) (Nat.le_refl _) with ⟨_, h⟩ | ⟨e, he, _⟩
  · exact h
  · rw [leftF2] at he; simp at he
theorem nextF1 {x : Nat} (hr : w.heap[r]? = some (.mapIter (some ob) 1 #[] 1)) (hb : w.heap[ob]? = some (.map (oneF x) 1)) (ty : TypeId) :
    (Instr.next (.pointer (some ⟨r, 0, none⟩)) false ty).run Try.prog w = .ok (.tuple #[.bool true, .float .f64 x, .int .i64 1]) (setBlock w r (.mapIter (some ob) 1 #[0] 1)) := by
  simp [Instr.next, getObj, Sem.run, hr, hb, Result.andThen, oneF, choose, Question.forced, setObj, setBlock]
theorem entryF {x : Nat} (hr : w.heap[r]? = some (.mapIter (some ob) 1 #[0] 1)) (hb : w.heap[ob]? = some (.map (oneF x) 1)) :
    (Instr.entry (.pointer (some ⟨r, 0, none⟩))).run Try.prog w = .ok (.tuple #[.float .f64 x, .int .i64 1]) w :=
  run_entry_at (P := Try.prog) w r ob 1 #[] (oneF x) 1 ⟨.float .f64 x, .int .i64 1, 0⟩ hr hb (by simp [oneF]) (by simp [oneF])
theorem iterSeen_of {w : World} {r : Nat} {m : Option Nat} {a : Nat} {s : Array Nat} {c : Nat} (h : w.heap[r]? = some (.mapIter m a s c)) : w.iterSeen r = s := by
  unfold World.iterSeen
  rw [h]
end

set_option maxRecDepth 100000 in
set_option maxHeartbeats 1000000 in
/-- maps.Keys' iterator, of a map of at most one key. -/
theorem iterF {w : World} {Bm ob ck : Nat} {es : Array MapEntry} (n : Nat) (hn : 1 ≤ n) (hBm : Bm < w.heap.size) (hm : w.cell? ⟨Bm, 0, none⟩ = some (.map (some ob))) (hb : w.heap[ob]? = some (.map es ck)) (hMF : MF es ck) :
    SeqStopsK Fence.wide n Try.prog 67 #[.pointer (some ⟨Bm, 0, none⟩)] (fun x : Nat => #[Value.float .f64 x]) KeepsWalks (fun xs => xs.length ≤ 1) (fun _ => True) 1 w := fun l J Jx W hW hJ _ hY h0 => by
  have ho : ob < w.heap.size := (Array.getElem?_eq_some_iff.1 hb).1
  have hm1 := (hW.cell (p := ⟨Bm, 0, none⟩) hBm).trans hm
  have hb1 := (hW.block ob ho).trans hb
  have hrg := run_range_map (P := Try.prog) W 100 62 3 ob es ck Try.underlying100 hb1
  have hz1 : (W.alloc (.mapIter (some ob) ck #[] ck)).heap[W.heap.size]? = some (.mapIter (some ob) ck #[] ck) := heap_alloc_new W _
  have hb2 := (Below.heap_alloc W (.mapIter (some ob) ck #[] ck) ob (Array.getElem?_eq_some_iff.1 hb1).1).trans hb1
  have hJ1 := hJ [] W (W.alloc (.mapIter (some ob) ck #[] ck)) none h0 (World.grownBy_alloc W _ none) (fun r e => by cases e)
  obtain ⟨W0, hW0⟩ : ∃ W0, W.alloc (.mapIter (some ob) ck #[] ck) = W0 := ⟨_, rfl⟩
  rw [hW0] at hrg hz1 hb2 hJ1
  obtain ⟨r, hr⟩ : ∃ r, W.heap.size = r := ⟨_, rfl⟩
  rw [hr] at hrg hz1
  have hJa : ∀ s A B, J s A → A.grownBy B (some r) → (∃ o : Obj, A.heap[r]? = some o ∧ o.isWalk = true) → J s B := fun s A B h1 h2 h3 => hJ s A B (some r) h1 h2 (fun r' e => by cases e; exact ⟨by omega, h3⟩)
  replace hJ1 := Lib.hid hJ1
  replace hJa := Lib.hid hJa
  replace hY := Lib.hid hY
  replace hb2 := Lib.hid hb2
  replace hz1 := Lib.hid hz1
  clear hW hb hb1 hm ho hW0 hr h0 hJ hBm
  refine callsIn_of_wp Try.func67 rfl trivial ?_ rfl
  simp only [Try.ntmps67, List.size_toArray, List.length_cons, List.length_nil, Nat.reduceAdd, Nat.reduceSub, Array.replicate_succ, Array.replicate_zero, List.push_toArray, List.append_toArray, List.nil_append, List.cons_append]
  gi_wp2
  gi_loopw [3] (fun _ wr => ∃ pre : List Nat, ((pre = [] ∧ wr.heap[r]? = some (.mapIter (some ob) ck #[] ck)) ∨ ∃ x, pre = [x] ∧ es = oneF x ∧ ck = 1 ∧ wr.heap[r]? = some (.mapIter (some ob) 1 #[0] 1)) ∧ wr.heap[ob]? = some (.map es ck) ∧ J pre wr) (fun _ wr => 2 - (wr.iterSeen r).size)
  case atStart => exact ⟨[], .inl ⟨rfl, hz1.out⟩, hb2.out, hJ1.out⟩
  case round =>
    clear hz1 hb2 hJ1 hrg
    obtain ⟨pre, hst, hbm, hJs⟩ := hrel
    replace hJs := Lib.hid hJs
    rcases hst with ⟨rfl, hit⟩ | ⟨x, rfl, rfl, rfl, hit⟩
    · cases hMF with
      | none =>
        have nx := fun ty => nextF0 hit hbm ty
        replace hit := Lib.hid hit
        replace hbm := Lib.hid hbm
        gi_wp2
        go_end0
        exact ⟨⟨_, rfl⟩, .inl ⟨[], by simp, hJs.out⟩⟩
      | one x =>
        have nx := fun ty => nextF1 hit hbm ty
        have hne : r ≠ ob := fun e => by rw [e] at hit; have := hit.symm.trans hbm; cases this
        have hi2 : (setBlock wr r (.mapIter (some ob) 1 #[0] 1)).heap[r]? = some (.mapIter (some ob) 1 #[0] 1) := by simp [setBlock, (Array.getElem?_eq_some_iff.1 hit).1]
        have hb3 := (setB_other (w := wr) (Ne.symm hne) (.mapIter (some ob) 1 #[0] 1)).trans hbm
        have hJ2 := hJa.out [] wr (setBlock wr r (.mapIter (some ob) 1 #[0] 1)) hJs.out ⟨rfl, rfl, rfl, by simp [setBlock], fun k _ hk => setB_other (fun e => hk (by rw [e])) _⟩ ⟨_, hit, rfl⟩
        obtain ⟨w2, hw2⟩ : ∃ w2, setBlock wr r (.mapIter (some ob) 1 #[0] 1) = w2 := ⟨_, rfl⟩
        rw [hw2] at nx hi2 hb3 hJ2
        have en := entryF hi2 hb3
        obtain ⟨fn, tmps, assign, body, hy, hR⟩ := hY.out [] x w2 hJ2 (by simp)
        have hms : 2 - (wr.iterSeen r).size = 2 := by rw [iterSeen_of hit]; rfl
        replace hit := Lib.hid hit
        replace hbm := Lib.hid hbm
        replace hi2 := Lib.hid hi2
        replace hb3 := Lib.hid hb3
        replace hms := Lib.hid hms
        replace hJ2 := Lib.hid hJ2
        clear hw2 hne
        gi_wp2
        refine hR.mono ?_
        rintro e W3 (⟨rfl, hJ3, hk3⟩ | ⟨rfl, hJx3⟩)
        · have hi3 := hk3.same r _ hi2.out rfl
          have hb4 := hk3.same ob _ hb3.out rfl
          replace hJ3 := Lib.hid hJ3
          replace hi3 := Lib.hid hi3
          replace hb4 := Lib.hid hb4
          clear nx en hk3
          gi_wp2
          go_roundw
          case rel => exact ⟨[x], .inr ⟨x, by trivial, by trivial, by trivial, hi3.out⟩, hb4.out, hJ3.out⟩
          case measure => rw [hms.out, iterSeen_of hi3.out]; decide
        · replace hJx3 := Lib.hid hJx3
          clear nx en
          gi_wp2
          refine bodyPost_ret (results_none rfl _ _ _) rfl ?_
          exact ⟨⟨_, rfl⟩, .inr ⟨[x], trivial, hJx3.out⟩⟩
    · have nx := fun ty => nextF2 hit hbm ty
      replace hit := Lib.hid hit
      replace hbm := Lib.hid hbm
      gi_wp2
      go_end0
      exact ⟨⟨_, rfl⟩, .inl ⟨[x], by simp, hJs.out⟩⟩

theorem infoF : (Try.prog.info? 62).map (fun i => (i.zero, i.size, i.bytes)) = some (some (.float .f64 0), 1, 8) := by kernel_rfl
set_option maxRecDepth 100000 in
set_option maxHeartbeats 2000000 in
/-- slices.AppendSeq of nothing. -/
theorem appendF {w : World} {Bm : Nat} (n : Nat) (hn : 2 ≤ n)
    (hseq : SeqStopsK Fence.wide (n - 1) Try.prog 67 #[.pointer (some ⟨Bm, 0, none⟩)] (fun x : Nat => #[Value.float .f64 x]) KeepsWalks (fun xs => xs.length ≤ 1) (fun _ => True) 1 w) :
    CallsIn Fence.wide n Try.prog 71 #[.slice none 0 0, .func (.func 67) #[] #[.pointer (some ⟨Bm, 0, none⟩)]] w fun e w' => (∃ A k c, e = .returned (.slice A k c) ∧ k ≤ 1) ∧ Below w.heap.size w w' := by
  have h1 : 1 ≤ n := by omega
  obtain ⟨i0, hi, hz0, hz1, hz2⟩ := info_parts infoF
  have bO := Boxed.new w 74 (.slice none 0 0)
  have hB0 : Below w.heap.size w (w.alloc (.cells #[.slice none 0 0] 74)) := (Below.refl _ w).alloc (Nat.le_refl _) _
  refine callsIn_of_wp_marks Try.func71 rfl trivial ?_ rfl
  simp only [Try.ntmps71, List.size_toArray, List.length_cons, List.length_nil, Nat.reduceAdd, Nat.reduceSub, Array.replicate_succ, Array.replicate_zero, List.push_toArray, List.append_toArray, List.nil_append, List.cons_append]
  replace hseq := Lib.hid hseq
  replace hB0 := Lib.hid hB0
  gi_wp2
  refine wpIn_rangeFunc_ownG rfl h1 (gf := 67) (lb := #[.pointer (some ⟨Bm, 0, none⟩)]) rfl trivial (enters_of Try.func67 (by kernel_rfl) rfl)
    hseq.out walksK_t walksK_b hB0.out (fun _ => rfl)
    (fun pre W => (∃ v, Boxed W w.heap.size 74 v ∧ W.ownsRow w.heap.size 62 1 v pre.length (pre.map (Value.float .f64)) ∧ True) ∧ Below w.heap.size w W)
    (fun _ _ _ => False)
    (OwnFrom.and (Own.from (holdsRow_own w.heap.size w.heap.size 74 62 1 (fun pre : List Nat => pre.length) (fun pre => pre.map (Value.float .f64)) (fun _ _ => True)) _) (ownFrom_below (Nat.le_refl _) (by simp)))
    (fun _ _ _ _ _ hs _ _ => hs)
    ⟨⟨_, bO, World.ownsRow_nil _ _ _ _, trivial⟩, hB0.out⟩
    (fun x => { tmps := #[.slice none 0 0, .func (.func 67) #[] #[.pointer (some ⟨Bm, 0, none⟩)], .pointer (some ⟨w.heap.size, 0, none⟩), undef, .slice none 0 0, .float .f64 x, .func (.func 67) #[] #[.pointer (some ⟨Bm, 0, none⟩)], .float .f64 x, undef, undef, undef, undef, undef], defers := [] }) ?assign ?body ?done ?stop
  case assign =>
    intro l x W K hK
    gi_wp2
    exact hK
  case body =>
    rintro l pre x W ⟨⟨v, hv, hrow, _⟩, hB⟩ hlt
    have hc := hv.cell
    have hm1 : pre.length + 1 ≤ maxLen := by unfold maxLen; omega
    gi_wp2_with (gi_at_builtin; refine wpListIn_append_own _ rfl _ _ 74 rfl w.heap.size 62 i0 (.float .f64 0) 1 8 Try.underlying74 hi hz0 hz1 hz2 rfl (by decide) _ _ _ rfl (hrow.alloc _) ⟨W.heap.size, 0, none⟩ 1 1 [.float .f64 x] rfl rfl (cell_one_new _ _ _) (by simp [Value.oneCell']) (by omega) (by omega) (by have := hB.size; simp; omega) ?_; intro v' w1 hown' hgrow _; obtain ⟨g', cap', rfl⟩ := ownsRow_succ hown'; obtain ⟨hv1, hv2, hr2, hk2, hb2⟩ := hv.appended (by decide) hrow hB.size (Nat.le_refl _) hown' hgrow; have hc1 := hv1.cell; have hf1 := hv1.frozen)
    exact ⟨hk2.from _, hk2.walks, ⟨_, hv2, by simpa using hr2, trivial⟩, hB.trans hb2⟩
  case done =>
    rintro D ys W hD hys ⟨⟨v, hv, hrow, _⟩, hB⟩ hK
    obtain ⟨A, c, rfl⟩ : ∃ A c, v = .slice A ys.length c := by
      rcases hrow.2 with ⟨rfl, h0⟩ | ⟨g, cap, _, rfl, _⟩
      · exact ⟨_, _, by rw [h0]⟩
      · exact ⟨_, _, rfl⟩
    have hc := hv.cell
    generalize ys.length = K at hys hc
    clear hrow
    gi_wp2
    refine ⟨by simp, .inl ⟨_, _, rfl, run_takeDeferred hK, ?_⟩⟩
    exact ⟨_, results_tmp rfl _ _ _, ⟨A, K, c, rfl, hys⟩, hB.trans (belowK_b (w := w) (Nat.le_refl _) W D _ _ (by simp at hD; omega) hK rfl rfl)⟩
  case stop =>
    rintro D c pre W _ _ h _
    exact h.elim
end Go.Proofs.Ytcobfimafpfbpaa
