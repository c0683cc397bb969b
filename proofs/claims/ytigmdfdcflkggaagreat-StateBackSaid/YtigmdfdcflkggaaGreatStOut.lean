/-
  A row of texts that grows; all that a state knows, as texts. Conditions: fewer than ten million texts.
-/
import Derived.Test.YtigmdfdcflkggaaGreatStFix
import Derived.Test.YtigmdfdcflkggaaGreatStLawNil
import Derived.Deep.AppendSrc
namespace Go.Proofs.YtigmdfdcflkggaaGreat
open Go Go.RowKit Go.ChangeMaps

/-- A row of texts of its own, above z. -/
structure Out (w : World) (z : Nat) (W : World) (ov : Value) (L : List ByteArray) : Prop where
  row : W.ownsRow z 9 1 ov L.length (L.map .string)
  below : Below z w W
  size : z ≤ W.heap.size
section
variable {w W W' : World} {z : Nat} {ov : Value} {L : List ByteArray}
theorem Out.of_below (h : Out w z W ov L) (k : Below W.heap.size W W') : Out w z W' ov L := ⟨ownBelow h.row k, h.below.trans (k.mono h.size), Nat.le_trans h.size k.size⟩
theorem Out.alloc (h : Out w z W ov L) (o : Obj) : Out w z (W.alloc o) ov L := h.of_below (Below.of_alloc W o)
theorem Out.drewN (h : Out w z W ov L) (n : Nat) : Out w z (W.drewN n) ov L := h.of_below (drewN_below W n)
/-- A row of texts that stands beside one that grows. -/
structure Aside (W : World) (y : Nat) (ov nv : Value) (ns : List ByteArray) : Prop where
  row : W.ownsRow y 9 1 nv ns.length (ns.map .string)
  apart : ∀ g, nv.ownBlock = some g → ov.ownBlock ≠ some g
theorem Aside.of_below {y : Nat} {nv : Value} {ns : List ByteArray} (h : Aside W y ov nv ns) (k : Below W.heap.size W W') : Aside W' y ov nv ns := ⟨ownBelow h.row k, h.apart⟩
theorem Aside.next {y gg n cap : Nat} {nv : Value} {ns : List ByteArray} (h : Aside W y ov nv ns) (k : ∀ b, b < W.heap.size → ov.ownBlock ≠ some b → W'.heap[b]? = W.heap[b]? ∧ b ≠ gg) : Aside W' y (.slice (some ⟨gg, 0, none⟩) n cap) nv ns := by
  refine ⟨⟨h.row.1, ?_⟩, fun g hg e => ?_⟩
  · rcases h.row.2 with hn | ⟨g, cp, cur, e, hb, hg, rest⟩
    · exact .inl hn
    · exact .inr ⟨g, cp, cur, e, hb, (k g (Array.getElem?_eq_some_iff.1 hg).1 (h.apart g (by rw [e]; rfl))).1.trans hg, rest⟩
  · have e : gg = g := by simpa [Value.ownBlock] using e
    subst e
    exact (k gg (h.row.lt gg hg).2 (h.apart gg hg)).2 rfl
theorem setCells_none (W : World) (b i : Nat) : W.setCells b i [] = W := rfl
/-- What is appended. -/
theorem Out.app {c K : Nat} {Ao : Option Addr} (h : Out w z W (.slice Ao K c) L) (hK : L.length = K) (hpos : 0 < K) (hL : K ≤ 10000000) {i0 : TypeInfo} (hi : Tryz.prog.info? 9 = some i0) (hz0 : i0.zero = some (.string ⟨#[]⟩)) (hz1 : i0.size = 1) (hz2 : i0.bytes = 16)
    {ys : List ByteArray} {m cs : Nat} {As : Option Addr} (hs : Txs W As m cs ys) (hm : m ≤ 10000000) :
    ∃ gg cap W', (Builtin.append_ #[35, 35] 35 #[.slice Ao K c, .slice As m cs]).run Tryz.prog W = .ok (.slice (some ⟨gg, 0, none⟩) (K + m) cap) W' ∧
      Out w z W' (.slice (some ⟨gg, 0, none⟩) (K + m) cap) (L ++ ys) ∧ K + m ≤ cap ∧ cap ≤ 9223372036854775807 ∧ W.heap.size ≤ W'.heap.size ∧
      ∀ b, b < W.heap.size → (Value.slice Ao K c).ownBlock ≠ some b → W'.heap[b]? = W.heap[b]? ∧ b ≠ gg := by
  subst hK
  obtain ⟨hlen, hmc, hcm, hcell⟩ := hs
  have hl2 : (L ++ ys).length = L.length + m := by rw [List.length_append, hlen]
  have hfin : ∀ gg cap W', W'.ownsRow z 9 1 (.slice (some ⟨gg, 0, none⟩) (L.length + m) cap) (L.length + m) (L.map .string ++ ys.map .string) → W.grownBy W' (Value.slice Ao L.length c).ownBlock → ((Value.slice Ao L.length c).ownBlock = some gg ∨ W.heap.size ≤ gg) →
      Out w z W' (.slice (some ⟨gg, 0, none⟩) (L.length + m) cap) (L ++ ys) ∧ L.length + m ≤ cap ∧ cap ≤ 9223372036854775807 ∧ W.heap.size ≤ W'.heap.size ∧
      ∀ b, b < W.heap.size → (Value.slice Ao L.length c).ownBlock ≠ some b → W'.heap[b]? = W.heap[b]? ∧ b ≠ gg := fun gg cap W' hrow hg hb => by
    obtain ⟨A9, c9, e9, q1, q2⟩ := own_form hrow
    cases e9
    refine ⟨⟨by rw [hl2, List.map_append]; exact hrow, ?_, Nat.le_trans h.size hg.size⟩, q1, q2, hg.size, fun b hbl hne => ⟨hg.block b hbl (fun e => hne e.symm), fun e => ?_⟩⟩
    · exact ⟨hg.os.trans h.below.os, hg.tape.trans h.below.tape, hg.output.trans h.below.output, Nat.le_trans h.below.size hg.size, fun k hk => (hg.block k (Nat.lt_of_lt_of_le hk h.size) (fun e => by have := (h.row.lt k e.symm).1; omega)).trans (h.below.block k hk)⟩
    · subst e
      rcases hb with hb | hb
      · exact hne hb
      · omega
  cases As with
  | some ad =>
    have hnews : ∀ j u, (ys.map Value.string)[j]? = some u → W.cell? (ad.add j) = some u := fun j u hu => by
      rw [List.getElem?_map] at hu
      cases hx : ys[j]? with
      | none => rw [hx] at hu; cases hu
      | some x =>
        rw [hx] at hu
        have hu : Value.string x = u := by simpa using hu
        have hj : j < ys.length := (List.getElem?_eq_some_iff.1 hx).1
        obtain ⟨b, off, e, _, hc⟩ := hcell (by omega)
        cases e
        rw [← hu, add_plain0]
        exact hc j x hx
    obtain ⟨v', w', hr, h2, h3, h4, h5⟩ := run_append_own_at (P := Tryz.prog) W z 35 35 9 i0 _ 1 16 Tryz.underlying35 hi hz0 hz1 hz2 rfl (by decide) _ L.length _ h.row ad m cs (ys.map .string) (by rw [List.length_map, hlen, Nat.mul_one]) hnews (fun u hu => by
      obtain ⟨x, _, rfl⟩ := List.mem_map.1 hu
      rfl) (by unfold maxLen; omega) (by omega) h.size
    obtain ⟨g, cap, rfl, _, _⟩ := h2.form (by omega)
    exact ⟨g, cap, w', hr, hfin g cap w' h2 h3 (by
      rcases h5 with h5 | h5
      · exact .inl (h5.symm.trans rfl)
      · right
        have : g = W.heap.size := by simpa [Value.ownBlock] using h5
        omega)⟩
  | none =>
    have h0 : m = 0 := by
      rcases Nat.eq_zero_or_pos m with e | hp
      · exact e
      · obtain ⟨b, off, e, _⟩ := hcell hp; cases e
    subst h0
    have hy : ys = [] := List.eq_nil_of_length_eq_zero hlen
    subst hy
    obtain ⟨g, rfl, _, _, _⟩ := own_at h.row (by omega)
    obtain ⟨_, c9, e9, q1, q2⟩ := own_form h.row
    cases e9
    have hr := run_append_room_src (P := Tryz.prog) W 35 35 35 9 i0 Tryz.underlying35 hi g 0 L.length c (.slice none 0 cs) 0 [] (Src.ofNil (P := Tryz.prog) W (size := i0.size) Tryz.underlying35 cs) q1 (fun j hj => absurd hj (Nat.not_lt_zero j)) (fun j hj => absurd hj (Nat.not_lt_zero j))
    refine ⟨g, c, W, hr, hfin g c W (by simpa using h.row) ⟨rfl, rfl, rfl, Nat.le_refl _, fun _ _ _ => rfl⟩ (.inl rfl)⟩
theorem two_txs (w : World) (v u : ByteArray) : Txs (w.alloc (.cells #[.string v, .string u] 9)) (some ⟨w.heap.size, 0, none⟩) 2 2 [v, u] :=
  ⟨rfl, Nat.le_refl _, by decide, fun _ => ⟨w.heap.size, 0, rfl, (Blk.new w _ _).lt, fun j x hx => by
    rw [Nat.zero_add]
    match j, hx with
    | 0, hx => cases hx; exact (Blk.new w [.string v, .string u] _).cell (i := 0) rfl
    | 1, hx => cases hx; exact (Blk.new w [.string v, .string u] _).cell (i := 1) rfl
    | j + 2, hx => cases hx⟩⟩
end
def setN : ByteArray := ⟨#[115, 101, 116]⟩
def expN : ByteArray := ⟨#[101, 120, 112, 111, 114, 116]⟩
def fixN : ByteArray := ⟨#[102, 105, 120, 101, 100]⟩
def argN : ByteArray := ⟨#[97, 114, 103, 115]⟩
/-- What is told of a variable, an alias, a trap, a function. -/
def varT (t : Tg) (k : ByteArray) : List ByteArray := (((([k, (valV t k).v] : List ByteArray) ++ if (valV t k).s then [setN] else []) ++ if (valV t k).e then [expN] else []) ++ if (valV t k).f then [fixN] else [])
def aliasT (t : Tg) (k : ByteArray) : List ByteArray := [k, (t.cur.a k).getD noW]
def trapT (t : Tg) (k : ByteArray) : List ByteArray := if (t.cur.t k).isSome then [k, (t.cur.t k).getD noW] else []
def funcT (t : Tg) (k : ByteArray) : List ByteArray := if (t.cur.f k).isSome then [k, ((t.cur.f k).getD noN).s] else []
def fiveN : List ByteArray := [⟨#[69, 88, 73, 84]⟩, ⟨#[72, 85, 80]⟩, ⟨#[73, 78, 84]⟩, ⟨#[84, 69, 82, 77]⟩, ⟨#[85, 83, 82, 49]⟩]
def told1 (t : Tg) (vs : List ByteArray) : List ByteArray := [t.cur.o] ++ envL t vs
def told2 (t : Tg) (vs : List ByteArray) : List ByteArray := told1 t vs ++ vs.flatMap (varT t) ++ [argN] ++ t.cur.g.l
def told3 (t : Tg) (vs al : List ByteArray) : List ByteArray := told2 t vs ++ al.flatMap (aliasT t) ++ fiveN.flatMap (trapT t)
def toldL (t : Tg) (vs al ns : List ByteArray) : List ByteArray := told3 t vs al ++ ns.flatMap (funcT t)
theorem flat_len {f : ByteArray → List ByteArray} {n : Nat} (h : ∀ k, (f k).length ≤ n) (l : List ByteArray) : (l.flatMap f).length ≤ n * l.length := by
  induction l with
  | nil => exact Nat.zero_le _
  | cons x l ih =>
    rw [List.flatMap_cons, List.length_append, List.length_cons, Nat.mul_succ]
    have := h x
    omega
theorem flat_snoc {f : ByteArray → List ByteArray} {l : List ByteArray} {j : Nat} (hj : j < l.length) : (l.take (j + 1)).flatMap f = (l.take j).flatMap f ++ f l[j] := by
  rw [List.take_succ_eq_append_getElem hj, List.flatMap_append]
  simp
theorem varT_len (t : Tg) (k : ByteArray) : (varT t k).length ≤ 5 := by
  unfold varT
  cases (valV t k).s <;> cases (valV t k).e <;> cases (valV t k).f <;> simp
theorem aliasT_len (t : Tg) (k : ByteArray) : (aliasT t k).length ≤ 2 := Nat.le_refl _
theorem trapT_len (t : Tg) (k : ByteArray) : (trapT t k).length ≤ 2 := by
  unfold trapT
  cases (t.cur.t k).isSome <;> simp
theorem funcT_len (t : Tg) (k : ByteArray) : (funcT t k).length ≤ 2 := by
  unfold funcT
  cases (t.cur.f k).isSome <;> simp
end Go.Proofs.YtigmdfdcflkggaaGreat
