/-
  Rows of pairs in memory: what stands in them, one pair more. Conditions: fewer than a hundred thousand.
-/
import Derived.Test.YtcobfimafpfbpaaUdCanon
import Derived.Test.YtcobfimafpfbpaaMkLast2
import Derived.Maps.AppendAt
namespace Go.Proofs.Ytcobfimafpfbpaa
open Go Go.RowKit Go.ChangeMaps

def pairC (p : ByteArray × Int) : List Value := [.string p.1, .int .i64 p.2]
def cellsP (l : Es) : List Value := l.flatMap pairC
theorem cellsP_length (l : Es) : (cellsP l).length = l.length * 2 := by
  induction l with
  | nil => rfl
  | cons a l ih => simp only [cellsP, List.flatMap_cons, List.length_append, pairC, List.length_cons, List.length_nil] at ih ⊢; omega
theorem cellsP_append (l m : Es) : cellsP (l ++ m) = cellsP l ++ cellsP m := by simp [cellsP]
theorem cellsP_at (l : Es) (k : Nat) (h : k < l.length) : (cellsP l)[k * 2]? = some (.string l[k].1) ∧ (cellsP l)[k * 2 + 1]? = some (.int .i64 l[k].2) := by
  induction l generalizing k with
  | nil => simp at h
  | cons a l ih =>
    cases k with
    | zero => exact ⟨rfl, rfl⟩
    | succ k =>
      have e : (k + 1) * 2 = k * 2 + 1 + 1 := by omega
      have := ih k (by simpa using h)
      simp only [cellsP, List.flatMap_cons, pairC, e, List.cons_append, List.nil_append, List.getElem?_cons_succ, List.getElem_cons_succ] at this ⊢
      exact this
theorem cellsP_one (l : Es) : ∀ u ∈ cellsP l, u.oneCell' = true := by
  intro u hu
  simp only [cellsP, List.mem_flatMap, pairC, List.mem_cons, List.mem_nil_iff, or_false] at hu
  obtain ⟨a, _, rfl | rfl⟩ := hu <;> rfl
/-- A slice of pairs, in a block of its own. -/
def PairsAt (w : World) (base : Nat) (v : Value) (L : Es) : Prop := w.ownsRow base 78 2 v L.length (cellsP L)
section
variable {w w' : World} {base : Nat} {v : Value} {L : Es}
theorem own_keep {w w' : World} {base : Nat} {e : TypeId} {size n : Nat} {v : Value} {xs : List Value} (h : w.ownsRow base e size v n xs) (hk : ∀ g cur, v.ownBlock = some g → w.heap[g]? = some (.cells cur e (0, 0)) → w'.heap[g]? = w.heap[g]?) : w'.ownsRow base e size v n xs := by
  refine ⟨h.1, ?_⟩
  rcases h.2 with hn | ⟨g, cap, cur, rfl, hb, hg, rest⟩
  · exact .inl hn
  · exact .inr ⟨g, cap, cur, rfl, hb, (hk g cur rfl hg).trans hg, rest⟩
theorem own_fr {w w' : World} {base B : Nat} {T : TypeId → Prop} {M : Nat → Prop} {e : TypeId} {size n : Nat} {v : Value} {xs : List Value} (h : w.ownsRow base e size v n xs) (k : Fr B T M w w') (hT : ¬ T e) (hM : ∀ g, v.ownBlock = some g → ¬ M g) : w'.ownsRow base e size v n xs :=
  own_keep h fun g cur hg hb => k.keep g (Array.getElem?_eq_some_iff.1 hb).1 (.inr ⟨hM g hg, fun _ _ _ hc => by
    rw [hb] at hc
    simp only [Option.some.injEq, Obj.cells.injEq] at hc
    rw [← hc.2.1]; exact hT⟩)
theorem own_form {w : World} {base : Nat} {e : TypeId} {size n : Nat} {v : Value} {xs : List Value} (h : w.ownsRow base e size v n xs) : ∃ A c, v = .slice A n c ∧ n ≤ c ∧ c ≤ maxLen := by
  rcases h.2 with ⟨rfl, rfl⟩ | ⟨g, cap, cur, rfl, hb, hg, h1, h2, _⟩
  · exact ⟨none, 0, rfl, Nat.le_refl _, Nat.zero_le _⟩
  · exact ⟨_, cap, rfl, h1, h2⟩
theorem own_at {w : World} {base : Nat} {e : TypeId} {size n c : Nat} {A : Option Addr} {xs : List Value} (h : w.ownsRow base e size (.slice A n c) n xs) (hn : 0 < n) : ∃ g, A = some ⟨g, 0, none⟩ ∧ base ≤ g ∧ g < w.heap.size ∧ ∀ (j : Nat) (u : Value), xs[j]? = some u → w.cell? ⟨g, j, none⟩ = some u := by
  rcases h.2 with ⟨h1, h2⟩ | ⟨g, cap, cur, h1, hb, hg, h2⟩
  · omega
  · cases h1
    refine ⟨g, rfl, hb, (Array.getElem?_eq_some_iff.1 hg).1, fun j u hu => ?_⟩
    have := h.cells (g := g) rfl j u hu
    rwa [add_plain0, Nat.zero_add] at this
theorem own_block {w : World} {base : Nat} {e : TypeId} {size n : Nat} {v : Value} {xs : List Value} (h : w.ownsRow base e size v n xs) {g : Nat} (hg : v.ownBlock = some g) : base ≤ g ∧ ∃ cur, Blk w g cur e := by
  rcases h.2 with ⟨rfl, _⟩ | ⟨g', cap, cur, rfl, hb, hc, _⟩
  · cases hg
  · cases hg
    exact ⟨hb, cur.toList, by unfold Blk; simpa using hc⟩
theorem own_base {w : World} {base base' : Nat} {e : TypeId} {size n : Nat} {v : Value} {xs : List Value} (h : w.ownsRow base e size v n xs) (hb : base' ≤ base) : w.ownsRow base' e size v n xs := by
  refine ⟨h.1, ?_⟩
  rcases h.2 with hn | ⟨g, cap, cur, rfl, hg, rest⟩
  · exact .inl hn
  · exact .inr ⟨g, cap, cur, rfl, by omega, rest⟩
theorem stp_grown {row : Option Nat} (h : w.grownBy w' row) : Stp (fun b => row = some b) w w' := ⟨h.os, h.tape, h.output, h.size, fun b hb hn => h.block b hb (fun e => hn e.symm)⟩
theorem infoPair : (Try.prog.info? 78).map (fun i => (i.zero, i.size, i.bytes)) = some (some (.agg #[.string ⟨#[]⟩, .int .i64 0]), 2, 24) := by kernel_rfl
theorem PairsAt.at_ {A : Option Addr} {n c : Nat} (h : PairsAt w base (.slice A n c) L) (k : Nat) (hk : k < L.length) : n = L.length ∧ ∃ g, A = some ⟨g, 0, none⟩ ∧ g < w.heap.size ∧ w.cell? ⟨g, k * 2, none⟩ = some (.string L[k].1) ∧ w.cell? ⟨g, k * 2 + 1, none⟩ = some (.int .i64 L[k].2) := by
  obtain ⟨A', c', e, _⟩ := own_form h
  obtain ⟨rfl, rfl, rfl⟩ := Value.slice.inj e
  obtain ⟨g, h1, _, h2, h3⟩ := own_at h (by omega)
  obtain ⟨c0, c1⟩ := cellsP_at L k hk
  exact ⟨rfl, g, h1, h2, h3 _ _ c0, h3 _ _ c1⟩
/-- One pair more. -/
theorem pairs_append (h : PairsAt w base v L) (hL : L.length ≤ 100000) (hB : base ≤ w.heap.size) (p : ByteArray × Int) {z : Nat} (hz : Blk w z (pairC p) 78) :
    ∃ v' w', (Builtin.append_ #[42, 42] 42 #[v, .slice (some ⟨z, 0, none⟩) 1 1]).run Try.prog w = .ok v' w' ∧ PairsAt w' base v' (L ++ [p]) ∧ Stp (fun b => v.ownBlock = some b) w w' ∧ (v'.ownBlock = v.ownBlock ∨ v'.ownBlock = some w.heap.size) := by
  obtain ⟨i0, hi, hz0, hz1, hz2⟩ := info_parts infoPair
  obtain ⟨v', w', h1, h2, h3, _, h5⟩ := run_append_own_at (P := Try.prog) w base 42 42 78 i0 _ 2 24 Try.underlying42 hi hz0 hz1 hz2 rfl (by decide) v L.length (cellsP L) h ⟨z, 0, none⟩ 1 1 (pairC p) rfl
    (fun j u hu => by rw [add_plain0, Nat.zero_add]; exact hz.cell hu) (by intro u hu; exact cellsP_one [p] u (by simpa [cellsP] using hu)) (Nat.le_trans (by omega : L.length + 1 ≤ 100001) (by decide)) (by omega) hB
  refine ⟨v', w', h1, ?_, stp_grown h3, h5⟩
  unfold PairsAt
  rw [List.length_append, cellsP_append]
  simpa [cellsP] using h2
end
/-- Blocks of pairs and of what there is. -/
def PT (t : TypeId) : Prop := t = 78 ∨ t = 44
theorem not_PT {ty : TypeId} (h : (ty == 78 || ty == 44) = false) : ¬ PT ty := by
  intro k
  rcases k with k | k <;> (subst k; revert h; decide)
/-- One pair more, in a row that a box has. -/
theorem box_step {w : World} {B zs : Nat} {v : Value} {L : Es} {rest : List Value} (h : PairsAt w B v L) (hZ : Blk w zs (v :: rest) 44) (hBz : B ≤ zs) (hL : L.length ≤ 100000) (p : ByteArray × Int) :
    ∃ v' w1 w2 W3, w.alloc (.cells #[.string p.1, .int .i64 p.2] 78) = w1 ∧ (Builtin.append_ #[42, 42] 42 #[v, .slice (some ⟨w.heap.size, 0, none⟩) 1 1]).run Try.prog w1 = .ok v' w2 ∧
      Fr B PT (fun _ => False) w w1 ∧ Fr B PT (fun _ => False) w w2 ∧ Blk w1 zs (v :: rest) 44 ∧ Blk w2 zs (v :: rest) 44 ∧ w2.setCell ⟨zs, 0, none⟩ v' = W3 ∧
      PairsAt W3 B v' (L ++ [p]) ∧ Blk W3 zs (v' :: rest) 44 ∧ Fr B PT (fun _ => False) w W3 := by
  have hlt := hZ.lt
  have hz : Blk (w.alloc (.cells #[.string p.1, .int .i64 p.2] 78)) w.heap.size (pairC p) 78 := Blk.new w _ _
  have h1 : PairsAt (w.alloc (.cells #[.string p.1, .int .i64 p.2] 78)) B v L := World.ownsRow.alloc h _
  have hZ1 := hZ.alloc (.cells #[.string p.1, .int .i64 p.2] 78)
  obtain ⟨v', w2, hrun, hP, hS, how⟩ := pairs_append h1 hL (by simp; omega) p hz
  have hne : ∀ g, v.ownBlock = some g → g ≠ zs := fun g hg => by
    obtain ⟨_, cur, hb⟩ := own_block h1 hg
    exact hb.ne hZ1 (by decide)
  have hZ2 : Blk w2 zs (v :: rest) 44 := hZ1.stp hS (fun e => hne zs e rfl)
  have hF1 : Fr B PT (fun _ => False) w (w.alloc (.cells #[.string p.1, .int .i64 p.2] 78)) := Fr.alloc _ _ _ _ _
  have hF2 : Fr B PT (fun _ => False) w w2 := hF1.trans (Fr.of_stp hS fun b _ hb => by
    obtain ⟨h2, cur, h3⟩ := own_block h1 hb
    exact ⟨h2, .inr ⟨_, _, _, h3, .inl rfl⟩⟩)
  have hne' : ∀ g, v'.ownBlock = some g → g ≠ zs := fun g hg => by
    obtain ⟨_, cur, hb⟩ := own_block hP hg
    exact hb.ne hZ2 (by decide)
  refine ⟨v', _, w2, _, rfl, hrun, hF1, hF2, hZ1, hZ2, rfl, own_keep hP fun g cur hg _ => heap_setCell_other w2 _ g _ (hne' g hg), hZ2.set 0 v', hF2.trans (Fr.of_stp (Stp.set (S := fun b => b = zs) rfl 0 v') fun b _ hb => ?_)⟩
  subst hb
  exact ⟨hBz, .inr ⟨_, _, _, hZ2, .inr rfl⟩⟩
end Go.Proofs.Ytcobfimafpfbpaa
