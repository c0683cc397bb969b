/-
  Texts as an argument.
-/
import Derived.Test.YtdbidglebikoeaaGreatDoorHnRow
import Derived.Deep.Strs
namespace Go.Proofs.YtdbidglebikoeaaGreatDoor
open Go Go.ChangeShapes Go.WideShapes Go.ChangeAt Go.RowKit Go.Deep

/-- A slice reads as such texts. -/
def Txs (w : World) (v : Value) (l : List ByteArray) : Prop := Sl w w.heap.size 1 v l.length (l.map .string)
theorem Txs.form {w : World} {v : Value} {l : List ByteArray} (h : Txs w v l) : ∃ A c, v = .slice A l.length c ∧ l.length ≤ c ∧ c ≤ maxLen := by
  obtain ⟨A, c, hv, h1, h2, _⟩ := h
  exact ⟨A, c, hv, h1, h2⟩
theorem Txs.at_ {w wr : World} {A : Option Addr} {n c : Nat} {l : List ByteArray} (h : Txs w (.slice A n c) l) (hm : ∀ b, b < w.heap.size → wr.heap[b]? = w.heap[b]?) (k : Nat) (hk : k < l.length) : ∃ b off : Nat, A = some ⟨b, off, none⟩ ∧ b < w.heap.size ∧ wr.cell? ⟨b, off + k, none⟩ = some (.string l[k]) := by
  obtain ⟨A', c', hv, h1, h2, h3, h4⟩ := h
  injection hv with e1 e2 e3
  subst e1 e2 e3
  obtain ⟨b, off, hA, hlt, hc⟩ := h4 (by omega)
  exact ⟨b, off, hA, hlt, (World.cell?_of_block (a := ⟨b, off + k, none⟩) (hm b hlt)).trans (hc k _ (by simp [hk]))⟩
section
variable {H : Type} {enc : TypeId × Value → H} {W : World}
set_option maxRecDepth 100000 in
theorem open_texts {base : Nat} {v : Value} {d : DataW H} {p : List MemPlace} (hv : Value.okWide Tryz.prog W .any base 69 v)
    (h : DataW.Trod enc Tryz.prog W 0 (fun _ => true) true 69 v d p) (hlt : ∀ x ∈ p, x.block < W.heap.size) : ∃ l : List ByteArray, Txs W v l := by
  obtain ⟨a0, len0, cap0, rfl⟩ := okWide_slice Tryz.underlying69 hv
  obtain ⟨fuel, hf⟩ := h
  rcases open_strs (cs := [.slice a0 len0 cap0]) Tryz.underlying69 Tryz.underlying9 cellsStr (by simpa [Value.cells] using hf) with ⟨hcs, _⟩ | ⟨a, len, cap, m, Sx, hcs, _, hl, hm, hmm, hx, hi⟩
  · obtain ⟨rfl, rfl, rfl⟩ : a0 = none ∧ len0 = 0 ∧ cap0 = 0 := by simpa using hcs
    exact ⟨[], Sl.nil_ _ _ _⟩
  · obtain ⟨rfl, rfl, rfl⟩ : a0 = some a ∧ len0 = len ∧ cap0 = cap := by simpa using hcs
    have hlm : len0 ≤ m := by rw [hmm]; split <;> omega
    simp only [Prod.mk.injEq] at hx
    have hlen : ((List.range len0).map Sx).length = len0 := by simp
    refine ⟨(List.range len0).map Sx, ⟨some a, cap0, by rw [hlen], by rw [hlen]; exact hl, hm, by simp, fun hn => ?_⟩⟩
    have hpos : 0 < len0 := by omega
    obtain ⟨b, off, spot⟩ := a
    have hspot : spot = none := by simpa [Addr.add] using World.cell?_spot (hi 0 (by omega)).1
    subst hspot
    have hb : b < W.heap.size := by
      have := hlt (.cell b off) (by rw [hx.2]; exact MemPlace.mem_row.2 ⟨0, by omega, by simp⟩)
      exact this
    refine ⟨b, off, rfl, hb, fun j u hj => ?_⟩
    have hj2 : j < len0 := by
      have := (List.getElem?_eq_some_iff.1 hj).1
      simpa using this
    have := (hi j (by omega)).1
    rw [add_plain0] at this
    rw [this]
    simpa [hj2] using hj
end
end Go.Proofs.YtdbidglebikoeaaGreatDoor
