/-
  The chapter's example, told of what a state knows. Conditions: none.
-/
import Derived.Test.YtigmdfdcflkggaaGreatStBegun
import Derived.Test.YtigmdfdcflkggaaGreatStEnter
namespace Go.Proofs.YtigmdfdcflkggaaGreat
open Go Go.RowKit Go.ChangeMaps

def xN : ByteArray := ⟨#[120]⟩
def intN : ByteArray := ⟨#[73, 78, 84]⟩
def exitN : ByteArray := ⟨#[69, 88, 73, 84]⟩
def aS1 : Tg := ⟨10, 20, { sta0 with o := ⟨#[97]⟩ }, [], []⟩
def aS2 : Tg := ⟨10, 20, { aS1.cur with v := updF (fun _ => none) xN (some ⟨⟨#[49]⟩, true, true, false⟩) }, [], []⟩
def aS3 : Tg := ⟨10, 20, { aS1.cur with v := updF aS2.cur.v xN (some ⟨⟨#[49]⟩, true, true, true⟩) }, [], []⟩
def aS4 (g : Gv) : Tg := ⟨10, 20, { aS3.cur with g := g }, [], []⟩
def aS6 (g : Gv) : Tg := ⟨10, 20, { (aS4 g).cur with t := updF (fun _ => none) intN (some ⟨#[]⟩) }, [], []⟩
def aS7 (g : Gv) : Tg := ⟨10, 20, { (aS4 g).cur with t := updF (aS6 g).cur.t exitN (some ⟨#[121]⟩) }, [], []⟩
theorem noted_no {t : Tg} (h : t.was = []) (n : Nt) (st : Sta) : t.noted n st = { t with cur := st } := by
  unfold Tg.noted
  rw [if_pos h]
theorem full_no {t : Tg} (h : t.was = []) : ¬ t.full := fun f => f.1 h
theorem a1 : (new0 10 20).setO 97 true = (0, aS1) := by
  have h1 : ¬ Lib.indexByte optA 97 < 0 := by decide
  have h2 : optL (new0 10 20) 97 true optA = [97] := by decide
  unfold Tg.setO
  rw [if_neg h1, h2]
  unfold Tg.seto
  rw [if_neg (full_no rfl), noted_no rfl]
  rfl
theorem a2 : aS1.setV xN ⟨#[49]⟩ = (0, aS2) := by
  have h1 : nameB xN = true := by decide
  have h2 : valV aS1 xN = noV := rfl
  have h3 : optB aS1 97 = true := by decide
  unfold Tg.setV
  rw [if_pos h1, if_neg (by decide), h2, if_neg (by decide), h3]
  unfold Tg.putv
  rw [if_neg (full_no rfl), noted_no rfl]
  rfl
theorem vS2 : valV aS2 xN = ⟨⟨#[49]⟩, true, true, false⟩ := by
  unfold valV aS2 updF
  simp
theorem a3 : aS2.markV xN false true = (0, aS3) := by
  unfold Tg.markV
  rw [vS2]
  unfold Tg.put
  rw [if_pos (by decide), if_neg (by decide)]
  unfold Tg.putv
  rw [if_neg (full_no rfl), noted_no rfl]
  rfl
theorem vS3 : valV aS3 xN = ⟨⟨#[49]⟩, true, true, true⟩ := by
  unfold valV aS3 updF
  simp
theorem a3b : aS3.setV xN ⟨#[50]⟩ = (26, aS3) := by
  unfold Tg.setV
  rw [if_pos (by decide), if_neg (by decide), vS3, if_pos (by decide)]
theorem a4 (g : Gv) : aS3.setg g = (0, aS4 g) := by
  unfold Tg.setg
  rw [if_neg (full_no rfl), noted_no rfl]
  rfl
theorem a5 (g g' : Gv) : (aS4 g).setg g' = (0, aS4 g') := by
  unfold Tg.setg
  rw [if_neg (full_no rfl), noted_no rfl]
  rfl
theorem a6 (g : Gv) : (aS4 g).setT intN ⟨#[]⟩ = (0, aS6 g) := by
  unfold Tg.setT
  rw [if_pos (by decide), if_neg (by decide)]
  unfold Tg.putt
  rw [if_neg (full_no rfl), noted_no rfl]
  rfl
theorem a7 (g : Gv) : (aS6 g).setT exitN ⟨#[121]⟩ = (0, aS7 g) := by
  unfold Tg.setT
  rw [if_pos (by decide), if_neg (by decide)]
  unfold Tg.putt
  rw [if_neg (full_no rfl), noted_no rfl]
  rfl
theorem tS7 (g : Gv) : (aS7 g).cur.t exitN = some ⟨#[121]⟩ ∧ (aS7 g).cur.t intN = some ⟨#[]⟩ := by
  have h1 : ¬ intN = exitN := by decide
  unfold aS7 aS6 updF
  refine ⟨by dsimp only; rw [if_pos rfl], ?_⟩
  dsimp only
  rw [if_neg h1, if_pos rfl]
/-- Enter with no mark. -/
theorem enterL_t (ns : List ByteArray) : ∀ (t : Tg), t.was = [] → (enterL ns t).2.was = [] ∧ ∀ k, (k ∈ ns → 0 < ((t.cur.t k).getD noW).size → (enterL ns t).2.cur.t k = none) ∧ (¬ 0 < ((t.cur.t k).getD noW).size → (enterL ns t).2.cur.t k = t.cur.t k) := by
  induction ns with
  | nil => intro t hw; exact ⟨hw, fun k => ⟨fun h => (by cases h), fun _ => rfl⟩⟩
  | cons j js ih =>
    intro t hw
    unfold enterL
    by_cases hj : 0 < ((t.cur.t j).getD noW).size
    · obtain ⟨x, hx⟩ : ∃ x, t.cur.t j = some x := by
        cases hc : t.cur.t j with
        | none => rw [hc] at hj; exact absurd hj (by decide)
        | some x => exact ⟨x, rfl⟩
      obtain ⟨t1, ht1⟩ : ∃ t1 : Tg, t1 = { t with cur := { t.cur with t := updF t.cur.t j none } } := ⟨_, rfl⟩
      have hw1 : t1.was = [] := by rw [ht1]; exact hw
      have hc1 : t1.cur.t = updF t.cur.t j none := by rw [ht1]
      have hd : t.delt j = (0, t1) := by
        unfold Tg.delt
        rw [hx]
        dsimp only
        rw [if_neg (full_no hw), noted_no hw, ht1]
      rw [if_pos hj, hd, if_pos rfl]
      obtain ⟨h1, h2⟩ := ih t1 hw1
      refine ⟨h1, fun k => ?_⟩
      have h3 := h2 k
      by_cases hk : k = j
      · subst hk
        have e : t1.cur.t k = none := by rw [hc1]; unfold updF; simp
        rw [e] at h3
        exact ⟨fun _ _ => h3.2 (by decide), fun h => absurd hj h⟩
      · have e : t1.cur.t k = t.cur.t k := by rw [hc1]; unfold updF; simp [hk]
        rw [e] at h3
        exact ⟨fun h => h3.1 ((List.mem_cons.1 h).resolve_left hk), h3.2⟩
    · rw [if_neg hj]
      obtain ⟨h1, h2⟩ := ih t hw
      refine ⟨h1, fun k => ⟨fun h h0 => ?_, (h2 k).2⟩⟩
      rcases List.mem_cons.1 h with e | e
      · subst e; exact absurd h0 hj
      · exact (h2 k).1 e h0
theorem KeysOf.iff {α : Type} {f : ByteArray → Option α} {ns : List ByteArray} (h : KeysOf f ns) {k : ByteArray} {x : α} (hk : f k = some x) : k ∈ ns := by
  obtain ⟨es, h1, h2, rfl⟩ := h
  rw [← h2 k] at hk
  exact (names_mem es k).2 ⟨(k, x), look_mem hk, rfl⟩
end Go.Proofs.YtigmdfdcflkggaaGreat
