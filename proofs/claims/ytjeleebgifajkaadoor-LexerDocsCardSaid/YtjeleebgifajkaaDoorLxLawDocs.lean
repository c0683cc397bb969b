/-
  The walk of LexerDocs: it answers true and leaves what was there. Conditions: none.
-/
import Derived.Test.YtjeleebgifajkaaDoorLxRefDoc
import Derived.Test.YtjeleebgifajkaaDoorLxAwake
set_option linter.unusedSimpArgs false
set_option linter.unusedVariables false
namespace Go.Proofs.YtjeleebgifajkaaDoor
open Go Go.RowKit

def docT (p : List UInt8 × Int × Int) : Value := .tuple #[.string ⟨p.1.toArray⟩, .int .i64 p.2.1, .int .i64 p.2.2]
set_option maxHeartbeats 4000000 in
set_option maxRecDepth 100000 in
theorem rDoc_any (s mark : ByteArray) (at_ : Int) (tabs : Bool) (w : World) :
    Calls Tryd.prog 20 #[.string s, .int .i64 at_, .string mark, .bool tabs] w fun e w' => e = .returned (docT (docV s at_ mark tabs)) ∧ w' = w := by
  by_cases hc : chk s at_ = 0
  · obtain ⟨hs, k, rfl, hk⟩ := chk_0 hc
    have e1 : docV s (k : Int) mark tabs = match docF (s.size + 1) (bl s) k (bl mark) tabs [] with | none => ([], 0, 30) | some (t, n) => (t, (n : Int), 0) := by unfold docV; rw [if_neg (fun h => h hc)]; rfl
    rw [e1]
    cases tabs with
    | false =>
      have h := rdoc_false s mark k hk hs hc w
      cases hd : docF (s.size + 1) (bl s) k (bl mark) false [] with
      | none => rw [hd] at h; exact h
      | some p => rw [hd] at h; exact h
    | true =>
      have h := rdoc_true s mark k hk hs hc w
      cases hd : docF (s.size + 1) (bl s) k (bl mark) true [] with
      | none => rw [hd] at h; exact h
      | some p => rw [hd] at h; exact h
  · have e1 : docV s at_ mark tabs = ([], 0, chk s at_) := by unfold docV; rw [if_pos hc]
    rw [e1]
    have hh := may_any s at_ w
    generalize chk s at_ = c at hc hh ⊢
    replace hh := Lib.hid hh
    go_enter Tryd.func20, Tryd.ntmps20
    go_wp2_with fail
    refine hh.out.mono ?_
    rintro e w' ⟨rfl, hwq⟩
    obtain rfl := hwq.symm
    go_wp2
    exact bodyPost_ret (v := .tuple #[.string ⟨#[]⟩, .int .i64 0, .int .i64 c]) (by simp [results, Tryd.results20, go_sem]) rfl ⟨rfl, rfl⟩

set_option maxHeartbeats 4000000 in
set_option maxRecDepth 100000 in
theorem lawDocs_any (s mark : ByteArray) (n : Int) (b : Bool) (w : World) :
    Calls Tryd.prog 5 #[.string s, .string mark, .agg #[.int .i64 n, .bool b]] w fun e w' => e = .returned (.bool true) ∧ Below w.heap.size w w' := by
  have haw := fun W => awake_any W
  replace haw := Lib.hid haw
  obtain ⟨z, hz⟩ : ∃ z, w.heap.size = z := ⟨_, rfl⟩
  have hb0 : Below z w (w.alloc (.cells #[.int .i64 n, .bool b] 43)) := by rw [← hz]; exact (Below.refl _ w).alloc (Nat.le_refl _) _
  have b0 : Blk (w.alloc (.cells #[.int .i64 n, .bool b] 43)) z [.int .i64 n, .bool b] 43 := by rw [← hz]; exact Blk.new w _ _
  have hsz : z ≤ (w.alloc (.cells #[.int .i64 n, .bool b] 43)).heap.size := hb0.size |> (hz ▸ ·)
  replace hb0 := Lib.hid hb0
  replace b0 := Lib.hid b0
  replace hsz := Lib.hid hsz
  have hA : ∀ i1 : (((1000 : Int) < (s.size : Int) ∧ (s.size : Int) ≤ 4096) ∨ (100 : Int) < (mark.size : Int)) ∨ ¬ ((((1000 : Int) < (s.size : Int) ∧ (s.size : Int) ≤ 4096) ∨ (100 : Int) < (mark.size : Int))), True := fun _ => trivial
  have d1 := fun W => Doc_any s mark n b W
  have d2 := fun W => rDoc_any s mark n b W
  unfold docT at d2
  obtain ⟨D, hD⟩ : ∃ D, docV s n mark b = D := ⟨_, rfl⟩
  rw [hD] at d1 d2
  obtain ⟨t, p, er⟩ := D
  dsimp only at d1 d2
  generalize (⟨t.toArray⟩ : ByteArray) = y at d1 d2
  replace d1 := Lib.hid d1
  replace d2 := Lib.hid d2
  clear hD hA
  by_cases g1 : (1000 : Int) < (s.size : Int) ∧ (s.size : Int) ≤ 4096
  · obtain ⟨g1, g2⟩ := g1
    go_enter Tryd.func5, Tryd.ntmps5
    go_upto_region 1 with fail
    try rw [hz]
    generalize (w.alloc (.cells #[.int .i64 n, .bool b] 43)) = w1 at hb0 b0 hsz ⊢
    replace hz := Lib.hid hz
    go_wp2_with fail
    refine (haw.out _).mono ?_
    rintro e w' ⟨rfl, hb⟩
    have hbE : Hid (Below w.heap.size w w') := Lib.hid (by rw [hz.out]; exact hb0.out.trans (hb.mono hsz.out))
    clear hb
    go_wp2
    go_ret
    exact ⟨rfl, hbE.out⟩
  · by_cases g3 : (100 : Int) < (mark.size : Int)
    · have g4 : ¬ (1000 : Int) < (s.size : Int) ∨ (1000 : Int) < (s.size : Int) ∧ ¬ (s.size : Int) ≤ 4096 := by omega
      rcases g4 with g4 | ⟨g4, g5⟩
      all_goals (
        clear g1
        go_enter Tryd.func5, Tryd.ntmps5
        go_upto_region 1 with fail
        try rw [hz]
        generalize (w.alloc (.cells #[.int .i64 n, .bool b] 43)) = w1 at hb0 b0 hsz ⊢
        replace hz := Lib.hid hz
        go_wp2_with fail
        refine (haw.out _).mono ?_
        rintro e w' ⟨rfl, hb⟩
        have hbE : Hid (Below w.heap.size w w') := Lib.hid (by rw [hz.out]; exact hb0.out.trans (hb.mono hsz.out))
        clear hb
        go_wp2
        go_ret
        exact ⟨rfl, hbE.out⟩)
    · have g4 : ¬ (1000 : Int) < (s.size : Int) ∨ (1000 : Int) < (s.size : Int) ∧ ¬ (s.size : Int) ≤ 4096 := by omega
      rcases g4 with g4 | ⟨g4, g5⟩
      all_goals (
        clear g1
        go_enter Tryd.func5, Tryd.ntmps5
        go_upto_region 1 with fail
        try rw [hz]
        generalize (w.alloc (.cells #[.int .i64 n, .bool b] 43)) = w1 at hb0 b0 hsz ⊢
        replace hz := Lib.hid hz
        have c0 := b0.out.cell (i := 0) rfl
        have c1 := b0.out.cell (i := 1) rfl
        go_wp2_with fail
        refine (d1.out _).mono ?_
        rintro e w2 ⟨rfl, hb2⟩
        have b2 : Hid (Blk w2 z _ _) := Lib.hid ((hb2.block z b0.out.lt).trans b0.out)
        have hbB : Hid (Below z w w2) := Lib.hid (hb0.out.trans (hb2.mono hsz.out))
        have hs2 : Hid (z ≤ w2.heap.size) := Lib.hid (Nat.le_trans hsz.out hb2.size)
        clear hb2 c0 c1 b0 hb0 hsz d1
        have c0 := b2.out.cell (i := 0) rfl
        have c1 := b2.out.cell (i := 1) rfl
        go_wp2_with fail
        refine (d2.out _).mono ?_
        rintro e w' ⟨rfl, hwq⟩
        obtain rfl := hwq.symm
        clear d2 hwq
        go_wp2_with fail
        refine (haw.out _).mono ?_
        rintro e w' ⟨rfl, hb⟩
        have hbE : Hid (Below w.heap.size w w') := Lib.hid (by rw [hz.out]; exact hbB.out.trans (hb.mono hs2.out))
        clear hb
        go_wp2
        go_ret
        exact ⟨rfl, hbE.out⟩)
end Go.Proofs.YtjeleebgifajkaaDoor
