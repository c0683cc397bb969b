/-
  does: a call that is asked for, by what it answers and what there is behind it. Conditions: numbers of 64 bits, keys of at most 100 bytes.
-/
import Derived.Test.YtcobfimafpfbpaaUdFew
namespace Go.Proofs.Ytcobfimafpfbpaa
open Go Go.Proofs Go.RowKit Go.ChangeMaps

/-- Which call. -/
def kind (x : Int) : Int := (x.tmod 6 + 6).tmod 6
def opV (o : Opd) : Value := .agg #[.int .i64 o.1, .string o.2.1, .int .i64 o.2.2]
/-- What a call answers, and what there is behind it. -/
def Tg.step (t : Tg) (o : Opd) : Int × Int × Tg :=
  if kind o.1 = 0 then t.mark else if kind o.1 = 1 then (0, t.undo) else if kind o.1 = 4 then (0, t.del o.2.1) else if kind o.1 = 5 then (0, t.cellS o.2.1) else (0, t.put o.2.1 o.2.2)
theorem kind_lt (x : Int) : -6 < x.tmod 6 ∧ x.tmod 6 < 6 := by
  have h1 := Int.tmod_lt_of_pos x (show (0 : Int) < 6 by decide)
  have h2 := Int.lt_tmod_of_pos x (show (0 : Int) < 6 by decide)
  omega

set_option maxRecDepth 100000 in
set_option maxHeartbeats 4000000 in
theorem does_any {w : World} {B : Nat} {Q : Nat → Prop} {a : Ad} {pot : Nat} {t : Tg} (h : ThAt w B Q a pot t) (o : Opd) (ho : In64 o.1) (hk : o.2.1.size ≤ 100) :
    Calls Try.prog 12 #[thV a, opV o] w fun e w' => e = .returned (.tuple #[.int .i64 (t.step o).1, .int .i64 (t.step o).2.1]) ∧ ThAt w' B (moreQ Q w) a (pot + 2) (t.step o).2.2 ∧ FrT B a.o w w' := by
  obtain ⟨x, key, val⟩ := o
  simp only at ho hk
  obtain ⟨z, hz⟩ : ∃ z, w.heap.size = z := ⟨_, rfl⟩
  have b0 : Blk ((w.alloc (.cells #[ptrV a.l, ptrV a.m, ptrV a.c] 29)).alloc (.cells #[.int .i64 x, .string key, .int .i64 val] 39)) z [ptrV a.l, ptrV a.m, ptrV a.c] 29 := by rw [← hz]; exact (Blk.new w _ _).alloc _
  have b1 : Blk ((w.alloc (.cells #[ptrV a.l, ptrV a.m, ptrV a.c] 29)).alloc (.cells #[.int .i64 x, .string key, .int .i64 val] 39)) (z + 1) [.int .i64 x, .string key, .int .i64 val] 39 := by
    have := Blk.new (w.alloc (.cells #[ptrV a.l, ptrV a.m, ptrV a.c] 29)) [.int .i64 x, .string key, .int .i64 val] 39
    rw [show (w.alloc (.cells #[ptrV a.l, ptrV a.m, ptrV a.c] 29)).heap.size = z + 1 by simp [hz]] at this
    exact this
  have hb0 := ((Below.refl w.heap.size w).alloc (Nat.le_refl _) (.cells #[ptrV a.l, ptrV a.m, ptrV a.c] 29)).alloc (by simp) (.cells #[.int .i64 x, .string key, .int .i64 val] 39)
  obtain ⟨w0, hw0⟩ : ∃ w0, (w.alloc (.cells #[ptrV a.l, ptrV a.m, ptrV a.c] 29)).alloc (.cells #[.int .i64 x, .string key, .int .i64 val] 39) = w0 := ⟨_, rfl⟩
  rw [hw0] at b0 b1 hb0
  have hT := h.below hb0
  have hmore : ∀ (e : Ending) (w' : World) (r : Int × Int × Tg) (Q' : Nat → Prop) (pot' : Nat), (Q' = Q ∧ pot' = pot ∨ Q' = moreQ Q w0 ∧ pot' = pot + 2) → ThAt w' B Q' a pot' r.2.2 → FrT B a.o w0 w' → ThAt w' B (moreQ Q w) a (pot + 2) r.2.2 ∧ FrT B a.o w w' := fun _ w' r Q' pot' hq h1 h2 => by
    refine ⟨h1.mono (by omega) (fun b hb hQ => ?_), Fr.trans (Fr.of_below hb0) h2⟩
    rcases hq with ⟨rfl, _⟩ | ⟨rfl, _⟩
    · exact .inl hQ
    · rcases hQ with hQ | hQ
      · exact .inl hQ
      · exact .inr (Nat.le_trans hb0.size hQ)
  have c0 : w0.cell? ⟨z, 0, none⟩ = some (.pointer (some ⟨a.l, 0, none⟩)) := b0.cell (i := 0) rfl
  have c1 : w0.cell? ⟨z, 1, none⟩ = some (.pointer (some ⟨a.m, 0, none⟩)) := b0.cell (i := 1) rfl
  have c2 : w0.cell? ⟨z, 2, none⟩ = some (.pointer (some ⟨a.c, 0, none⟩)) := b0.cell (i := 2) rfl
  have d0 : w0.cell? ⟨z + 1, 0, none⟩ = some (.int .i64 x) := b1.cell (i := 0) rfl
  have d1 : w0.cell? ⟨z + 1, 1, none⟩ = some (.string key) := b1.cell (i := 1) rfl
  have d2 : w0.cell? ⟨z + 1, 2, none⟩ = some (.int .i64 val) := b1.cell (i := 2) rfl
  have cl := b0.lt
  have dl := b1.lt
  have hmark := th_mark hT
  have hundo := th_undo hT
  have hdel := th_del hT key hk
  have hcs := th_cset hT key
  have hput := th_put hT key val hk
  obtain ⟨hx1, hx2⟩ := kind_lt x
  unfold In64 at ho
  have hst : t.step (x, key, val) = if kind x = 0 then t.mark else if kind x = 1 then (0, t.undo) else if kind x = 4 then (0, t.del key) else if kind x = 5 then (0, t.cellS key) else (0, t.put key val) := rfl
  unfold kind at hst
  unfold ptrV at hmark hundo hdel hcs hput hw0
  replace hmore := Lib.hid hmore
  replace hmark := Lib.hid hmark
  replace hundo := Lib.hid hundo
  replace hdel := Lib.hid hdel
  replace hcs := Lib.hid hcs
  replace hput := Lib.hid hput
  replace hw0 := Lib.hid hw0
  replace hz := Lib.hid hz
  unfold thV opV ptrV
  simp only
  clear h hT b0 b1 hb0 hk
  by_cases h0 : (x.tmod 6 + 6).tmod 6 = 0
  · rw [if_pos h0] at hst
    rw [hst]
    replace hst := Lib.hid hst
    go_enter Try.func12, Try.ntmps12
    go_upto_region 1 with fail
    rw [hz.out, hw0.out]
    go_wp2_with fail
    refine hmark.out.mono ?_
    rintro e w' ⟨rfl, h1, h2⟩
    have hfin := hmore.out (.returned (.bool true)) w' _ _ _ (.inl ⟨rfl, rfl⟩) h1 h2
    replace hfin := Lib.hid hfin
    clear h1 h2 c0 c1 c2 d0 d1 d2
    go_wp2
    go_ret2
    exact ⟨rfl, hfin.out⟩
  have e0 : ((x.tmod 6 + 6).tmod 6 == 0) = false := by rw [beq_eq_false_iff_ne]; exact h0
  rw [if_neg h0] at hst
  by_cases h1 : (x.tmod 6 + 6).tmod 6 = 1
  · rw [if_pos h1] at hst
    rw [hst]
    replace hst := Lib.hid hst
    go_enter Try.func12, Try.ntmps12
    go_upto_region 1 with fail
    rw [hz.out, hw0.out]
    go_wp2_with fail
    refine hundo.out.mono ?_
    rintro e w' ⟨rfl, h1, h2⟩
    have hfin := hmore.out (.returned (.bool true)) w' (0, _) _ _ (.inl ⟨rfl, rfl⟩) h1 h2
    replace hfin := Lib.hid hfin
    clear h1 h2 c0 c1 c2 d0 d1 d2
    go_wp2
    go_ret2
    exact ⟨rfl, hfin.out⟩
  have e1 : ((x.tmod 6 + 6).tmod 6 == 1) = false := by rw [beq_eq_false_iff_ne]; exact h1
  rw [if_neg h1] at hst
  by_cases h4 : (x.tmod 6 + 6).tmod 6 = 4
  · rw [if_pos h4] at hst
    rw [hst]
    replace hst := Lib.hid hst
    go_enter Try.func12, Try.ntmps12
    go_upto_region 1 with fail
    rw [hz.out, hw0.out]
    go_wp2_with fail
    refine hdel.out.mono ?_
    rintro e w' ⟨rfl, h1, h2⟩
    have hfin := hmore.out (.returned (.bool true)) w' (0, _) _ _ (.inr ⟨rfl, rfl⟩) h1 h2
    replace hfin := Lib.hid hfin
    clear h1 h2 c0 c1 c2 d0 d1 d2
    go_wp2
    go_ret2
    exact ⟨rfl, hfin.out⟩
  have e4 : ((x.tmod 6 + 6).tmod 6 == 4) = false := by rw [beq_eq_false_iff_ne]; exact h4
  rw [if_neg h4] at hst
  by_cases h5 : (x.tmod 6 + 6).tmod 6 = 5
  · rw [if_pos h5] at hst
    rw [hst]
    replace hst := Lib.hid hst
    go_enter Try.func12, Try.ntmps12
    go_upto_region 1 with fail
    rw [hz.out, hw0.out]
    go_wp2_with fail
    refine hcs.out.mono ?_
    rintro e w' ⟨rfl, h1, h2⟩
    have hfin := hmore.out (.returned (.bool true)) w' (0, _) _ _ (.inr ⟨rfl, rfl⟩) h1 h2
    replace hfin := Lib.hid hfin
    clear h1 h2 c0 c1 c2 d0 d1 d2
    go_wp2
    go_ret2
    exact ⟨rfl, hfin.out⟩
  have e5 : ((x.tmod 6 + 6).tmod 6 == 5) = false := by rw [beq_eq_false_iff_ne]; exact h5
  rw [if_neg h5] at hst
  obtain ⟨K, hK⟩ : ∃ K, (x.tmod 6 + 6).tmod 6 = K := ⟨_, rfl⟩
  rw [hK] at e0 e1 e4 e5
  clear h0 h1 h4 h5
  rw [hst]
  replace hst := Lib.hid hst
  go_enter Try.func12, Try.ntmps12
  go_upto_region 1 with fail
  rw [hz.out, hw0.out]
  go_wp2_with fail
  refine hput.out.mono ?_
  rintro e w' ⟨rfl, h1, h2⟩
  have hfin := hmore.out (.returned (.bool true)) w' (0, _) _ _ (.inr ⟨rfl, rfl⟩) h1 h2
  replace hfin := Lib.hid hfin
  clear h1 h2 c0 c1 c2 d0 d1 d2
  go_wp2
  go_ret2
  exact ⟨rfl, hfin.out⟩
end Go.Proofs.Ytcobfimafpfbpaa
