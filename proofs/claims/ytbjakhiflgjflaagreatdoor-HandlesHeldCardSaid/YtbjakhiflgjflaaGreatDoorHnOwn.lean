/-
  Rows that a call made, and what stays of memory beside a change; a row of nine counts. Conditions: each theorem's own.
-/
import Derived.Test.YtbjakhiflgjflaaGreatDoorHnAwake
import Derived.Test.YtbjakhiflgjflaaGreatDoorHnOps
namespace Go.Proofs.YtbjakhiflgjflaaGreatDoor
open Go Go.RowKit Go.ChangeMaps

theorem hown_keep {w w' : World} {base : Nat} {e : TypeId} {size n : Nat} {v : Value} {xs : List Value} (h : w.ownsRow base e size v n xs) (hk : ∀ g cur, v.ownBlock = some g → w.heap[g]? = some (.cells cur e (0, 0)) → w'.heap[g]? = w.heap[g]?) : w'.ownsRow base e size v n xs := by
  refine ⟨h.1, ?_⟩
  rcases h.2 with hn | ⟨g, cap, cur, rfl, hb, hg, rest⟩
  · exact .inl hn
  · exact .inr ⟨g, cap, cur, rfl, hb, (hk g cur rfl hg).trans hg, rest⟩
theorem hown_form {w : World} {base : Nat} {e : TypeId} {size n : Nat} {v : Value} {xs : List Value} (h : w.ownsRow base e size v n xs) : ∃ A c, v = .slice A n c ∧ n ≤ c ∧ c ≤ maxLen := by
  rcases h.2 with ⟨rfl, rfl⟩ | ⟨g, cap, cur, rfl, hb, hg, h1, h2, _⟩
  · exact ⟨none, 0, rfl, Nat.le_refl _, Nat.zero_le _⟩
  · exact ⟨_, cap, rfl, h1, h2⟩
theorem hown_at {w : World} {base : Nat} {e : TypeId} {size n c : Nat} {A : Option Addr} {xs : List Value} (h : w.ownsRow base e size (.slice A n c) n xs) (hn : 0 < n) : ∃ g, A = some ⟨g, 0, none⟩ ∧ base ≤ g ∧ g < w.heap.size ∧ ∀ (j : Nat) (u : Value), xs[j]? = some u → w.cell? ⟨g, j, none⟩ = some u := by
  rcases h.2 with ⟨h1, h2⟩ | ⟨g, cap, cur, h1, hb, hg, h2⟩
  · omega
  · cases h1
    refine ⟨g, rfl, hb, (Array.getElem?_eq_some_iff.1 hg).1, fun j u hu => ?_⟩
    have := h.cells (g := g) rfl j u hu
    rwa [add_plain0, Nat.zero_add] at this
theorem hown_block {w : World} {base : Nat} {e : TypeId} {size n : Nat} {v : Value} {xs : List Value} (h : w.ownsRow base e size v n xs) {g : Nat} (hg : v.ownBlock = some g) : base ≤ g ∧ ∃ cur, Blk w g cur e := by
  rcases h.2 with ⟨rfl, _⟩ | ⟨g', cap, cur, rfl, hb, hc, _⟩
  · cases hg
  · cases hg
    exact ⟨hb, cur.toList, by unfold Blk; simpa using hc⟩
theorem hown_lt {w : World} {base : Nat} {e : TypeId} {size n : Nat} {v : Value} {xs : List Value} (h : w.ownsRow base e size v n xs) {g : Nat} (hg : v.ownBlock = some g) : g < w.heap.size := by
  obtain ⟨_, cur, hb⟩ := hown_block h hg
  exact hb.lt
section
variable {w w' : World} {F F' G : Nat → Prop} {c : Sy} {s : St} {b i : Nat}
theorem cell_chg (c : Chg F F' w w') (hb : b < w.heap.size) (hf : ¬ F b) : w'.cell? ⟨b, i, none⟩ = w.cell? ⟨b, i, none⟩ := World.cell?_of_block (a := ⟨b, i, none⟩) (c.block b hb hf)
theorem grown_of_below (h : Below w.heap.size w w') : w.grownBy w' none := ⟨h.os, h.tape, h.output, h.size, fun k hk _ => h.block k hk⟩
theorem Sys.chgOff (h : Sys w F c s) (k : Chg G F' w w') (hG : ∀ g, G g → ¬ F g) : Sys w' F c s := h.keep k.size fun g hg => k.block g (h.lt hg) fun hh => hG g hh hg
theorem Kp.off {z : Nat} {C : List Value} {t : TypeId} (h : Kp w F z C t) (k : Chg G F' w w') (hz : ¬ G z) : Kp w' F z C t := ⟨h.1.chg k hz, h.2⟩
theorem Chg.beside {w0 : World} {F0 : Nat → Prop} (h : Chg F0 F w0 w) (k : Chg G F' w w') (hG : ∀ g, G g → w0.heap.size ≤ g) : Chg F0 F w0 w' :=
  ⟨k.os.trans h.os, k.tape.trans h.tape, k.output.trans h.output, Nat.le_trans h.size k.size, fun b hb hf => (k.block b (Nat.lt_of_lt_of_le hb h.size) fun hh => by have := hG b hh; omega).trans (h.block b hb hf), h.foot⟩
end
/-- A row of a call's own, beside what others have. -/
def Ro (w : World) (F : Nat → Prop) (base : Nat) (v : Value) (n : Nat) (xs : List Value) : Prop := w.ownsRow base 3 1 v n xs ∧ ∀ g, v.ownBlock = some g → ¬ F g
theorem Ro.chg {w w' : World} {F F' : Nat → Prop} {base n : Nat} {v : Value} {xs : List Value} (h : Ro w F base v n xs) (c : Chg F F' w w') : Ro w' F' base v n xs :=
  ⟨hown_keep h.1 fun g _ hg _ => c.block g (hown_lt h.1 hg) (h.2 g hg), fun g hg => c.foot g (hown_lt h.1 hg) (h.2 g hg)⟩
theorem Ro.grown {w w' : World} {F : Nat → Prop} {base n : Nat} {v : Value} {xs : List Value} (h : Ro w F base v n xs) (c : w.grownBy w' none) : Ro w' F base v n xs := h.chg (Chg.of_grown c F)
theorem Sys.nodup {w : World} {F : Nat → Prop} {c : Sy} {s : St} (h : Sys w F c s) : (ids s.hs).Nodup := by
  obtain ⟨Ft, Fp, Fh, h, hF⟩ := h
  obtain ⟨lab, mb, mem, v, ht, hFh⟩ := h.tab
  exact ht.nodup
theorem not_mem_take {l : List Int} (hn : l.Nodup) {k : Nat} (hk : k < l.length) : l[k] ∉ l.take k := fun hm => by
  have h1 : (l.take (k + 1)).Nodup := hn.sublist (List.take_sublist _ _)
  rw [List.take_succ_eq_append_getElem hk, List.nodup_append] at h1
  exact h1.2.2 _ hm _ (List.mem_singleton.2 rfl) rfl
theorem look_unrefd_other {hs : Hs} {k i : Int} {x : Hd} (hi : i ≠ k) : look (unrefd hs k x) i = look hs i := by
  unfold unrefd
  split
  · show look (away hs k) i = _
    rw [look_away, if_neg hi]
  · rw [look_upd, if_neg hi]
theorem look_unrefd_more {hs : Hs} {k : Int} {x : Hd} (hk : look hs k = some x) (hr : x.refs ≠ 1) : look (unrefd hs k x) k = some { x with refs := x.refs - 1 } := by
  unfold unrefd
  rw [if_neg hr, look_upd, if_pos rfl, hk]
  rfl
theorem look_unrefd_last {hs : Hs} {k : Int} {x : Hd} (hr : x.refs = 1) : look (unrefd hs k x) k = none := by
  unfold unrefd
  rw [if_pos hr]
  show look (away hs k) k = _
  rw [look_away, if_pos rfl]
theorem hs_nil {hs : Hs} (h : ∀ i, look hs i = none) : hs = [] := by
  cases hs with
  | nil => rfl
  | cons p l => exact absurd (h p.1) (by show (if p.1 = p.1 then some p.2 else _) ≠ none; rw [if_pos rfl]; exact nofun)
def ext8 : Ext := ⟨fun _ => 0, 8⟩
def cnt9 (hs : Hs) (l : List Int) : List Value := [.int .i64 ((sumI (nF 0) hs l : Nat) : Int), .int .i64 ((sumI (nF 1) hs l : Nat) : Int), .int .i64 ((sumI (nF 2) hs l : Nat) : Int), .int .i64 ((sumI (nF 3) hs l : Nat) : Int), .int .i64 ((sumI (nF 4) hs l : Nat) : Int), .int .i64 ((sumI (nF 5) hs l : Nat) : Int), .int .i64 ((sumI (nF 6) hs l : Nat) : Int), .int .i64 ((sumI (nF 7) hs l : Nat) : Int), .int .i64 ((sumI (nF 8) hs l : Nat) : Int)]
theorem cnt9_at (hs : Hs) (l : List Int) (j : Nat) (hj : j ≤ 8) : (cnt9 hs l)[j]? = some (.int .i64 ((sumI (nF (j : Int)) hs l : Nat) : Int)) := by
  match j, hj with
  | 0, _ => rfl
  | 1, _ => rfl
  | 2, _ => rfl
  | 3, _ => rfl
  | 4, _ => rfl
  | 5, _ => rfl
  | 6, _ => rfl
  | 7, _ => rfl
  | 8, _ => rfl
theorem cnt9_other {hs : Hs} {l : List Int} {k : Nat} (hk : k < l.length) (h : ∀ m, val (nF m) hs l[k] = 0) : cnt9 hs (l.take (k + 1)) = cnt9 hs (l.take k) := by
  unfold cnt9
  simp only [sumI_succ hk, h, Nat.add_zero]
theorem cnt9_file {hs : Hs} {l : List Int} {k : Nat} (hk : k < l.length) {j : Nat} (hj : j ≤ 8) (h : ∀ m, val (nF m) hs l[k] = if (j : Int) = m then 1 else 0) : cnt9 hs (l.take (k + 1)) = (cnt9 hs (l.take k)).set j (.int .i64 (((sumI (nF (j : Int)) hs (l.take k) : Nat) : Int) + 1)) := by
  unfold cnt9
  simp only [sumI_succ hk, h]
  match j, hj with
  | 0, _ => simp
  | 1, _ => simp
  | 2, _ => simp
  | 3, _ => simp
  | 4, _ => simp
  | 5, _ => simp
  | 6, _ => simp
  | 7, _ => simp
  | 8, _ => simp
theorem sumI_len {f : Hd → Nat} {hs : Hs} (hf : ∀ x, f x ≤ 1) (l : List Int) : sumI f hs l ≤ l.length := by
  induction l with
  | nil => exact Nat.le_refl _
  | cons a l ih =>
    have : val f hs a ≤ 1 := by
      unfold val
      split
      · exact hf _
      · omega
    show val f hs a + sumI f hs l ≤ l.length + 1
    omega
theorem openOf_le (e : Ent) : openOf e ≤ 1 := by
  obtain ⟨_, o⟩ := e
  cases o
  · exact Nat.zero_le _
  · exact Nat.le_refl _
theorem isRd_le (x : Hd) : isRd x ≤ 1 := by unfold isRd; split <;> omega
theorem isWr_le (x : Hd) : isWr x ≤ 1 := by unfold isWr; split <;> omega
theorem val_of {f : Hd → Nat} {hs : Hs} {i : Int} {x : Hd} (h : look hs i = some x) : val f hs i = f x := by unfold val; rw [h]
theorem Good.ways {s : St} {k : Int} {x : Hd} (g : Good ext8 s) (hk : look s.hs k = some x) :
    (∃ j : Nat, 1 ≤ j ∧ j ≤ 8 ∧ kindOf x = 1 ∧ nodeOf x = (j : Int) ∧ isRd x = 0 ∧ isWr x = 0 ∧ ∀ m, nF m x = if (j : Int) = m then 1 else 0) ∨ (kindOf x = 4 ∧ isRd x = 1 ∧ isWr x = 0 ∧ ∀ m, nF m x = 0) ∨ (kindOf x = 5 ∧ isRd x = 0 ∧ isWr x = 1 ∧ ∀ m, nF m x = 0) ∨ ((kindOf x = 2 ∨ kindOf x = 3) ∧ isRd x = 0 ∧ isWr x = 0 ∧ ∀ m, nF m x = 0) := by
  obtain ⟨refs, kd⟩ := x
  cases kd with
  | file n a r w m =>
    obtain ⟨⟨y, hy, _⟩, _⟩ := g.file k _ hk n a r w m rfl
    have hn : 1 ≤ n ∧ n ≤ 8 := g.num n y hy
    obtain ⟨j, rfl⟩ : ∃ j : Nat, n = (j : Int) := ⟨n.toNat, by omega⟩
    exact .inl ⟨j, by omega, by omega, rfl, rfl, rfl, rfl, fun _ => rfl⟩
  | text _ _ => exact .inr (.inr (.inr ⟨.inl rfl, rfl, rfl, fun _ => rfl⟩))
  | sink _ _ => exact .inr (.inr (.inr ⟨.inr rfl, rfl, rfl, fun _ => rfl⟩))
  | rd _ => exact .inr (.inl ⟨rfl, rfl, rfl, fun _ => rfl⟩)
  | wr _ => exact .inr (.inr (.inl ⟨rfl, rfl, rfl, fun _ => rfl⟩))
theorem infoInt9 : (Tryz.prog.info? 3).map (fun i => (i.zero, i.size, i.bytes)) = some (some (.int .i64 0), 1, 8) := by kernel_rfl
theorem run_make9 (w : World) : (Instr.makeSlice 43 (.int .i64 9) (.int .i64 9)).run Tryz.prog w = .ok (.slice (some ⟨w.heap.size, 0, none⟩) 9 9) (w.alloc (.cells (Array.replicate 9 (Value.int .i64 0)) 3)) := by
  obtain ⟨i0, hi, hz0, hz1, hz2⟩ := info_parts infoInt9
  have hr := run_make (P := Tryz.prog) w 43 3 i0 _ Tryz.underlying43 hi hz0 .i64 .i64 9 9 (by omega) (by omega) (by rw [hz2]; omega) (by omega)
  rw [hz1] at hr
  have e : madeCells (Value.int .i64 0).cells 9 = Array.replicate 9 (Value.int .i64 0) := by
    apply Array.toList_inj.1
    rw [show (Value.int .i64 0).cells = #[.int .i64 0] from rfl, toList_madeCells_one]
    simp
  have hr' : (Instr.makeSlice 43 (.int .i64 9) (.int .i64 9)).run Tryz.prog w = .ok (.slice (some ⟨w.heap.size, 0, none⟩) 9 9) (w.alloc (.cells (madeCells (Value.int .i64 0).cells 9) 3)) := hr
  rw [e] at hr'
  exact hr'
theorem good_begun : Good ext8 begunS where
  file := nofun
  refs := nofun
  holds := fun n y hy => by
    have := look_mem hy
    simp only [begunS, nds4, List.mem_cons, Prod.mk.injEq, List.not_mem_nil, or_false] at this
    rcases this with ⟨_, rfl⟩ | ⟨_, rfl⟩ | ⟨_, rfl⟩ | ⟨_, rfl⟩ | ⟨_, rfl⟩ <;> rfl
  ends := fun p pb bb e h => by cases p <;> cases h
  len := rfl
  pipe := nofun
  nms := fun n y hy => by
    have := look_mem hy
    simp only [begunS, nds4, List.mem_cons, Prod.mk.injEq, List.not_mem_nil, or_false] at this
    rcases this with ⟨_, rfl⟩ | ⟨_, rfl⟩ | ⟨_, rfl⟩ | ⟨_, rfl⟩ | ⟨_, rfl⟩ <;> exact ⟨by decide, by decide⟩
  num := fun n y hy => by
    have := look_mem hy
    simp only [begunS, nds4, List.mem_cons, Prod.mk.injEq, List.not_mem_nil, or_false] at this
    show 1 ≤ n ∧ n ≤ 8
    rcases this with ⟨h, _⟩ | ⟨h, _⟩ | ⟨h, _⟩ | ⟨h, _⟩ | ⟨h, _⟩ <;> omega
theorem bnd_begun : Bnd begunS 0 := ⟨by decide, by decide, by decide, nofun⟩
end Go.Proofs.YtbjakhiflgjflaaGreatDoor
