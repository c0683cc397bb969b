/-
  The reference's pool and its buffers in memory; its calls of a line. Conditions: numbers of 64 bits.
-/
import Derived.Test.YticoigpkgpdabaaSpLawRow
import Derived.Deep.AppendLies
namespace Go.Proofs.Yticoigpkgpdabaa
open Go Go.RowKit

/-- A buffer of the reference: its block, its bytes, how many are gone, whether it is closed. -/
abbrev REnt := Nat × ByteArray × Nat × Bool
def rentC (r : REnt) : List Value := [.string r.2.1, .int .i64 (r.2.2.1 : Int), .bool r.2.2.2]
def rptr (r : REnt) : Value := .pointer (some ⟨r.1, 0, none⟩)
def refC (q M C : Nat) (L : Value) : List Value := [.int .i64 (q : Int), .int .i64 (M : Int), .int .i64 (C : Int), L]
structure RefAt (w : World) (B rb q M C : Nat) (rs : List REnt) (L : Value) : Prop where
  blk : Blk w rb (refC q M C L) 43
  low : B ≤ rb
  row : w.ownsRow B 38 1 L rs.length (rs.map rptr)
  ent : ∀ (i : Nat) (r : REnt), rs[i]? = some r → Blk w r.1 (rentC r) 62 ∧ B ≤ r.1 ∧ r.2.2.1 ≤ r.2.1.size
  nd : (rs.map (·.1)).Nodup

theorem own_keep {w w' : World} {base : Nat} {e : TypeId} {size n : Nat} {v : Value} {xs : List Value} (h : w.ownsRow base e size v n xs) (hk : ∀ g cur, base ≤ g → w.heap[g]? = some (.cells cur e (0, 0)) → v.ownBlock = some g → w'.heap[g]? = w.heap[g]?) : w'.ownsRow base e size v n xs := by
  obtain ⟨h1, h2⟩ := h
  refine ⟨h1, ?_⟩
  rcases h2 with h2 | ⟨g, cap, cur, rfl, hg, hh, r⟩
  · exact .inl h2
  · exact .inr ⟨g, cap, cur, rfl, hg, (hk g cur hg hh rfl).trans hh, r⟩

section
variable {w w' : World} {B rb q M C : Nat} {rs : List REnt} {L : Value}
theorem RefAt.keep (h : RefAt w B rb q M C rs L) (hk : ∀ g cur t, B ≤ g → Blk w g cur t → (t = 43 ∨ t = 38 ∨ t = 62) → w'.heap[g]? = w.heap[g]?) : RefAt w' B rb q M C rs L where
  blk := (hk rb _ _ h.low h.blk (.inl rfl)).trans h.blk
  low := h.low
  row := own_keep h.row fun g cur hB hg _ => hk g cur.toList _ hB (by unfold Blk; simpa using hg) (.inr (.inl rfl))
  ent := fun i r hr => by
    obtain ⟨h1, h2, h3⟩ := h.ent i r hr
    exact ⟨(hk _ _ _ h2 h1 (.inr (.inr rfl))).trans h1, h2, h3⟩
  nd := h.nd
theorem not_four : ¬ Four 43 ∧ ¬ Four 38 ∧ ¬ Four 62 ∧ ¬ Four 36 ∧ ¬ Four 35 := by
  unfold Four
  decide
/-- The package's calls leave the reference alone. -/
theorem RefAt.mv {S : Nat → Prop} (h : RefAt w B rb q M C rs L) (m : Mv B S w w') : RefAt w' B rb q M C rs L := h.keep fun g cur t _ hb ht => by
  have hf : ¬ Four t := by rcases ht with rfl | rfl | rfl <;> simp [not_four]
  rw [m.far hb hf]
  exact hb.symm
theorem RefAt.drewN (h : RefAt w B rb q M C rs L) (n : Nat) : RefAt (w.drewN n) B rb q M C rs L := h.keep fun _ _ _ _ _ _ => rfl
theorem RefAt.form (h : RefAt w B rb q M C rs L) : ∃ A c, L = .slice A rs.length c ∧ rs.length ≤ c ∧ c ≤ maxLen := by
  rcases h.row.2 with ⟨h1, h2⟩ | ⟨g, cap, cur, h1, _, _, h3, h4, _⟩
  · exact ⟨none, 0, by rw [h1, h2], by omega, Nat.zero_le _⟩
  · exact ⟨_, cap, h1, h3, h4⟩
theorem RefAt.at_ {A : Option Addr} {n c : Nat} (h : RefAt w B rb q M C rs (.slice A n c)) (i : Nat) (hi : i < rs.length) : ∃ g : Nat, A = some ⟨g, 0, none⟩ ∧ g < w.heap.size ∧ w.cell? ⟨g, i, none⟩ = some (rptr rs[i]) ∧ g ≠ rb ∧ (∀ (j : Nat) (r : REnt), rs[j]? = some r → g ≠ r.1) := by
  rcases h.row.2 with ⟨h1, h2⟩ | ⟨g, cap, cur, h1, h2, h3, _⟩
  · omega
  · cases h1
    have hc := h.row.cells (g := g) rfl i (rptr rs[i]) (by rw [List.getElem?_map, List.getElem?_eq_getElem hi]; rfl)
    rw [add_plain0, Nat.zero_add] at hc
    refine ⟨g, rfl, (Array.getElem?_eq_some_iff.1 h3).1, hc, fun e => ?_, fun j r hr e => ?_⟩
    · have := h.blk
      unfold Blk at this
      rw [← e, h3] at this
      simp at this
    · have := (h.ent j r hr).1
      unfold Blk at this
      rw [← e, h3] at this
      simp at this
theorem RefAt.rb_ne (h : RefAt w B rb q M C rs L) {i : Nat} {r : REnt} (hr : rs[i]? = some r) : rb ≠ r.1 := fun e => by
  have h1 := (h.ent i r hr).1
  have h2 := h.blk
  unfold Blk at h1 h2
  rw [← e, h2] at h1
  simp at h1
theorem set_same {α : Type} {l : List α} {i : Nat} {x : α} (h : l[i]? = some x) : l.set i x = l := by
  induction l generalizing i with
  | nil => simp at h
  | cons a l ih =>
    cases i with
    | zero => simp at h; rw [List.set_cons_zero, h]
    | succ i => rw [List.set_cons_succ, ih (by simpa using h)]
theorem nd_ne {l : List REnt} (h : (l.map (·.1)).Nodup) {i j : Nat} {x y : REnt} (hi : l[i]? = some x) (hj : l[j]? = some y) (hne : i ≠ j) : x.1 ≠ y.1 := fun e => by
  have h1 : (l.map (·.1))[i]? = some x.1 := by rw [List.getElem?_map, hi]; rfl
  have h2 : (l.map (·.1))[j]? = some y.1 := by rw [List.getElem?_map, hj]; rfl
  exact hne ((List.getElem?_inj (List.getElem?_eq_some_iff.1 h1).1 h).1 (by rw [h1, h2, e]))
/-- One buffer's block is written. -/
theorem RefAt.set (h : RefAt w B rb q M C rs L) {i : Nat} {r r' : REnt} (hr : rs[i]? = some r) (e1 : r'.1 = r.1) (hb : Blk w' r.1 (rentC r') 62) (hg : r'.2.2.1 ≤ r'.2.1.size) (hk : ∀ g, g < w.heap.size → g ≠ r.1 → w'.heap[g]? = w.heap[g]?) : RefAt w' B rb q M C (rs.set i r') L := by
  have hil : i < rs.length := (List.getElem?_eq_some_iff.1 hr).1
  have hmap : (rs.set i r').map (·.1) = rs.map (·.1) := by
    rw [List.map_set, e1]
    exact set_same (by rw [List.getElem?_map, hr]; rfl)
  have hptr : (rs.set i r').map rptr = rs.map rptr := by
    rw [List.map_set]
    refine set_same ?_
    rw [List.getElem?_map, hr]
    unfold rptr
    rw [e1]; rfl
  have hrl : ∀ g cur, B ≤ g → w.heap[g]? = some (.cells cur 38 (0, 0)) → L.ownBlock = some g → w'.heap[g]? = w.heap[g]? := fun g cur _ hg _ => hk g (Array.getElem?_eq_some_iff.1 hg).1 fun e => by
    have := (h.ent i r hr).1
    unfold Blk at this
    rw [← e, hg] at this
    simp at this
  exact {
    blk := (hk rb h.blk.lt (h.rb_ne hr)).trans h.blk
    low := h.low
    row := by rw [List.length_set, hptr]; exact own_keep h.row hrl
    ent := fun j x hx => by
      rw [List.getElem?_set] at hx
      split at hx
      · rename_i hij
        obtain rfl : r' = x := Option.some.inj hx
        rw [e1]
        exact ⟨hb, (h.ent i r hr).2.1, hg⟩
      · rename_i hij
        obtain ⟨h1, h2, h3⟩ := h.ent j x hx
        exact ⟨(hk x.1 h1.lt (nd_ne h.nd hx hr (fun e => hij e.symm))).trans h1, h2, h3⟩
    nd := by rw [hmap]; exact h.nd }
end

section
variable {w : World} {B rb q M C : Nat} {rs : List REnt} {L : Value}
def rheldOf : REnt → Nat | (_, s, g, c) => if c then 0 else s.size - g
def ropenOf : REnt → Nat | (_, _, _, c) => if c then 0 else 1
def rusedOf (M C : Nat) : REnt → Nat | (_, s, g, c) => if c then 0 else nch s.size g M C

set_option maxRecDepth 100000 in
theorem rnew_ok (q M C : Nat) (hq : q ≤ 1048576) (hm : M ≤ 65536) (hc0 : 1 ≤ C) (hc : C ≤ 65536) (hB : B ≤ w.heap.size) :
    Calls Try.prog 10 #[.int .i64 (q : Int), .int .i64 (M : Int), .int .i64 (C : Int)] w fun e w' => e = .returned (.tuple #[.pointer (some ⟨w.heap.size, 0, none⟩), .int .i64 0]) ∧ RefAt w' B w.heap.size q M C [] (.slice none 0 0) ∧ w.grownBy w' none := by
  have h1 : ¬ (q : Int) < 0 := by omega
  have h2 : ¬ (1048576 : Int) < (q : Int) := by omega
  have h3 : ¬ (M : Int) < 0 := by omega
  have h4 : ¬ (65536 : Int) < (M : Int) := by omega
  have h5 : ¬ (C : Int) < 1 := by omega
  have h6 : ¬ (65536 : Int) < (C : Int) := by omega
  have hr : RefAt (w.alloc (.cells (refC q M C (.slice none 0 0)).toArray 43)) B w.heap.size q M C [] (.slice none 0 0) := {
    blk := Blk.new w _ _
    low := hB
    row := World.ownsRow_nil _ _ _ _
    ent := fun i r h => by simp at h
    nd := by simp }
  have hg := World.grownBy_alloc w (.cells (refC q M C (.slice none 0 0)).toArray 43) none
  replace hr := Lib.hid hr
  replace hg := Lib.hid hg
  go_enter Try.func10, Try.ntmps10
  go_wp2
  go_ret2
  exact ⟨rfl, hr.out, hg.out⟩
set_option maxRecDepth 100000 in
theorem rnew_no (q m c : Int) (h : mayPool q m c = false) :
    Calls Try.prog 10 #[.int .i64 q, .int .i64 m, .int .i64 c] w fun e w' => e = .returned (.tuple #[.pointer none, .int .i64 1]) ∧ w' = w := by
  have h : q < 0 ∨ 1048576 < q ∨ m < 0 ∨ 65536 < m ∨ c < 1 ∨ 65536 < c := by
    simp only [mayPool, Bool.and_eq_false_iff, decide_eq_false_iff_not] at h
    omega
  replace h := Lib.hid h
  go_enter Try.func10, Try.ntmps10
  go_wp2
  all_goals first | (exfalso; have := h.out; omega) | (go_ret2; exact ⟨rfl, rfl⟩)

set_option maxRecDepth 100000 in
theorem rlen_ok (b : Nat) (s : ByteArray) (g : Nat) (c : Bool) (hb : Blk w b (rentC (b, s, g, c)) 62) (hg : g ≤ s.size) (hs : s.size ≤ 1000000) :
    Calls Try.prog 21 #[.pointer (some ⟨b, 0, none⟩)] w fun e w' => e = .returned (.int .i64 (rheldOf (b, s, g, c) : Int)) ∧ ∃ n, w' = w.drewN n := by
  have c0 := hb.cell (show (rentC (b, s, g, c))[0]? = some _ from rfl)
  have c1 := hb.cell (show (rentC (b, s, g, c))[1]? = some _ from rfl)
  have c2 := hb.cell (show (rentC (b, s, g, c))[2]? = some _ from rfl)
  have hlt := hb.lt
  clear hb
  cases c with
  | true =>
    show Calls _ _ _ _ fun e w' => e = .returned (.int .i64 ((0 : Nat) : Int)) ∧ _
    go_enter Try.func21, Try.ntmps21
    go_wp2
    go_ret
    exact ⟨rfl, 0, rfl⟩
  | false =>
    show Calls _ _ _ _ fun e w' => e = .returned (.int .i64 ((s.size - g : Nat) : Int)) ∧ _
    have hD : (s.size : Int) - (g : Int) = ((s.size - g : Nat) : Int) := by omega
    generalize s.size - g = D at hD ⊢
    have hwD : IntKind.i64.wrap (D : Int) = (D : Int) := by rw [IntKind.wrap_i64]; omega
    go_enter Try.func21, Try.ntmps21
    go_upto_region 3 with fail
    go_quiet (fail)
    go_wp2
    go_ret
    exact ⟨rfl, _, rfl⟩
end
end Go.Proofs.Yticoigpkgpdabaa
