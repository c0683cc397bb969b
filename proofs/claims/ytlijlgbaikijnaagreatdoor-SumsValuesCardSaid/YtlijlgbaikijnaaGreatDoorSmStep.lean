/-
  The reader goes over a thing, over a mark that must be next, and over one that what follows stands within, by the package. Conditions: at most a million bytes.
-/
import Derived.Test.YtlijlgbaikijnaaGreatDoorSmLook
import Derived.Test.YtlijlgbaikijnaaGreatDoorMkLast2
namespace Go.Proofs.YtlijlgbaikijnaaGreatDoor
open Go Go.RowKit

theorem grownBy_trans' {a b c : World} {r : Option Nat} (h : a.grownBy b r) (k : b.grownBy c r) : a.grownBy c r :=
  ⟨k.os.trans h.os, k.tape.trans h.tape, k.output.trans h.output, Nat.le_trans h.size k.size, fun i hi hr => (k.block i (Nat.lt_of_lt_of_le hi h.size) hr).trans (h.block i hi hr)⟩
theorem grownBy_refl' (a : World) (r : Option Nat) : a.grownBy a r := ⟨rfl, rfl, rfl, Nat.le_refl _, fun _ _ _ => rfl⟩
theorem grownBy_setC (w : World) (b o : Nat) (v : Value) : w.grownBy (w.setCell ⟨b, o, none⟩ v) (some b) :=
  ⟨rfl, rfl, rfl, by simp [World.setCell], fun k _ hk => Below.heap_setCell _ _ _ k (fun e => hk (by rw [e]))⟩
theorem laid_grown (w : World) (b : Nat) (t : Th) : w.grownBy (laidTh w b t) (some b) :=
  grownBy_trans' (grownBy_trans' (grownBy_trans' (grownBy_setC w b 1 _) (grownBy_setC _ b 2 _)) (grownBy_setC _ b 3 _)) (grownBy_setC _ b 4 _)
theorem setC_other (w : World) (b o o' : Nat) (v : Value) (h : o' ≠ o) : (w.setCell ⟨b, o, none⟩ v).cell? ⟨b, o', none⟩ = w.cell? ⟨b, o', none⟩ :=
  World.cell?_setCell_other _ _ _ _ (fun e => h (by injection e with _ e2 _; exact e2.symm))
theorem setC_same (w : World) (b o : Nat) (v u : Value) (h : w.cell? ⟨b, o, none⟩ = some u) : (w.setCell ⟨b, o, none⟩ v).cell? ⟨b, o, none⟩ = some v := World.cell?_setCell_same _ _ _ h
theorem RdAt.laid {w : World} {b : Nat} {s : ByteArray} {t : Th} {d : Nat} (h : RdAt w b s t d) (t' : Th) : RdAt (laidTh w b t') b s t' d := by
  unfold laidTh
  refine ⟨?_, ?_, ?_, ?_, ?_, ?_, fun j => by simp only [World.frozen?_setCell]; exact h.fz j⟩
  · rw [setC_other _ _ _ _ _ (by omega), setC_other _ _ _ _ _ (by omega), setC_other _ _ _ _ _ (by omega), setC_other _ _ _ _ _ (by omega)]; exact h.c0
  · rw [setC_other _ _ _ _ _ (by omega), setC_other _ _ _ _ _ (by omega), setC_other _ _ _ _ _ (by omega)]; exact setC_same _ _ _ _ _ h.c1
  · rw [setC_other _ _ _ _ _ (by omega), setC_other _ _ _ _ _ (by omega)]; exact setC_same _ _ _ _ _ (by rw [setC_other _ _ _ _ _ (by omega)]; exact h.c2)
  · rw [setC_other _ _ _ _ _ (by omega)]; exact setC_same _ _ _ _ _ (by rw [setC_other _ _ _ _ _ (by omega), setC_other _ _ _ _ _ (by omega)]; exact h.c3)
  · exact setC_same _ _ _ _ _ (by rw [setC_other _ _ _ _ _ (by omega), setC_other _ _ _ _ _ (by omega), setC_other _ _ _ _ _ (by omega)]; exact h.c4)
  · rw [setC_other _ _ _ _ _ (by omega), setC_other _ _ _ _ _ (by omega), setC_other _ _ _ _ _ (by omega), setC_other _ _ _ _ _ (by omega)]; exact h.c5
theorem RdAt.within {w : World} {b : Nat} {s : ByteArray} {t : Th} {d : Nat} (h : RdAt w b s t d) (d' : Nat) : RdAt (w.setCell ⟨b, 5, none⟩ (.int .i64 (d' : Int))) b s t d' := by
  refine ⟨?_, ?_, ?_, ?_, ?_, ?_, fun j => by rw [World.frozen?_setCell]; exact h.fz j⟩
  · rw [setC_other _ _ _ _ _ (by omega)]; exact h.c0
  · rw [setC_other _ _ _ _ _ (by omega)]; exact h.c1
  · rw [setC_other _ _ _ _ _ (by omega)]; exact h.c2
  · rw [setC_other _ _ _ _ _ (by omega)]; exact h.c3
  · rw [setC_other _ _ _ _ _ (by omega)]; exact h.c4
  · exact setC_same _ _ _ _ _ h.c5
theorem RdAt.grown {w w' : World} {b : Nat} {s : ByteArray} {t : Th} {d : Nat} (h : RdAt w b s t d) (hb : w'.heap[b]? = w.heap[b]?) : RdAt w' b s t d := by
  refine ⟨?_, ?_, ?_, ?_, ?_, ?_, fun j => (World.frozen?_of_block (a := ⟨b, j, none⟩) hb).trans (h.fz j)⟩
  · exact (World.cell?_of_block (a := ⟨b, 0, none⟩) hb).trans h.c0
  · exact (World.cell?_of_block (a := ⟨b, 1, none⟩) hb).trans h.c1
  · exact (World.cell?_of_block (a := ⟨b, 2, none⟩) hb).trans h.c2
  · exact (World.cell?_of_block (a := ⟨b, 3, none⟩) hb).trans h.c3
  · exact (World.cell?_of_block (a := ⟨b, 4, none⟩) hb).trans h.c4
  · exact (World.cell?_of_block (a := ⟨b, 5, none⟩) hb).trans h.c5

/-- What a reader that goes on comes to: the thing from a place on, or a fault; the depth is d. -/
def Goes (s : ByteArray) (b d a : Nat) (w : World) (e : Ending) (w' : World) : Prop :=
  match lookP (tl s) a with
  | some t' => (∃ v, e = .returned v) ∧ RdAt w' b s t' d ∧ w.grownBy w' (some b)
  | none => e = thrown 23 (a + blanks ((tl s).drop a)) ∧ w.grownBy w' (some b)

set_option maxHeartbeats 1000000 in
set_option maxRecDepth 100000 in
theorem step_any (s : ByteArray) (b : Nat) (t : Th) (d : Nat) (w : World) (hr : RdAt w b s t d) (ha : t.place + t.text.length ≤ s.size) (hs : s.size ≤ 1000000) :
    Calls Tryz.prog 119 #[.pointer (some ⟨b, 0, none⟩)] w fun e w' => Goes s b d (t.place + t.text.length) w e w' := by
  obtain ⟨x, hx⟩ : ∃ x : ByteArray, (⟨t.text.toArray⟩ : ByteArray) = x := ⟨_, rfl⟩
  have hc2 := hr.c2
  rw [hx] at hc2
  have hxl : (x.size : Int) = (t.text.length : Int) := by rw [← hx]; rfl
  have hc4 := hr.c4
  have k1 : IntKind.i64.wrap ((t.place : Int) + (t.text.length : Int)) = ((t.place + t.text.length : Nat) : Int) := by rw [Int.natCast_add]; exact IntWalk.i64_in _ (by omega)
  have hdr : RdAt w.drew b s t d := ⟨hr.c0, hr.c1, hr.c2, hr.c3, hr.c4, hr.c5, hr.fz⟩
  have hld := hdr.laid
  have hl := look_any s b (t.place + t.text.length) t d w.drew hdr ha hs
  obtain ⟨a, haa⟩ : ∃ a, t.place + t.text.length = a := ⟨_, rfl⟩
  rw [haa] at hl ha k1 ⊢
  clear hx hr haa hdr
  generalize t.place = P at hc4 k1
  generalize t.text.length = L at hxl k1
  go_enter Tryz.func119, Tryz.ntmps119
  go_wp2_with fail
  refine wp_region_last (L := 13) (S := (fun w' : World => w'.cell? ⟨b, 4, none⟩ = some (.int .i64 (P : Int)) ∧ w'.cell? ⟨b, 2, none⟩ = some (.string x))) (by kernel_rfl) ?_
  have hS0 : (fun w' : World => w'.cell? ⟨b, 4, none⟩ = some (.int .i64 (P : Int)) ∧ w'.cell? ⟨b, 2, none⟩ = some (.string x)) w.drew := ⟨hc4, hc2⟩
  refine wpAnyT_takeT (n := 40) (i := 0) (v := .pointer (some ⟨b, 0, none⟩)) rfl (by kernel_rfl) (by kernel_rfl) (by kernel_rfl) (by kernel_rfl) (by kernel_rfl) (fun _ _ _ h => h) (Or.inl ⟨by rfl, ?_⟩) hS0 ?_
  · intro W hW
    obtain ⟨k0, k1⟩ := hW
    clear hS0 hl hld
    go_simp
    try (intro hx; exfalso; omega)
  try simp only [Act.put, List.setIfInBounds_toArray]
  refine wpAnyT_takeT (n := 40) (i := 1) (v := .pointer (some ⟨b, 0, none⟩)) rfl (by kernel_rfl) (by kernel_rfl) (by kernel_rfl) (by kernel_rfl) (by kernel_rfl) (fun _ _ _ h => h) (Or.inl ⟨by rfl, ?_⟩) hS0 ?_
  · intro W hW
    obtain ⟨k0, k1⟩ := hW
    clear hS0 hl hld
    go_simp
    try (intro hx; exfalso; omega)
  try simp only [Act.put]
  refine wpAnyT_takeT (n := 40) (i := 2) (v := .pointer (some ⟨b, 0, none⟩)) rfl (by kernel_rfl) (by kernel_rfl) (by kernel_rfl) (by kernel_rfl) (by kernel_rfl) (fun _ _ _ h => h) (Or.inl ⟨by rfl, ?_⟩) hS0 ?_
  · intro W hW
    obtain ⟨k0, k1⟩ := hW
    clear hS0 hl hld
    go_simp
    try (intro hx; exfalso; omega)
  try simp only [Act.put]
  refine wpAnyT_takeT (n := 40) (i := 3) (v := .pointer (some ⟨b, 1, none⟩)) rfl (by kernel_rfl) (by kernel_rfl) (by kernel_rfl) (by kernel_rfl) (by kernel_rfl) (fun _ _ _ h => h) (Or.inl ⟨by rfl, ?_⟩) hS0 ?_
  · intro W hW
    obtain ⟨k0, k1⟩ := hW
    clear hS0 hl hld
    go_simp
    try (intro hx; exfalso; omega)
  try simp only [Act.put]
  refine wpAnyT_takeT (n := 40) (i := 4) (v := .pointer (some ⟨b, 4, none⟩)) rfl (by kernel_rfl) (by kernel_rfl) (by kernel_rfl) (by kernel_rfl) (by kernel_rfl) (fun _ _ _ h => h) (Or.inl ⟨by rfl, ?_⟩) hS0 ?_
  · intro W hW
    obtain ⟨k0, k1⟩ := hW
    clear hS0 hl hld
    go_simp
    try (intro hx; exfalso; omega)
  try simp only [Act.put]
  refine wpAnyT_takeT (n := 40) (i := 5) (v := .int .i64 (P : Int)) rfl (by kernel_rfl) (by kernel_rfl) (by kernel_rfl) (by kernel_rfl) (by kernel_rfl) (fun _ _ _ h => h) (Or.inl ⟨by rfl, ?_⟩) hS0 ?_
  · intro W hW
    obtain ⟨k0, k1⟩ := hW
    clear hS0 hl hld
    go_simp
    try (intro hx; exfalso; omega)
  try simp only [Act.put]
  refine wpAnyT_takeT (n := 40) (i := 6) (v := .pointer (some ⟨b, 0, none⟩)) rfl (by kernel_rfl) (by kernel_rfl) (by kernel_rfl) (by kernel_rfl) (by kernel_rfl) (fun _ _ _ h => h) (Or.inl ⟨by rfl, ?_⟩) hS0 ?_
  · intro W hW
    obtain ⟨k0, k1⟩ := hW
    clear hS0 hl hld
    go_simp
    try (intro hx; exfalso; omega)
  try simp only [Act.put]
  refine wpAnyT_takeT (n := 40) (i := 7) (v := .pointer (some ⟨b, 0, none⟩)) rfl (by kernel_rfl) (by kernel_rfl) (by kernel_rfl) (by kernel_rfl) (by kernel_rfl) (fun _ _ _ h => h) (Or.inl ⟨by rfl, ?_⟩) hS0 ?_
  · intro W hW
    obtain ⟨k0, k1⟩ := hW
    clear hS0 hl hld
    go_simp
    try (intro hx; exfalso; omega)
  try simp only [Act.put]
  refine wpAnyT_takeT (n := 40) (i := 8) (v := .pointer (some ⟨b, 1, none⟩)) rfl (by kernel_rfl) (by kernel_rfl) (by kernel_rfl) (by kernel_rfl) (by kernel_rfl) (fun _ _ _ h => h) (Or.inl ⟨by rfl, ?_⟩) hS0 ?_
  · intro W hW
    obtain ⟨k0, k1⟩ := hW
    clear hS0 hl hld
    go_simp
    try (intro hx; exfalso; omega)
  try simp only [Act.put]
  refine wpAnyT_takeT (n := 40) (i := 9) (v := .pointer (some ⟨b, 2, none⟩)) rfl (by kernel_rfl) (by kernel_rfl) (by kernel_rfl) (by kernel_rfl) (by kernel_rfl) (fun _ _ _ h => h) (Or.inl ⟨by rfl, ?_⟩) hS0 ?_
  · intro W hW
    obtain ⟨k0, k1⟩ := hW
    clear hS0 hl hld
    go_simp
    try (intro hx; exfalso; omega)
  try simp only [Act.put]
  refine wpAnyT_takeT (n := 40) (i := 10) (v := .string x) rfl (by kernel_rfl) (by kernel_rfl) (by kernel_rfl) (by kernel_rfl) (by kernel_rfl) (fun _ _ _ h => h) (Or.inl ⟨by rfl, ?_⟩) hS0 ?_
  · intro W hW
    obtain ⟨k0, k1⟩ := hW
    clear hS0 hl hld
    go_simp
    try (intro hx; exfalso; omega)
  try simp only [Act.put]
  refine wpAnyT_takeT (n := 40) (i := 11) (v := .int .i64 (L : Int)) rfl (by kernel_rfl) (by kernel_rfl) (by kernel_rfl) (by kernel_rfl) (by kernel_rfl) (fun _ _ _ h => h) (Or.inl ⟨by rfl, ?_⟩) hS0 ?_
  · intro W hW
    obtain ⟨k0, k1⟩ := hW
    clear hS0 hl hld
    go_simp
    try (intro hx; exfalso; omega)
  try simp only [Act.put]
  refine wpAnyT_takeT (n := 40) (i := 12) (v := .int .i64 (a : Int)) rfl (by kernel_rfl) (by kernel_rfl) (by kernel_rfl) (by kernel_rfl) (by kernel_rfl) (fun _ _ _ h => h) (Or.inl ⟨by rfl, ?_⟩) hS0 ?_
  · intro W hW
    obtain ⟨k0, k1⟩ := hW
    clear hS0 hl hld
    go_simp
    try (intro hx; exfalso; omega)
  try simp only [Act.put]
  clear hS0
  refine wpAnyT_one (i := 13) rfl (by kernel_rfl) rfl ?_
  go_simp
  refine hl.mono ?_
  intro e w1 h
  cases hlk : lookP (tl s) a with
  | some t' =>
    rw [hlk] at h
    obtain ⟨⟨v, rfl⟩, rfl⟩ := h
    refine wpAnyT_done (by kernel_rfl) ?_ _
    go_end0
    unfold Goes
    rw [hlk]
    exact ⟨⟨_, rfl⟩, hld t', grownBy_trans' (b := w.drew) ⟨rfl, rfl, rfl, Nat.le_refl _, fun _ _ _ => rfl⟩ (laid_grown w.drew b t')⟩
  | none =>
    rw [hlk] at h
    obtain ⟨rfl, rfl⟩ := h
    refine ⟨rfl, ?_⟩
    unfold Goes
    rw [hlk]
    exact ⟨rfl, ⟨rfl, rfl, rfl, Nat.le_refl _, fun _ _ _ => rfl⟩⟩

/-- What a reader that must go over a mark comes to. -/
def Needs (m : List UInt8) (s : ByteArray) (b : Nat) (t : Th) (d : Nat) (w : World) (e : Ending) (w' : World) : Prop :=
  if t.text = m then Goes s b d (t.place + t.text.length) w e w' else e = thrown 31 t.place ∧ w.grownBy w' (some b)

set_option maxHeartbeats 1000000 in
set_option maxRecDepth 100000 in
theorem need_any (m : List UInt8) (s : ByteArray) (b : Nat) (t : Th) (d : Nat) (w : World) (hr : RdAt w b s t d) (ha : t.place + t.text.length ≤ s.size) (hs : s.size ≤ 1000000) :
    Calls Tryz.prog 118 #[.pointer (some ⟨b, 0, none⟩), .string ⟨m.toArray⟩] w fun e w' => Needs m s b t d w e w' := by
  have hst := step_any s b t d w hr ha hs
  unfold Needs
  have hc2 := hr.c2
  have hc4 := hr.c4
  have hth := throw_any 31 t.place w
  by_cases he : t.text = m
  · simp only [if_pos he]
    rw [he] at hc2
    generalize (⟨m.toArray⟩ : ByteArray) = x at hc2
    clear he hr hth
    go_enter Tryz.func118, Tryz.ntmps118
    go_wp2_with fail
    refine hst.mono ?_
    intro e w1 h
    unfold Goes at h
    cases hlk : lookP (tl s) (t.place + t.text.length) with
    | some t' =>
      rw [hlk] at h
      obtain ⟨⟨v, rfl⟩, h2⟩ := h
      go_wp2
      go_end0
      unfold Goes
      rw [hlk]
      exact ⟨⟨_, rfl⟩, h2⟩
    | none =>
      rw [hlk] at h
      obtain ⟨rfl, h2⟩ := h
      refine ⟨rfl, ?_⟩
      unfold Goes
      rw [hlk]
      exact ⟨rfl, h2⟩
  · simp only [if_neg he]
    have hyx : ¬ (⟨t.text.toArray⟩ : ByteArray) = ⟨m.toArray⟩ := fun h => he (by have := congrArg tl h; exact this)
    have hyl : ((⟨t.text.toArray⟩ : ByteArray).toList == (⟨m.toArray⟩ : ByteArray).toList) = false := by
      rw [Lib.toList_data, Lib.toList_data, beq_eq_false_iff_ne]
      exact he
    generalize (⟨t.text.toArray⟩ : ByteArray) = y at hc2 hyx hyl
    generalize (⟨m.toArray⟩ : ByteArray) = x at hyx hyl
    clear he hr hst
    go_enter Tryz.func118, Tryz.ntmps118
    go_wp2_with fail
    refine hth.mono ?_
    rintro e w1 ⟨rfl, rfl⟩
    exact ⟨rfl, rfl, grownBy_refl' _ _⟩

/-- What a reader that goes over a mark that what follows stands within comes to. -/
def Enters (s : ByteArray) (b : Nat) (t : Th) (d : Nat) (w : World) (e : Ending) (w' : World) : Prop :=
  if d = 40 then e = thrown 32 t.place ∧ w.grownBy w' (some b) else Goes s b (d + 1) (t.place + t.text.length) w e w'

set_option maxHeartbeats 1000000 in
set_option maxRecDepth 100000 in
theorem enter_any (s : ByteArray) (b : Nat) (t : Th) (d : Nat) (w : World) (hr : RdAt w b s t d) (hd : d ≤ 40) (ha : t.place + t.text.length ≤ s.size) (hs : s.size ≤ 1000000) :
    Calls Tryz.prog 104 #[.pointer (some ⟨b, 0, none⟩)] w fun e w' => Enters s b t d w e w' := by
  have hst := step_any s b t (d + 1) _ (hr.within (d + 1)) ha hs
  have hth := throw_any 32 t.place w
  unfold Enters
  have hc4 := hr.c4
  have hc5 := hr.c5
  have hf5 := hr.fz 5
  have hg5 := grownBy_setC w b 5 (.int .i64 ((d + 1 : Nat) : Int))
  by_cases h40 : d = 40
  · simp only [if_pos h40]
    subst h40
    clear hst hg5 hr
    go_enter Tryz.func104, Tryz.ntmps104
    go_wp2_with fail
    refine hth.mono ?_
    rintro e w1 ⟨rfl, rfl⟩
    exact ⟨rfl, rfl, grownBy_refl' _ _⟩
  · simp only [if_neg h40]
    have i1 : ¬ (d : Int) = 40 := by omega
    clear hth hr
    go_enter Tryz.func104, Tryz.ntmps104
    go_wp2_with fail
    refine hst.mono ?_
    intro e w1 h
    unfold Goes at h
    cases hlk : lookP (tl s) (t.place + t.text.length) with
    | some t' =>
      rw [hlk] at h
      obtain ⟨⟨v, rfl⟩, h2, h3⟩ := h
      go_wp2
      go_end0
      unfold Goes
      rw [hlk]
      exact ⟨⟨_, rfl⟩, h2, grownBy_trans' hg5 h3⟩
    | none =>
      rw [hlk] at h
      obtain ⟨rfl, h2⟩ := h
      refine ⟨rfl, ?_⟩
      unfold Goes
      rw [hlk]
      exact ⟨rfl, grownBy_trans' hg5 h2⟩
end Go.Proofs.YtlijlgbaikijnaaGreatDoor
