/-
  A buffer of the package and the one of the reference, side by side: what each call answers is the same. Conditions: at most a million bytes, and a thousand buffers.
-/
import Derived.Test.YticoigpkgpdabaaSpRef3
namespace Go.Proofs.Yticoigpkgpdabaa
open Go Go.RowKit

def Cor : Ent → REnt → Prop
  | (_, some b), (_, s, g, false) => tl s = b.all ∧ g = b.gone
  | (_, none), (_, _, _, true) => True
  | _, _ => False
def Cors (es : List Ent) (rs : List REnt) : Prop := es.length = rs.length ∧ ∀ (i : Nat) (e : Ent) (r : REnt), es[i]? = some e → rs[i]? = some r → Cor e r
theorem Cors.set {es : List Ent} {rs : List REnt} (h : Cors es rs) (k : Nat) {e : Ent} {r : REnt} (hc : Cor e r) : Cors (es.set k e) (rs.set k r) := by
  refine ⟨by rw [List.length_set, List.length_set]; exact h.1, fun i e' r' he hr => ?_⟩
  rw [List.getElem?_set] at he hr
  by_cases hk : k = i
  · rw [if_pos hk] at he hr
    split at he
    · rw [if_pos (by rw [← h.1]; assumption)] at hr
      cases he
      cases hr
      exact hc
    · cases he
  · rw [if_neg hk] at he hr
    exact h.2 i e' r' he hr
theorem Cors.app {es : List Ent} {rs : List REnt} (h : Cors es rs) {e : Ent} {r : REnt} (hc : Cor e r) : Cors (es ++ [e]) (rs ++ [r]) := by
  refine ⟨by simp [h.1], fun i e' r' he hr => ?_⟩
  rw [List.getElem?_append] at he hr
  by_cases hi : i < es.length
  · rw [if_pos hi] at he
    rw [if_pos (by rw [← h.1]; exact hi)] at hr
    exact h.2 i e' r' he hr
  · rw [if_neg hi] at he
    rw [if_neg (by rw [← h.1]; exact hi)] at hr
    obtain ⟨h1, he⟩ := List.getElem?_eq_some_iff.1 he
    obtain ⟨h2, hr⟩ := List.getElem?_eq_some_iff.1 hr
    simp at he hr
    subst he hr
    exact hc
theorem tally_eq {α β : Type} (f : α → Nat) (g : β → Nat) {l : List α} {m : List β} (hl : l.length = m.length) (h : ∀ (i : Nat) (a : α) (b : β), l[i]? = some a → m[i]? = some b → f a = g b) : tally f l = tally g m := by
  induction l generalizing m with
  | nil =>
    cases m with
    | nil => rfl
    | cons b m => simp at hl
  | cons a l ih =>
    cases m with
    | nil => simp at hl
    | cons b m =>
      have h0 := h 0 a b rfl rfl
      have := ih (m := m) (by simpa using hl) fun i a' b' ha hb => h (i + 1) a' b' (by simpa using ha) (by simpa using hb)
      simp only [tally]
      omega
theorem Cor.held {e : Ent} {r : REnt} (h : Cor e r) : heldOf e = rheldOf r := by
  obtain ⟨bb, o⟩ := e
  obtain ⟨rb, s, g, c⟩ := r
  cases o <;> cases c <;> simp only [Cor] at h
  · rfl
  · simp only [heldOf, rheldOf]
    rw [← h.1, tl_len, h.2]
    rfl
theorem Cor.open_ {e : Ent} {r : REnt} (h : Cor e r) : openOf e = ropenOf r := by
  obtain ⟨bb, o⟩ := e
  obtain ⟨rb, s, g, c⟩ := r
  cases o <;> cases c <;> simp only [Cor] at h <;> rfl
theorem Cors.held {es : List Ent} {rs : List REnt} (h : Cors es rs) : tally heldOf es = tally rheldOf rs := tally_eq _ _ h.1 fun i a b ha hb => (h.2 i a b ha hb).held
theorem Cors.open_ {es : List Ent} {rs : List REnt} (h : Cors es rs) : tally openOf es = tally ropenOf rs := tally_eq _ _ h.1 fun i a b ha hb => (h.2 i a b ha hb).open_
theorem Cors.used {w : World} {B pb q M C tot : Nat} {es : List Ent} {rs : List REnt} (h : Cors es rs) (hA : All w B pb q M C es tot) : tally usedOf es = tally (rusedOf M C) rs := tally_eq _ _ h.1 fun i a b ha hb => by
  have hc := h.2 i a b ha hb
  obtain ⟨bb, o⟩ := a
  obtain ⟨rb, s, g, c⟩ := b
  cases o <;> cases c <;> simp only [Cor] at hc
  · rfl
  · rename_i bs
    simp only [usedOf, rusedOf]
    rw [all_usedN hA ha, ← hc.1, tl_len, hc.2]
    rfl
/-- No buffer of the reference is greater than what was appended. -/
theorem Cors.sizes {w : World} {B pb q M C tot : Nat} {es : List Ent} {rs : List REnt} (h : Cors es rs) (hA : All w B pb q M C es tot) (i : Nat) (rb : Nat) (s : ByteArray) (g : Nat) (hr : rs[i]? = some (rb, s, g, false)) : s.size ≤ tot := by
  have hi : i < es.length := by rw [h.1]; exact (List.getElem?_eq_some_iff.1 hr).1
  have he : es[i]? = some es[i] := List.getElem?_eq_getElem hi
  have hc := h.2 i _ _ he hr
  generalize es[i] = e at he hc
  obtain ⟨bb, o⟩ := e
  cases o with
  | none => simp [Cor] at hc
  | some b =>
    simp only [Cor] at hc
    obtain ⟨_, _, _, hA⟩ := hA
    have := hA.long i bb b he
    rw [← hc.1, tl_len] at this
    exact this

def eptr (e : Ent) : Value := .pointer (some ⟨e.1, 0, none⟩)
theorem eptr_set {es : List Ent} {k : Nat} {bb : Nat} {o o' : Option Bs} (h : es[k]? = some (bb, o)) : (es.set k (bb, o')).map eptr = es.map eptr := by
  rw [List.map_set]
  refine set_same ?_
  rw [List.getElem?_map, h]
  rfl

section
variable {w : World} {B pb rb q M C tot k bb rbk g0 : Nat} {es : List Ent} {rs : List REnt} {ob : Option Bs} {s0 : ByteArray} {cl : Bool}

/-- What the reference's Append does, and what it answers. -/
def AppR (q : Nat) (rs : List REnt) (k : Nat) (r : REnt) (data : ByteArray) (code : Int) (rs' : List REnt) : Prop :=
  if r.2.2.2 then code = 18 ∧ rs' = rs else
    (tally rheldOf rs + data.size ≤ q ∧ code = 0 ∧ rs' = rs.set k (r.1, r.2.1 ++ data, r.2.2.1, false)) ∨ (q < tally rheldOf rs + data.size ∧ code = 41 ∧ rs' = rs)
theorem p_append (data : ByteArray) (h : All w B pb q M C es tot) (hc : Cors es rs) (he : es[k]? = some (bb, ob)) (hr : rs[k]? = some (rbk, s0, g0, cl)) (ht : tot + data.size ≤ 500000) :
    Calls Try.prog 14 #[.pointer (some ⟨bb, 0, none⟩), .string data] w fun e w' => ∃ (code : Int) (es' : List Ent) (rs' : List REnt), e = .returned (.int .i64 code) ∧ All w' B pb q M C es' (tot + data.size) ∧ Mv B (fun _ => True) w w' ∧
      Cors es' rs' ∧ es'.map eptr = es.map eptr ∧ AppR q rs k (rbk, s0, g0, cl) data code rs' ∧ (∃ ob', es'[k]? = some (bb, ob')) ∧ (∃ r', rs'[k]? = some r' ∧ r'.1 = rbk) := by
  have hcor := hc.2 k _ _ he hr
  have hkl : k < es.length := (List.getElem?_eq_some_iff.1 he).1
  have hkr : k < rs.length := (List.getElem?_eq_some_iff.1 hr).1
  cases ob <;> cases cl <;> simp only [Cor] at hcor
  · refine (append_shut data (all_shut h he)).mono ?_
    rintro e w' ⟨h1, rfl⟩
    refine ⟨18, es, rs, h1, ?_, Mv.refl _ _ _, hc, rfl, ?_, ⟨_, he⟩, ⟨_, hr, rfl⟩⟩
    · obtain ⟨lab, S, sp, h⟩ := h
      exact ⟨lab, S, sp, { h with few := Nat.le_trans h.few (Nat.le_add_right _ _), long := fun k bb b hk => Nat.le_trans (h.long k bb b hk) (Nat.le_add_right _ _) }⟩
    · simp [AppR]
  · rename_i b
    refine (all_append data h he ht).mono ?_
    rintro e w' ⟨⟨h1, h2, b', h3, h4, h5⟩ | ⟨h1, h2, h3⟩, h6⟩
    · refine ⟨0, _, rs.set k (rbk, s0 ++ data, g0, false), h2, h3, h6, hc.set k ⟨by rw [tl_app, hcor.1, h4], by rw [hcor.2, h5]⟩, eptr_set he, ?_, ⟨some b', by rw [List.getElem?_set, if_pos rfl, if_pos hkl]⟩, ⟨(rbk, s0 ++ data, g0, false), by rw [List.getElem?_set, if_pos rfl, if_pos hkr], rfl⟩⟩
      simp only [AppR]
      rw [← hc.held]
      exact .inl ⟨h1, by trivial, by trivial⟩
    · refine ⟨41, es, rs, h2, ?_, h6, hc, rfl, ?_, ⟨_, he⟩, ⟨_, hr, rfl⟩⟩
      · obtain ⟨lab, S, sp, h⟩ := h3
        exact ⟨lab, S, sp, { h with few := Nat.le_trans h.few (Nat.le_add_right _ _), long := fun k bb b hk => Nat.le_trans (h.long k bb b hk) (Nat.le_add_right _ _) }⟩
      · simp only [AppR]
        rw [← hc.held]
        exact .inr ⟨h1, by trivial, by trivial⟩
theorem r_append (data : ByteArray) {L : Value} {code : Int} {rs' : List REnt} (h : RefAt w B rb q M C rs L) (hr : rs[k]? = some (rbk, s0, g0, cl)) (hR : AppR q rs k (rbk, s0, g0, cl) data code rs') (hn : rs.length ≤ 1000) (hs : ∀ (i : Nat) (r : REnt), rs[i]? = some r → r.2.1.size ≤ 1000000) (ht : tally rheldOf rs ≤ 1000000000) (hd : data.size ≤ 1000000) :
    Calls Try.prog 15 #[.pointer (some ⟨rb, 0, none⟩), .pointer (some ⟨rbk, 0, none⟩), .string data] w fun e w' => e = .returned (.int .i64 code) ∧ RefAt w' B rb q M C rs' L ∧ Rm B w w' := by
  cases cl with
  | true =>
    simp only [AppR, if_true] at hR
    obtain ⟨rfl, rfl⟩ := hR
    refine (rappend_shut data (h.ent k _ hr).1).mono ?_
    rintro e w' ⟨h1, rfl⟩
    exact ⟨h1, h, Rm.refl _ _⟩
  | false =>
    simp only [AppR, Bool.false_eq_true, if_false] at hR
    refine (rappend_ok data h hr hn hs ht hd).mono ?_
    rintro e w' ⟨⟨h1, h2, h3⟩ | ⟨h1, h2, h3⟩, h4⟩
    · rcases hR with ⟨_, rfl, rfl⟩ | ⟨h5, _⟩
      · exact ⟨h2, h3, h4⟩
      · omega
    · rcases hR with ⟨h5, _⟩ | ⟨_, rfl, rfl⟩
      · omega
      · exact ⟨h2, h3, h4⟩

/-- What the reference's Drain does, and what it answers. -/
def DrR (rs : List REnt) (k : Nat) (r : REnt) (n : Int) (t : List UInt8) (code : Int) (rs' : List REnt) : Prop :=
  if r.2.2.2 then t = [] ∧ code = 18 ∧ rs' = rs else if n < 0 then t = [] ∧ code = 1 ∧ rs' = rs else
    t = ((tl r.2.1).drop r.2.2.1).take n.toNat ∧ code = 0 ∧ rs' = rs.set k (r.1, r.2.1, r.2.2.1 + min n.toNat (r.2.1.size - r.2.2.1), false)
theorem p_drain (n : Int) (h : All w B pb q M C es tot) (hc : Cors es rs) (he : es[k]? = some (bb, ob)) (hr : rs[k]? = some (rbk, s0, g0, cl)) (ht : tot ≤ 500000) :
    Calls Try.prog 16 #[.pointer (some ⟨bb, 0, none⟩), .int .i64 n] w fun e w' => ∃ (t : ByteArray) (code : Int) (es' : List Ent) (rs' : List REnt), e = .returned (.tuple #[.string t, .int .i64 code]) ∧ All w' B pb q M C es' tot ∧ Mv B (fun _ => True) w w' ∧
      Cors es' rs' ∧ es'.map eptr = es.map eptr ∧ DrR rs k (rbk, s0, g0, cl) n (tl t) code rs' ∧ (∃ ob', es'[k]? = some (bb, ob')) ∧ (∃ r', rs'[k]? = some r' ∧ r'.1 = rbk) := by
  have hcor := hc.2 k _ _ he hr
  have hkl : k < es.length := (List.getElem?_eq_some_iff.1 he).1
  have hkr : k < rs.length := (List.getElem?_eq_some_iff.1 hr).1
  cases ob <;> cases cl <;> simp only [Cor] at hcor
  · refine (drain_shut n (all_shut h he)).mono ?_
    rintro e w' ⟨h1, rfl⟩
    exact ⟨⟨#[]⟩, 18, es, rs, h1, h, Mv.refl _ _ _, hc, rfl, by simp [DrR, tl], ⟨_, he⟩, ⟨_, hr, rfl⟩⟩
  · rename_i b
    by_cases hn : n < 0
    · refine (all_neg n hn h he).mono ?_
      rintro e w' ⟨h1, rfl⟩
      exact ⟨⟨#[]⟩, 1, es, rs, h1, h, Mv.refl _ _ _, hc, rfl, by simp [DrR, tl, hn], ⟨_, he⟩, ⟨_, hr, rfl⟩⟩
    · obtain ⟨N, rfl⟩ : ∃ N : Nat, n = (N : Int) := ⟨n.toNat, by omega⟩
      refine (all_drain N h he ht).mono ?_
      rintro e w' ⟨h1, ⟨b', h3, h4, h5⟩, h6⟩
      have hsz : s0.size = b.all.length := by rw [← hcor.1, tl_len]
      refine ⟨_, 0, _, rs.set k (rbk, s0, g0 + min N (s0.size - g0), false), h1, h3, h6, hc.set k ⟨by rw [hcor.1, h4], by rw [hcor.2, h5, hsz]⟩, eptr_set he, ?_, ⟨some b', by rw [List.getElem?_set, if_pos rfl, if_pos hkl]⟩, ⟨_, by rw [List.getElem?_set, if_pos rfl, if_pos hkr], rfl⟩⟩
      simp only [DrR, Bool.false_eq_true, if_false]
      rw [if_neg (by omega), tl_mk, hcor.1, hcor.2, Int.toNat_natCast]
      exact ⟨by trivial, by trivial, by trivial⟩
theorem r_drain (n : Int) {L : Value} {t : List UInt8} {code : Int} {rs' : List REnt} (h : RefAt w B rb q M C rs L) (hr : rs[k]? = some (rbk, s0, g0, cl)) (hR : DrR rs k (rbk, s0, g0, cl) n t code rs') (hs : s0.size ≤ 1000000) :
    Calls Try.prog 17 #[.pointer (some ⟨rbk, 0, none⟩), .int .i64 n] w fun e w' => (∃ u, e = .returned (.tuple #[.string u, .int .i64 code]) ∧ tl u = t) ∧ RefAt w' B rb q M C rs' L ∧ Rm B w w' := by
  cases cl with
  | true =>
    simp only [DrR, if_true] at hR
    obtain ⟨rfl, rfl, rfl⟩ := hR
    refine (rdrain_shut n (h.ent k _ hr).1).mono ?_
    rintro e w' ⟨h1, rfl⟩
    exact ⟨⟨_, h1, rfl⟩, h, Rm.refl _ _⟩
  | false =>
    simp only [DrR, Bool.false_eq_true, if_false] at hR
    by_cases hn : n < 0
    · rw [if_pos hn] at hR
      obtain ⟨rfl, rfl, rfl⟩ := hR
      refine (rdrain_neg n hn (h.ent k _ hr).1).mono ?_
      rintro e w' ⟨h1, rfl⟩
      exact ⟨⟨_, h1, rfl⟩, h, Rm.refl _ _⟩
    · rw [if_neg hn] at hR
      obtain ⟨N, rfl⟩ : ∃ N : Nat, n = (N : Int) := ⟨n.toNat, by omega⟩
      rw [Int.toNat_natCast] at hR
      obtain ⟨rfl, rfl, rfl⟩ := hR
      refine (rdrain_ok N h hr hs).mono ?_
      rintro e w' ⟨⟨u, h1, h2⟩, h3, h4⟩
      exact ⟨⟨u, h1, h2⟩, h3, h4⟩

def ClR (rs : List REnt) (k : Nat) (r : REnt) (code : Int) (rs' : List REnt) : Prop :=
  if r.2.2.2 then code = 18 ∧ rs' = rs else code = 0 ∧ rs' = rs.set k (r.1, r.2.1, r.2.2.1, true)
theorem p_close (h : All w B pb q M C es tot) (hc : Cors es rs) (he : es[k]? = some (bb, ob)) (hr : rs[k]? = some (rbk, s0, g0, cl)) (ht : tot ≤ 500000) (hn : es.length ≤ 1000000) :
    Calls Try.prog 18 #[.pointer (some ⟨bb, 0, none⟩)] w fun e w' => ∃ (code : Int) (es' : List Ent) (rs' : List REnt), e = .returned (.int .i64 code) ∧ All w' B pb q M C es' tot ∧ Mv B (fun _ => True) w w' ∧
      Cors es' rs' ∧ es'.map eptr = es.map eptr ∧ ClR rs k (rbk, s0, g0, cl) code rs' ∧ (∃ ob', es'[k]? = some (bb, ob')) ∧ (∃ r', rs'[k]? = some r' ∧ r'.1 = rbk) := by
  have hcor := hc.2 k _ _ he hr
  have hkl : k < es.length := (List.getElem?_eq_some_iff.1 he).1
  have hkr : k < rs.length := (List.getElem?_eq_some_iff.1 hr).1
  cases ob <;> cases cl <;> simp only [Cor] at hcor
  · refine (close_shut (all_shut h he)).mono ?_
    rintro e w' ⟨h1, rfl⟩
    exact ⟨18, es, rs, h1, h, Mv.refl _ _ _, hc, rfl, by simp [ClR], ⟨_, he⟩, ⟨_, hr, rfl⟩⟩
  · refine (all_close h he ht hn).mono ?_
    rintro e w' ⟨h1, h3, h6⟩
    exact ⟨0, _, rs.set k (rbk, s0, g0, true), h1, h3, h6, hc.set k trivial, eptr_set he, by simp [ClR], ⟨none, by rw [List.getElem?_set, if_pos rfl, if_pos hkl]⟩, ⟨_, by rw [List.getElem?_set, if_pos rfl, if_pos hkr], rfl⟩⟩
theorem r_close {L : Value} {code : Int} {rs' : List REnt} (h : RefAt w B rb q M C rs L) (hr : rs[k]? = some (rbk, s0, g0, cl)) (hR : ClR rs k (rbk, s0, g0, cl) code rs') :
    Calls Try.prog 19 #[.pointer (some ⟨rbk, 0, none⟩)] w fun e w' => e = .returned (.int .i64 code) ∧ RefAt w' B rb q M C rs' L ∧ Rm B w w' := by
  cases cl with
  | true =>
    simp only [ClR, if_true] at hR
    obtain ⟨rfl, rfl⟩ := hR
    refine (rclose_shut (h.ent k _ hr).1).mono ?_
    rintro e w' ⟨h1, rfl⟩
    exact ⟨h1, h, Rm.refl _ _⟩
  | false =>
    simp only [ClR, Bool.false_eq_true, if_false] at hR
    obtain ⟨rfl, rfl⟩ := hR
    exact rclose_ok h hr
theorem p_len (h : All w B pb q M C es tot) (he : es[k]? = some (bb, ob)) (ht : tot ≤ 500000) :
    Calls Try.prog 20 #[.pointer (some ⟨bb, 0, none⟩)] w fun e w' => e = .returned (.int .i64 (heldOf (bb, ob) : Int)) ∧ ∃ n, w' = w.drewN n := by
  cases ob with
  | none => exact len_shut bb w (all_shut h he)
  | some b => exact all_len h he ht

/-- No buffer has more bytes than were appended. -/
def Szs (rs : List REnt) (tot : Nat) : Prop := ∀ (i : Nat) (r : REnt), rs[i]? = some r → r.2.1.size ≤ tot
theorem Szs.set (h : Szs rs tot) (k : Nat) {r : REnt} (hr : r.2.1.size ≤ tot) : Szs (rs.set k r) tot := fun i x hx => by
  rw [List.getElem?_set] at hx
  split at hx
  · split at hx
    · cases hx; exact hr
    · cases hx
  · exact h i x hx
theorem Szs.more {tot' : Nat} (h : Szs rs tot) (ht : tot ≤ tot') : Szs rs tot' := fun i r hr => Nat.le_trans (h i r hr) ht
theorem AppR.sz {data : ByteArray} {code : Int} {rs' : List REnt} {r : REnt} (hR : AppR q rs k r data code rs') (hr : rs[k]? = some r) (h : Szs rs tot) : Szs rs' (tot + data.size) := by
  unfold AppR at hR
  split at hR
  · rw [hR.2]; exact h.more (Nat.le_add_right _ _)
  · rcases hR with ⟨_, _, e⟩ | ⟨_, _, e⟩
    · rw [e]
      refine (h.more (Nat.le_add_right _ _)).set k ?_
      have := h k r hr
      rw [ByteArray.size_append]
      omega
    · rw [e]; exact h.more (Nat.le_add_right _ _)
theorem DrR.sz {n : Int} {t : List UInt8} {code : Int} {rs' : List REnt} {r : REnt} (hR : DrR rs k r n t code rs') (hr : rs[k]? = some r) (h : Szs rs tot) : Szs rs' tot := by
  unfold DrR at hR
  split at hR
  · rw [hR.2.2]; exact h
  · split at hR
    · rw [hR.2.2]; exact h
    · rw [hR.2.2]; exact h.set k (h k r hr)
theorem ClR.sz {code : Int} {rs' : List REnt} {r : REnt} (hR : ClR rs k r code rs') (hr : rs[k]? = some r) (h : Szs rs tot) : Szs rs' tot := by
  unfold ClR at hR
  split at hR
  · rw [hR.2]; exact h
  · rw [hR.2]; exact h.set k (h k r hr)
end

/-! ### What is kept, whatever changes -/
section
variable {w w' : World} {B pb rb q M C tot : Nat} {es : List Ent} {rs : List REnt} {L av : Value} {n : Nat} {xs : List Value}
theorem All.grown (h : All w B pb q M C es tot) {row : Option Nat} (hg : w.grownBy w' row) (hr : ∀ g cur t, B ≤ g → Blk w g cur t → Four t → row ≠ some g) : All w' B pb q M C es tot :=
  h.far hg.size fun g cur t hB hb ht => hg.block g hb.lt fun e => hr g cur t hB hb ht e.symm
theorem RefAt.grown (h : RefAt w B rb q M C rs L) {row : Option Nat} (hg : w.grownBy w' row) (hr : ∀ g cur t, B ≤ g → Blk w g cur t → (t = 43 ∨ t = 38 ∨ t = 62) → row ≠ some g) : RefAt w' B rb q M C rs L :=
  h.keep fun g cur t hB hb ht => hg.block g hb.lt fun e => hr g cur t hB hb ht e.symm
/-- The law's own row of buffers. -/
abbrev ARow (w : World) (B : Nat) (av : Value) (n : Nat) (xs : List Value) : Prop := w.ownsRow B 36 1 av n xs
theorem ARow.mv {S : Nat → Prop} (h : ARow w B av n xs) (m : Mv B S w w') : ARow w' B av n xs := own_keep h fun _ _ _ hg _ => (m.far hg not_four.2.2.2.1).trans hg.symm
theorem ARow.rm (h : ARow w B av n xs) (m : Rm B w w') : ARow w' B av n xs := own_keep h fun g cur _ hg _ => m.keep g cur _ _ hg (.inr (by decide))
theorem Rm.below (m : Rm B w w') (hB : B ≤ w.heap.size) : Below B w w' := ⟨m.os, m.tape, m.output, m.size, fun g hg => m.low g (Nat.lt_of_lt_of_le hg hB) hg⟩
end
end Go.Proofs.Yticoigpkgpdabaa
