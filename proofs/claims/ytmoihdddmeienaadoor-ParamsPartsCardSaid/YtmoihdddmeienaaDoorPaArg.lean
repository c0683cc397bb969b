/-
  The package's Arg and the document's answer to it. Conditions: at most a million arguments and bytes; where digits are no int: strconv.ErrRange holds an error.
-/
import Derived.Test.YtmoihdddmeienaaDoorPaNum
import Derived.Test.YtmoihdddmeienaaDoorPaShelf
import Derived.Test.YtmoihdddmeienaaDoorMkTexts
import Derived.WalkMore
namespace Go.Proofs.YtmoihdddmeienaaDoor
open Go Go.RowKit

/-- A slice of strings. -/
def Ls (w : World) (B : Nat) (v : Value) (l : List ByteArray) : Prop := Sl w B 1 v l.length (l.map .string)
section
variable {w w' : World} {B B' : Nat} {v : Value} {l : List ByteArray}
theorem Ls.below (h : Ls w B v l) (hb : Below B w w') : Ls w' B v l := Sl.below h hb
theorem Ls.more (h : Ls w B v l) (hB : B ≤ B') : Ls w B' v l := Sl.more h hB
theorem Ls.form (h : Ls w B v l) : ∃ (A : Option Addr) (c : Nat), v = .slice A l.length c ∧ l.length ≤ c ∧ c ≤ maxLen := by
  obtain ⟨A, c, hv, h1, h2, _⟩ := h
  exact ⟨A, c, hv, h1, h2⟩
theorem Ls.at_ {A : Option Addr} {n c : Nat} (h : Ls w B (.slice A n c) l) (hl : 0 < l.length) : ∃ b off : Nat, A = some ⟨b, off, none⟩ ∧ b < B ∧ ∀ k (hk : k < l.length), w.cell? ⟨b, off + k, none⟩ = some (.string l[k]) := by
  obtain ⟨A', c', hv, h1, h2, h3, h4⟩ := h
  injection hv with e1 e2 e3
  subst e1
  obtain ⟨b, off, hA, hlt, hc⟩ := h4 hl
  exact ⟨b, off, hA, hlt, fun k hk => hc k _ (by simp [hk])⟩
end
/-- The variable of the error that Atoi answers for too great a number holds an error. -/
def Erng (w : World) : Prop := ∃ te pe, w.cell? ⟨1, 0, none⟩ = some (.iface te pe)
theorem cell_lt {w : World} {b o : Nat} {u : Value} (h : w.cell? ⟨b, o, none⟩ = some u) : b < w.heap.size := by
  rcases Nat.lt_or_ge b w.heap.size with h1 | h1
  · exact h1
  · unfold World.cell? at h
    rw [Array.getElem?_eq_none h1] at h
    cases h
theorem Erng.below {w w' : World} {B : Nat} (h : Erng w) (hB : B = w.heap.size) (hb : Below B w w') : Erng w' := by
  obtain ⟨te, pe, h⟩ := h
  subst hB
  exact ⟨te, pe, (hb.cell (p := ⟨1, 0, none⟩) (cell_lt h)).trans h⟩

set_option maxHeartbeats 1000000 in
set_option maxRecDepth 100000 in
theorem isNumber_any (s : ByteArray) (w : World) (hs : s.size ≤ 1000000) :
    Calls Tryd.prog 19 #[.string s] w fun e w' => e = .returned (.bool (numB (bl s))) ∧ Below w.heap.size w w' := by
  have ht := Tryd.trimDigits s
  have htd := trim_digits s.data.toList
  by_cases h0 : s.size = 0
  · obtain rfl : s = ⟨#[]⟩ := ByteArray.ext (Array.eq_empty_of_size_eq_zero h0)
    go_enter Tryd.func19, Tryd.ntmps19
    go_wp2
    go_ret
    exact ⟨rfl, Below.refl _ _⟩
  · obtain ⟨b, r, hl⟩ : ∃ b r, s.data.toList = b :: r := by
      cases h : s.data.toList with
      | nil => exact absurd (by rw [← bl_len]; show s.data.toList.length = 0; rw [h]; rfl) h0
      | cons b r => exact ⟨b, r, rfl⟩
    have hb0 : s[0]'(by omega) = b := by
      have := bl_get s 0 (by omega)
      unfold bl at this
      rw [hl] at this
      simpa using this.symm
    have hN : numB (bl s) = (b != 48 && s.data.toList.all digB) := by unfold bl; rw [hl]; rfl
    have hne : s.toList.isEmpty = false := by rw [Lib.toList_data, hl]; rfl
    have hT : ∀ t : List UInt8, (⟨t.toArray⟩ : ByteArray).toList = t := fun t => by rw [Lib.toList_data]
    by_cases hb48 : b = 48
    · have hN2 : numB (bl s) = false := by rw [hN, hb48]; rfl
      rw [hN2]
      have hbn : ((s[0]'(by omega)).toNat : Int) = 48 := by rw [hb0, hb48]; rfl
      clear htd ht hT hN hN2 hb0 hl
      go_enter Tryd.func19, Tryd.ntmps19
      go_wp2
      go_ret
      exact ⟨rfl, Below.refl _ _⟩
    · have hbn0 : ¬ ((s[0]'(by omega)).toNat : Int) = 48 := by
        rw [hb0]
        intro h
        exact hb48 (by rw [← UInt8.toNat_inj]; exact_mod_cast h)
      have hbn : (((s[0]'(by omega)).toNat : Int) != 48) = true := by simpa using hbn0
      have hN2 : numB (bl s) = s.data.toList.all digB := by rw [hN]; simp [hb48]
      rw [hN2]
      have hG : ∀ t : List UInt8, Lib.trimS s.data.toList [48, 49, 50, 51, 52, 53, 54, 55, 56, 57] = t → s.data.toList.all digB = t.isEmpty := by
        intro t ht
        rw [ht] at htd
        cases t with
        | nil => exact htd.1 rfl
        | cons a t =>
          cases hx : s.data.toList.all digB with
          | true => exact absurd (htd.2 hx) (by simp)
          | false => rfl
      obtain ⟨t, htt⟩ : ∃ t, Lib.trimS s.data.toList [48, 49, 50, 51, 52, 53, 54, 55, 56, 57] = t := ⟨_, rfl⟩
      rw [hG t htt]
      have ht2 := fun W => ht W (by omega)
      simp only [htt] at ht2
      have hTt : (⟨t.toArray⟩ : ByteArray).toList.isEmpty = t.isEmpty := by rw [hT]
      generalize (⟨t.toArray⟩ : ByteArray) = T at ht2 hTt
      generalize t.isEmpty = E at hTt ⊢
      clear htd ht hT hN hN2 hb0 hl hG htt
      go_enter Tryd.func19, Tryd.ntmps19
      go_wp2_with fail
      refine (ht2 _).mono ?_
      rintro e w1 ⟨rfl, hb⟩
      go_wp2
      go_ret
      exact ⟨rfl, hb⟩

/-- What Arg answers: the argument, whether there is one, the error. -/
def argP (l : List ByteArray) (s : List UInt8) : ByteArray × Bool × Int :=
  if numB s = true then (if l.length < valF 0 s then (⟨#[]⟩, false, 0) else (l.getD (valF 0 s - 1) ⟨#[]⟩, true, 0)) else (⟨#[]⟩, false, 1)
theorem bytes_below {w w1 : World} {t : TypeId} (h : w1 = w ∨ ∃ s, w1 = Lib.bytesWorld w t s) : Below w.heap.size w w1 := by
  rcases h with rfl | ⟨s, rfl⟩
  · exact Below.refl _ _
  · exact Lib.bytesWorld_below _ _ _

set_option maxHeartbeats 1000000 in
set_option maxRecDepth 100000 in
theorem arg_any (l : List ByteArray) (s : ByteArray) (v : Value) (B : Nat) (w : World) (ht : Ls w B v l) (hB : B ≤ w.heap.size) (hs : s.size ≤ 1000000) (hl : l.length ≤ 1000000) (hE : 9223372036854775808 ≤ valF 0 (bl s) → Erng w) :
    Calls Tryd.prog 8 #[v, .string s] w fun e w' => e = .returned (.tuple #[.string (argP l (bl s)).1, .bool (argP l (bl s)).2.1, .int .i64 (argP l (bl s)).2.2]) ∧ Below w.heap.size w w' := by
  obtain ⟨A, c, rfl, hc, hcm⟩ := ht.form
  unfold maxLen at hcm
  have hn := isNumber_any s w hs
  unfold argP
  cases hN : numB (bl s) with
  | false =>
    rw [hN] at hn
    rw [if_neg (by simp)]
    go_enter Tryd.func8, Tryd.ntmps8
    go_wp2_with fail
    refine hn.mono ?_
    rintro e w1 ⟨rfl, hb⟩
    go_wp2
    exact bodyPost_ret (v := .tuple #[.string ⟨#[]⟩, .bool false, .int .i64 1]) (by simp [results, Tryd.results8, go_sem]) rfl ⟨rfl, hb⟩
  | true =>
    rw [hN] at hn
    rw [if_pos rfl]
    obtain ⟨x, hx⟩ : ∃ x, valF 0 (bl s) = x := ⟨_, rfl⟩
    obtain ⟨hv1, hv2⟩ := atoi_val hx hN
    have hx1 := val_pos hN
    rw [hx] at hE hx1 ⊢
    unfold bl at hv1 hv2
    by_cases hbig : 9223372036854775808 ≤ x
    · rw [if_pos (by omega)]
      obtain ⟨te, pe, hce⟩ := hE hbig
      have hr := fun W h => Tryd.strconv_Atoi_range s (by omega) (hv2 hbig) (.iface te pe) W h (Or.inr ⟨te, pe, rfl⟩)
      generalize Lib.atoiSat s.data.toList = sat at hr
      clear hv1 hv2 hx hN hE hx1 hbig
      go_enter Tryd.func8, Tryd.ntmps8
      go_wp2_with fail
      refine hn.mono ?_
      rintro e w1 ⟨rfl, hb⟩
      have hc1 : w1.cell? ⟨1, 0, none⟩ = some (.iface te pe) := (hb.cell (p := ⟨1, 0, none⟩) (cell_lt hce)).trans hce
      go_wp2_with fail
      refine (hr _ hc1).mono ?_
      rintro e w2 ⟨N, rfl, _, _, hb2⟩
      clear hr
      go_wp2
      exact bodyPost_ret (v := .tuple #[.string ⟨#[]⟩, .bool false, .int .i64 0]) (by simp [results, Tryd.results8, go_sem]) rfl ⟨rfl, hb.trans (hb2.mono hb.size)⟩
    · have hr := fun W => Tryd.strconv_Atoi_ok s (by omega) x (hv1 (by omega)) W
      clear hv1 hv2 hx hN hE
      by_cases hlt : l.length < x
      · rw [if_pos hlt]
        have hlt2 : (l.length : Int) < (x : Int) := by omega
        go_enter Tryd.func8, Tryd.ntmps8
        go_wp2_with fail
        refine hn.mono ?_
        rintro e w1 ⟨rfl, hb⟩
        go_wp2_with fail
        refine (hr _).mono ?_
        rintro e w2 ⟨rfl, hw⟩
        have hb2 := bytes_below hw
        clear hr hw
        go_wp2
        exact bodyPost_ret (v := .tuple #[.string ⟨#[]⟩, .bool false, .int .i64 0]) (by simp [results, Tryd.results8, go_sem]) rfl ⟨rfl, hb.trans (hb2.mono hb.size)⟩
      · rw [if_neg hlt]
        obtain ⟨k, rfl⟩ : ∃ k, x = k + 1 := ⟨x - 1, by omega⟩
        have hk : k < l.length := by omega
        rw [Nat.add_sub_cancel]
        have hg : l.getD k ⟨#[]⟩ = l[k] := by simp [hk]
        rw [hg]
        obtain ⟨b, off, rfl, hbB, hcell⟩ := ht.at_ (by omega)
        have hck := hcell k hk
        generalize l[k] = x at hck ⊢
        clear hcell hg hbig hx1
        go_enter Tryd.func8, Tryd.ntmps8
        go_wp2_with fail
        refine hn.mono ?_
        rintro e w1 ⟨rfl, hb⟩
        go_wp2_with fail
        refine (hr _).mono ?_
        rintro e w2 ⟨rfl, hw⟩
        have hb2 := bytes_below hw
        have hbA := hb.trans (hb2.mono hb.size)
        have hc2 : w2.cell? ⟨b, off + k, none⟩ = some (.string x) := (hbA.cell (p := ⟨b, off + k, none⟩) (by show b < _; omega)).trans hck
        clear hr hw hb hb2
        go_wp2
        exact bodyPost_ret (v := .tuple #[.string x, .bool true, .int .i64 0]) (by simp [results, Tryd.results8, go_sem]) rfl ⟨rfl, hbA⟩
end Go.Proofs.YtmoihdddmeienaaDoor
