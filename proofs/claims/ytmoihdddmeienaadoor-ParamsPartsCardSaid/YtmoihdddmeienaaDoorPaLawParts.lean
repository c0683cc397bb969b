/-
  The walk of ParamsParts: it answers true and leaves what was there. Conditions: the strings lie in memory that was there.
-/
import Derived.Test.YtmoihdddmeienaaDoorPaLawArgs
import Derived.Test.YtmoihdddmeienaaDoorMkPart
import Derived.Test.YtmoihdddmeienaaDoorMkPlain
import Derived.Deep.QuietTactic
import Derived.BigQuiet
namespace Go.Proofs.YtmoihdddmeienaaDoor
open Go Go.RowKit

theorem hit_bare (b c : UInt8) : hit b (c, false) = (c == b) := by unfold hit; simp
theorem partA_free (b : UInt8) (x : List UInt8) (hx : ∀ c ∈ x, c ≠ b) (now rest : List Ch) : partA b now ((x.map fun c => (c, false)) ++ rest) = partA b (now ++ x.map fun c => (c, false)) rest := by
  induction x generalizing now with
  | nil => simp
  | cons c x ih =>
    simp only [List.map_cons, List.cons_append, partA, hit_bare]
    rw [if_neg (by simpa using hx c (by simp)), ih (fun d hd => hx d (by simp [hd]))]
    simp
theorem partA_tail (b : UInt8) (r : List (List UInt8)) (hr : ∀ x ∈ r, ∀ c ∈ x, c ≠ b) (now : List Ch) :
    partA b now ((Lib.joinTail [b] r).map fun c => (c, false)) = now :: r.map fun x => x.map fun c => (c, false) := by
  induction r generalizing now with
  | nil => simp [Lib.joinTail, partA]
  | cons y r ih =>
    have e : Lib.joinTail [b] (y :: r) = b :: (y ++ Lib.joinTail [b] r) := by simp [Lib.joinTail]
    rw [e, List.map_cons, List.map_append]
    simp only [partA, hit_bare]
    rw [if_pos (by simp), partA_free b y (hr y (by simp)), ih (fun x hx => hr x (by simp [hx]))]
    simp
theorem part_join (b : UInt8) (l : List ByteArray) (h0 : l ≠ []) (h : ∀ x ∈ l, ∀ c ∈ x.data.toList, c ≠ b) : partL b (ofL (joinP l [b]) false) = l.map fun x => ofL x false := by
  cases l with
  | nil => exact absurd rfl h0
  | cons x r =>
    unfold partL ofL joinP joinL
    rw [List.map_cons, Lib.join_cons]
    simp only [List.map_append]
    rw [partA_free b x.data.toList (h x (by simp)), partA_tail b (r.map (·.data.toList)) (fun y hy => by
      obtain ⟨z, hz, rfl⟩ := List.mem_map.1 hy
      exact h z (by simp [hz]))]
    simp
theorem plain_of (x : ByteArray) (q : Bool) : plainS (ofL x q) = x := by
  unfold plainS plainL ofL
  rw [List.map_map]
  have : ((fun c : Ch => c.1) ∘ fun b => (b, q)) = id := rfl
  rw [this, List.map_id]
theorem sep_one (b : UInt8) (s : ByteArray) : sepP (bl ((⟨#[b]⟩ : ByteArray) ++ s)) true = [b] := by
  unfold sepP bl
  rw [ByteArray.data_append, Array.toList_append]
  rfl

set_option maxHeartbeats 4000000 in
set_option maxRecDepth 100000 in
theorem lawParts_any (l : List ByteArray) (b : UInt8) (s : ByteArray) (v : Value) (w : World) (ht : Ls w w.heap.size v l) :
    Calls Tryd.prog 5 #[v, .int .u8 (b.toNat : Int), .string s] w fun e w' => e = .returned (.bool true) ∧ Below w.heap.size w w' := by
  have hfp := few_any l v _ w ht
  obtain ⟨A, c, rfl, hc, hcm⟩ := ht.form
  unfold maxLen at hcm
  cases hf : fewL l with
  | false =>
    rw [hf] at hfp
    clear hf
    go_enter Tryd.func5, Tryd.ntmps5
    go_wp2_with fail
    refine hfp.mono ?_
    rintro e w1 ⟨rfl, rfl⟩
    go_wp2_with fail
    refine (awake_any _).mono ?_
    rintro e w6 ⟨rfl, hb6⟩
    go_wp2
    go_ret
    exact ⟨rfl, hb6⟩
  | true =>
    rw [hf] at hfp
    by_cases hls : s.size ≤ 100
    · obtain ⟨hlp, hsz⟩ := fewL_parts hf
      replace hsz := Lib.hid hsz
      have hj1 := joinL_small (l := l) (sep := [b]) (by simp) hf
      have hj := fun W h hB => join_any l (.slice A l.length c) w.heap.size W (⟨#[b]⟩ ++ s) true h hB (by rw [show ((⟨#[b]⟩ : ByteArray) ++ s).size = 1 + s.size from by rw [ByteArray.size_append]; rfl]; omega) (by omega) (by rw [sep_one]; exact hj1)
      simp only [sep_one] at hj
      have hpt : Hid (l ≠ [] → (∀ x ∈ l, ∀ c ∈ x.data.toList, c ≠ b) → partL b (ofL (joinP l [b]) false) = l.map fun x => ofL x false) := Lib.hid (part_join b l)
      have hJ0 : Hid (l = [] → joinP l [b] = ⟨#[]⟩) := Lib.hid (fun h => by rw [h]; rfl)
      have hJs : (joinP l [b]).size ≤ 1000000 := by show (joinL l [b]).toArray.size ≤ _; rw [List.size_toArray]; exact hj1
      generalize joinP l [b] = J at hj hpt hJ0 hJs
      have hadd : ∀ W : World, (Op.stringOp .add ⟨#[b]⟩ s).run Tryd.prog W = .ok (.string (⟨#[b]⟩ ++ s)) W := fun W => run_string_add_sum W _ s (by show 1 + s.size ≤ _; omega)
      generalize (⟨#[b]⟩ : ByteArray) ++ s = S at hj hadd
      have hcv := fun g (W : World) h => byte_str b g W h
      replace hcv := Lib.hid hcv
      replace hj := Lib.hid hj
      have hcell : Hid (∀ k (hk : k < l.length), ∃ b off : Nat, A = some ⟨b, off, none⟩ ∧ b < w.heap.size ∧ w.cell? ⟨b, off + k, none⟩ = some (.string l[k])) := Lib.hid (fun k hk => by
        obtain ⟨b, off, hA, hlt, hc⟩ := ht.at_ (by omega)
        exact ⟨b, off, hA, hlt, hc k hk⟩)
      clear hf hj1
      go_enter Tryd.func5, Tryd.ntmps5
      go_wp2_with fail
      refine hfp.mono ?_
      rintro e w1 ⟨rfl, rfl⟩
      clear hfp
      go_wp2_with fail
      go_loop [7] (fun i => ∃ k : Nat, k ≤ l.length ∧ i = .int .i64 k ∧ Hid (∀ x ∈ l.take k, ∀ c ∈ x.data.toList, c ≠ b)) (fun i => l.length - (intOf i).toNat)
      case atStart => exact ⟨0, Nat.zero_le _, rfl, Lib.hid (by simp)⟩
      case round =>
        obtain ⟨k, hk, rfl, hA⟩ := hrel
        by_cases hlt : k < l.length
        · obtain ⟨bk, off, rfl, hbk, hc0⟩ := hcell.out k hlt
          have hxs := hsz.out k hlt
          have hnx : Hid ((∀ c ∈ (l[k]).data.toList, c ≠ b) → ∀ x ∈ l.take (k + 1), ∀ c ∈ x.data.toList, c ≠ b) := Lib.hid (fun h x hx => by
            rw [List.take_add_one, List.getElem?_eq_getElem hlt] at hx
            rcases List.mem_append.1 hx with hx | hx
            · exact hA.out x hx
            · have : x = l[k] := by simpa using hx
              rw [this]; exact h)
          generalize l[k] = x at hc0 hxs hnx
          clear hA
          go_wp2_with fail
          go_loop [8] (fun i => ∃ m : Nat, m ≤ x.size ∧ i = .int .i64 m ∧ Hid (∀ c ∈ x.data.toList.take m, c ≠ b)) (fun i => x.size - (intOf i).toNat)
          case atStart => exact ⟨0, Nat.zero_le _, rfl, Lib.hid (by simp)⟩
          case round =>
            obtain ⟨m, hm, rfl, hB⟩ := hrel
            by_cases hmt : m < x.size
            · have hg := Lib.data_getElem? x m hmt
              by_cases he : x[m] = b
              · have he2 : ((x[m]'hmt).toNat : Int) = (b.toNat : Int) := by rw [he]
                clear hg he hB
                go_wp2_with fail
                refine (awake_any _).mono ?_
                rintro e w6 ⟨rfl, hb6⟩
                go_wp2
                go_ret
                exact ⟨rfl, hb6⟩
              · have he2 : ¬ ((x[m]'hmt).toNat : Int) = (b.toNat : Int) := by
                  intro h
                  exact he (by rw [← UInt8.toNat_inj]; exact_mod_cast h)
                have hB2 : Hid (∀ c ∈ x.data.toList.take (m + 1), c ≠ b) := Lib.hid (fun c hc => by
                  rw [List.take_add_one, hg] at hc
                  rcases List.mem_append.1 hc with hc | hc
                  · exact hB.out c hc
                  · have : c = x[m] := by simpa using hc
                    rw [this]; exact he)
                clear hg he hB
                go_wp2
                go_round
                case rel => exact ⟨m + 1, by omega, by go_num, hB2⟩
                case measure => simp [intOf]; omega
            · obtain rfl : m = x.size := by omega
              have hA2 : Hid (∀ x ∈ l.take (k + 1), ∀ c ∈ x.data.toList, c ≠ b) := Lib.hid (hnx.out (by
                have := hB.out
                rwa [List.take_of_length_le (by rw [← Lib.size_eq]; exact Nat.le_refl _)] at this))
              clear hB hnx
              go_wp2
              go_round
              case rel => exact ⟨k + 1, by omega, by go_num, hA2⟩
              case measure => simp [intOf]; omega
        · obtain rfl : k = l.length := by omega
          have hall := hA.out
          rw [List.take_length] at hall
          have hpt2 := fun h => hpt.out h hall
          clear hall hA hpt
          replace hpt2 := Lib.hid hpt2
          have hcv1 := hcv.out w.heap.size (w.alloc (.cells #[.int .u8 (b.toNat : Int)] 5)) (World.cell?_alloc_new w _ _ 0)
          have hbA : Below w.heap.size w (w.alloc (.cells #[.int .u8 (b.toNat : Int)] 5)) := (Below.refl _ _).alloc (Nat.le_refl _) _
          go_wp2_with fail
          generalize w.alloc (.cells #[.int .u8 (b.toNat : Int)] 5) = w2 at hbA hcv1 ⊢
          refine (hj.out _ (ht.below hbA) hbA.size).mono ?_
          rintro e w3 ⟨rfl, hb3⟩
          have hbA := hbA.trans (hb3.mono hbA.size)
          clear hb3 hcv1 hcv hj hadd
          go_wp2_with fail
          refine (of_any J false _ (by omega)).mono ?_
          rintro e w4 ⟨v4, rfl, hT4, hb4⟩
          have hbA := hbA.trans (hb4.mono hbA.size)
          clear hb4
          go_wp2_with fail
          refine (part_any (ofL J false) b _ _ _ hT4 (Nat.le_refl _) (by rw [ofL_length]; omega)).mono ?_
          rintro e w5 ⟨v5, rfl, hP, hb5⟩
          have hbA := hbA.trans (hb5.mono hbA.size)
          have hP := hP.read
          clear hb5 hT4
          by_cases h0 : l.length = 0
          · have hJ := hJ0.out (List.eq_nil_of_length_eq_zero h0)
            subst hJ
            have hem : (⟨#[]⟩ : ByteArray).toList.isEmpty = true := by decide +kernel
            have h01 : ((l.length : Nat) : Int) = 0 := by omega
            obtain ⟨A5, c5, rfl, _, _⟩ := hP.form
            clear hP hpt2 hJ0 h0 hcell hsz
            go_wp2_with fail
            refine (awake_any _).mono ?_
            rintro e w6 ⟨rfl, hb6⟩
            go_wp2
            go_ret
            exact ⟨rfl, hbA.trans (hb6.mono hbA.size)⟩
          · have hne : l ≠ [] := fun h => h0 (by rw [h]; rfl)
            rw [hpt2.out hne] at hP
            obtain ⟨A5, c5, rfl, hc5, hcm5⟩ := hP.form
            rw [List.length_map] at hc5 ⊢
            unfold maxLen at hcm5
            have h01 : ¬ ((l.length : Nat) : Int) = 0 := by omega
            have h02 : (((l.length : Nat) : Int) == 0) = false := by simpa using h01
            have hP5 : Hid (∀ k (hk : k < l.length), ∃ (b off : Nat) (u : Value), A5 = some ⟨b, off, none⟩ ∧ b < w5.heap.size ∧ w5.cell? ⟨b, off + k, none⟩ = some u ∧ Tx w5 w5.heap.size u (ofL l[k] false)) := Lib.hid (fun k hk => by
              obtain ⟨b, off, u, h1, h2, h3, h4⟩ := hP.at_ (k := k) (by rw [List.length_map]; exact hk)
              rw [List.getElem_map] at h4
              exact ⟨b, off, u, h1, h2, h3, h4⟩)
            clear hP hpt2 hJ0 h0 hne
            go_wp2_with fail
            go_loopw [11] (fun i wr => ∃ k : Nat, k ≤ l.length ∧ i = .int .i64 k ∧ Below w5.heap.size w5 wr) (fun i _ => l.length - (intOf i).toNat)
            case atStart => exact ⟨0, Nat.zero_le _, rfl, Below.refl _ _⟩
            case round =>
              obtain ⟨k, hk, rfl, hb⟩ := hrel
              have hsz5 := hb.size
              by_cases hlt : k < l.length
              · obtain ⟨b1, o1, rfl, hb1l, hc0⟩ := hcell.out k hlt
                obtain ⟨b2, o2, u, rfl, hb2l, hc2, hT⟩ := hP5.out k hlt
                have hxs := hsz.out k hlt
                have hbB := hbA.trans (hb.mono hbA.size)
                have g0 : wr.cell? ⟨b1, o1 + k, none⟩ = some (.string l[k]) := (hbB.cell (p := ⟨b1, o1 + k, none⟩) hb1l).trans hc0
                have g2 : wr.cell? ⟨b2, o2 + k, none⟩ = some u := (hb.cell (p := ⟨b2, o2 + k, none⟩) hb2l).trans hc2
                have hu : Tx wr w5.heap.size u (ofL l[k] false) := hT.below hb
                have hpl := plain_of l[k] false
                generalize l[k] = x at g0 hu hxs hpl
                have hol : (ofL x false).length ≤ 100 := by rw [ofL_length]; exact hxs
                generalize ofL x false = m at hu hpl hol
                obtain ⟨Au, cu, rfl, _, _⟩ := hu.form
                have hbk := Nat.lt_of_lt_of_le hb1l hbB.size
                have hbk2 := Nat.lt_of_lt_of_le hb2l hsz5
                have i0 : (0 : Int) ≤ (k : Int) := Int.natCast_nonneg _
                have i1 : (k : Int) < (l.length : Int) := by omega
                clear hc0 hc2 hT
                go_wp2_with fail
                go_region_held3 (fun w' => w'.cell? ⟨b1, o1 + k, none⟩ = some (.string x) ∧ w'.cell? ⟨b2, o2 + k, none⟩ = some (.slice Au m.length cu))
                  (first
                    | go_keep
                    | exact ⟨(hb1.cell (p := ⟨b1, o1 + k, none⟩) hbk).trans g0, (hb1.cell (p := ⟨b2, o2 + k, none⟩) hbk2).trans g2⟩)
                  ((go_at_call 17; refine (plain_any m _ _ _ (show Tx wr.drew wr.heap.size _ m from hu.more hsz5) (Nat.le_refl _) (by omega)).mono ?_; rintro e w1 ⟨rfl, hb1'⟩; rw [hpl]; have hb1 : Below wr.heap.size wr w1 := ((Below.refl _ wr).drew).trans hb1'))
                have hbC : Below w5.heap.size w5 w1 := hb.trans (hb1.mono hsz5)
                clear hb hb1 hb1' hu g0 g2 hbB
                go_wp2
                go_roundw
                case rel => exact ⟨k + 1, by omega, by go_num, hbC⟩
                case measure => simp [intOf]; omega
              · obtain rfl : k = l.length := by omega
                clear hP5 hcell hsz
                go_wp2_with fail
                refine (awake_any _).mono ?_
                rintro e w6 ⟨rfl, hb6⟩
                have hbB := hbA.trans (hb.mono hbA.size)
                go_wp2
                go_ret
                exact ⟨rfl, hbB.trans (hb6.mono hbB.size)⟩
    · clear hf
      go_enter Tryd.func5, Tryd.ntmps5
      go_wp2_with fail
      refine hfp.mono ?_
      rintro e w1 ⟨rfl, rfl⟩
      go_wp2_with fail
      refine (awake_any _).mono ?_
      rintro e w6 ⟨rfl, hb6⟩
      go_wp2
      go_ret
      exact ⟨rfl, hb6⟩
end Go.Proofs.YtmoihdddmeienaaDoor
