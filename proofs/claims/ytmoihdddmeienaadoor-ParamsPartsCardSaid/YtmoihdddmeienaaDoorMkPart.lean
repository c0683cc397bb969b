/-
  marks.Part answers what stands between the bare bytes b. Conditions: at most a million bytes.
-/
import Derived.Test.YtmoihdddmeienaaDoorMkTexts
import Derived.Test.YtmoihdddmeienaaDoorMkFind
namespace Go.Proofs.YtmoihdddmeienaaDoor
open Go Go.RowKit

def partA (b : UInt8) : List Ch → List Ch → List (List Ch)
  | now, [] => [now]
  | now, c :: r => if hit b c then now :: partA b [] r else partA b (now ++ [c]) r
def partL (b : UInt8) (l : List Ch) : List (List Ch) := partA b [] l

theorem partA_find (b : UInt8) : ∀ (l now : List Ch), partA b now l = if findCh l b < l.length then (now ++ l.take (findCh l b)) :: partA b [] (l.drop (findCh l b + 1)) else [now ++ l]
  | [], now => by simp [partA, findCh]
  | c :: r, now => by
    unfold findCh
    rw [partA, List.findIdx_cons]
    by_cases hc : hit b c
    · simp [hc]
    · have := partA_find b r (now ++ [c])
      unfold findCh at this
      simp only [hc, cond_false, List.length_cons, Nat.add_lt_add_iff_right, List.take_succ_cons, List.drop_succ_cons]
      rw [this]
      simp
theorem partL_hit {b : UInt8} {l : List Ch} (h : findCh l b < l.length) : partL b l = l.take (findCh l b) :: partL b (l.drop (findCh l b + 1)) := by
  have := partA_find b l []
  rw [if_pos h] at this
  exact this
theorem partL_none {b : UInt8} {l : List Ch} (h : l.length ≤ findCh l b) : partL b l = [l] := by
  have := partA_find b l []
  rw [if_neg (by omega)] at this
  exact this
theorem partA_length (b : UInt8) : ∀ (l now : List Ch), (partA b now l).length ≤ l.length + 1
  | [], _ => by simp [partA]
  | c :: r, now => by
    rw [partA]
    split
    · have := partA_length b r []
      simp only [List.length_cons]; omega
    · have := partA_length b r (now ++ [c])
      simp only [List.length_cons]; omega

theorem infoSl : (Tryd.prog.info? 32).map (fun i => (i.zero, i.size, i.bytes)) = some (some (.slice none 0 0), 1, 24) := by kernel_rfl
theorem elemCh : Tryd.prog.underlying 32 = some (.slice (Tryd.prog.elem 32)) := by kernel_rfl
theorem sizeCh (W : World) : (sizeOf (Tryd.prog.elem 32)).run Tryd.prog W = .ok 2 W := by kernel_rfl

theorem fresh_any (l : List Ch) (v : Value) (B : Nat) (w : World) (ht : Tx w B v l) (hl : l.length ≤ 1000000) :
    Calls Tryd.prog 27 #[v] w fun e w' => ∃ v', e = .returned v' ∧ w'.ownsRow w.heap.size 55 2 v' l.length (cellsCh l) ∧ Below w.heap.size w w' := by
  obtain ⟨i0, hi, hz0, hz1, hz2⟩ := info_parts infoCh
  go_enter Tryd.func27, Tryd.ntmps27
  go_wp2_with (at_builtin; refine wpList_append_sl _ rfl _ _ 32 rfl w.heap.size 55 i0 (.agg #[.int .u8 0, .bool false]) 2 2 Tryd.underlying32 hi hz0 hz1 hz2 rfl (by decide) _ _ _ rfl (World.ownsRow_nil _ _ _ _) _ _ _ _ rfl ht (cellsCh_one _) ?c3 ?c4 ?c5 ?_)
  case c3 => simp only [maxLen]; omega
  case c4 => omega
  case c5 => exact Nat.le_refl _
  intro v' w1 hown1 hgrow
  have hb1 : Below w.heap.size w w1 := (Below.refl _ _).grown hgrow (Nat.le_refl _) (by simp [Value.ownBlock])
  clear hgrow
  go_wp2
  go_ret
  exact ⟨_, rfl, hown1, hb1⟩

theorem one_of_own {w : World} {base : Nat} {e : TypeId} {size n : Nat} {u : Value} {xs : List Value} (h : w.ownsRow base e size u n xs) : ∀ x ∈ [u], x.oneCell' = true := by
  intro x hx
  rw [List.mem_singleton.1 hx]
  rcases h.2 with ⟨rfl, _⟩ | ⟨g, cap, cur, rfl, _⟩ <;> rfl
theorem own_form {w : World} {base : Nat} {e : TypeId} {size n : Nat} {u : Value} {xs : List Value} (h : w.ownsRow base e size u n xs) : ∃ A m c, u = .slice A m c := by
  rcases h.2 with ⟨rfl, _⟩ | ⟨g, cap, cur, rfl, _⟩ <;> exact ⟨_, _, _, rfl⟩
def sliceLen : Value → Nat | .slice _ n _ => n | _ => 0

set_option maxHeartbeats 1000000 in
set_option maxRecDepth 100000 in
theorem part_any (l : List Ch) (b : UInt8) (v : Value) (B : Nat) (w : World) (ht : Tx w B v l) (hB : B ≤ w.heap.size) (hl : l.length ≤ 1000000) :
    Calls Tryd.prog 16 #[v, .int .u8 (b.toNat : Int)] w fun e w' => ∃ v', e = .returned v' ∧ OwnTxs w' w.heap.size 32 55 v' (partL b l) ∧ Below w.heap.size w w' := by
  obtain ⟨i0, hi, hz0, hz1, hz2⟩ := info_parts infoSl
  go_enter Tryd.func16, Tryd.ntmps16
  go_wp2_with fail
  refine (find_any l b v B _ ht hB).mono ?_
  rintro e w1 ⟨rfl, hb1⟩
  go_wp2_with fail
  go_loopw [0, 5, 6] (fun tv o i wr => ∃ (cur : List Ch) (ls : List (List Ch)) (n : Int), Tx wr w.heap.size tv cur ∧ OwnTxs wr w.heap.size 32 55 o ls ∧ i = .int .i64 n ∧ Hid (n = findInt cur b) ∧ Below w.heap.size w wr ∧ Hid (partL b l = ls ++ partL b cur) ∧ ls.length + cur.length ≤ l.length) (fun tv _ _ _ => sliceLen tv)
  case atStart => exact ⟨l, [], _, (ht.more hB).below hb1, OwnTxs.nil_ _ _ _ _, rfl, rfl, hb1, rfl, by simp⟩
  case round =>
    clear ht hb1
    obtain ⟨cur, ls, n, ht, ho, rfl, hn, hb, hp, hlen⟩ := hrel
    obtain ⟨A, c, rfl, hc, hcm⟩ := ht.form
    unfold maxLen at hcm
    have hsz := hb.size
    by_cases hf : findCh cur b < cur.length
    · have hn2 : n = (findCh cur b : Int) := by rw [hn.out, findInt, if_pos hf]
      have hpart := Lib.hid (partL_hit hf)
      generalize findCh cur b = m at hf hn2 hpart
      subst hn2
      obtain ⟨v1, hr1, ht1⟩ := cut_h elemCh sizeCh ht (hi := m) (by omega)
      obtain ⟨v2, hr2, ht2⟩ := cut_l elemCh sizeCh ht (lo := m + 1) (by omega)
      have hr2' : ∀ (W : World) (kl : IntKind), (Instr.slice 32 (.slice A cur.length c) (some (.int kl ((m : Int) + 1))) none none).run Tryd.prog W = .ok v2 W := hr2
      clear hn hr2
      go_wp2_with fail
      refine (fresh_any (cur.take m) v1 _ _ ht1 (by rw [List.length_take]; omega)).mono ?_
      rintro e w2 ⟨u, rfl, hu, hb2⟩
      obtain ⟨Au, nu, cu, rfl⟩ := own_form hu
      have hbw2 : Below w.heap.size w w2 := hb.trans (hb2.mono hsz)
      have hsz2 := hbw2.size
      have ht3 := (ht2.below (hb2.mono hsz))
      obtain ⟨vs, hvs, hv1, hel⟩ := (ho.below hb2).alloc (.cells #[.slice Au nu cu] 32)
      have hu2 := (own_base hu hsz).alloc (.cells #[.slice Au nu cu] 32)
      have hvl := hvs.1
      clear ho ht1 hb2 hb hr1 ht ht2
      go_wp2_with (at_builtin; refine wpList_append_own _ rfl _ _ 39 rfl w.heap.size 32 i0 (.slice none 0 0) 1 24 Tryd.underlying39 hi hz0 hz1 hz2 rfl (by decide) _ _ _ rfl hvs ⟨w2.heap.size, 0, none⟩ 1 1 [.slice Au nu cu] rfl rfl (new_cells w2 #[.slice Au nu cu] _) ?c2 ?c3 ?c4 ?c5 ?_)
      case c2 => exact one_of_own hu2
      case c3 => simp only [maxLen]; omega
      case c4 => omega
      case c5 => first | omega | (simp; omega)
      intro v' w3 hown3 hgrow _
      have hb3 : Below w.heap.size w w3 := (hbw2.alloc hsz2 _).grown hgrow (by simp; omega) (fun g h => (hvs.lt g h).1)
      have ho3 := own_texts_snoc (by decide) hvs hv1 hel hu2 hown3 hgrow
      have ht4 := ht3.below (((Below.refl _ _).alloc hsz2 _).grown hgrow (by simp; omega) (fun g h => (hvs.lt g h).1))
      have hsz3 := hb3.size
      have hbk : Below w.heap.size w2 w3 := ((Below.refl _ _).alloc hsz2 _).grown hgrow (by simp; omega) (fun g h => (hvs.lt g h).1)
      clear hown3 hgrow hvs hv1 hel hu2 hu ht3 hbk
      go_wp2_with fail
      refine (find_any (cur.drop (m + 1)) b v2 w.heap.size _ ht4 hsz3).mono ?_
      rintro e w4 ⟨rfl, hb4⟩
      have hb5 : Below w.heap.size w w4 := hb3.trans (hb4.mono hsz3)
      have ho5 := ho3.below hb4
      have ht5 := ht4.below (hb4.mono hsz3)
      clear ho3 ht4 hb3 hb4 hbw2
      obtain ⟨A2, c2, rfl, hc2, _⟩ := ht5.form
      rw [List.length_drop] at ht5
      go_wp2
      go_roundw
      case rel => exact ⟨cur.drop (m + 1), ls ++ [cur.take m], _, ht5, ho5, rfl, rfl, hb5, by rw [hp.out, hpart.out, List.append_assoc]; rfl, by rw [List.length_append, List.length_drop, List.length_singleton]; omega⟩
      case measure => simp only [sliceLen]; omega
    · have hn2 : n = -1 := by rw [hn.out, findInt, if_neg hf]
      subst hn2
      have hpart := Lib.hid (partL_none (b := b) (l := cur) (by omega))
      clear hn hf
      go_wp2_with fail
      refine (fresh_any cur _ _ _ ht (by omega)).mono ?_
      rintro e w2 ⟨u, rfl, hu, hb2⟩
      obtain ⟨Au, nu, cu, rfl⟩ := own_form hu
      have hbw2 : Below w.heap.size w w2 := hb.trans (hb2.mono hsz)
      have hsz2 := hbw2.size
      obtain ⟨vs, hvs, hv1, hel⟩ := (ho.below hb2).alloc (.cells #[.slice Au nu cu] 32)
      have hu2 := (own_base hu hsz).alloc (.cells #[.slice Au nu cu] 32)
      have hvl := hvs.1
      clear ho hb2 hb ht
      go_wp2_with (at_builtin; refine wpList_append_own _ rfl _ _ 39 rfl w.heap.size 32 i0 (.slice none 0 0) 1 24 Tryd.underlying39 hi hz0 hz1 hz2 rfl (by decide) _ _ _ rfl hvs ⟨w2.heap.size, 0, none⟩ 1 1 [.slice Au nu cu] rfl rfl (new_cells w2 #[.slice Au nu cu] _) ?c2 ?c3 ?c4 ?c5 ?_)
      case c2 => exact one_of_own hu2
      case c3 => simp only [maxLen]; omega
      case c4 => omega
      case c5 => first | omega | (simp; omega)
      intro v' w3 hown3 hgrow _
      have hb3 : Below w.heap.size w w3 := (hbw2.alloc hsz2 _).grown hgrow (by simp; omega) (fun g h => (hvs.lt g h).1)
      have ho3 := own_texts_snoc (by decide) hvs hv1 hel hu2 hown3 hgrow
      rw [← hpart.out, ← hp.out] at ho3
      clear hown3 hgrow hvs hv1 hel hu2 hu
      go_wp2
      go_ret
      exact ⟨_, rfl, ho3, hb3⟩
end Go.Proofs.YtmoihdddmeienaaDoor
