/-
  The reference's Join and Part answer the same texts. Conditions: at most a million bytes (Join: ten million in all).
-/
import Derived.Test.YtdiiimcoannnnaaDoorMkJoin
namespace Go.Proofs.YtdiiimcoannnnaaDoor
open Go Go.RowKit

set_option maxHeartbeats 1000000 in
set_option maxRecDepth 100000 in
theorem rjoin_any (ls : List (List Ch)) (v : Value) (B : Nat) (w : World) (ht : Txs w B v ls) (hB : B ≤ w.heap.size) (_hl : ls.length ≤ 1000000) (hs : ls.flatten.length ≤ 10000000) :
    Calls Tryd.prog 19 #[v] w fun e w' => ∃ v', e = .returned v' ∧ Tx w' w'.heap.size v' ls.flatten ∧ Below w.heap.size w w' := by
  obtain ⟨A, c, rfl, hc, hcm⟩ := ht.form
  unfold maxLen at hcm
  obtain ⟨i0, hi, hz0, hz1, hz2⟩ := info_parts infoRCh
  go_enter Tryd.func19, Tryd.ntmps19
  go_wp2
  go_loopw [3, 4] (fun o i wr => ∃ k : Nat, k ≤ ls.length ∧ i = .int .i64 k ∧ Below w.heap.size w wr ∧ ∃ acc : List Ch, wr.ownsRow w.heap.size 65 2 o acc.length (cellsCh acc) ∧ Hid (acc = (ls.take k).flatten)) (fun _ i _ => ls.length - (intOf i).toNat)
  case atStart => exact ⟨0, Nat.zero_le _, rfl, Below.refl _ _, [], World.ownsRow_nil _ _ _ _, rfl⟩
  case round =>
    obtain ⟨j, hj, rfl, hb, acc, hown, hacc⟩ := hrel
    have hsz := hb.size
    by_cases hlt2 : j < ls.length
    · obtain ⟨blk, off, u, rfl, hblk, g0, hu⟩ := ((ht.more hB).below hb).at_ hlt2
      obtain ⟨A1, c1, rfl, _, _⟩ := hu.form
      have hsn := Lib.hid (lensum_snoc ls j hlt2)
      have hle := lensum_le ls (j + 1)
      rw [hsn.out, List.length_append, ← hacc.out] at hle
      have hle2 : acc.length + ls[j].length ≤ 10000000 := by omega
      clear hle
      go_wp2_with (at_builtin; refine wpList_append_sl _ rfl _ _ 25 rfl w.heap.size 65 i0 (.agg #[.int .u8 0, .bool false]) 2 2 Tryd.underlying25 hi hz0 hz1 hz2 rfl (by decide) _ _ _ rfl hown _ _ _ _ rfl hu (cellsCh_one _) ?c3 ?c4 ?c5 ?_)
      case c3 => simp only [maxLen]; omega
      case c4 => omega
      case c5 => exact hsz
      intro v' w2 hown2 hgrow
      have hb2 : Below w.heap.size w w2 := hb.grown hgrow hsz (fun g h => (hown.lt g h).1)
      have hown3 : w2.ownsRow w.heap.size 65 2 v' (acc ++ ls[j]).length (cellsCh (acc ++ ls[j])) := by rw [cellsCh_append, List.length_append]; exact hown2
      clear hown hown2 hgrow hb
      go_wp2
      go_roundw
      case rel => exact ⟨j + 1, by omega, by go_num, hb2, _, hown3, by rw [hsn.out, ← hacc.out]; rfl⟩
      case measure => simp [intOf]; omega
    · have ho : Tx wr wr.heap.size u3 ls.flatten := by
        have e := hacc.out
        rw [List.take_of_length_le (by omega)] at e
        rw [← e]
        exact Sl.of_own hown
      clear hown
      go_wp2
      go_ret
      exact ⟨_, rfl, ho, hb⟩

theorem infoRSl : (Tryd.prog.info? 25).map (fun i => (i.zero, i.size, i.bytes)) = some (some (.slice none 0 0), 1, 24) := by kernel_rfl

/-- What stands in the reference's two slices: the texts that are done, and the one that grows; no done one shares its block. -/
def Parts (w : World) (base : Nat) (o nw : Value) (ls : List (List Ch)) (now : List Ch) : Prop :=
  ∃ vs : List Value, w.ownsRow base 25 1 o ls.length vs ∧ (∀ u ∈ vs, u.oneCell' = true) ∧
    (∀ (i : Nat) (l : List Ch), ls[i]? = some l → ∃ u, vs[i]? = some u ∧ w.ownsRow base 65 2 u l.length (cellsCh l) ∧ (u.ownBlock = none ∨ u.ownBlock ≠ nw.ownBlock)) ∧
    w.ownsRow base 65 2 nw now.length (cellsCh now)
theorem Parts.start (w : World) (base : Nat) : Parts w base (.slice none 0 0) (.slice none 0 0) [] [] :=
  ⟨[], World.ownsRow_nil _ _ _ _, by simp, by simp, World.ownsRow_nil _ _ _ _⟩
/-- The growing text grew: W is the world at the append. -/
theorem Parts.grow {W w1 : World} {base gg cap : Nat} {o nw : Value} {ls : List (List Ch)} {now : List Ch} {x : UInt8} {q : Bool} {H : Nat} (h : Parts W base o nw ls now)
    (hown : w1.ownsRow base 65 2 (.slice (some ⟨gg, 0, none⟩) (now.length + 1) cap) (now.length + 1) (cellsCh now ++ [.int .u8 (x.toNat : Int), .bool q])) (hg : W.grownBy w1 nw.ownBlock)
    (hat : nw.ownBlock = some gg ∨ gg = H) (hH : W.heap.size ≤ H) : Parts w1 base o (.slice (some ⟨gg, 0, none⟩) (now.length + 1) cap) ls (now ++ [(x, q)]) := by
  obtain ⟨vs, h1, h2, h3, h4⟩ := h
  refine ⟨vs, h1.kept hg (own_own_ne h1 h4 (by decide)), h2, fun i l hl => ?_, by rw [cellsCh_append, List.length_append]; exact hown⟩
  obtain ⟨u, hu, ho, hne⟩ := h3 i l hl
  refine ⟨u, hu, ho.kept hg hne, ?_⟩
  rcases hne with hne | hne
  · exact .inl hne
  · rcases hat with hat | hat
    · right; rw [hat] at hne; exact hne
    · right
      intro he
      have := (ho.lt gg he).2
      omega
/-- The growing text is done: W is the world at the append. -/
theorem Parts.done {W w1 : World} {base : Nat} {o o' : Value} {A : Option Addr} {n c : Nat} {ls : List (List Ch)} {now : List Ch} (h : Parts W base o (.slice A n c) ls now) {vs : List Value}
    (hvs : W.ownsRow base 25 1 o ls.length vs) (h2 : ∀ u ∈ vs, u.oneCell' = true) (h3 : ∀ (i : Nat) (l : List Ch), ls[i]? = some l → ∃ u, vs[i]? = some u ∧ W.ownsRow base 65 2 u l.length (cellsCh l))
    (hown : w1.ownsRow base 25 1 o' (ls.length + 1) (vs ++ [.slice A n c])) (hg : W.grownBy w1 o.ownBlock) :
    Parts w1 base o' (.slice none 0 0) (ls ++ [now]) [] ∧ OwnTxs w1 base 25 65 o' (ls ++ [now]) := by
  obtain ⟨_, _, _, _, h4⟩ := h
  have ho := own_texts_snoc (by decide) hvs h2 h3 h4 hown hg
  refine ⟨?_, ho⟩
  obtain ⟨vs', k1, k2, k3⟩ := ho
  refine ⟨vs', k1, k2, fun i l hl => ?_, World.ownsRow_nil _ _ _ _⟩
  obtain ⟨u, hu, ht⟩ := k3 i l hl
  refine ⟨u, hu, ht, ?_⟩
  cases hb : u.ownBlock
  · exact .inl rfl
  · right; simp [Value.ownBlock]
theorem Parts.alloc {w : World} {base : Nat} {o nw : Value} {ls : List (List Ch)} {now : List Ch} (h : Parts w base o nw ls now) (ob : Obj) : Parts (w.alloc ob) base o nw ls now := by
  obtain ⟨vs, h1, h2, h3, h4⟩ := h
  refine ⟨vs, h1.alloc _, h2, fun i l hl => ?_, h4.alloc _⟩
  obtain ⟨u, hu, ho, hne⟩ := h3 i l hl
  exact ⟨u, hu, ho.alloc _, hne⟩
theorem Parts.parts {w : World} {base : Nat} {o nw : Value} {ls : List (List Ch)} {now : List Ch} (h : Parts w base o nw ls now) :
    ∃ vs : List Value, w.ownsRow base 25 1 o ls.length vs ∧ (∀ u ∈ vs, u.oneCell' = true) ∧ (∀ (i : Nat) (l : List Ch), ls[i]? = some l → ∃ u, vs[i]? = some u ∧ w.ownsRow base 65 2 u l.length (cellsCh l)) ∧ w.ownsRow base 65 2 nw now.length (cellsCh now) := by
  obtain ⟨vs, h1, h2, h3, h4⟩ := h
  refine ⟨vs, h1, h2, fun i l hl => ?_, h4⟩
  obtain ⟨u, hu, ho, _⟩ := h3 i l hl
  exact ⟨u, hu, ho⟩
theorem partA_at {b : UInt8} {now l : List Ch} {k : Nat} (h : k < l.length) : partA b now (l.drop k) = if hit b l[k] then now :: partA b [] (l.drop (k + 1)) else partA b (now ++ [l[k]]) (l.drop (k + 1)) := by
  rw [List.drop_eq_getElem_cons h, partA]

set_option maxHeartbeats 1000000 in
set_option maxRecDepth 100000 in
theorem rpart_any (l : List Ch) (b : UInt8) (v : Value) (B : Nat) (w : World) (ht : Tx w B v l) (hB : B ≤ w.heap.size) (hl : l.length ≤ 1000000) :
    Calls Tryd.prog 21 #[v, .int .u8 (b.toNat : Int)] w fun e w' => ∃ v', e = .returned v' ∧ OwnTxs w' w.heap.size 25 65 v' (partL b l) ∧ Below w.heap.size w w' := by
  obtain ⟨A, c, rfl, hc, hcm⟩ := ht.form
  unfold maxLen at hcm
  obtain ⟨i0, hi, hz0, hz1, hz2⟩ := info_parts infoRSl
  obtain ⟨j0, ji, jz0, jz1, jz2⟩ := info_parts infoRCh
  go_enter Tryd.func21, Tryd.ntmps21
  go_wp2
  go_loopw [5, 6, 7] (fun o nw i wr => ∃ (k : Nat) (ls : List (List Ch)) (now : List Ch), k ≤ l.length ∧ ls.length + now.length ≤ k ∧ i = .int .i64 k ∧ Below w.heap.size w wr ∧ Parts wr w.heap.size o nw ls now ∧ Hid (partL b l = ls ++ partA b now (l.drop k))) (fun _ _ i _ => l.length - (intOf i).toNat)
  case atStart => exact ⟨0, [], [], Nat.zero_le _, by simp, rfl, Below.refl _ _, Parts.start _ _, rfl⟩
  case round =>
    obtain ⟨k, ls, now, hk, hlen, rfl, hb, hP, hp⟩ := hrel
    have hsz := hb.size
    obtain ⟨vs, hvs, hv1, hel, hnow⟩ := hP.parts
    obtain ⟨An, nn, cn, hnf⟩ := own_form hnow
    subst hnf
    by_cases hlt : k < l.length
    · obtain ⟨blk, off, rfl, hblk, g0, g1⟩ := ((ht.more hB).below hb).at_ hlt
      have hpa := Lib.hid (partA_at (b := b) (now := now) hlt)
      have hB0 := Nat.lt_of_lt_of_le hblk hsz
      generalize l[k] = z at g0 g1 hpa
      obtain ⟨x, q⟩ := z
      simp only at g0 g1
      by_cases hx : x = b
      · subst hx
        cases q
        · have hpn : Hid (partL x l = (ls ++ [now]) ++ partA x [] (l.drop (k + 1))) := by
            have e := hp.out
            rw [hpa.out, if_pos (by simp [hit])] at e
            rw [List.append_assoc]
            exact e
          have hW := hP.alloc (.cells #[.slice An nn cn] 25)
          obtain ⟨ws, hws, hw1, hel2, _⟩ := hW.parts
          go_wp2_with (at_builtin; refine wpList_append_own _ rfl _ _ 40 rfl w.heap.size 25 i0 (.slice none 0 0) 1 24 Tryd.underlying40 hi hz0 hz1 hz2 rfl (by decide) _ _ _ rfl hws ⟨wr.heap.size, 0, none⟩ 1 1 [.slice An nn cn] rfl rfl (new_cells wr #[.slice An nn cn] _) ?c2 ?c3 ?c4 ?c5 ?_)
          case c2 => simp [Value.oneCell']
          case c3 => simp only [maxLen]; omega
          case c4 => omega
          case c5 => first | omega | (simp; omega)
          intro o' w1 hown1 hgrow _
          have hb1 : Below w.heap.size w w1 := (hb.alloc hsz _).grown hgrow (by simp; omega) (fun g h => (hws.lt g h).1)
          obtain ⟨hP1, hO1⟩ := hW.done hws hw1 hel2 hown1 hgrow
          clear hW hP hown1 hgrow hb hvs hel hnow hws hel2 hO1
          go_wp2
          go_roundw
          case rel => exact ⟨k + 1, ls ++ [now], [], by omega, by rw [List.length_append, List.length_singleton]; simp; omega, by go_num, hb1, hP1, hpn.out⟩
          case measure => simp [intOf]; omega
        · have hmiss : Hid (hit x (x, true) = false) := by simp [hit, Hid]
          have hW := hP.alloc (.cells #[.int .u8 (x.toNat : Int), .bool true] 65)
          go_wp2_with (at_builtin; refine wpList_append_lies _ rfl _ _ 25 rfl w.heap.size 65 j0 (.agg #[.int .u8 0, .bool false]) 2 2 Tryd.underlying25 ji jz0 jz1 jz2 rfl (by decide) _ _ _ rfl (hnow.alloc _) ⟨wr.heap.size, 0, none⟩ 1 1 [.int .u8 (x.toNat : Int), .bool true] rfl rfl (new_cells wr #[.int .u8 (x.toNat : Int), .bool true] _) ?c2 (by decide) ?c3 ?c4 ?c5 (wr.heap.size + 1) ?c6 ?_)
          case c2 => simp [Value.oneCell']
          case c3 => simp only [maxLen]; omega
          case c4 => omega
          case c5 => first | omega | (simp; omega)
          case c6 => first | rfl | simp
          intro gg cap w1 hown1 hgrow hat _
          have hb1 : Below w.heap.size w w1 := (hb.alloc hsz _).grown hgrow (by simp; omega) (fun g h => (hnow.lt g h).1)
          have hP1 := hW.grow hown1 hgrow hat (by simp)
          have hpn : Hid (partL x l = ls ++ partA x (now ++ [(x, true)]) (l.drop (k + 1))) := by
            have e := hp.out
            rw [hpa.out, if_neg (by rw [hmiss.out]; decide)] at e
            exact e
          clear hW hP hown1 hgrow hat hb hvs hel hnow
          go_wp2
          go_roundw
          case rel => exact ⟨k + 1, ls, now ++ [(x, true)], by omega, by rw [List.length_append, List.length_singleton]; omega, by go_num, hb1, hP1, hpn.out⟩
          case measure => simp [intOf]; omega
      · have hn : ((x.toNat : Int) == (b.toNat : Int)) = false := by
          rw [beq_eq_false_iff_ne]; intro h; exact hx (UInt8.toNat.inj (by omega))
        have hmiss : Hid (hit b (x, q) = false) := by simp [hit, hx, Hid]
        clear hx
        have hW := hP.alloc (.cells #[.int .u8 (x.toNat : Int), .bool q] 65)
        go_wp2_with (at_builtin; refine wpList_append_lies _ rfl _ _ 25 rfl w.heap.size 65 j0 (.agg #[.int .u8 0, .bool false]) 2 2 Tryd.underlying25 ji jz0 jz1 jz2 rfl (by decide) _ _ _ rfl (hnow.alloc _) ⟨wr.heap.size, 0, none⟩ 1 1 [.int .u8 (x.toNat : Int), .bool q] rfl rfl (new_cells wr #[.int .u8 (x.toNat : Int), .bool q] _) ?c2 (by decide) ?c3 ?c4 ?c5 (wr.heap.size + 1) ?c6 ?_)
        case c2 => simp [Value.oneCell']
        case c3 => simp only [maxLen]; omega
        case c4 => omega
        case c5 => first | omega | (simp; omega)
        case c6 => first | rfl | simp
        intro gg cap w1 hown1 hgrow hat _
        have hb1 : Below w.heap.size w w1 := (hb.alloc hsz _).grown hgrow (by simp; omega) (fun g h => (hnow.lt g h).1)
        have hP1 := hW.grow hown1 hgrow hat (by simp)
        have hpn : Hid (partL b l = ls ++ partA b (now ++ [(x, q)]) (l.drop (k + 1))) := by
          have e := hp.out
          rw [hpa.out, if_neg (by rw [hmiss.out]; decide)] at e
          exact e
        clear hW hP hown1 hgrow hat hb hvs hel hnow
        go_wp2
        go_roundw
        case rel => exact ⟨k + 1, ls, now ++ [(x, q)], by omega, by rw [List.length_append, List.length_singleton]; omega, by go_num, hb1, hP1, hpn.out⟩
        case measure => simp [intOf]; omega
    · have hpn : Hid (partL b l = ls ++ [now]) := by
        have e := hp.out
        rw [List.drop_of_length_le (by omega)] at e
        exact e
      have hW := hP.alloc (.cells #[.slice An nn cn] 25)
      obtain ⟨ws, hws, hw1, hel2, _⟩ := hW.parts
      go_wp2_with (at_builtin; refine wpList_append_own _ rfl _ _ 40 rfl w.heap.size 25 i0 (.slice none 0 0) 1 24 Tryd.underlying40 hi hz0 hz1 hz2 rfl (by decide) _ _ _ rfl hws ⟨wr.heap.size, 0, none⟩ 1 1 [.slice An nn cn] rfl rfl (new_cells wr #[.slice An nn cn] _) ?c2 ?c3 ?c4 ?c5 ?_)
      case c2 => simp [Value.oneCell']
      case c3 => simp only [maxLen]; omega
      case c4 => omega
      case c5 => first | omega | (simp; omega)
      intro o' w1 hown1 hgrow _
      have hb1 : Below w.heap.size w w1 := (hb.alloc hsz _).grown hgrow (by simp; omega) (fun g h => (hws.lt g h).1)
      obtain ⟨hP1, hO1⟩ := hW.done hws hw1 hel2 hown1 hgrow
      rw [← hpn.out] at hO1
      clear hW hP hown1 hgrow hb hvs hel hnow hws hel2 hP1
      go_wp2
      go_ret
      exact ⟨_, rfl, hO1, hb1⟩
end Go.Proofs.YtdiiimcoannnnaaDoor
