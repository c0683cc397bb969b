/-
  marks.Read answers what a text says, and its error. Conditions: at most a million bytes.
-/
import Derived.Test.YtdiiimcoannnnaaDoorMkRd
import Derived.Test.YtdiiimcoannnnaaDoorMkAppend
import Derived.Test.YtdiiimcoannnnaaDoorMkShelf
import Derived.Test.YtdiiimcoannnnaaDoorMkREscape
namespace Go.Proofs.YtdiiimcoannnnaaDoor
open Go Go.RowKit

theorem byte_at (s : ByteArray) (k : Nat) (h : k < s.size) : s.data.toList[k]? = some s[k] := Lib.data_getElem? s k h
theorem data_len (s : ByteArray) : s.data.toList.length = s.size := (Lib.size_eq s).symm
theorem ofL_cut (s : ByteArray) (a b : Nat) : ofL (s.extract a b) true = ((s.data.toList.drop a).take (b - a)).map fun x => (x, true) := by rw [ofL, Lib.extract_data]

theorem cells_app (acc : List Ch) (x : UInt8) (q : Bool) : cellsCh (acc ++ [(x, q)]) = cellsCh acc ++ [.int .u8 (x.toNat : Int), .bool q] := by rw [cellsCh_append]; rfl

/-- What Read answers: the text and the number of its error. -/
def ReadPost (s : ByteArray) (B : Nat) (w : World) (e : Ending) (w' : World) : Prop :=
  ∃ v, e = .returned (.tuple #[v, .int .i64 (readE s.data.toList)]) ∧ Tx w' w'.heap.size v (readT s.data.toList) ∧ Below B w w'
theorem readPost_none {s : ByteArray} {B : Nat} {w w' : World} (h : rd 0 s.data.toList = none) (hb : Below B w w') : ReadPost s B w (.returned (.tuple #[.slice none 0 0, .int .i64 30])) w' := by
  obtain ⟨h1, h2⟩ := readT_none h
  exact ⟨_, by rw [h2], by rw [h1]; exact Sl.nil_ _ _ _, hb⟩
theorem readPost_some {s : ByteArray} {B : Nat} {w w' : World} {v : Value} {l : List Ch} (h : rd 0 s.data.toList = some l) (ht : Tx w' w'.heap.size v l) (hb : Below B w w') : ReadPost s B w (.returned (.tuple #[v, .int .i64 0])) w' := by
  obtain ⟨h1, h2⟩ := readT_some h
  exact ⟨v, by rw [h2], by rw [h1]; exact ht, hb⟩
theorem Tx.of_ends {w : World} {base : Nat} {e : TypeId} {v : Value} {l : List Ch} (h : w.ownsRow base e 2 v l.length (cellsCh l)) : Tx w w.heap.size v l := Sl.of_own h

set_option maxHeartbeats 1000000 in
set_option maxRecDepth 100000 in
theorem read_any (s : ByteArray) (w : World) (hs : s.size ≤ 1000000) :
    Calls Tryd.prog 28 #[.string s] w (ReadPost s w.heap.size w) := by
  obtain ⟨i0, hi, hz0, hz1, hz2⟩ := info_parts infoCh
  go_enter Tryd.func28, Tryd.ntmps28
  go_wp2
  go_loopw [4, 5] (fun o i wr => ∃ (k : Nat) (acc : List Ch), k ≤ s.size ∧ acc.length ≤ k ∧ i = .int .i64 k ∧ Below w.heap.size w wr ∧ wr.ownsRow w.heap.size 61 2 o acc.length (cellsCh acc) ∧ Hid (Rd 0 s.data.toList acc k)) (fun _ i _ => s.size - (intOf i).toNat)
  case atStart => exact ⟨0, [], Nat.zero_le _, Nat.le_refl _, rfl, Below.refl _ _, World.ownsRow_nil _ _ _ _, Rd.start⟩
  case round =>
    obtain ⟨k, acc, hk, hal, rfl, hb, hown, hrd⟩ := hrel
    have hsz := hb.size
    by_cases hlt : k < s.size
    · have hat := Lib.hid (byte_at s k hlt)
      by_cases h92 : s[k] = 92
      · have e92 : ((s[k].toNat : Int) == 92) = true := by rw [h92]; rfl
        rw [h92] at hat
        have hrd1 := Lib.hid (hrd.out.back hat.out)
        clear h92
        by_cases hend : k + 1 < s.size
        · have hat1 := Lib.hid (byte_at s (k + 1) hend)
          by_cases h10 : s[k + 1] = 10
          · have e10 : ((s[k + 1].toNat : Int) != 10) = false := by rw [h10]; rfl
            rw [h10] at hat1
            have hrd2 := Lib.hid (hrd1.out.feed hat1.out)
            clear h10
            go_wp2
            go_roundw
            case rel => exact ⟨k + 2, acc, by omega, by omega, by go_num, hb, hown, hrd2.out⟩
            case measure => simp [intOf]; omega
          · have e10 : ((s[k + 1].toNat : Int) != 10) = true := by
              rw [bne_iff_ne]; exact u8_ne (n := 10) h10
            have hrd2 := Lib.hid (hrd1.out.byte hat1.out h10)
            clear h10
            go_wp2_with (at_builtin; refine wpList_append_own _ rfl _ _ 22 rfl w.heap.size 61 i0 (.agg #[.int .u8 0, .bool false]) 2 2 Tryd.underlying22 hi hz0 hz1 hz2 rfl (by decide) _ _ _ rfl (hown.alloc _) ⟨wr.heap.size, 0, none⟩ 1 1 [.int .u8 ((s[k + 1]).toNat : Int), .bool true] rfl rfl (new_cells wr #[.int .u8 ((s[k + 1]).toNat : Int), .bool true] _) ?c2 ?c3 ?c4 ?c5 ?_)
            case c2 => simp [Value.oneCell']
            case c3 => simp only [maxLen]; omega
            case c4 => omega
            case c5 => first | omega | (simp; omega)
            intro v' w1 hown1 hgrow _
            have hb1 : Below w.heap.size w w1 := (hb.alloc hsz _).grown hgrow (by simp; omega) (fun g h => (hown.lt g h).1)
            have hown2 : w1.ownsRow w.heap.size 61 2 v' (acc ++ [(s[k + 1], true)]).length (cellsCh (acc ++ [(s[k + 1], true)])) := by rw [cells_app, List.length_append]; exact hown1
            clear hown hown1 hgrow hb
            go_wp2
            go_roundw
            case rel => exact ⟨k + 2, _, by omega, by rw [List.length_append, List.length_singleton]; omega, by go_num, hb1, hown2, hrd2.out⟩
            case measure => simp [intOf]; omega
        · have hnone := Lib.hid (hrd1.out.more1 (by rw [data_len]; omega))
          go_wp2
          go_ret2
          exact readPost_none hnone.out hb
      · have e92 : ((s[k].toNat : Int) == 92) = false := u8_neb (n := 92) h92
        by_cases h39 : s[k] = 39
        · have e39 : ((s[k].toNat : Int) == 39) = true := by rw [h39]; rfl
          rw [h39] at hat
          have hrd1 := Lib.hid (hrd.out.quote hat.out)
          clear h92 h39
          have hix := indexByte (s.extract (k + 1) s.size) 39 wr
          have hd : (s.extract (k + 1) s.size).data.toList = s.data.toList.drop (k + 1) := Lib.extract_to_end s (k + 1)
          rw [hd] at hix
          have hjump := Lib.hid (fun m => @Rd.jump s.data.toList acc (k + 1) m hrd1.out)
          have hun := Lib.hid (@Rd.unclosed s.data.toList acc (k + 1) hrd1.out)
          have hge := Lib.indexByte_ge (s.data.toList.drop (k + 1)) 39
          have HX := Lib.hid hix
          clear hix hd
          have hix : Calls Tryd.prog 43 #[.string (s.extract (k + 1) s.size), .int .u8 39] wr fun e w' => e = .returned (.int .i64 (Lib.indexByte (s.data.toList.drop (k + 1)) 39)) ∧ w' = wr := HX.out
          clear HX
          generalize Lib.indexByte (s.data.toList.drop (k + 1)) 39 = n at hix hjump hun hge
          have HIX := Lib.hid hix
          clear hix
          go_wp2_with (go_at_call 43; refine HIX.out.mono ?_)
          rintro e w1 ⟨rfl, rfl⟩
          by_cases hneg : n = -1
          · subst hneg
            have hnone := Lib.hid (hun.out rfl)
            go_wp2
            go_ret2
            exact readPost_none hnone.out hb
          · obtain ⟨m, rfl⟩ : ∃ m : Nat, n = (m : Int) := ⟨n.toNat, by omega⟩
            obtain ⟨hm, hrd2'⟩ := hjump.out m rfl
            rw [data_len] at hm
            have hrd2 := Lib.hid hrd2'
            clear hrd2' hjump hun hneg HIX
            have hsz2 : (s.extract (k + 1) (k + 1 + m)).size = m := by rw [ByteArray.size_extract]; omega
            have hcut := Lib.hid (ofL_cut s (k + 1) (k + 1 + m))
            have hol := Lib.hid (ofL_length (s.extract (k + 1) (k + 1 + m)) true)
            rw [hsz2] at hol
            have HS2 := Lib.hid hsz2
            clear hsz2
            go_wp2_with fail
            refine (of_any (s.extract (k + 1) (k + 1 + m)) true _ (by rw [HS2.out]; omega)).mono ?_
            rintro e w1 ⟨v1, rfl, ht1, hb1⟩
            have hown1 := own_below hown hb1
            have hb2 : Below w.heap.size w w1 := hb.trans (hb1.mono hsz)
            have hol2 : (ofL (s.extract (k + 1) (k + 1 + m)) true).length ≤ m := Nat.le_of_eq hol.out
            clear hown
            go_wp2_with (at_builtin; refine wpList_append_sl _ rfl _ _ 22 rfl w.heap.size 61 i0 (.agg #[.int .u8 0, .bool false]) 2 2 Tryd.underlying22 hi hz0 hz1 hz2 rfl (by decide) _ _ _ rfl hown1 _ _ _ _ rfl ht1 (cellsCh_one _) ?c3 ?c4 ?c5 ?_)
            case c3 => simp only [maxLen]; omega
            case c4 => omega
            case c5 => exact hb2.size
            intro v' w2 hown2 hgrow
            have hb3 : Below w.heap.size w w2 := hb2.grown hgrow hb2.size (fun g h => (hown1.lt g h).1)
            have hown3 : w2.ownsRow w.heap.size 61 2 v' (acc ++ ((s.data.toList.drop (k + 1)).take m).map (fun b => (b, true))).length (cellsCh (acc ++ ((s.data.toList.drop (k + 1)).take m).map (fun b => (b, true)))) := by
              have e : ofL (s.extract (k + 1) (k + 1 + m)) true = ((s.data.toList.drop (k + 1)).take m).map (fun b => (b, true)) := by rw [hcut.out, show k + 1 + m - (k + 1) = m by omega]
              rw [e] at hown2
              rw [cellsCh_append, List.length_append]
              exact hown2
            have hlen3 : (acc ++ ((s.data.toList.drop (k + 1)).take m).map (fun b => (b, true))).length ≤ k + m := by
              rw [List.length_append, List.length_map]
              have := List.length_take_le m (s.data.toList.drop (k + 1))
              omega
            clear hown1 hown2 hgrow hb hb1 hb2 ht1 hol2
            generalize acc ++ ((s.data.toList.drop (k + 1)).take m).map (fun b => (b, true)) = acc2 at hrd2 hown3 hlen3
            go_wp2
            go_roundw
            case rel => exact ⟨k + 1 + m + 1, acc2, by omega, by omega, by go_num, hb3, hown3, hrd2.out⟩
            case measure => simp [intOf]; omega
        · have e39 : ((s[k].toNat : Int) == 39) = false := u8_neb (n := 39) h39
          have hrd1 := Lib.hid (hrd.out.bare hat.out h39 h92)
          clear h92 h39
          go_wp2_with (at_builtin; refine wpList_append_own _ rfl _ _ 22 rfl w.heap.size 61 i0 (.agg #[.int .u8 0, .bool false]) 2 2 Tryd.underlying22 hi hz0 hz1 hz2 rfl (by decide) _ _ _ rfl (hown.alloc _) ⟨wr.heap.size, 0, none⟩ 1 1 [.int .u8 ((s[k]).toNat : Int), .bool false] rfl rfl (new_cells wr #[.int .u8 ((s[k]).toNat : Int), .bool false] _) ?c2 ?c3 ?c4 ?c5 ?_)
          case c2 => simp [Value.oneCell']
          case c3 => simp only [maxLen]; omega
          case c4 => omega
          case c5 => first | omega | (simp; omega)
          intro v' w1 hown1 hgrow _
          have hb1 : Below w.heap.size w w1 := (hb.alloc hsz _).grown hgrow (by simp; omega) (fun g h => (hown.lt g h).1)
          have hown2 : w1.ownsRow w.heap.size 61 2 v' (acc ++ [(s[k], false)]).length (cellsCh (acc ++ [(s[k], false)])) := by rw [cells_app, List.length_append]; exact hown1
          clear hown hown1 hgrow hb
          go_wp2
          go_roundw
          case rel => exact ⟨k + 1, _, by omega, by rw [List.length_append, List.length_singleton]; omega, by go_num, hb1, hown2, hrd1.out⟩
          case measure => simp [intOf]; omega
    · have hdone := Lib.hid (hrd.out.done (by rw [data_len]; omega))
      go_wp2
      go_ret2
      exact readPost_some hdone.out (Tx.of_ends hown) hb
end Go.Proofs.YtdiiimcoannnnaaDoor
