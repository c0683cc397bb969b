/-
  marks.Strip takes the bare bytes of a set off both ends. Conditions: at most a million bytes.
-/
import Derived.Test.YtdiiimcoannnnaaDoorMkRStrip
import Derived.Test.YtdiiimcoannnnaaDoorMkPart
namespace Go.Proofs.YtdiiimcoannnnaaDoor
open Go Go.RowKit

/-- A table of 256 truths. -/
def tab (f : UInt8 → Bool) : Array Value := ((List.range 256).map fun j => .bool (f (UInt8.ofNat j))).toArray
theorem tab_at (f : UInt8 → Bool) (x : UInt8) : (tab f)[x.toNat]? = some (.bool (f x)) := by
  have := x.toNat_lt
  simp only [tab, List.getElem?_toArray, List.getElem?_map]
  rw [List.getElem?_range (by omega)]
  simp
theorem tab_set (f : UInt8 → Bool) (x : UInt8) : (tab f).setIfInBounds x.toNat (.bool true) = tab (fun b => b == x || f b) := by
  apply Array.ext
  · simp [tab]
  · intro i h1 h2
    have hi : i < 256 := by simpa [tab] using h2
    by_cases e : i = x.toNat
    · subst e
      simp [tab]
    · have hne : (UInt8.ofNat i == x) = false := by
        rw [beq_eq_false_iff_ne]; intro h
        rw [← h, UInt8.toNat_ofNat'] at e
        omega
      rw [Array.getElem_setIfInBounds_ne (h := fun h => e h.symm)]
      · simp [tab, hne]
      · simpa [tab] using hi

theorem has_snoc (s : ByteArray) (k : Nat) (h : k < s.size) : (fun b => b == s[k] || has (s.data.toList.take k) b) = has (s.data.toList.take (k + 1)) := by
  have hk : k < s.data.toList.length := by rw [data_len]; exact h
  have hb : s.data.toList[k] = s[k] := by
    have := byte_at s k h
    rw [List.getElem?_eq_getElem hk] at this
    injection this
  funext b
  rw [List.take_succ_eq_append_getElem hk, hb]
  simp only [has, List.contains_append, List.contains_cons, List.contains_nil, Bool.or_false]
  exact Bool.or_comm _ _
theorem zero256 : Tryd.zeroCells76 = tab (fun _ => false) := by kernel_rfl

set_option maxHeartbeats 1000000 in
set_option maxRecDepth 100000 in
theorem goes_any (x : UInt8) (q : Bool) (g : Nat) (f : UInt8 → Bool) (w : World) (hg : w.heap[g]? = some (.cells (tab f) 76 (0, 0))) :
    Calls Tryd.prog 41 #[.agg #[.int .u8 (x.toNat : Int), .bool q], .pointer (some ⟨g, 0, none⟩)] w fun e w' => e = .returned (.bool (!q && f x)) ∧ Below w.heap.size w w' := by
  have hlt : g < w.heap.size := (Array.getElem?_eq_some_iff.1 hg).1
  have hc : w.cell? ⟨g, x.toNat, none⟩ = some (.bool (f x)) := by rw [cell_of_row w g _ _ _ _ hg, tab_at]
  have hx := x.toNat_lt
  generalize f x = b at hc
  clear hg
  cases q
  all_goals
    go_enter Tryd.func41, Tryd.ntmps41
    go_wp2
    go_ret
    exact ⟨rfl, (Below.refl _ _).alloc (Nat.le_refl _) _⟩

set_option maxHeartbeats 1000000 in
set_option maxRecDepth 100000 in
theorem strip_any (l : List Ch) (s : ByteArray) (v : Value) (B : Nat) (w : World) (ht : Tx w B v l) (hB : B ≤ w.heap.size) (hl : l.length ≤ 1000000) (hs : s.size ≤ 1000000) :
    Calls Tryd.prog 26 #[v, .string s] w fun e w' => ∃ v', e = .returned v' ∧ w'.ownsRow w.heap.size 61 2 v' (stripL s.data.toList l).length (cellsCh (stripL s.data.toList l)) ∧ Below w.heap.size w w' := by
  have hmf : ∀ (fn : Fn) (first cap : Array Value) (w : World), (Instr.makeFunc fn first cap).run Tryd.prog w = .ok (.func fn first cap) w := fun _ _ _ _ => rfl
  go_enter Tryd.func26, Tryd.ntmps26
  go_wp2_with fail
  go_loopw [10] (fun i wr => ∃ k : Nat, k ≤ s.size ∧ i = .int .i64 k ∧ Below w.heap.size w wr ∧ wr.heap[w.heap.size]? = some (.cells (tab (has (s.data.toList.take k))) 76 (0, 0))) (fun i _ => s.size - (intOf i).toNat)
  case atStart => exact ⟨0, Nat.zero_le _, rfl, (Below.refl _ _).alloc (Nat.le_refl _) _, by rw [heap_alloc_new, zero256]; rfl⟩
  case round =>
    obtain ⟨k, hk, rfl, hb, hg⟩ := hrel
    by_cases hlt : k < s.size
    · have hx := s[k].toNat_lt
      have hc : wr.cell? ⟨w.heap.size, s[k].toNat, none⟩ = some (.bool (has (s.data.toList.take k) s[k])) := by rw [cell_of_row wr _ _ _ _ _ hg, tab_at]
      have hfz : wr.frozen? ⟨w.heap.size, s[k].toNat, none⟩ = false := frozen_of_row wr _ _ _ _ hg
      have hg2 := heap_setCell_same wr w.heap.size s[k].toNat _ _ (.bool true) hg
      rw [tab_set, has_snoc s k hlt] at hg2
      have hb2 : Below w.heap.size w (wr.setCell ⟨w.heap.size, s[k].toNat, none⟩ (.bool true)) := hb.setCell (p := ⟨w.heap.size, s[k].toNat, none⟩) (Nat.le_refl _) _
      clear hb hg
      generalize has (s.data.toList.take k) s[k] = old at hc
      go_wp2
      go_roundw
      case rel => exact ⟨k + 1, by omega, by go_num, hb2, hg2⟩
      case measure => simp [intOf]; omega
    · have hg2 : wr.heap[w.heap.size]? = some (.cells (tab (has s.data.toList)) 76 (0, 0)) := by
        rw [List.take_of_length_le (by rw [data_len]; omega)] at hg; exact hg
      have htw := (ht.more hB).below hb
      clear hg ht
      go_wp2_with fail
      go_loopw [0] (fun tv wr => ∃ cur : List Ch, cur.length ≤ l.length ∧ Tx wr w.heap.size tv cur ∧ Below w.heap.size w wr ∧ wr.heap[w.heap.size]? = some (.cells (tab (has s.data.toList)) 76 (0, 0)) ∧ Hid (l.dropWhile (inSet s.data.toList) = cur.dropWhile (inSet s.data.toList))) (fun tv _ => sliceLen tv)
      case atStart => exact ⟨l, Nat.le_refl _, htw, hb, hg2, rfl⟩
      case round =>
        clear htw hb hg2
        obtain ⟨cur, hcl, ht, hb, hg, hd⟩ := hrel
        obtain ⟨A, c, rfl, hc, hcm⟩ := ht.form
        unfold maxLen at hcm
        have hsz := hb.size
        by_cases hgo : ∃ h : 0 < cur.length, inSet s.data.toList cur[0] = true
        · obtain ⟨hlt0, hin⟩ := hgo
          obtain ⟨blk, off, rfl, hblk, g0, g1⟩ := ht.at_ hlt0
          rw [Nat.zero_mul, Nat.add_zero] at g0 g1
          have hd2 : Hid (l.dropWhile (inSet s.data.toList) = (cur.drop 1).dropWhile (inSet s.data.toList)) := hd.out.trans (dropWhile_hit (l := cur) (k := 0) hlt0 hin)
          obtain ⟨v2, hr2, ht2⟩ := cut_l elemCh sizeCh ht (lo := 1) (by omega)
          have hr2' : ∀ (W : World) (kl : IntKind), (Instr.slice 22 (.slice (some ⟨blk, off, none⟩) cur.length c) (some (.int kl 1)) none none).run Tryd.prog W = .ok v2 W := hr2
          generalize cur[0] = z at g0 g1 hin
          obtain ⟨x, q⟩ := z
          simp only [inSet, Bool.and_eq_true, Bool.not_eq_true'] at hin
          obtain ⟨hq, hx⟩ := hin
          have hq : q = false := hq
          subst hq
          have HX := Lib.hid hx
          clear hx hr2
          simp only at g0 g1
          go_wp2_with fail
          refine (goes_any x false w.heap.size (has s.data.toList) _ hg).mono ?_
          rintro e w1 ⟨rfl, hb1⟩
          rw [HX.out]
          have hb2 : Below w.heap.size w w1 := hb.trans (hb1.mono hsz)
          have hlt1 : w.heap.size < wr.heap.size := (Array.getElem?_eq_some_iff.1 hg).1
          have hg2 := (hb1.block w.heap.size hlt1).trans hg
          have ht3 := ht2.below (hb1.mono hsz)
          clear hb hb1 hg ht2 hlt1
          obtain ⟨A2, c2, rfl, hc2, _⟩ := ht3.form
          rw [List.length_drop] at ht3
          go_wp2
          go_roundw
          case rel => exact ⟨cur.drop 1, by rw [List.length_drop]; omega, ht3, hb2, hg2, hd2.out⟩
          case measure => simp only [sliceLen]; omega
        · have hex : Hid (l.dropWhile (inSet s.data.toList) = cur) := by
            rw [Hid, hd.out]
            rcases Nat.eq_zero_or_pos cur.length with h0 | h0
            · rw [List.eq_nil_of_length_eq_zero h0]; rfl
            · have := dropWhile_stop (p := inSet s.data.toList) (l := cur) (k := 0) h0 (by simpa using fun h => hgo ⟨h0, h⟩)
              rwa [List.drop_zero] at this
          by_cases hlt0 : 0 < cur.length
          case' pos =>
            have hat := ht.at_ hlt0
            obtain ⟨blk, off, hA, hblk, g0, g1⟩ := hat
            rw [Nat.zero_mul, Nat.add_zero] at g0 g1
            have hno : inSet s.data.toList cur[0] = false := by simpa using fun h => hgo ⟨hlt0, h⟩
            generalize cur[0] = z at g0 g1 hno
            obtain ⟨x, q⟩ := z
            simp only at g0 g1
            subst hA
            clear hgo
            have hx : Hid ((!q && has s.data.toList x) = false) := hno
            clear hno
            go_wp2_with fail
            refine (goes_any x q w.heap.size (has s.data.toList) _ hg).mono ?_
            rintro e w1 ⟨rfl, hb1⟩
            rw [hx.out]
            have hb2 : Below w.heap.size w w1 := hb.trans (hb1.mono hsz)
            have hlt1 : w.heap.size < wr.heap.size := (Array.getElem?_eq_some_iff.1 hg).1
            have hg2 := (hb1.block w.heap.size hlt1).trans hg
            have ht2 := ht.below (hb1.mono hsz)
            clear hb hb1 hg ht hlt1 hx
            go_wp2_with fail
          case' neg =>
            have hb2 := hb
            have hg2 := hg
            have ht2 := ht
            clear hgo hb hg ht
            go_wp2_with fail
          all_goals
            go_loopw [0] (fun tv wr => ∃ cu : List Ch, cu.length ≤ l.length ∧ Tx wr w.heap.size tv cu ∧ Below w.heap.size w wr ∧ wr.heap[w.heap.size]? = some (.cells (tab (has s.data.toList)) 76 (0, 0)) ∧ Hid (stripL s.data.toList l = trimR (inSet s.data.toList) cu)) (fun tv _ => sliceLen tv)
            case atStart => exact ⟨cur, hcl, ht2, hb2, hg2, by rw [stripL, hex.out]; rfl⟩
            case round =>
              clear ht2 hb2 hg2 hd hex
              obtain ⟨cu, hcl2, ht, hb, hg, htr⟩ := hrel
              obtain ⟨A3, c3, rfl, hc3, hcm3⟩ := ht.form
              unfold maxLen at hcm3
              have hsz := hb.size
              by_cases hgo2 : ∃ h : 0 < cu.length, inSet s.data.toList (cu[cu.length - 1]'(by omega)) = true
              · obtain ⟨hlt3, hin⟩ := hgo2
                obtain ⟨blk3, off3, rfl, hblk3, f0, f1⟩ := ht.at_ (k := cu.length - 1) (by omega)
                have htr2 : Hid (stripL s.data.toList l = trimR (inSet s.data.toList) (cu.take (cu.length - 1))) := htr.out.trans (by
                  have := trim_step (p := inSet s.data.toList) (l := cu) (k := 0) (n := cu.length) hlt3 (Nat.le_refl _) hin
                  rwa [List.drop_zero, Nat.sub_zero, Nat.sub_zero, List.take_length] at this)
                obtain ⟨v2, hr2, ht2⟩ := cut_h elemCh sizeCh ht (hi := cu.length - 1) (by omega)
                have ei : ((cu.length - 1 : Nat) : Int) = (cu.length : Int) - 1 := by omega
                rw [ei] at hr2
                clear ei
                generalize (cu[cu.length - 1]'(by omega)) = z at f0 f1 hin
                obtain ⟨x3, q3⟩ := z
                simp only [inSet, Bool.and_eq_true, Bool.not_eq_true'] at hin
                obtain ⟨hq, hx3⟩ := hin
                have hq : q3 = false := hq
                subst hq
                have HX := Lib.hid hx3
                clear hx3
                simp only at f0 f1
                go_wp2_with fail
                refine (goes_any x3 false w.heap.size (has s.data.toList) _ hg).mono ?_
                rintro e w1 ⟨rfl, hb1⟩
                rw [HX.out]
                have hb2 : Below w.heap.size w w1 := hb.trans (hb1.mono hsz)
                have hlt1 : w.heap.size < wr.heap.size := (Array.getElem?_eq_some_iff.1 hg).1
                have hg2 := (hb1.block w.heap.size hlt1).trans hg
                have ht3 := ht2.below (hb1.mono hsz)
                clear hb hb1 hg ht2 hlt1
                obtain ⟨A4, c4, rfl, hc4, _⟩ := ht3.form
                rw [List.length_take, Nat.min_eq_left (by omega)] at ht3
                have em : min (cu.length - 1) cu.length = cu.length - 1 := by omega
                go_wp2
                go_roundw
                case rel => exact ⟨cu.take (cu.length - 1), by rw [List.length_take]; omega, ht3, hb2, hg2, htr2.out⟩
                case measure => simp only [sliceLen]; omega
              · have hres : Hid (stripL s.data.toList l = cu) := by
                  rw [Hid, htr.out]
                  have := trim_end (p := inSet s.data.toList) (l := cu) (k := 0) (n := cu.length) (Nat.zero_le _) (Nat.le_refl _) (fun h => by simpa using fun h2 => hgo2 ⟨h, h2⟩)
                  rwa [List.drop_zero, Nat.sub_zero, List.take_length] at this
                by_cases hlt3 : 0 < cu.length
                case' pos =>
                  obtain ⟨blk3, off3, hA3, hblk3, f0, f1⟩ := ht.at_ (k := cu.length - 1) (by omega)
                  have hno : inSet s.data.toList (cu[cu.length - 1]'(by omega)) = false := by simpa using fun h => hgo2 ⟨hlt3, h⟩
                  generalize (cu[cu.length - 1]'(by omega)) = z at f0 f1 hno
                  obtain ⟨x3, q3⟩ := z
                  simp only at f0 f1
                  subst hA3
                  clear hgo2
                  have hx : Hid ((!q3 && has s.data.toList x3) = false) := hno
                  clear hno
                  go_wp2_with fail
                  refine (goes_any x3 q3 w.heap.size (has s.data.toList) _ hg).mono ?_
                  rintro e w1 ⟨rfl, hb1⟩
                  rw [hx.out]
                  have hb2 : Below w.heap.size w w1 := hb.trans (hb1.mono hsz)
                  have ht2 := ht.below (hb1.mono hsz)
                  clear hb hb1 hg ht hx
                  go_wp2_with fail
                case' neg =>
                  have hb2 := hb
                  have ht2 := ht
                  clear hgo2 hb hg ht
                  go_wp2_with fail
                all_goals
                  refine (fresh_any cu _ _ _ ht2 (by omega)).mono ?_
                  rintro e w9 ⟨v9, rfl, ho9, hb9⟩
                  have hsz2 := hb2.size
                  have ho := own_base ho9 hsz2
                  rw [← hres.out] at ho
                  have hb10 := hb2.trans (hb9.mono hsz2)
                  clear ho9 hb9 ht2 hb2
                  go_wp2
                  go_ret
                  exact ⟨_, rfl, ho, hb10⟩
end Go.Proofs.YtdiiimcoannnnaaDoor
