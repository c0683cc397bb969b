/-
  Compile makes a pattern out of a marked text. Conditions: at most a million bytes.
-/
import Derived.Test.YtmoihdddmeienaaDoorGbItem
import Derived.Test.YtmoihdddmeienaaDoorMkTexts
import Derived.Laws.MakeOwn
namespace Go.Proofs.YtmoihdddmeienaaDoor
open Go Go.RowKit

theorem infoItem : (Tryd.prog.info? 72).map (fun i => (i.zero, i.size, i.bytes)) = some (some (.agg zit), 4, 40) := by kernel_rfl
theorem infoBool : (Tryd.prog.info? 4).map (fun i => (i.zero, i.size, i.bytes)) = some (some (.bool false), 1, 1) := by kernel_rfl

/-- A pattern that the call has made. -/
def OwnIts (w : World) (base : Nat) (v : Value) (p : List It) (us : List Value) : Prop :=
  us.length = p.length ∧ w.ownsRow base 72 4 v p.length (cellsIt p us) ∧ ∀ (i : Nat) (x : It), p[i]? = some x → ∃ u, us[i]? = some u ∧ w.ownsRow base 137 2 u x.2.2.2.length (cellsRg x.2.2.2)
theorem OwnIts.read {w : World} {base : Nat} {v : Value} {p : List It} {us : List Value} (h : OwnIts w base v p us) : Its w w.heap.size v p := by
  obtain ⟨h1, h2, h3⟩ := h
  refine ⟨us, Sl.of_own h2, h1, fun k x hx => ?_⟩
  obtain ⟨u, hu, hr⟩ := h3 k x hx
  exact ⟨u, hu, Sl.of_own hr⟩
theorem OwnIts.grow {w w' : World} {base g : Nat} {v : Value} {p : List It} {us : List Value} {cs : Array Value} {fr : Nat × Nat} (h : OwnIts w base v p us) (hg : w.grownBy w' (some g)) (hc : w.heap[g]? = some (.cells cs 4 fr)) : OwnIts w' base v p us := by
  obtain ⟨h1, h2, h3⟩ := h
  refine ⟨h1, h2.kept hg (.inr (own_ne_block3 h2 hc (by decide))), fun i x hx => ?_⟩
  obtain ⟨u, hu, hr⟩ := h3 i x hx
  exact ⟨u, hu, hr.kept hg (.inr (own_ne_block3 hr hc (by decide)))⟩
theorem OwnIts.below {w w' : World} {base : Nat} {v : Value} {p : List It} {us : List Value} (h : OwnIts w base v p us) (hb : Below w.heap.size w w') : OwnIts w' base v p us := by
  obtain ⟨h1, h2, h3⟩ := h
  refine ⟨h1, own_below h2 hb, fun i x hx => ?_⟩
  obtain ⟨u, hu, hr⟩ := h3 i x hx
  exact ⟨u, hu, own_below hr hb⟩
theorem ownIts_snoc {w w' : World} {base : Nat} {v v' u : Value} {p : List It} {us : List Value} {x : It} (h : OwnIts w base v p us) (hu : w.ownsRow base 137 2 u x.2.2.2.length (cellsRg x.2.2.2))
    (hown : w'.ownsRow base 72 4 v' (p.length + 1) (cellsIt p us ++ ci x u)) (hg : w.grownBy w' v.ownBlock) : OwnIts w' base v' (p ++ [x]) (us ++ [u]) := by
  obtain ⟨h1, h2, h3⟩ := h
  refine ⟨by simp [h1], ?_, fun i y hy => ?_⟩
  · rw [List.length_append, cellsIt_append _ _ _ _ h1]
    have e : cellsIt [x] [u] = ci x u := by simp [cellsIt]
    rw [e]
    exact hown
  · rcases Nat.lt_or_ge i p.length with hi | hi
    · rw [List.getElem?_append_left hi] at hy
      obtain ⟨u', hu', hr⟩ := h3 i y hy
      exact ⟨u', by rw [List.getElem?_append_left (by omega)]; exact hu', hr.kept hg (own_own_ne hr h2 (by decide))⟩
    · rw [List.getElem?_append_right hi] at hy
      rcases Nat.eq_zero_or_pos (i - p.length) with h0 | h0
      · rw [h0] at hy
        injection hy with hy
        subst hy
        exact ⟨u, by rw [List.getElem?_append_right (by omega), show i - us.length = 0 by omega]; rfl, hu.kept hg (own_own_ne hu h2 (by decide))⟩
      · rw [List.getElem?_eq_none (by simp; omega)] at hy; cases hy
theorem rd_app {w w' : World} {rb pb B base n : Nat} {A : Option Addr} {c : Nat} {l : List Ch} {path : Bool} {ps : List Bool} {v : Value} {xs : List Value} (h : Rd w rb pb B A c l path ps) (hown : w.ownsRow base 72 4 v n xs) (hg : w.grownBy w' v.ownBlock) (hB : B ≤ base) : Rd w' rb pb B A c l path ps :=
  ⟨(hg.block rb h.rlt (own_ne_block3 hown h.rd (by decide)).symm).trans h.rd, h.tx.keep fun q hq => World.cell?_of_block (hg.block q.block (by have := h.low; have := h.plt; omega) (by intro e; have := (hown.lt q.block e.symm).1; omega)), h.low, (hg.block pb h.plt (own_ne_block3 hown h.row (by decide)).symm).trans h.row, h.len, h.ne⟩
theorem run_makeBool (n : Nat) (hn : n ≤ 1000000) (w : World) :
    (Instr.makeSlice 67 (.int .i64 (n : Int)) (.int .i64 (n : Int))).run Tryd.prog w = .ok (.slice (some ⟨w.heap.size, 0, none⟩) n n) (w.alloc (.cells (Array.replicate n (Value.bool false)) 4)) := by
  obtain ⟨i0, hi, hz0, hz1, hz2⟩ := info_parts infoBool
  have hr := run_make (P := Tryd.prog) w 67 4 i0 _ Tryd.underlying67 hi hz0 .i64 .i64 n n (by omega) (by omega) (by rw [hz2]; omega) (by omega)
  simp only [Int.toNat_natCast, hz1, Nat.mul_one] at hr
  have e : madeCells (Value.bool false).cells n = Array.replicate n (Value.bool false) := by
    apply Array.toList_inj.1
    rw [show (Value.bool false).cells = #[.bool false] from rfl, toList_madeCells_one]
    simp
  rw [e] at hr
  exact hr
theorem own_formN {w : World} {base : Nat} {e : TypeId} {size n : Nat} {v : Value} {xs : List Value} (h : w.ownsRow base e size v n xs) : ∃ A c, v = .slice A n c := by
  rcases h.2 with ⟨rfl, rfl⟩ | ⟨g, cap, cur, rfl, _⟩
  · exact ⟨_, _, rfl⟩
  · exact ⟨_, _, rfl⟩
theorem lastStar_snoc (o : List It) (x : It) : lastStar (o ++ [x]) = isStar x := by simp [lastStar]
theorem lastStar_get {o : List It} {m : Nat} (h : o.length = m + 1) : lastStar o = isStar (o[m]'(by omega)) := by
  rcases List.eq_nil_or_concat o with rfl | ⟨o', y, rfl⟩
  · simp at h
  · simp only [List.concat_eq_append, List.length_append, List.length_singleton, Nat.add_right_cancel_iff] at h
    subst h
    simp only [List.concat_eq_append, lastStar_snoc]
    congr 1
    simp

set_option maxHeartbeats 4000000 in
set_option maxRecDepth 100000 in
theorem compile_any (l : List Ch) (path : Bool) (v : Value) (w : World) (ht : Tx w w.heap.size v l) (hl : l.length ≤ 1000000) :
    Calls Tryd.prog 25 #[v, .bool path] w fun e w' => ∃ v', e = .returned v' ∧ Its w' w'.heap.size v' (compileP path l) ∧ Below w.heap.size w w' := by
  obtain ⟨A, c, rfl, hc, hcm⟩ := ht.form
  unfold maxLen at hcm
  obtain ⟨i0, hi, hz0, hz1, hz2⟩ := info_parts infoItem
  have hmk := run_makeBool l.length hl
  go_enter Tryd.func25, Tryd.ntmps25
  have hrdc : ((w.alloc (.cells (Array.replicate l.length (Value.bool false)) 4)).alloc (.cells #[.slice A l.length c, .bool path, .slice (some ⟨w.heap.size, 0, none⟩) l.length l.length] 69)).heap[w.heap.size + 1]? = some (.cells #[.slice A l.length c, .bool path, .slice (some ⟨w.heap.size, 0, none⟩) l.length l.length] 69 (0, 0)) := by
    have := heap_alloc_new (w.alloc (.cells (Array.replicate l.length (Value.bool false)) 4)) (.cells #[.slice A l.length c, .bool path, .slice (some ⟨w.heap.size, 0, none⟩) l.length l.length] 69)
    rw [World.size_alloc] at this
    exact this
  have hpc : ((w.alloc (.cells (Array.replicate l.length (Value.bool false)) 4)).alloc (.cells #[.slice A l.length c, .bool path, .slice (some ⟨w.heap.size, 0, none⟩) l.length l.length] 69)).heap[w.heap.size]? = some (.cells ((List.replicate l.length false).map Value.bool).toArray 4 (0, 0)) := by
    rw [Below.heap_alloc _ _ _ (by simp), show ((List.replicate l.length false).map Value.bool).toArray = Array.replicate l.length (Value.bool false) by simp]
    exact heap_alloc_new w _
  have hb0 : Below w.heap.size w ((w.alloc (.cells (Array.replicate l.length (Value.bool false)) 4)).alloc (.cells #[.slice A l.length c, .bool path, .slice (some ⟨w.heap.size, 0, none⟩) l.length l.length] 69)) := ((Below.refl _ w).alloc (Nat.le_refl _) _).alloc (by simp) _
  have hRd0 : Rd ((w.alloc (.cells (Array.replicate l.length (Value.bool false)) 4)).alloc (.cells #[.slice A l.length c, .bool path, .slice (some ⟨w.heap.size, 0, none⟩) l.length l.length] 69)) (w.heap.size + 1) w.heap.size w.heap.size A c l path (List.replicate l.length false) := ⟨hrdc, ht.below hb0, Nat.le_refl _, hpc, by simp, by omega⟩
  clear hrdc hpc
  go_wp2
  clear hmk
  go_loopw [6, 7] (fun o at_ wr => ∃ (k : Nat) (out : List It) (us : List Value) (ps : List Bool), at_ = .int .i64 k ∧ k ≤ l.length ∧ out.length ≤ k ∧ Below w.heap.size w wr ∧ Rd wr (w.heap.size + 1) w.heap.size w.heap.size A c l path ps ∧ OwnIts wr w.heap.size o out us ∧ Hid (Pin path l ps k) ∧ Hid (compileP path l = compK path l k out)) (fun _ at_ _ => l.length - (intOf at_).toNat)
  case atStart => exact ⟨0, [], [], _, rfl, Nat.zero_le _, Nat.le_refl _, hb0, hRd0, ⟨rfl, World.ownsRow_nil _ _ _ _, by simp⟩, pin_first _ _, compile_compK path l⟩
  case round =>
    clear hb0 hRd0 ht
    obtain ⟨k, out, us, ps, rfl, hk, hok, hb, hRd, hown, hpin, hcomp⟩ := hrel
    by_cases hlt : k < l.length
    · have hstep := compK_step (path := path) (out := out) hlt
      have hpos := itemP_pos (path := path) hlt
      go_wp2_with fail
      refine (item_any hRd k hpin.out hl hlt).mono ?_
      rintro e w2 ⟨ps2, hRd2, hGr2, v2, rfl, hown2, hpin2⟩
      have hb2 : Below w.heap.size w w2 := hb.grown hGr2 hb.size (fun g h => by injection h with h; omega)
      have hownI := hown.grow hGr2 hRd.row
      have hown3 := own_base hown2 hb.size
      clear hRd hown hGr2 hb hown2 hpin
      generalize itemP path l k = X at hown3 hpin2 hstep hpos ⊢
      obtain ⟨x, n⟩ := X
      obtain ⟨kind, b, no, rs⟩ := x
      simp only at hown3 hpin2 hstep hpos ⊢
      obtain ⟨Av, nv, cv, rfl⟩ := own_form hown3
      have hcomp2 := Lib.hid (hcomp.out.trans hstep)
      have hpin3 := Lib.hid hpin2
      clear hcomp hstep hpin2
      have hb3 := hb2.alloc hb2.size (.cells #[.int .i64 kind, .int .u8 (b.toNat : Int), .bool no, .slice Av nv cv] 72)
      have hRd3 := hRd2.below ((Below.refl _ w2).alloc (Nat.le_refl _) (.cells #[.int .i64 kind, .int .u8 (b.toNat : Int), .bool no, .slice Av nv cv] 72))
      have hownJ := hownI.below ((Below.refl _ w2).alloc (Nat.le_refl _) (.cells #[.int .i64 kind, .int .u8 (b.toNat : Int), .bool no, .slice Av nv cv] 72))
      have hown4 := own_below hown3 ((Below.refl _ w2).alloc (Nat.le_refl _) (.cells #[.int .i64 kind, .int .u8 (b.toNat : Int), .bool no, .slice Av nv cv] 72))
      have hsz2 := hb2.size
      have hw2 : w.heap.size < w2.heap.size := hRd2.plt
      by_cases hskip : kind = 3 ∧ lastStar out = true
      · obtain ⟨rfl, hls⟩ := hskip
        obtain ⟨m, hm⟩ : ∃ m, out.length = m + 1 := by
          cases out with
          | nil => cases hls
          | cons a t => exact ⟨t.length, rfl⟩
        have hl3 : (out[m]'(by omega)).1 = 3 := by
          rw [lastStar_get hm] at hls
          simpa [isStar] using hls
        have hso : stepOut (3, b, no, rs) out = out := by simp [stepOut, isStar, hls]
        rw [hso] at hcomp2
        have hrow := hownI.2.1
        rw [hm] at hrow
        obtain ⟨g, cap, hov⟩ := own_succ' hrow
        subst hov
        have g0 := hrow.cellAt (m * 4) (by omega)
        rw [(cellsIt_at out us hownI.1 m (by omega)).1, hl3] at g0
        have hgl := (hrow.lt g rfl).2
        clear hls hl3 hso hownI hown3 hown4 hRd2 hb2 hrow
        go_wp2
        go_roundw
        case rel => exact ⟨k + n, out, us, ps2, by go_num, by omega, by omega, hb3, hRd3, hownJ, hpin3.out, hcomp2.out⟩
        case measure => simp [intOf]; omega
      · have hso : stepOut (kind, b, no, rs) out = out ++ [(kind, b, no, rs)] := by
          unfold stepOut
          rw [if_neg]
          intro h
          simp only [isStar, Bool.and_eq_true, decide_eq_true_eq] at h
          exact hskip h
        rw [hso] at hcomp2
        have hcase : (¬ kind = 3) ∨ (kind = 3 ∧ out = []) ∨ (kind = 3 ∧ ∃ m, out.length = m + 1 ∧ ∀ h : m < out.length, ¬ (out[m]'h).1 = 3) := by
          by_cases h3 : kind = 3
          · right
            cases hout : out with
            | nil => exact .inl ⟨h3, rfl⟩
            | cons a t =>
              refine .inr ⟨h3, t.length, rfl, fun h e => hskip ⟨h3, ?_⟩⟩
              rw [hout, lastStar_get (m := t.length) rfl]
              simpa [isStar] using e
          · exact .inl h3
        clear hskip hso
        have happ : ∀ (Q : Nat), True := fun _ => trivial
        rcases hcase with h3 | ⟨rfl, rfl⟩ | ⟨rfl, m, hm, hl3⟩
        · skip
          have hm4 := hownJ.below ((Below.refl _ _).alloc (Nat.le_refl _) (.cells #[.int .i64 kind, .int .u8 (b.toNat : Int), .bool no, .slice Av nv cv] 72))
          have hown5 := own_below hown4 ((Below.refl _ _).alloc (Nat.le_refl _) (.cells #[.int .i64 kind, .int .u8 (b.toNat : Int), .bool no, .slice Av nv cv] 72))
          have hRd4 := hRd3.below ((Below.refl _ _).alloc (Nat.le_refl _) (.cells #[.int .i64 kind, .int .u8 (b.toNat : Int), .bool no, .slice Av nv cv] 72))
          have hb4 := hb3.alloc hb3.size (.cells #[.int .i64 kind, .int .u8 (b.toNat : Int), .bool no, .slice Av nv cv] 72)
          have hnew : ∀ (j : Nat) (u : Value), (ci (kind, b, no, rs) (.slice Av nv cv))[j]? = some u → ((w2.alloc (.cells #[.int .i64 kind, .int .u8 (b.toNat : Int), .bool no, .slice Av nv cv] 72)).alloc (.cells #[.int .i64 kind, .int .u8 (b.toNat : Int), .bool no, .slice Av nv cv] 72)).cell? ((⟨w2.heap.size + 1, 0, none⟩ : Addr).add j) = some u := by
            have := new_cells (w2.alloc (.cells #[.int .i64 kind, .int .u8 (b.toNat : Int), .bool no, .slice Av nv cv] 72)) #[.int .i64 kind, .int .u8 (b.toNat : Int), .bool no, .slice Av nv cv] 72
            rw [World.size_alloc] at this
            exact this
          have hrow4 := hm4.2.1
          go_wp2_with (at_builtin; refine wpList_append_own _ rfl _ _ 52 rfl w.heap.size 72 i0 _ 4 40 Tryd.underlying52 hi hz0 hz1 hz2 rfl (by decide) _ out.length _ rfl hrow4 ⟨w2.heap.size + 1, 0, none⟩ 1 1 (ci (kind, b, no, rs) (.slice Av nv cv)) rfl rfl hnew ?c2 ?c3 ?c4 ?c5 ?_)
          case c2 => simp [ci, Value.oneCell']
          case c3 => simp only [maxLen]; first | omega | (simp; omega) | simp
          case c4 => first | omega | (simp; omega) | simp
          case c5 => simp; omega
          intro v9 w9 hown9 hgrow9 _
          have hO9 := ownIts_snoc (x := (kind, b, no, rs)) hm4 hown5 hown9 hgrow9
          have hRd9 := rd_app hRd4 hm4.2.1 hgrow9 (Nat.le_refl _)
          have hb9 : Below w.heap.size w w9 := hb4.grown hgrow9 (by simp; omega) (fun g h => (hm4.2.1.lt g h).1)
          clear hrow4 hm4 hown5 hRd4 hb4 hnew hown9 hgrow9 hownI hownJ hown3 hown4 hRd2 hRd3 hb2 hb3
          go_wp2
          go_roundw
          case rel => exact ⟨k + n, _, _, ps2, by go_num, by omega, by simp; omega, hb9, hRd9, hO9, hpin3.out, hcomp2.out⟩
          case measure => simp [intOf]; omega
        · obtain ⟨A0, c0, hov⟩ := own_formN hownI.2.1
          subst hov
          skip
          have hm4 := hownJ.below ((Below.refl _ _).alloc (Nat.le_refl _) (.cells #[.int .i64 3, .int .u8 (b.toNat : Int), .bool no, .slice Av nv cv] 72))
          have hown5 := own_below hown4 ((Below.refl _ _).alloc (Nat.le_refl _) (.cells #[.int .i64 3, .int .u8 (b.toNat : Int), .bool no, .slice Av nv cv] 72))
          have hRd4 := hRd3.below ((Below.refl _ _).alloc (Nat.le_refl _) (.cells #[.int .i64 3, .int .u8 (b.toNat : Int), .bool no, .slice Av nv cv] 72))
          have hb4 := hb3.alloc hb3.size (.cells #[.int .i64 3, .int .u8 (b.toNat : Int), .bool no, .slice Av nv cv] 72)
          have hnew : ∀ (j : Nat) (u : Value), (ci (3, b, no, rs) (.slice Av nv cv))[j]? = some u → ((w2.alloc (.cells #[.int .i64 3, .int .u8 (b.toNat : Int), .bool no, .slice Av nv cv] 72)).alloc (.cells #[.int .i64 3, .int .u8 (b.toNat : Int), .bool no, .slice Av nv cv] 72)).cell? ((⟨w2.heap.size + 1, 0, none⟩ : Addr).add j) = some u := by
            have := new_cells (w2.alloc (.cells #[.int .i64 3, .int .u8 (b.toNat : Int), .bool no, .slice Av nv cv] 72)) #[.int .i64 3, .int .u8 (b.toNat : Int), .bool no, .slice Av nv cv] 72
            rw [World.size_alloc] at this
            exact this
          have hrow4 := hm4.2.1
          go_wp2_with (at_builtin; refine wpList_append_own _ rfl _ _ 52 rfl w.heap.size 72 i0 _ 4 40 Tryd.underlying52 hi hz0 hz1 hz2 rfl (by decide) _ 0 _ rfl hrow4 ⟨w2.heap.size + 1, 0, none⟩ 1 1 (ci (3, b, no, rs) (.slice Av nv cv)) rfl rfl hnew ?c2 ?c3 ?c4 ?c5 ?_)
          case c2 => simp [ci, Value.oneCell']
          case c3 => simp only [maxLen]; first | omega | (simp; omega) | simp
          case c4 => first | omega | (simp; omega) | simp
          case c5 => simp; omega
          intro v9 w9 hown9 hgrow9 _
          have hO9 := ownIts_snoc (x := (3, b, no, rs)) hm4 hown5 hown9 hgrow9
          have hRd9 := rd_app hRd4 hm4.2.1 hgrow9 (Nat.le_refl _)
          have hb9 : Below w.heap.size w w9 := hb4.grown hgrow9 (by simp; omega) (fun g h => (hm4.2.1.lt g h).1)
          clear hrow4 hm4 hown5 hRd4 hb4 hnew hown9 hgrow9 hownI hownJ hown3 hown4 hRd2 hRd3 hb2 hb3
          go_wp2
          go_roundw
          case rel => exact ⟨k + n, _, _, ps2, by go_num, by omega, by simp; omega, hb9, hRd9, hO9, hpin3.out, hcomp2.out⟩
          case measure => simp [intOf]; omega
        · obtain ⟨hrow1, hmm⟩ : w2.ownsRow w.heap.size 72 4 u6 (m + 1) (cellsIt out us) ∧ m < out.length := ⟨hm ▸ hownI.2.1, by omega⟩
          obtain ⟨g, cap, hov⟩ := own_succ' hrow1
          subst hov
          have g0 := hrow1.cellAt (m * 4) (by omega)
          rw [(cellsIt_at out us hownI.1 m hmm).1] at g0
          have hgl := (hrow1.lt g rfl).2
          have hne3 := hl3 hmm
          generalize (out[m]'hmm).1 = kk at g0 hne3
          have hne4 : (kk == 3) = false := beq_eq_false_iff_ne.2 hne3
          clear hl3 hrow1
          skip
          have hm4 := hownJ.below ((Below.refl _ _).alloc (Nat.le_refl _) (.cells #[.int .i64 3, .int .u8 (b.toNat : Int), .bool no, .slice Av nv cv] 72))
          have hown5 := own_below hown4 ((Below.refl _ _).alloc (Nat.le_refl _) (.cells #[.int .i64 3, .int .u8 (b.toNat : Int), .bool no, .slice Av nv cv] 72))
          have hRd4 := hRd3.below ((Below.refl _ _).alloc (Nat.le_refl _) (.cells #[.int .i64 3, .int .u8 (b.toNat : Int), .bool no, .slice Av nv cv] 72))
          have hb4 := hb3.alloc hb3.size (.cells #[.int .i64 3, .int .u8 (b.toNat : Int), .bool no, .slice Av nv cv] 72)
          have hnew : ∀ (j : Nat) (u : Value), (ci (3, b, no, rs) (.slice Av nv cv))[j]? = some u → ((w2.alloc (.cells #[.int .i64 3, .int .u8 (b.toNat : Int), .bool no, .slice Av nv cv] 72)).alloc (.cells #[.int .i64 3, .int .u8 (b.toNat : Int), .bool no, .slice Av nv cv] 72)).cell? ((⟨w2.heap.size + 1, 0, none⟩ : Addr).add j) = some u := by
            have := new_cells (w2.alloc (.cells #[.int .i64 3, .int .u8 (b.toNat : Int), .bool no, .slice Av nv cv] 72)) #[.int .i64 3, .int .u8 (b.toNat : Int), .bool no, .slice Av nv cv] 72
            rw [World.size_alloc] at this
            exact this
          have hrow4 := hm4.2.1
          rw [hm] at hrow4
          go_wp2_with (at_builtin; refine wpList_append_own _ rfl _ _ 52 rfl w.heap.size 72 i0 _ 4 40 Tryd.underlying52 hi hz0 hz1 hz2 rfl (by decide) _ (m + 1) _ rfl hrow4 ⟨w2.heap.size + 1, 0, none⟩ 1 1 (ci (3, b, no, rs) (.slice Av nv cv)) rfl rfl hnew ?c2 ?c3 ?c4 ?c5 ?_)
          case c2 => simp [ci, Value.oneCell']
          case c3 => simp only [maxLen]; first | omega | (simp; omega) | simp
          case c4 => first | omega | (simp; omega) | simp
          case c5 => simp; omega
          intro v9 w9 hown9 hgrow9 _
          have hO9 := ownIts_snoc (x := (3, b, no, rs)) hm4 hown5 (by rw [hm]; exact hown9) hgrow9
          have hRd9 := rd_app hRd4 hm4.2.1 hgrow9 (Nat.le_refl _)
          have hb9 : Below w.heap.size w w9 := hb4.grown hgrow9 (by simp; omega) (fun g h => (hm4.2.1.lt g h).1)
          clear hrow4 hm4 hown5 hRd4 hb4 hnew hown9 hgrow9 hownI hownJ hown3 hown4 hRd2 hRd3 hb2 hb3
          go_wp2
          go_roundw
          case rel => exact ⟨k + n, _, _, ps2, by go_num, by omega, by simp; omega, hb9, hRd9, hO9, hpin3.out, hcomp2.out⟩
          case measure => simp [intOf]; omega
    · have hend := hcomp.out
      rw [compK_end (by omega)] at hend
      have hread := hown.read
      rw [← hend] at hread
      clear hcomp hend hown hpin hRd
      go_wp2
      go_ret
      exact ⟨_, rfl, hread, hb⟩
end Go.Proofs.YtmoihdddmeienaaDoor
