/-
  The document's scan goes over what is open as the plain scan does. Conditions: texts of up to a million bytes.
-/
import Derived.Test.YtjeleebgifajkaaDoorLxRefOp
import Derived.Test.YtjeleebgifajkaaDoorLxMore
set_option linter.unusedSimpArgs false
set_option linter.unusedVariables false
namespace Go.Proofs.YtjeleebgifajkaaDoor
open Go Go.Shelf Go.RowKit Go.ChangeMaps

theorem infoU8 : (Tryd.prog.info? 5).map (fun i => (i.zero, i.size, i.bytes)) = some (some (.int .u8 0), 1, 1) := by kernel_rfl
/-- What may be open. -/
def TopB (t : UInt8) : Prop := t = 39 ∨ t = 34 ∨ t = 96 ∨ t = 40 ∨ t = 123 ∨ t = 119
def cellU (t : UInt8) : Value := .int .u8 (t.toNat : Int)
/-- What is open, in memory: the last one first opened. -/
def StkR (w : World) (B : Nat) (v : Value) (st : List UInt8) : Prop := Row w B 5 v st.length ((st.reverse).map cellU)
theorem stk_top {w : World} {B g off c : Nat} {t : UInt8} {st : List UInt8} (h : StkR w B (.slice (some ⟨g, off, none⟩) (st.length + 1) c) (t :: st)) : w.cell? ⟨g, off + st.length, none⟩ = some (cellU t) := by
  unfold StkR at h
  refine Row.cell h (j := st.length) ?_
  simp
theorem stk_pop {w : World} {B c : Nat} {A : Option Addr} {t : UInt8} {st : List UInt8} (h : StkR w B (.slice A (st.length + 1) c) (t :: st)) : StkR w B (.slice A st.length c) st := by
  unfold StkR at h ⊢
  have := Row.head h st.length (by omega)
  have e : (((t :: st).reverse).map cellU).take st.length = (st.reverse).map cellU := by simp
  rw [e] at this
  exact this
theorem scan_go {x : List UInt8} {c t : UInt8} {r st ts : List UInt8} {n : Nat} (hx : x = c :: r) (h1 : ¬ (t = 119 ∧ endsB c = true)) (hs : stp (c :: r) t = some (n, ts)) (k : Nat) : enc k (scan x (t :: st)) = enc (k + n) (scan (x.drop n) (ts ++ st)) := by
  subst hx
  rw [scan_cons (by simp), List.headD_cons, if_neg h1, hs]
  exact enc_map _ _ _
theorem scan_no {x : List UInt8} {c t : UInt8} {r st : List UInt8} (hx : x = c :: r) (h1 : ¬ (t = 119 ∧ endsB c = true)) (hs : stp (c :: r) t = none) (k : Nat) : enc k (scan x (t :: st)) = -1 := by
  subst hx
  rw [scan_cons (by simp), List.headD_cons, if_neg h1, hs]
  rfl
theorem first_bool {b : Bool} (h : b = false) : Value.bool b = Value.bool false := by rw [h]
theorem isB_two (x : List UInt8) (a b : UInt8) : isB x [a, b] = (match x with | c :: d :: _ => c == a && d == b | _ => false) := by
  unfold isB
  match x with
  | [] => rfl
  | [c] => simp
  | c :: d :: r => simp

/-- One more is opened. -/
theorem stk_push {wx : World} {B K c : Nat} {A : Option Addr} {t x : UInt8} {st : List UInt8} (hK : st.length = K) (h : StkR wx B (.slice A (K + 1) c) (t :: st)) (hK6 : K ≤ 1000000) (hB : B ≤ wx.heap.size) :
    ∃ (A' : Option Addr) (c' : Nat) (w' : World), (∀ ty, ty = 57 → (Builtin.append_ #[57, 57] ty #[.slice A (K + 1) c, .slice (some ⟨wx.heap.size, 0, none⟩) 1 1]).run Tryd.prog (wx.alloc (.cells #[.int .u8 (x.toNat : Int)] 5)) = .ok (.slice A' (K + 1 + 1) c') w') ∧
      StkR w' B (.slice A' (K + 1 + 1) c') (x :: t :: st) ∧ Below B wx w' ∧ B ≤ w'.heap.size := by
  obtain ⟨i0, hi, hz0, hz1, hz2⟩ := info_parts infoU8
  have hrow : Row (wx.alloc (.cells #[.int .u8 (x.toNat : Int)] 5)) B 5 (.slice A (K + 1) c) (K + 1) (((t :: st).reverse).map cellU) := by
    unfold StkR at h
    rw [List.length_cons, hK] at h
    exact h.keep fun g hg => Below.heap_alloc _ _ _ (h.lt hg).2.1
  have hb2 : Blk (wx.alloc (.cells #[.int .u8 (x.toNat : Int)] 5)) wx.heap.size [.int .u8 (x.toNat : Int)] 5 := Blk.new wx _ _
  obtain ⟨v', w', hrun, hrow', hst, how⟩ := run_append_row (P := Tryd.prog) (wx.alloc (.cells #[.int .u8 (x.toNat : Int)] 5)) B 57 57 57 5 i0 _ Tryd.underlying57 hi hz0 hz1 rfl (.slice A (K + 1) c) (K + 1) _ hrow (.slice (some ⟨wx.heap.size, 0, none⟩) 1 1) 1 [.int .u8 (x.toNat : Int)]
    (Src.ofSlice _ Tryd.underlying57 _ 1 1 _ rfl (fun j u hu => by rw [add_plain0, Nat.zero_add]; exact hb2.cell hu) (by simp [Value.oneCell'])) (by rw [hz2]; omega) (by omega) (by simp; omega)
  obtain ⟨A', c', rfl, _, _⟩ := hrow'.form
  refine ⟨A', c', w', fun ty hty => by subst hty; exact hrun, ?_, ?_, ?_⟩
  · unfold StkR
    rw [List.length_cons, List.length_cons, hK]
    have e : ((x :: t :: st).reverse).map cellU = ((t :: st).reverse).map cellU ++ [.int .u8 (x.toNat : Int)] := by simp [cellU]
    rw [e]; exact hrow'
  · have hS : ∀ g, (Value.slice A (K + 1) c).ownBlock = some g → B ≤ g := fun g hg => (hrow.lt hg).1
    refine ⟨hst.os, hst.tape, hst.output, Nat.le_trans (by simp) hst.size, fun i hi => ?_⟩
    have hiw : i < wx.heap.size := by omega
    exact (hst.block i (by simp; omega) (fun e => by have := hS i e; omega)).trans (Below.heap_alloc _ _ _ hiw)
  · exact Nat.le_trans (by simp; omega) hst.size

set_option maxHeartbeats 16000000 in
set_option maxRecDepth 100000 in
theorem rscan_any (s : ByteArray) (k0 : Nat) (t0 : UInt8) (ht0 : TopB t0) (hk0 : k0 ≤ s.size) (hs : s.size ≤ 1000000) (w : World) :
    Calls Tryd.prog 27 #[.string s, .int .i64 (k0 : Int), .int .u8 (t0.toNat : Int)] w fun e w' => e = .returned (.int .i64 (enc k0 (scan ((bl s).drop k0) [t0]))) ∧ Below w.heap.size w w' := by
  obtain ⟨R, hR⟩ : ∃ R, enc k0 (scan ((bl s).drop k0) [t0]) = R := ⟨_, rfl⟩
  rw [hR]
  obtain ⟨i0, hi, hz0, hz1, hz2⟩ := info_parts infoU8
  have hst0 : StkR (w.alloc (.cells #[.int .u8 (t0.toNat : Int)] 5)) w.heap.size (.slice (some ⟨w.heap.size, 0, none⟩) 1 1) [t0] :=
    .inr ⟨w.heap.size, 0, 1, [cellU t0], rfl, Nat.le_refl _, Blk.new w _ _, Nat.le_refl _, by decide, Nat.le_refl _, rfl⟩
  have hb0 : Below w.heap.size w (w.alloc (.cells #[.int .u8 (t0.toNat : Int)] 5)) := (Below.refl _ w).alloc (Nat.le_refl _) _
  have hsz0 : w.heap.size ≤ (w.alloc (.cells #[.int .u8 (t0.toNat : Int)] 5)).heap.size := hb0.size
  obtain ⟨B, hB⟩ : ∃ B, w.heap.size = B := ⟨_, rfl⟩
  rw [hB] at hst0 hb0 hsz0
  replace hR := Lib.hid hR
  replace hst0 := Lib.hid hst0
  replace hb0 := Lib.hid hb0
  replace hsz0 := Lib.hid hsz0
  replace ht0 := Lib.hid ht0
  go_enter Tryd.func27, Tryd.ntmps27
  go_upto_region 2 with fail
  try rw [hB]
  generalize (w.alloc (.cells #[.int .u8 (t0.toNat : Int)] 5)) = w1 at hst0 hb0 hsz0 ⊢
  replace hB := Lib.hid hB
  go_loopw [1, 7] (fun iv sv wr => ∃ (k : Nat) (t : UInt8) (st : List UInt8) (A : Option Addr) (c : Nat), k ≤ s.size ∧ iv = .int .i64 (k : Int) ∧ sv = .slice A (st.length + 1) c ∧ Hid (StkR wr B (.slice A (st.length + 1) c) (t :: st)) ∧ Hid (∀ u ∈ t :: st, TopB u) ∧ Hid (st.length ≤ k) ∧ Hid (enc k (scan ((bl s).drop k) (t :: st)) = R) ∧ Hid (Below B w wr) ∧ Hid (B ≤ wr.heap.size)) (fun iv _ _ => s.size - (intOf iv).toNat)
  case atStart => exact ⟨k0, t0, [], _, _, hk0, rfl, rfl, hst0, Lib.hid (fun u hu => by simp at hu; subst hu; exact ht0.out), Lib.hid (Nat.zero_le _), hR, hb0, hsz0⟩
  case round =>
    obtain ⟨k, t, st, A, c, hk, rfl, rfl, hstk, htop, hstl, hsay, hbel, hBs⟩ := hrel
    clear hst0 hb0 hR hsz0
    obtain ⟨g, off, cap, hv, hcap1, hcap2, hBg⟩ := Row.form1 hstk.out (by simp)
    obtain ⟨rfl, _, rfl⟩ : A = some ⟨g, off, none⟩ ∧ st.length + 1 = (t :: st).length ∧ c = cap := by injection hv with h1 h2 h3; exact ⟨h1, rfl, h3⟩
    clear hv
    have hcell := stk_top hstk.out
    unfold cellU at hcell
    have hKs : st.length ≤ 1000000 := by have := hstl.out; omega
    obtain ⟨K, hK⟩ : ∃ K, st.length = K := ⟨_, rfl⟩
    rw [List.length_cons] at hcap1
    rw [hK] at hcell hstk hKs hcap1 ⊢
    unfold maxLen at hcap2
    have hcapK : K + 1 ≤ c := by omega
    have htn := t.toNat_lt
    have htt := htop.out t (by simp)
    have htop2 : Hid (∀ u ∈ st, TopB u) := Lib.hid (fun u hu => htop.out u (by simp [hu]))
    by_cases hlt : k < s.size
    · have hi1 : (k : Int) < (s.size : Int) := by omega
      have hn : s[k].toNat < 256 := s[k].toNat_lt
      have hx := bl_cons s k hlt
      -- a word's end
      by_cases hend : t = 119 ∧ endsB s[k] = true
      · obtain ⟨rfl, hends⟩ := hend
        have hsay0 := hsay.out
        rw [hx, scan_cons (by simp), List.headD_cons, if_pos ⟨rfl, hends⟩, enc_some] at hsay0
        have hop := operator_any s k hk hs wr
        have hbE : Hid (Below w.heap.size w wr) := Lib.hid (by rw [hB.out]; exact hbel.out)
        replace hsay0 := Lib.hid hsay0
        by_cases h32 : s[k] = 32
        · have i32 : (s[k].toNat : Int) = 32 := by rw [h32]; rfl
          clear hstk htop htop2 htt hsay hx hop hends h32
          go_wp2
          go_ret
          exact ⟨by rw [← hsay0.out]; rfl, hbE.out⟩
        · have i32 : ¬ (s[k].toNat : Int) = 32 := fun e => h32 (UInt8.toNat_inj.1 (by rw [show (32 : UInt8).toNat = 32 from rfl]; omega))
          by_cases h9 : s[k] = 9
          · have i9 : (s[k].toNat : Int) = 9 := by rw [h9]; rfl
            clear hstk htop htop2 htt hsay hx hop hends h32 h9
            go_wp2
            go_ret
            exact ⟨by rw [← hsay0.out]; rfl, hbE.out⟩
          · have i9 : ¬ (s[k].toNat : Int) = 9 := fun e => h9 (UInt8.toNat_inj.1 (by rw [show (9 : UInt8).toNat = 9 from rfl]; omega))
            by_cases h10 : s[k] = 10
            · have i10 : (s[k].toNat : Int) = 10 := by rw [h10]; rfl
              clear hstk htop htop2 htt hsay hx hop hends h32 h9 h10
              go_wp2
              go_ret
              exact ⟨by rw [← hsay0.out]; rfl, hbE.out⟩
            · have i10 : ¬ (s[k].toNat : Int) = 10 := fun e => h10 (UInt8.toNat_inj.1 (by rw [show (10 : UInt8).toNat = 10 from rfl]; omega))
              have hpos : (0 : Int) < (opN ((bl s).drop k) : Int) := by
                rw [hx]
                by_cases h0 : opN (s[k] :: (bl s).drop (k + 1)) = 0
                · have := ends_of h32 h9 h10 (op_head h0)
                  rw [this] at hends; cases hends
                · omega
              generalize (opN ((bl s).drop k) : Int) = on at hop hpos
              replace hop := Lib.hid hop
              clear hstk htop htop2 htt hsay hx hends h32 h9 h10
              go_wp2_with fail
              refine hop.out.mono ?_
              rintro e w' ⟨rfl, hb⟩
              have hbF : Hid (Below w.heap.size w w') := Lib.hid (hbE.out.trans (hb.mono (by rw [hB.out]; exact hBs.out)))
              clear hb hop hbE
              go_wp2
              go_ret
              exact ⟨by rw [← hsay0.out]; rfl, hbF.out⟩
      · go_upto_region 6 with fail
        go_cut [46] from 27 to 45 (fun cv wx => cv = .bool false ∧ Hid (Below wr.heap.size wr wx))
        case first =>
          clear hstk htop htop2 hsay hbel
          by_cases h9t : t = 119
          · subst h9t
            have hne : endsB s[k] = false := by
              cases he : endsB s[k] with
              | false => rfl
              | true => exact absurd ⟨rfl, he⟩ hend
            have hne2 := hne
            unfold endsB at hne2
            simp only [Bool.or_eq_false_iff, beq_eq_false_iff_ne] at hne2
            have i32 : ¬ (s[k].toNat : Int) = 32 := fun e => hne2.1.1.1.1.1.1.1.1.1 (UInt8.toNat_inj.1 (by rw [show (32 : UInt8).toNat = 32 from rfl]; omega))
            have i9 : ¬ (s[k].toNat : Int) = 9 := fun e => hne2.1.1.1.1.1.1.1.1.2 (UInt8.toNat_inj.1 (by rw [show (9 : UInt8).toNat = 9 from rfl]; omega))
            have i10 : ¬ (s[k].toNat : Int) = 10 := fun e => hne2.1.1.1.1.1.1.1.2 (UInt8.toNat_inj.1 (by rw [show (10 : UInt8).toNat = 10 from rfl]; omega))
            have h1 : ops1.contains [s[k]] = false := by
              obtain ⟨⟨⟨⟨⟨⟨⟨⟨⟨a1, a2⟩, a3⟩, a4⟩, a5⟩, a6⟩, a7⟩, a8⟩, a9⟩, a10⟩ := hne2
              simp [ops1, a4, a5, a6, a7, a8, a9, a10]
            have hop := operator_any s k hk hs wr
            rw [hx, op_zero h1] at hop
            replace hop := Lib.hid hop
            have hj : Hid (((s[k].toNat : Int) == 32 || (s[k].toNat : Int) == 9 || (s[k].toNat : Int) == 10) = false) := Lib.hid (by
              rw [beq_eq_false_iff_ne.2 i32, beq_eq_false_iff_ne.2 i9, beq_eq_false_iff_ne.2 i10]; rfl)
            clear hne hne2 h1 hx hend htt
            go_wp2_with fail
            refine hop.out.mono ?_
            rintro e w' ⟨rfl, hb⟩
            replace hb := Lib.hid hb
            clear hop
            go_wp2
            go_meet
            exact ⟨first_bool hj.out, hb⟩
          · have i119 : ¬ (t.toNat : Int) = 119 := fun e => h9t (UInt8.toNat_inj.1 (by rw [show (119 : UInt8).toNat = 119 from rfl]; omega))
            clear hx hend htt h9t
            go_wp2
            go_meet
            exact ⟨rfl, Lib.hid (Below.refl _ _)⟩
        case rest =>
          obtain ⟨rfl, hbx⟩ := hcut
          have hstx : Hid (StkR wc B (.slice (some ⟨g, off, none⟩) (K + 1) c) (t :: st)) := Lib.hid (by
            have := hstk.out
            exact Row.keep this fun g' hg => hbx.out.block g' (Row.lt this hg).2.1)
          have hbelx : Hid (Below B w wc) := Lib.hid (hbel.out.trans (hbx.out.mono hBs.out))
          have hBx : Hid (B ≤ wc.heap.size) := Lib.hid (Nat.le_trans hBs.out hbx.out.size)
          clear hstk hbel hBs hbx hcell
          have hstep := fun ts n h => (scan_go hx hend (st := st) (ts := ts) (n := n) h k).symm.trans hsay.out
          have hstop := fun h => (scan_no hx hend (st := st) h k).symm.trans hsay.out
          have hdd : ∀ n, ((bl s).drop k).drop n = (bl s).drop (k + n) := fun n => by rw [List.drop_drop]
          have hq1 := is_any s k ⟨#[36, 40]⟩ hk hs (by decide) wc
          have hq2 := is_any s k ⟨#[36, 123]⟩ hk hs (by decide) wc
          simp only [bl] at hq1 hq2
          rw [show s.data.toList = bl s from rfl, isB_two, hx] at hq1 hq2
          replace hK := Lib.hid hK
          clear hsay hend
          rcases htt with rfl | rfl | rfl | rfl | rfl | rfl
          · as_aux_lemma =>
            by_cases h39 : s[k] = 39
            · have i39 : (s[k].toNat : Int) = 39 := by rw [h39]; rfl
              have hsay1 := hstep [] 1 (by simp [stp, h39])
              rw [hdd 1] at hsay1
              replace hsay1 := Lib.hid hsay1
              clear h39 hstep hstop hdd
              have hpop : Hid (StkR wc B (.slice (some ⟨g, off, none⟩) K c) st) := Lib.hid (by have := stk_pop (st := st) (by rw [hK.out]; exact hstx.out); rwa [hK.out] at this)
              have hsay2 := hsay1.out
              rw [List.nil_append] at hsay2
              by_cases hK0 : K = 0
              · have hst0 : st = [] := List.eq_nil_of_length_eq_zero (by rw [hK.out]; exact hK0)
                rw [hst0, scan_nil, enc_some] at hsay2
                have hbE : Hid (Below w.heap.size w wc) := Lib.hid (by rw [hB.out]; exact hbelx.out)
                replace hsay2 := Lib.hid hsay2
                subst hK0
                clear hpop hst0 hsay1
                clear hq1 hq2
                go_wp2
                go_ret
                exact ⟨by rw [← hsay2.out]; rfl, hbE.out⟩
              · obtain ⟨u, st2, hst2⟩ : ∃ u st2, st = u :: st2 := by
                  cases hh : st with
                  | nil => exact absurd (by rw [← hK.out, hh]; rfl) hK0
                  | cons u st2 => exact ⟨u, st2, rfl⟩
                have hK2 : Hid (st2.length + 1 = K) := Lib.hid (by rw [← hK.out, hst2]; rfl)
                have hKi : ¬ (K : Int) = 0 := by omega
                have hKj : (K : Int) ≤ (c : Int) := by omega
                rw [hst2] at hsay2 hpop
                replace hsay2 := Lib.hid hsay2
                have htop3 : Hid (∀ v ∈ u :: st2, TopB v) := Lib.hid (by rw [← hst2]; exact htop2.out)
                have hstl2 : Hid (st2.length ≤ k + 1) := Lib.hid (by have := hstl.out; have := hK.out; have := hK2.out; omega)
                replace hst2 := Lib.hid hst2
                clear hsay1
                clear hq1 hq2
                go_wp2
                go_roundw
                case rel => exact ⟨k + 1, u, st2, _, _, by omega, by go_num, by rw [hK2.out], (by rw [hK2.out]; exact hpop), htop3, hstl2, hsay2, hbelx, hBx⟩
                case measure => simp [intOf]; omega
            · have i39 : ¬ (s[k].toNat : Int) = 39 := fun e => h39 (UInt8.toNat_inj.1 (by rw [show (39 : UInt8).toNat = 39 from rfl]; omega))
              have hsay1 := hstep [39] 1 (by simp [stp, h39])
              rw [hdd 1] at hsay1
              replace hsay1 := Lib.hid hsay1
              clear h39  hstep hstop hdd
              clear hq1 hq2
              go_wp2
              go_roundw
              case rel => exact ⟨k + 1, _, _, _, _, by omega, by go_num, by rw [hK.out], (by rw [hK.out]; exact hstx), htop, Lib.hid (by have := hstl.out; omega), hsay1, hbelx, hBx⟩
              case measure => simp [intOf]; omega
          · as_aux_lemma =>
            by_cases h92 : s[k] = 92
            · have i92 : (s[k].toNat : Int) = 92 := by rw [h92]; rfl
              by_cases hk1 : k + 1 = s.size
              · have hki : (k : Int) + 1 = (s.size : Int) := by omega
                have hnil : (bl s).drop (k + 1) = [] := bl_end s _ (by omega)
                have hsay1 := hstop (by simp [stp, h92, hnil])
                replace hsay1 := Lib.hid hsay1
                have hbE : Hid (Below w.heap.size w wc) := Lib.hid (by rw [hB.out]; exact hbelx.out)
                clear hx h92 hnil hstep hstop hdd hq1 hq2
                go_wp2
                go_ret
                exact ⟨by rw [← hsay1.out]; rfl, hbE.out⟩
              · have hki : ¬ (k : Int) + 1 = (s.size : Int) := by omega
                have hnn : (bl s).drop (k + 1) ≠ [] := by rw [bl_cons s (k + 1) (by omega)]; simp
                have hsay1 := hstep [34] 2 (by simp [stp, h92, hnn])
                rw [hdd 2] at hsay1
                replace hsay1 := Lib.hid hsay1
                clear h92 hnn  hstep hstop hdd
                clear hq1 hq2
                go_wp2
                go_roundw
                case rel => exact ⟨k + 2, _, _, _, _, by omega, by go_num, by rw [hK.out], (by rw [hK.out]; exact hstx), htop, Lib.hid (by have := hstl.out; omega), hsay1, hbelx, hBx⟩
                case measure => simp [intOf]; omega
            · have i92 : ¬ (s[k].toNat : Int) = 92 := fun e => h92 (UInt8.toNat_inj.1 (by rw [show (92 : UInt8).toNat = 92 from rfl]; omega))
              by_cases h34 : s[k] = 34
              · have i34 : (s[k].toNat : Int) = 34 := by rw [h34]; rfl
                have hsay1 := hstep [] 1 (by simp [stp, h92, h34])
                rw [hdd 1] at hsay1
                replace hsay1 := Lib.hid hsay1
                clear h92 h34 hstep hstop hdd
                have hpop : Hid (StkR wc B (.slice (some ⟨g, off, none⟩) K c) st) := Lib.hid (by have := stk_pop (st := st) (by rw [hK.out]; exact hstx.out); rwa [hK.out] at this)
                have hsay2 := hsay1.out
                rw [List.nil_append] at hsay2
                by_cases hK0 : K = 0
                · have hst0 : st = [] := List.eq_nil_of_length_eq_zero (by rw [hK.out]; exact hK0)
                  rw [hst0, scan_nil, enc_some] at hsay2
                  have hbE : Hid (Below w.heap.size w wc) := Lib.hid (by rw [hB.out]; exact hbelx.out)
                  replace hsay2 := Lib.hid hsay2
                  subst hK0
                  clear hpop hst0 hsay1
                  clear hq1 hq2
                  go_wp2
                  go_ret
                  exact ⟨by rw [← hsay2.out]; rfl, hbE.out⟩
                · obtain ⟨u, st2, hst2⟩ : ∃ u st2, st = u :: st2 := by
                    cases hh : st with
                    | nil => exact absurd (by rw [← hK.out, hh]; rfl) hK0
                    | cons u st2 => exact ⟨u, st2, rfl⟩
                  have hK2 : Hid (st2.length + 1 = K) := Lib.hid (by rw [← hK.out, hst2]; rfl)
                  have hKi : ¬ (K : Int) = 0 := by omega
                  have hKj : (K : Int) ≤ (c : Int) := by omega
                  rw [hst2] at hsay2 hpop
                  replace hsay2 := Lib.hid hsay2
                  have htop3 : Hid (∀ v ∈ u :: st2, TopB v) := Lib.hid (by rw [← hst2]; exact htop2.out)
                  have hstl2 : Hid (st2.length ≤ k + 1) := Lib.hid (by have := hstl.out; have := hK.out; have := hK2.out; omega)
                  replace hst2 := Lib.hid hst2
                  clear hsay1
                  clear hq1 hq2
                  go_wp2
                  go_roundw
                  case rel => exact ⟨k + 1, u, st2, _, _, by omega, by go_num, by rw [hK2.out], (by rw [hK2.out]; exact hpop), htop3, hstl2, hsay2, hbelx, hBx⟩
                  case measure => simp [intOf]; omega
              · have i34 : ¬ (s[k].toNat : Int) = 34 := fun e => h34 (UInt8.toNat_inj.1 (by rw [show (34 : UInt8).toNat = 34 from rfl]; omega))
                by_cases h96 : s[k] = 96
                · have i96 : (s[k].toNat : Int) = 96 := by rw [h96]; rfl
                  have e36 : (s[k] == (36 : UInt8)) = false := by rw [h96]; decide
                  have hq : (match s[k] :: (bl s).drop (k + 1) with | c :: d :: _ => c == 36 && d == 40 | _ => false) = false ∧ (match s[k] :: (bl s).drop (k + 1) with | c :: d :: _ => c == 36 && d == 123 | _ => false) = false := by cases (bl s).drop (k + 1) <;> simp [e36]
                  rw [hq.1] at hq1
                  rw [hq.2] at hq2
                  clear hq e36
                  have hsay1 := hstep [96, 34] 1 (by simp [stp, h92, h34, h96])
                  rw [hdd 1] at hsay1
                  replace hsay1 := Lib.hid hsay1
                  obtain ⟨A', c', w2, hap, hst', hb', hB'⟩ := stk_push (x := 96) hK.out hstx.out hKs hBx.out
                  replace hap := hap _ rfl
                  rw [show (((96) : UInt8).toNat : Int) = 96 by rfl] at hap
                  replace hap := Lib.hid hap
                  replace hst' := Lib.hid hst'
                  have hbel' : Hid (Below B w w2) := Lib.hid (hbelx.out.trans hb')
                  replace hB' := Lib.hid hB'
                  have htop3 : Hid (∀ v ∈ 96 :: 34 :: st, TopB v) := Lib.hid (fun v hv => by
                    rcases List.mem_cons.1 hv with rfl | hv
                    · simp [TopB]
                    · exact htop.out v hv)
                  clear h92 h34 h96 hstep hstop hdd hb'
                  replace hq1 := Lib.hid hq1
                  replace hq2 := Lib.hid hq2
                  go_wp2_with fail
                  refine hq1.out.mono ?_
                  rintro e w' ⟨rfl, hwq⟩
                  obtain rfl := hwq.symm
                  clear hq1 hwq
                  go_wp2_with fail
                  refine hq2.out.mono ?_
                  rintro e w' ⟨rfl, hwq⟩
                  obtain rfl := hwq.symm
                  clear hq2 hwq
                  go_wp2_with (at_builtin; refine wpList_append_of rfl _ _ 57 57 rfl _ _ _ w2 rfl rfl hap.out ?_)
                  go_roundw
                  case rel => exact ⟨k + 1, 96, 34 :: st, _, _, by omega, by go_num, by rw [List.length_cons, hK.out], (by rw [List.length_cons, hK.out]; exact hst'), htop3, Lib.hid (by have := hstl.out; rw [List.length_cons]; omega), hsay1, hbel', hB'⟩
                  case measure => simp [intOf]; omega
                · have i96 : ¬ (s[k].toNat : Int) = 96 := fun e => h96 (UInt8.toNat_inj.1 (by rw [show (96 : UInt8).toNat = 96 from rfl]; omega))
                  by_cases h36 : s[k] = 36
                  · have i36 : (s[k].toNat : Int) = 36 := by rw [h36]; rfl
                    by_cases hk1 : k + 1 < s.size
                    · have hki : (k : Int) + 1 < (s.size : Int) := by omega
                      have hn2 := s[k + 1].toNat_lt
                      have hx2 := bl_cons s (k + 1) hk1
                      rw [hx2] at hstep hstop hq1 hq2
                      by_cases h40 : s[k + 1] = 40
                      · have j40 : (s[k + 1].toNat : Int) = 40 := by rw [h40]; rfl
                        simp only [h36, h40] at hq1
                        have hsay1 := hstep [40, 34] 2 (by simp [stp, h92, h34, h96, h36, h40])
                        rw [hdd 2] at hsay1
                        replace hsay1 := Lib.hid hsay1
                        obtain ⟨A', c', w2, hap, hst', hb', hB'⟩ := stk_push (x := 40) hK.out hstx.out hKs hBx.out
                        replace hap := hap _ rfl
                        rw [show (((40) : UInt8).toNat : Int) = 40 by rfl] at hap
                        replace hap := Lib.hid hap
                        replace hst' := Lib.hid hst'
                        have hbel' : Hid (Below B w w2) := Lib.hid (hbelx.out.trans hb')
                        replace hB' := Lib.hid hB'
                        have htop3 : Hid (∀ v ∈ 40 :: 34 :: st, TopB v) := Lib.hid (fun v hv => by
                          rcases List.mem_cons.1 hv with rfl | hv
                          · simp [TopB]
                          · exact htop.out v hv)
                        clear h92 h34 h96 h36 h40 hstep hstop hdd hb'
                        replace hq1 := Lib.hid hq1
                        replace hq2 := Lib.hid hq2
                        go_wp2_with fail
                        refine hq1.out.mono ?_
                        rintro e w' ⟨rfl, hwq⟩
                        obtain rfl := hwq.symm
                        clear hq1 hwq
                        go_wp2_with (at_builtin; refine wpList_append_of rfl _ _ 57 57 rfl _ _ _ w2 rfl rfl hap.out ?_)
                        go_roundw
                        case rel => exact ⟨k + 2, 40, 34 :: st, _, _, by omega, by go_num, by rw [List.length_cons, hK.out], (by rw [List.length_cons, hK.out]; exact hst'), htop3, Lib.hid (by have := hstl.out; rw [List.length_cons]; omega), hsay1, hbel', hB'⟩
                        case measure => simp [intOf]; omega
                      · by_cases h123 : s[k + 1] = 123
                        · have j123 : (s[k + 1].toNat : Int) = 123 := by rw [h123]; rfl
                          simp only [h36, h123] at hq1 hq2
                          have hsay1 := hstep [123, 34] 2 (by simp [stp, h92, h34, h96, h36, h123])
                          rw [hdd 2] at hsay1
                          replace hsay1 := Lib.hid hsay1
                          obtain ⟨A', c', w2, hap, hst', hb', hB'⟩ := stk_push (x := 123) hK.out hstx.out hKs hBx.out
                          replace hap := hap _ rfl
                          rw [show (((123) : UInt8).toNat : Int) = 123 by rfl] at hap
                          replace hap := Lib.hid hap
                          replace hst' := Lib.hid hst'
                          have hbel' : Hid (Below B w w2) := Lib.hid (hbelx.out.trans hb')
                          replace hB' := Lib.hid hB'
                          have htop3 : Hid (∀ v ∈ 123 :: 34 :: st, TopB v) := Lib.hid (fun v hv => by
                            rcases List.mem_cons.1 hv with rfl | hv
                            · simp [TopB]
                            · exact htop.out v hv)
                          clear h92 h34 h96 h36 h123 hstep hstop hdd hb'
                          replace hq1 := Lib.hid hq1
                          replace hq2 := Lib.hid hq2
                          go_wp2_with fail
                          refine hq1.out.mono ?_
                          rintro e w' ⟨rfl, hwq⟩
                          obtain rfl := hwq.symm
                          clear hq1 hwq
                          go_wp2_with fail
                          refine hq2.out.mono ?_
                          rintro e w' ⟨rfl, hwq⟩
                          obtain rfl := hwq.symm
                          clear hq2 hwq
                          go_wp2_with (at_builtin; refine wpList_append_of rfl _ _ 57 57 rfl _ _ _ w2 rfl rfl hap.out ?_)
                          go_roundw
                          case rel => exact ⟨k + 2, 123, 34 :: st, _, _, by omega, by go_num, by rw [List.length_cons, hK.out], (by rw [List.length_cons, hK.out]; exact hst'), htop3, Lib.hid (by have := hstl.out; rw [List.length_cons]; omega), hsay1, hbel', hB'⟩
                          case measure => simp [intOf]; omega
                        · have e1 : (s[k + 1] == (40 : UInt8)) = false := beq_eq_false_iff_ne.2 h40
                          have e2 : (s[k + 1] == (123 : UInt8)) = false := beq_eq_false_iff_ne.2 h123
                          simp only [e1, e2, Bool.and_false] at hq1 hq2
                          clear e1 e2
                          have hsay1 := hstep [34] 1 (by simp [stp, h92, h34, h96, h36, h40, h123])
                          rw [hdd 1] at hsay1
                          replace hsay1 := Lib.hid hsay1
                          clear h92 h34 h96 h36 h40 h123  hstep hstop hdd
                          replace hq1 := Lib.hid hq1
                          replace hq2 := Lib.hid hq2
                          go_wp2_with fail
                          refine hq1.out.mono ?_
                          rintro e w' ⟨rfl, hwq⟩
                          obtain rfl := hwq.symm
                          clear hq1 hwq
                          go_wp2_with fail
                          refine hq2.out.mono ?_
                          rintro e w' ⟨rfl, hwq⟩
                          obtain rfl := hwq.symm
                          clear hq2 hwq
                          go_wp2
                          go_roundw
                          case rel => exact ⟨k + 1, _, _, _, _, by omega, by go_num, by rw [hK.out], (by rw [hK.out]; exact hstx), htop, Lib.hid (by have := hstl.out; omega), hsay1, hbelx, hBx⟩
                          case measure => simp [intOf]; omega
                    · have hnil : (bl s).drop (k + 1) = [] := bl_end s _ (by omega)
                      rw [hnil] at hstep hstop hq1 hq2
                      simp only at hq1 hq2
                      clear hnil
                      have hsay1 := hstep [34] 1 (by simp [stp, h92, h34, h96, h36])
                      rw [hdd 1] at hsay1
                      replace hsay1 := Lib.hid hsay1
                      clear h92 h34 h96 h36  hstep hstop hdd
                      replace hq1 := Lib.hid hq1
                      replace hq2 := Lib.hid hq2
                      go_wp2_with fail
                      refine hq1.out.mono ?_
                      rintro e w' ⟨rfl, hwq⟩
                      obtain rfl := hwq.symm
                      clear hq1 hwq
                      go_wp2_with fail
                      refine hq2.out.mono ?_
                      rintro e w' ⟨rfl, hwq⟩
                      obtain rfl := hwq.symm
                      clear hq2 hwq
                      go_wp2
                      go_roundw
                      case rel => exact ⟨k + 1, _, _, _, _, by omega, by go_num, by rw [hK.out], (by rw [hK.out]; exact hstx), htop, Lib.hid (by have := hstl.out; omega), hsay1, hbelx, hBx⟩
                      case measure => simp [intOf]; omega
                  · have i36 : ¬ (s[k].toNat : Int) = 36 := fun e => h36 (UInt8.toNat_inj.1 (by rw [show (36 : UInt8).toNat = 36 from rfl]; omega))
                    by_cases h39 : s[k] = 39
                    · have i39 : (s[k].toNat : Int) = 39 := by rw [h39]; rfl
                      have e36 : (s[k] == (36 : UInt8)) = false := by rw [h39]; decide
                      have hq : (match s[k] :: (bl s).drop (k + 1) with | c :: d :: _ => c == 36 && d == 40 | _ => false) = false ∧ (match s[k] :: (bl s).drop (k + 1) with | c :: d :: _ => c == 36 && d == 123 | _ => false) = false := by cases (bl s).drop (k + 1) <;> simp [e36]
                      rw [hq.1] at hq1
                      rw [hq.2] at hq2
                      clear hq e36
                      have hsay1 := hstep [34] 1 (by simp [stp, h92, h34, h96, h36, h39])
                      rw [hdd 1] at hsay1
                      replace hsay1 := Lib.hid hsay1
                      clear h92 h34 h96 h36 h39  hstep hstop hdd
                      replace hq1 := Lib.hid hq1
                      replace hq2 := Lib.hid hq2
                      go_wp2_with fail
                      refine hq1.out.mono ?_
                      rintro e w' ⟨rfl, hwq⟩
                      obtain rfl := hwq.symm
                      clear hq1 hwq
                      go_wp2_with fail
                      refine hq2.out.mono ?_
                      rintro e w' ⟨rfl, hwq⟩
                      obtain rfl := hwq.symm
                      clear hq2 hwq
                      go_wp2
                      go_roundw
                      case rel => exact ⟨k + 1, _, _, _, _, by omega, by go_num, by rw [hK.out], (by rw [hK.out]; exact hstx), htop, Lib.hid (by have := hstl.out; omega), hsay1, hbelx, hBx⟩
                      case measure => simp [intOf]; omega
                    · have i39 : ¬ (s[k].toNat : Int) = 39 := fun e => h39 (UInt8.toNat_inj.1 (by rw [show (39 : UInt8).toNat = 39 from rfl]; omega))
                      by_cases h40 : s[k] = 40
                      · have i40 : (s[k].toNat : Int) = 40 := by rw [h40]; rfl
                        have e36 : (s[k] == (36 : UInt8)) = false := by rw [h40]; decide
                        have hq : (match s[k] :: (bl s).drop (k + 1) with | c :: d :: _ => c == 36 && d == 40 | _ => false) = false ∧ (match s[k] :: (bl s).drop (k + 1) with | c :: d :: _ => c == 36 && d == 123 | _ => false) = false := by cases (bl s).drop (k + 1) <;> simp [e36]
                        rw [hq.1] at hq1
                        rw [hq.2] at hq2
                        clear hq e36
                        have hsay1 := hstep [34] 1 (by simp [stp, h92, h34, h96, h36, h39, h40])
                        rw [hdd 1] at hsay1
                        replace hsay1 := Lib.hid hsay1
                        clear h92 h34 h96 h36 h39 h40  hstep hstop hdd
                        replace hq1 := Lib.hid hq1
                        replace hq2 := Lib.hid hq2
                        go_wp2_with fail
                        refine hq1.out.mono ?_
                        rintro e w' ⟨rfl, hwq⟩
                        obtain rfl := hwq.symm
                        clear hq1 hwq
                        go_wp2_with fail
                        refine hq2.out.mono ?_
                        rintro e w' ⟨rfl, hwq⟩
                        obtain rfl := hwq.symm
                        clear hq2 hwq
                        go_wp2
                        go_roundw
                        case rel => exact ⟨k + 1, _, _, _, _, by omega, by go_num, by rw [hK.out], (by rw [hK.out]; exact hstx), htop, Lib.hid (by have := hstl.out; omega), hsay1, hbelx, hBx⟩
                        case measure => simp [intOf]; omega
                      · have i40 : ¬ (s[k].toNat : Int) = 40 := fun e => h40 (UInt8.toNat_inj.1 (by rw [show (40 : UInt8).toNat = 40 from rfl]; omega))
                        by_cases h41 : s[k] = 41
                        · have i41 : (s[k].toNat : Int) = 41 := by rw [h41]; rfl
                          have e36 : (s[k] == (36 : UInt8)) = false := by rw [h41]; decide
                          have hq : (match s[k] :: (bl s).drop (k + 1) with | c :: d :: _ => c == 36 && d == 40 | _ => false) = false ∧ (match s[k] :: (bl s).drop (k + 1) with | c :: d :: _ => c == 36 && d == 123 | _ => false) = false := by cases (bl s).drop (k + 1) <;> simp [e36]
                          rw [hq.1] at hq1
                          rw [hq.2] at hq2
                          clear hq e36
                          have hsay1 := hstep [34] 1 (by simp [stp, h92, h34, h96, h36, h39, h40, h41])
                          rw [hdd 1] at hsay1
                          replace hsay1 := Lib.hid hsay1
                          clear h92 h34 h96 h36 h39 h40 h41  hstep hstop hdd
                          replace hq1 := Lib.hid hq1
                          replace hq2 := Lib.hid hq2
                          go_wp2_with fail
                          refine hq1.out.mono ?_
                          rintro e w' ⟨rfl, hwq⟩
                          obtain rfl := hwq.symm
                          clear hq1 hwq
                          go_wp2_with fail
                          refine hq2.out.mono ?_
                          rintro e w' ⟨rfl, hwq⟩
                          obtain rfl := hwq.symm
                          clear hq2 hwq
                          go_wp2
                          go_roundw
                          case rel => exact ⟨k + 1, _, _, _, _, by omega, by go_num, by rw [hK.out], (by rw [hK.out]; exact hstx), htop, Lib.hid (by have := hstl.out; omega), hsay1, hbelx, hBx⟩
                          case measure => simp [intOf]; omega
                        · have i41 : ¬ (s[k].toNat : Int) = 41 := fun e => h41 (UInt8.toNat_inj.1 (by rw [show (41 : UInt8).toNat = 41 from rfl]; omega))
                          by_cases h125 : s[k] = 125
                          · have i125 : (s[k].toNat : Int) = 125 := by rw [h125]; rfl
                            have e36 : (s[k] == (36 : UInt8)) = false := by rw [h125]; decide
                            have hq : (match s[k] :: (bl s).drop (k + 1) with | c :: d :: _ => c == 36 && d == 40 | _ => false) = false ∧ (match s[k] :: (bl s).drop (k + 1) with | c :: d :: _ => c == 36 && d == 123 | _ => false) = false := by cases (bl s).drop (k + 1) <;> simp [e36]
                            rw [hq.1] at hq1
                            rw [hq.2] at hq2
                            clear hq e36
                            have hsay1 := hstep [34] 1 (by simp [stp, h92, h34, h96, h36, h39, h40, h41, h125])
                            rw [hdd 1] at hsay1
                            replace hsay1 := Lib.hid hsay1
                            clear h92 h34 h96 h36 h39 h40 h41 h125  hstep hstop hdd
                            replace hq1 := Lib.hid hq1
                            replace hq2 := Lib.hid hq2
                            go_wp2_with fail
                            refine hq1.out.mono ?_
                            rintro e w' ⟨rfl, hwq⟩
                            obtain rfl := hwq.symm
                            clear hq1 hwq
                            go_wp2_with fail
                            refine hq2.out.mono ?_
                            rintro e w' ⟨rfl, hwq⟩
                            obtain rfl := hwq.symm
                            clear hq2 hwq
                            go_wp2
                            go_roundw
                            case rel => exact ⟨k + 1, _, _, _, _, by omega, by go_num, by rw [hK.out], (by rw [hK.out]; exact hstx), htop, Lib.hid (by have := hstl.out; omega), hsay1, hbelx, hBx⟩
                            case measure => simp [intOf]; omega
                          · have i125 : ¬ (s[k].toNat : Int) = 125 := fun e => h125 (UInt8.toNat_inj.1 (by rw [show (125 : UInt8).toNat = 125 from rfl]; omega))
                            have e36 : (s[k] == (36 : UInt8)) = false := beq_eq_false_iff_ne.2 h36
                            have hq : (match s[k] :: (bl s).drop (k + 1) with | c :: d :: _ => c == 36 && d == 40 | _ => false) = false ∧ (match s[k] :: (bl s).drop (k + 1) with | c :: d :: _ => c == 36 && d == 123 | _ => false) = false := by cases (bl s).drop (k + 1) <;> simp [e36]
                            rw [hq.1] at hq1
                            rw [hq.2] at hq2
                            clear hq e36
                            have hsay1 := hstep [34] 1 (by simp [stp, h92, h34, h96, h36, h39, h40, h41, h125])
                            rw [hdd 1] at hsay1
                            replace hsay1 := Lib.hid hsay1
                            clear h92 h34 h96 h36 h39 h40 h41 h125  hstep hstop hdd
                            replace hq1 := Lib.hid hq1
                            replace hq2 := Lib.hid hq2
                            go_wp2_with fail
                            refine hq1.out.mono ?_
                            rintro e w' ⟨rfl, hwq⟩
                            obtain rfl := hwq.symm
                            clear hq1 hwq
                            go_wp2_with fail
                            refine hq2.out.mono ?_
                            rintro e w' ⟨rfl, hwq⟩
                            obtain rfl := hwq.symm
                            clear hq2 hwq
                            go_wp2
                            go_roundw
                            case rel => exact ⟨k + 1, _, _, _, _, by omega, by go_num, by rw [hK.out], (by rw [hK.out]; exact hstx), htop, Lib.hid (by have := hstl.out; omega), hsay1, hbelx, hBx⟩
                            case measure => simp [intOf]; omega
          · as_aux_lemma =>
            by_cases h92 : s[k] = 92
            · have i92 : (s[k].toNat : Int) = 92 := by rw [h92]; rfl
              by_cases hk1 : k + 1 = s.size
              · have hki : (k : Int) + 1 = (s.size : Int) := by omega
                have hnil : (bl s).drop (k + 1) = [] := bl_end s _ (by omega)
                have hsay1 := hstop (by simp [stp, h92, hnil])
                replace hsay1 := Lib.hid hsay1
                have hbE : Hid (Below w.heap.size w wc) := Lib.hid (by rw [hB.out]; exact hbelx.out)
                clear hx h92 hnil hstep hstop hdd hq1 hq2
                go_wp2
                go_ret
                exact ⟨by rw [← hsay1.out]; rfl, hbE.out⟩
              · have hki : ¬ (k : Int) + 1 = (s.size : Int) := by omega
                have hnn : (bl s).drop (k + 1) ≠ [] := by rw [bl_cons s (k + 1) (by omega)]; simp
                have hsay1 := hstep [96] 2 (by simp [stp, h92, hnn])
                rw [hdd 2] at hsay1
                replace hsay1 := Lib.hid hsay1
                clear h92 hnn  hstep hstop hdd
                clear hq1 hq2
                go_wp2
                go_roundw
                case rel => exact ⟨k + 2, _, _, _, _, by omega, by go_num, by rw [hK.out], (by rw [hK.out]; exact hstx), htop, Lib.hid (by have := hstl.out; omega), hsay1, hbelx, hBx⟩
                case measure => simp [intOf]; omega
            · have i92 : ¬ (s[k].toNat : Int) = 92 := fun e => h92 (UInt8.toNat_inj.1 (by rw [show (92 : UInt8).toNat = 92 from rfl]; omega))
              by_cases h96 : s[k] = 96
              · have i96 : (s[k].toNat : Int) = 96 := by rw [h96]; rfl
                have hsay1 := hstep [] 1 (by simp [stp, h92, h96])
                rw [hdd 1] at hsay1
                replace hsay1 := Lib.hid hsay1
                clear h92 h96 hstep hstop hdd
                have hpop : Hid (StkR wc B (.slice (some ⟨g, off, none⟩) K c) st) := Lib.hid (by have := stk_pop (st := st) (by rw [hK.out]; exact hstx.out); rwa [hK.out] at this)
                have hsay2 := hsay1.out
                rw [List.nil_append] at hsay2
                by_cases hK0 : K = 0
                · have hst0 : st = [] := List.eq_nil_of_length_eq_zero (by rw [hK.out]; exact hK0)
                  rw [hst0, scan_nil, enc_some] at hsay2
                  have hbE : Hid (Below w.heap.size w wc) := Lib.hid (by rw [hB.out]; exact hbelx.out)
                  replace hsay2 := Lib.hid hsay2
                  subst hK0
                  clear hpop hst0 hsay1
                  clear hq1 hq2
                  go_wp2
                  go_ret
                  exact ⟨by rw [← hsay2.out]; rfl, hbE.out⟩
                · obtain ⟨u, st2, hst2⟩ : ∃ u st2, st = u :: st2 := by
                    cases hh : st with
                    | nil => exact absurd (by rw [← hK.out, hh]; rfl) hK0
                    | cons u st2 => exact ⟨u, st2, rfl⟩
                  have hK2 : Hid (st2.length + 1 = K) := Lib.hid (by rw [← hK.out, hst2]; rfl)
                  have hKi : ¬ (K : Int) = 0 := by omega
                  have hKj : (K : Int) ≤ (c : Int) := by omega
                  rw [hst2] at hsay2 hpop
                  replace hsay2 := Lib.hid hsay2
                  have htop3 : Hid (∀ v ∈ u :: st2, TopB v) := Lib.hid (by rw [← hst2]; exact htop2.out)
                  have hstl2 : Hid (st2.length ≤ k + 1) := Lib.hid (by have := hstl.out; have := hK.out; have := hK2.out; omega)
                  replace hst2 := Lib.hid hst2
                  clear hsay1
                  clear hq1 hq2
                  go_wp2
                  go_roundw
                  case rel => exact ⟨k + 1, u, st2, _, _, by omega, by go_num, by rw [hK2.out], (by rw [hK2.out]; exact hpop), htop3, hstl2, hsay2, hbelx, hBx⟩
                  case measure => simp [intOf]; omega
              · have i96 : ¬ (s[k].toNat : Int) = 96 := fun e => h96 (UInt8.toNat_inj.1 (by rw [show (96 : UInt8).toNat = 96 from rfl]; omega))
                have hsay1 := hstep [96] 1 (by simp [stp, h92, h96])
                rw [hdd 1] at hsay1
                replace hsay1 := Lib.hid hsay1
                clear h92 h96  hstep hstop hdd
                clear hq1 hq2
                go_wp2
                go_roundw
                case rel => exact ⟨k + 1, _, _, _, _, by omega, by go_num, by rw [hK.out], (by rw [hK.out]; exact hstx), htop, Lib.hid (by have := hstl.out; omega), hsay1, hbelx, hBx⟩
                case measure => simp [intOf]; omega
          · as_aux_lemma =>
            by_cases h92 : s[k] = 92
            · have i92 : (s[k].toNat : Int) = 92 := by rw [h92]; rfl
              by_cases hk1 : k + 1 = s.size
              · have hki : (k : Int) + 1 = (s.size : Int) := by omega
                have hnil : (bl s).drop (k + 1) = [] := bl_end s _ (by omega)
                have hsay1 := hstop (by simp [stp, h92, hnil])
                replace hsay1 := Lib.hid hsay1
                have hbE : Hid (Below w.heap.size w wc) := Lib.hid (by rw [hB.out]; exact hbelx.out)
                clear hx h92 hnil hstep hstop hdd hq1 hq2
                go_wp2
                go_ret
                exact ⟨by rw [← hsay1.out]; rfl, hbE.out⟩
              · have hki : ¬ (k : Int) + 1 = (s.size : Int) := by omega
                have hnn : (bl s).drop (k + 1) ≠ [] := by rw [bl_cons s (k + 1) (by omega)]; simp
                have hsay1 := hstep [40] 2 (by simp [stp, h92, hnn])
                rw [hdd 2] at hsay1
                replace hsay1 := Lib.hid hsay1
                clear h92 hnn  hstep hstop hdd
                clear hq1 hq2
                go_wp2
                go_roundw
                case rel => exact ⟨k + 2, _, _, _, _, by omega, by go_num, by rw [hK.out], (by rw [hK.out]; exact hstx), htop, Lib.hid (by have := hstl.out; omega), hsay1, hbelx, hBx⟩
                case measure => simp [intOf]; omega
            · have i92 : ¬ (s[k].toNat : Int) = 92 := fun e => h92 (UInt8.toNat_inj.1 (by rw [show (92 : UInt8).toNat = 92 from rfl]; omega))
              by_cases h34 : s[k] = 34
              · have i34 : (s[k].toNat : Int) = 34 := by rw [h34]; rfl
                have e36 : (s[k] == (36 : UInt8)) = false := by rw [h34]; decide
                have hq : (match s[k] :: (bl s).drop (k + 1) with | c :: d :: _ => c == 36 && d == 40 | _ => false) = false ∧ (match s[k] :: (bl s).drop (k + 1) with | c :: d :: _ => c == 36 && d == 123 | _ => false) = false := by cases (bl s).drop (k + 1) <;> simp [e36]
                rw [hq.1] at hq1
                rw [hq.2] at hq2
                clear hq e36
                have hsay1 := hstep [34, 40] 1 (by simp [stp, h92, h34])
                rw [hdd 1] at hsay1
                replace hsay1 := Lib.hid hsay1
                obtain ⟨A', c', w2, hap, hst', hb', hB'⟩ := stk_push (x := 34) hK.out hstx.out hKs hBx.out
                replace hap := hap _ rfl
                rw [show (((34) : UInt8).toNat : Int) = 34 by rfl] at hap
                replace hap := Lib.hid hap
                replace hst' := Lib.hid hst'
                have hbel' : Hid (Below B w w2) := Lib.hid (hbelx.out.trans hb')
                replace hB' := Lib.hid hB'
                have htop3 : Hid (∀ v ∈ 34 :: 40 :: st, TopB v) := Lib.hid (fun v hv => by
                  rcases List.mem_cons.1 hv with rfl | hv
                  · simp [TopB]
                  · exact htop.out v hv)
                clear h92 h34 hstep hstop hdd hb'
                replace hq1 := Lib.hid hq1
                replace hq2 := Lib.hid hq2
                go_wp2_with fail
                refine hq1.out.mono ?_
                rintro e w' ⟨rfl, hwq⟩
                obtain rfl := hwq.symm
                clear hq1 hwq
                go_wp2_with fail
                refine hq2.out.mono ?_
                rintro e w' ⟨rfl, hwq⟩
                obtain rfl := hwq.symm
                clear hq2 hwq
                go_wp2_with (at_builtin; refine wpList_append_of rfl _ _ 57 57 rfl _ _ _ w2 rfl rfl hap.out ?_)
                go_roundw
                case rel => exact ⟨k + 1, 34, 40 :: st, _, _, by omega, by go_num, by rw [List.length_cons, hK.out], (by rw [List.length_cons, hK.out]; exact hst'), htop3, Lib.hid (by have := hstl.out; rw [List.length_cons]; omega), hsay1, hbel', hB'⟩
                case measure => simp [intOf]; omega
              · have i34 : ¬ (s[k].toNat : Int) = 34 := fun e => h34 (UInt8.toNat_inj.1 (by rw [show (34 : UInt8).toNat = 34 from rfl]; omega))
                by_cases h96 : s[k] = 96
                · have i96 : (s[k].toNat : Int) = 96 := by rw [h96]; rfl
                  have e36 : (s[k] == (36 : UInt8)) = false := by rw [h96]; decide
                  have hq : (match s[k] :: (bl s).drop (k + 1) with | c :: d :: _ => c == 36 && d == 40 | _ => false) = false ∧ (match s[k] :: (bl s).drop (k + 1) with | c :: d :: _ => c == 36 && d == 123 | _ => false) = false := by cases (bl s).drop (k + 1) <;> simp [e36]
                  rw [hq.1] at hq1
                  rw [hq.2] at hq2
                  clear hq e36
                  have hsay1 := hstep [96, 40] 1 (by simp [stp, h92, h34, h96])
                  rw [hdd 1] at hsay1
                  replace hsay1 := Lib.hid hsay1
                  obtain ⟨A', c', w2, hap, hst', hb', hB'⟩ := stk_push (x := 96) hK.out hstx.out hKs hBx.out
                  replace hap := hap _ rfl
                  rw [show (((96) : UInt8).toNat : Int) = 96 by rfl] at hap
                  replace hap := Lib.hid hap
                  replace hst' := Lib.hid hst'
                  have hbel' : Hid (Below B w w2) := Lib.hid (hbelx.out.trans hb')
                  replace hB' := Lib.hid hB'
                  have htop3 : Hid (∀ v ∈ 96 :: 40 :: st, TopB v) := Lib.hid (fun v hv => by
                    rcases List.mem_cons.1 hv with rfl | hv
                    · simp [TopB]
                    · exact htop.out v hv)
                  clear h92 h34 h96 hstep hstop hdd hb'
                  replace hq1 := Lib.hid hq1
                  replace hq2 := Lib.hid hq2
                  go_wp2_with fail
                  refine hq1.out.mono ?_
                  rintro e w' ⟨rfl, hwq⟩
                  obtain rfl := hwq.symm
                  clear hq1 hwq
                  go_wp2_with fail
                  refine hq2.out.mono ?_
                  rintro e w' ⟨rfl, hwq⟩
                  obtain rfl := hwq.symm
                  clear hq2 hwq
                  go_wp2_with (at_builtin; refine wpList_append_of rfl _ _ 57 57 rfl _ _ _ w2 rfl rfl hap.out ?_)
                  go_roundw
                  case rel => exact ⟨k + 1, 96, 40 :: st, _, _, by omega, by go_num, by rw [List.length_cons, hK.out], (by rw [List.length_cons, hK.out]; exact hst'), htop3, Lib.hid (by have := hstl.out; rw [List.length_cons]; omega), hsay1, hbel', hB'⟩
                  case measure => simp [intOf]; omega
                · have i96 : ¬ (s[k].toNat : Int) = 96 := fun e => h96 (UInt8.toNat_inj.1 (by rw [show (96 : UInt8).toNat = 96 from rfl]; omega))
                  by_cases h36 : s[k] = 36
                  · have i36 : (s[k].toNat : Int) = 36 := by rw [h36]; rfl
                    by_cases hk1 : k + 1 < s.size
                    · have hki : (k : Int) + 1 < (s.size : Int) := by omega
                      have hn2 := s[k + 1].toNat_lt
                      have hx2 := bl_cons s (k + 1) hk1
                      rw [hx2] at hstep hstop hq1 hq2
                      by_cases h40 : s[k + 1] = 40
                      · have j40 : (s[k + 1].toNat : Int) = 40 := by rw [h40]; rfl
                        simp only [h36, h40] at hq1
                        have hsay1 := hstep [40, 40] 2 (by simp [stp, h92, h34, h96, h36, h40])
                        rw [hdd 2] at hsay1
                        replace hsay1 := Lib.hid hsay1
                        obtain ⟨A', c', w2, hap, hst', hb', hB'⟩ := stk_push (x := 40) hK.out hstx.out hKs hBx.out
                        replace hap := hap _ rfl
                        rw [show (((40) : UInt8).toNat : Int) = 40 by rfl] at hap
                        replace hap := Lib.hid hap
                        replace hst' := Lib.hid hst'
                        have hbel' : Hid (Below B w w2) := Lib.hid (hbelx.out.trans hb')
                        replace hB' := Lib.hid hB'
                        have htop3 : Hid (∀ v ∈ 40 :: 40 :: st, TopB v) := Lib.hid (fun v hv => by
                          rcases List.mem_cons.1 hv with rfl | hv
                          · simp [TopB]
                          · exact htop.out v hv)
                        clear h92 h34 h96 h36 h40 hstep hstop hdd hb'
                        replace hq1 := Lib.hid hq1
                        replace hq2 := Lib.hid hq2
                        go_wp2_with fail
                        refine hq1.out.mono ?_
                        rintro e w' ⟨rfl, hwq⟩
                        obtain rfl := hwq.symm
                        clear hq1 hwq
                        go_wp2_with (at_builtin; refine wpList_append_of rfl _ _ 57 57 rfl _ _ _ w2 rfl rfl hap.out ?_)
                        go_roundw
                        case rel => exact ⟨k + 2, 40, 40 :: st, _, _, by omega, by go_num, by rw [List.length_cons, hK.out], (by rw [List.length_cons, hK.out]; exact hst'), htop3, Lib.hid (by have := hstl.out; rw [List.length_cons]; omega), hsay1, hbel', hB'⟩
                        case measure => simp [intOf]; omega
                      · by_cases h123 : s[k + 1] = 123
                        · have j123 : (s[k + 1].toNat : Int) = 123 := by rw [h123]; rfl
                          simp only [h36, h123] at hq1 hq2
                          have hsay1 := hstep [123, 40] 2 (by simp [stp, h92, h34, h96, h36, h123])
                          rw [hdd 2] at hsay1
                          replace hsay1 := Lib.hid hsay1
                          obtain ⟨A', c', w2, hap, hst', hb', hB'⟩ := stk_push (x := 123) hK.out hstx.out hKs hBx.out
                          replace hap := hap _ rfl
                          rw [show (((123) : UInt8).toNat : Int) = 123 by rfl] at hap
                          replace hap := Lib.hid hap
                          replace hst' := Lib.hid hst'
                          have hbel' : Hid (Below B w w2) := Lib.hid (hbelx.out.trans hb')
                          replace hB' := Lib.hid hB'
                          have htop3 : Hid (∀ v ∈ 123 :: 40 :: st, TopB v) := Lib.hid (fun v hv => by
                            rcases List.mem_cons.1 hv with rfl | hv
                            · simp [TopB]
                            · exact htop.out v hv)
                          clear h92 h34 h96 h36 h123 hstep hstop hdd hb'
                          replace hq1 := Lib.hid hq1
                          replace hq2 := Lib.hid hq2
                          go_wp2_with fail
                          refine hq1.out.mono ?_
                          rintro e w' ⟨rfl, hwq⟩
                          obtain rfl := hwq.symm
                          clear hq1 hwq
                          go_wp2_with fail
                          refine hq2.out.mono ?_
                          rintro e w' ⟨rfl, hwq⟩
                          obtain rfl := hwq.symm
                          clear hq2 hwq
                          go_wp2_with (at_builtin; refine wpList_append_of rfl _ _ 57 57 rfl _ _ _ w2 rfl rfl hap.out ?_)
                          go_roundw
                          case rel => exact ⟨k + 2, 123, 40 :: st, _, _, by omega, by go_num, by rw [List.length_cons, hK.out], (by rw [List.length_cons, hK.out]; exact hst'), htop3, Lib.hid (by have := hstl.out; rw [List.length_cons]; omega), hsay1, hbel', hB'⟩
                          case measure => simp [intOf]; omega
                        · have e1 : (s[k + 1] == (40 : UInt8)) = false := beq_eq_false_iff_ne.2 h40
                          have e2 : (s[k + 1] == (123 : UInt8)) = false := beq_eq_false_iff_ne.2 h123
                          simp only [e1, e2, Bool.and_false] at hq1 hq2
                          clear e1 e2
                          have hsay1 := hstep [40] 1 (by simp [stp, h92, h34, h96, h36, h40, h123])
                          rw [hdd 1] at hsay1
                          replace hsay1 := Lib.hid hsay1
                          clear h92 h34 h96 h36 h40 h123  hstep hstop hdd
                          replace hq1 := Lib.hid hq1
                          replace hq2 := Lib.hid hq2
                          go_wp2_with fail
                          refine hq1.out.mono ?_
                          rintro e w' ⟨rfl, hwq⟩
                          obtain rfl := hwq.symm
                          clear hq1 hwq
                          go_wp2_with fail
                          refine hq2.out.mono ?_
                          rintro e w' ⟨rfl, hwq⟩
                          obtain rfl := hwq.symm
                          clear hq2 hwq
                          go_wp2
                          go_roundw
                          case rel => exact ⟨k + 1, _, _, _, _, by omega, by go_num, by rw [hK.out], (by rw [hK.out]; exact hstx), htop, Lib.hid (by have := hstl.out; omega), hsay1, hbelx, hBx⟩
                          case measure => simp [intOf]; omega
                    · have hnil : (bl s).drop (k + 1) = [] := bl_end s _ (by omega)
                      rw [hnil] at hstep hstop hq1 hq2
                      simp only at hq1 hq2
                      clear hnil
                      have hsay1 := hstep [40] 1 (by simp [stp, h92, h34, h96, h36])
                      rw [hdd 1] at hsay1
                      replace hsay1 := Lib.hid hsay1
                      clear h92 h34 h96 h36  hstep hstop hdd
                      replace hq1 := Lib.hid hq1
                      replace hq2 := Lib.hid hq2
                      go_wp2_with fail
                      refine hq1.out.mono ?_
                      rintro e w' ⟨rfl, hwq⟩
                      obtain rfl := hwq.symm
                      clear hq1 hwq
                      go_wp2_with fail
                      refine hq2.out.mono ?_
                      rintro e w' ⟨rfl, hwq⟩
                      obtain rfl := hwq.symm
                      clear hq2 hwq
                      go_wp2
                      go_roundw
                      case rel => exact ⟨k + 1, _, _, _, _, by omega, by go_num, by rw [hK.out], (by rw [hK.out]; exact hstx), htop, Lib.hid (by have := hstl.out; omega), hsay1, hbelx, hBx⟩
                      case measure => simp [intOf]; omega
                  · have i36 : ¬ (s[k].toNat : Int) = 36 := fun e => h36 (UInt8.toNat_inj.1 (by rw [show (36 : UInt8).toNat = 36 from rfl]; omega))
                    by_cases h39 : s[k] = 39
                    · have i39 : (s[k].toNat : Int) = 39 := by rw [h39]; rfl
                      have e36 : (s[k] == (36 : UInt8)) = false := by rw [h39]; decide
                      have hq : (match s[k] :: (bl s).drop (k + 1) with | c :: d :: _ => c == 36 && d == 40 | _ => false) = false ∧ (match s[k] :: (bl s).drop (k + 1) with | c :: d :: _ => c == 36 && d == 123 | _ => false) = false := by cases (bl s).drop (k + 1) <;> simp [e36]
                      rw [hq.1] at hq1
                      rw [hq.2] at hq2
                      clear hq e36
                      have hsay1 := hstep [39, 40] 1 (by simp [stp, h92, h34, h96, h36, h39])
                      rw [hdd 1] at hsay1
                      replace hsay1 := Lib.hid hsay1
                      obtain ⟨A', c', w2, hap, hst', hb', hB'⟩ := stk_push (x := 39) hK.out hstx.out hKs hBx.out
                      replace hap := hap _ rfl
                      rw [show (((39) : UInt8).toNat : Int) = 39 by rfl] at hap
                      replace hap := Lib.hid hap
                      replace hst' := Lib.hid hst'
                      have hbel' : Hid (Below B w w2) := Lib.hid (hbelx.out.trans hb')
                      replace hB' := Lib.hid hB'
                      have htop3 : Hid (∀ v ∈ 39 :: 40 :: st, TopB v) := Lib.hid (fun v hv => by
                        rcases List.mem_cons.1 hv with rfl | hv
                        · simp [TopB]
                        · exact htop.out v hv)
                      clear h92 h34 h96 h36 h39 hstep hstop hdd hb'
                      replace hq1 := Lib.hid hq1
                      replace hq2 := Lib.hid hq2
                      go_wp2_with fail
                      refine hq1.out.mono ?_
                      rintro e w' ⟨rfl, hwq⟩
                      obtain rfl := hwq.symm
                      clear hq1 hwq
                      go_wp2_with fail
                      refine hq2.out.mono ?_
                      rintro e w' ⟨rfl, hwq⟩
                      obtain rfl := hwq.symm
                      clear hq2 hwq
                      go_wp2_with (at_builtin; refine wpList_append_of rfl _ _ 57 57 rfl _ _ _ w2 rfl rfl hap.out ?_)
                      go_roundw
                      case rel => exact ⟨k + 1, 39, 40 :: st, _, _, by omega, by go_num, by rw [List.length_cons, hK.out], (by rw [List.length_cons, hK.out]; exact hst'), htop3, Lib.hid (by have := hstl.out; rw [List.length_cons]; omega), hsay1, hbel', hB'⟩
                      case measure => simp [intOf]; omega
                    · have i39 : ¬ (s[k].toNat : Int) = 39 := fun e => h39 (UInt8.toNat_inj.1 (by rw [show (39 : UInt8).toNat = 39 from rfl]; omega))
                      by_cases h40 : s[k] = 40
                      · have i40 : (s[k].toNat : Int) = 40 := by rw [h40]; rfl
                        have e36 : (s[k] == (36 : UInt8)) = false := by rw [h40]; decide
                        have hq : (match s[k] :: (bl s).drop (k + 1) with | c :: d :: _ => c == 36 && d == 40 | _ => false) = false ∧ (match s[k] :: (bl s).drop (k + 1) with | c :: d :: _ => c == 36 && d == 123 | _ => false) = false := by cases (bl s).drop (k + 1) <;> simp [e36]
                        rw [hq.1] at hq1
                        rw [hq.2] at hq2
                        clear hq e36
                        have hsay1 := hstep [40, 40] 1 (by simp [stp, h92, h34, h96, h36, h39, h40])
                        rw [hdd 1] at hsay1
                        replace hsay1 := Lib.hid hsay1
                        obtain ⟨A', c', w2, hap, hst', hb', hB'⟩ := stk_push (x := 40) hK.out hstx.out hKs hBx.out
                        replace hap := hap _ rfl
                        rw [show (((40) : UInt8).toNat : Int) = 40 by rfl] at hap
                        replace hap := Lib.hid hap
                        replace hst' := Lib.hid hst'
                        have hbel' : Hid (Below B w w2) := Lib.hid (hbelx.out.trans hb')
                        replace hB' := Lib.hid hB'
                        have htop3 : Hid (∀ v ∈ 40 :: 40 :: st, TopB v) := Lib.hid (fun v hv => by
                          rcases List.mem_cons.1 hv with rfl | hv
                          · simp [TopB]
                          · exact htop.out v hv)
                        clear h92 h34 h96 h36 h39 h40 hstep hstop hdd hb'
                        replace hq1 := Lib.hid hq1
                        replace hq2 := Lib.hid hq2
                        go_wp2_with fail
                        refine hq1.out.mono ?_
                        rintro e w' ⟨rfl, hwq⟩
                        obtain rfl := hwq.symm
                        clear hq1 hwq
                        go_wp2_with fail
                        refine hq2.out.mono ?_
                        rintro e w' ⟨rfl, hwq⟩
                        obtain rfl := hwq.symm
                        clear hq2 hwq
                        go_wp2_with (at_builtin; refine wpList_append_of rfl _ _ 57 57 rfl _ _ _ w2 rfl rfl hap.out ?_)
                        go_roundw
                        case rel => exact ⟨k + 1, 40, 40 :: st, _, _, by omega, by go_num, by rw [List.length_cons, hK.out], (by rw [List.length_cons, hK.out]; exact hst'), htop3, Lib.hid (by have := hstl.out; rw [List.length_cons]; omega), hsay1, hbel', hB'⟩
                        case measure => simp [intOf]; omega
                      · have i40 : ¬ (s[k].toNat : Int) = 40 := fun e => h40 (UInt8.toNat_inj.1 (by rw [show (40 : UInt8).toNat = 40 from rfl]; omega))
                        by_cases h41 : s[k] = 41
                        · have i41 : (s[k].toNat : Int) = 41 := by rw [h41]; rfl
                          have e36 : (s[k] == (36 : UInt8)) = false := by rw [h41]; decide
                          have hq : (match s[k] :: (bl s).drop (k + 1) with | c :: d :: _ => c == 36 && d == 40 | _ => false) = false ∧ (match s[k] :: (bl s).drop (k + 1) with | c :: d :: _ => c == 36 && d == 123 | _ => false) = false := by cases (bl s).drop (k + 1) <;> simp [e36]
                          rw [hq.1] at hq1
                          rw [hq.2] at hq2
                          clear hq e36
                          have hsay1 := hstep [] 1 (by simp [stp, h92, h34, h96, h36, h39, h40, h41])
                          rw [hdd 1] at hsay1
                          replace hsay1 := Lib.hid hsay1
                          clear h92 h34 h96 h36 h39 h40 h41 hstep hstop hdd
                          have hpop : Hid (StkR wc B (.slice (some ⟨g, off, none⟩) K c) st) := Lib.hid (by have := stk_pop (st := st) (by rw [hK.out]; exact hstx.out); rwa [hK.out] at this)
                          have hsay2 := hsay1.out
                          rw [List.nil_append] at hsay2
                          by_cases hK0 : K = 0
                          · have hst0 : st = [] := List.eq_nil_of_length_eq_zero (by rw [hK.out]; exact hK0)
                            rw [hst0, scan_nil, enc_some] at hsay2
                            have hbE : Hid (Below w.heap.size w wc) := Lib.hid (by rw [hB.out]; exact hbelx.out)
                            replace hsay2 := Lib.hid hsay2
                            subst hK0
                            clear hpop hst0 hsay1
                            replace hq1 := Lib.hid hq1
                            replace hq2 := Lib.hid hq2
                            go_wp2_with fail
                            refine hq1.out.mono ?_
                            rintro e w' ⟨rfl, hwq⟩
                            obtain rfl := hwq.symm
                            clear hq1 hwq
                            go_wp2_with fail
                            refine hq2.out.mono ?_
                            rintro e w' ⟨rfl, hwq⟩
                            obtain rfl := hwq.symm
                            clear hq2 hwq
                            go_wp2
                            go_ret
                            exact ⟨by rw [← hsay2.out]; rfl, hbE.out⟩
                          · obtain ⟨u, st2, hst2⟩ : ∃ u st2, st = u :: st2 := by
                              cases hh : st with
                              | nil => exact absurd (by rw [← hK.out, hh]; rfl) hK0
                              | cons u st2 => exact ⟨u, st2, rfl⟩
                            have hK2 : Hid (st2.length + 1 = K) := Lib.hid (by rw [← hK.out, hst2]; rfl)
                            have hKi : ¬ (K : Int) = 0 := by omega
                            have hKj : (K : Int) ≤ (c : Int) := by omega
                            rw [hst2] at hsay2 hpop
                            replace hsay2 := Lib.hid hsay2
                            have htop3 : Hid (∀ v ∈ u :: st2, TopB v) := Lib.hid (by rw [← hst2]; exact htop2.out)
                            have hstl2 : Hid (st2.length ≤ k + 1) := Lib.hid (by have := hstl.out; have := hK.out; have := hK2.out; omega)
                            replace hst2 := Lib.hid hst2
                            clear hsay1
                            replace hq1 := Lib.hid hq1
                            replace hq2 := Lib.hid hq2
                            go_wp2_with fail
                            refine hq1.out.mono ?_
                            rintro e w' ⟨rfl, hwq⟩
                            obtain rfl := hwq.symm
                            clear hq1 hwq
                            go_wp2_with fail
                            refine hq2.out.mono ?_
                            rintro e w' ⟨rfl, hwq⟩
                            obtain rfl := hwq.symm
                            clear hq2 hwq
                            go_wp2
                            go_roundw
                            case rel => exact ⟨k + 1, u, st2, _, _, by omega, by go_num, by rw [hK2.out], (by rw [hK2.out]; exact hpop), htop3, hstl2, hsay2, hbelx, hBx⟩
                            case measure => simp [intOf]; omega
                        · have i41 : ¬ (s[k].toNat : Int) = 41 := fun e => h41 (UInt8.toNat_inj.1 (by rw [show (41 : UInt8).toNat = 41 from rfl]; omega))
                          by_cases h125 : s[k] = 125
                          · have i125 : (s[k].toNat : Int) = 125 := by rw [h125]; rfl
                            have e36 : (s[k] == (36 : UInt8)) = false := by rw [h125]; decide
                            have hq : (match s[k] :: (bl s).drop (k + 1) with | c :: d :: _ => c == 36 && d == 40 | _ => false) = false ∧ (match s[k] :: (bl s).drop (k + 1) with | c :: d :: _ => c == 36 && d == 123 | _ => false) = false := by cases (bl s).drop (k + 1) <;> simp [e36]
                            rw [hq.1] at hq1
                            rw [hq.2] at hq2
                            clear hq e36
                            have hsay1 := hstep [40] 1 (by simp [stp, h92, h34, h96, h36, h39, h40, h41, h125])
                            rw [hdd 1] at hsay1
                            replace hsay1 := Lib.hid hsay1
                            clear h92 h34 h96 h36 h39 h40 h41 h125  hstep hstop hdd
                            replace hq1 := Lib.hid hq1
                            replace hq2 := Lib.hid hq2
                            go_wp2_with fail
                            refine hq1.out.mono ?_
                            rintro e w' ⟨rfl, hwq⟩
                            obtain rfl := hwq.symm
                            clear hq1 hwq
                            go_wp2_with fail
                            refine hq2.out.mono ?_
                            rintro e w' ⟨rfl, hwq⟩
                            obtain rfl := hwq.symm
                            clear hq2 hwq
                            go_wp2
                            go_roundw
                            case rel => exact ⟨k + 1, _, _, _, _, by omega, by go_num, by rw [hK.out], (by rw [hK.out]; exact hstx), htop, Lib.hid (by have := hstl.out; omega), hsay1, hbelx, hBx⟩
                            case measure => simp [intOf]; omega
                          · have i125 : ¬ (s[k].toNat : Int) = 125 := fun e => h125 (UInt8.toNat_inj.1 (by rw [show (125 : UInt8).toNat = 125 from rfl]; omega))
                            have e36 : (s[k] == (36 : UInt8)) = false := beq_eq_false_iff_ne.2 h36
                            have hq : (match s[k] :: (bl s).drop (k + 1) with | c :: d :: _ => c == 36 && d == 40 | _ => false) = false ∧ (match s[k] :: (bl s).drop (k + 1) with | c :: d :: _ => c == 36 && d == 123 | _ => false) = false := by cases (bl s).drop (k + 1) <;> simp [e36]
                            rw [hq.1] at hq1
                            rw [hq.2] at hq2
                            clear hq e36
                            have j92 : ((s[k].toNat : Int) == 92) = false := beq_eq_false_iff_ne.2 i92
                            have j34 : ((s[k].toNat : Int) == 34) = false := beq_eq_false_iff_ne.2 i34
                            have j96 : ((s[k].toNat : Int) == 96) = false := beq_eq_false_iff_ne.2 i96
                            have j39 : ((s[k].toNat : Int) == 39) = false := beq_eq_false_iff_ne.2 i39
                            have j40 : ((s[k].toNat : Int) == 40) = false := beq_eq_false_iff_ne.2 i40
                            have j41 : ((s[k].toNat : Int) == 41) = false := beq_eq_false_iff_ne.2 i41
                            have j125 : ((s[k].toNat : Int) == 125) = false := beq_eq_false_iff_ne.2 i125
                            have hsay1 := hstep [40] 1 (by simp [stp, h92, h34, h96, h36, h39, h40, h41, h125])
                            rw [hdd 1] at hsay1
                            replace hsay1 := Lib.hid hsay1
                            clear h92 h34 h96 h36 h39 h40 h41 h125  hstep hstop hdd
                            replace hq1 := Lib.hid hq1
                            replace hq2 := Lib.hid hq2
                            go_wp2_with fail
                            refine hq1.out.mono ?_
                            rintro e w' ⟨rfl, hwq⟩
                            obtain rfl := hwq.symm
                            clear hq1 hwq
                            go_wp2_with fail
                            refine hq2.out.mono ?_
                            rintro e w' ⟨rfl, hwq⟩
                            obtain rfl := hwq.symm
                            clear hq2 hwq
                            go_wp2
                            go_roundw
                            case rel => exact ⟨k + 1, _, _, _, _, by omega, by go_num, by rw [hK.out], (by rw [hK.out]; exact hstx), htop, Lib.hid (by have := hstl.out; omega), hsay1, hbelx, hBx⟩
                            case measure => simp [intOf]; omega
          · as_aux_lemma =>
            by_cases h92 : s[k] = 92
            · have i92 : (s[k].toNat : Int) = 92 := by rw [h92]; rfl
              by_cases hk1 : k + 1 = s.size
              · have hki : (k : Int) + 1 = (s.size : Int) := by omega
                have hnil : (bl s).drop (k + 1) = [] := bl_end s _ (by omega)
                have hsay1 := hstop (by simp [stp, h92, hnil])
                replace hsay1 := Lib.hid hsay1
                have hbE : Hid (Below w.heap.size w wc) := Lib.hid (by rw [hB.out]; exact hbelx.out)
                clear hx h92 hnil hstep hstop hdd hq1 hq2
                go_wp2
                go_ret
                exact ⟨by rw [← hsay1.out]; rfl, hbE.out⟩
              · have hki : ¬ (k : Int) + 1 = (s.size : Int) := by omega
                have hnn : (bl s).drop (k + 1) ≠ [] := by rw [bl_cons s (k + 1) (by omega)]; simp
                have hsay1 := hstep [123] 2 (by simp [stp, h92, hnn])
                rw [hdd 2] at hsay1
                replace hsay1 := Lib.hid hsay1
                clear h92 hnn  hstep hstop hdd
                clear hq1 hq2
                go_wp2
                go_roundw
                case rel => exact ⟨k + 2, _, _, _, _, by omega, by go_num, by rw [hK.out], (by rw [hK.out]; exact hstx), htop, Lib.hid (by have := hstl.out; omega), hsay1, hbelx, hBx⟩
                case measure => simp [intOf]; omega
            · have i92 : ¬ (s[k].toNat : Int) = 92 := fun e => h92 (UInt8.toNat_inj.1 (by rw [show (92 : UInt8).toNat = 92 from rfl]; omega))
              by_cases h34 : s[k] = 34
              · have i34 : (s[k].toNat : Int) = 34 := by rw [h34]; rfl
                have e36 : (s[k] == (36 : UInt8)) = false := by rw [h34]; decide
                have hq : (match s[k] :: (bl s).drop (k + 1) with | c :: d :: _ => c == 36 && d == 40 | _ => false) = false ∧ (match s[k] :: (bl s).drop (k + 1) with | c :: d :: _ => c == 36 && d == 123 | _ => false) = false := by cases (bl s).drop (k + 1) <;> simp [e36]
                rw [hq.1] at hq1
                rw [hq.2] at hq2
                clear hq e36
                have hsay1 := hstep [34, 123] 1 (by simp [stp, h92, h34])
                rw [hdd 1] at hsay1
                replace hsay1 := Lib.hid hsay1
                obtain ⟨A', c', w2, hap, hst', hb', hB'⟩ := stk_push (x := 34) hK.out hstx.out hKs hBx.out
                replace hap := hap _ rfl
                rw [show (((34) : UInt8).toNat : Int) = 34 by rfl] at hap
                replace hap := Lib.hid hap
                replace hst' := Lib.hid hst'
                have hbel' : Hid (Below B w w2) := Lib.hid (hbelx.out.trans hb')
                replace hB' := Lib.hid hB'
                have htop3 : Hid (∀ v ∈ 34 :: 123 :: st, TopB v) := Lib.hid (fun v hv => by
                  rcases List.mem_cons.1 hv with rfl | hv
                  · simp [TopB]
                  · exact htop.out v hv)
                clear h92 h34 hstep hstop hdd hb'
                replace hq1 := Lib.hid hq1
                replace hq2 := Lib.hid hq2
                go_wp2_with fail
                refine hq1.out.mono ?_
                rintro e w' ⟨rfl, hwq⟩
                obtain rfl := hwq.symm
                clear hq1 hwq
                go_wp2_with fail
                refine hq2.out.mono ?_
                rintro e w' ⟨rfl, hwq⟩
                obtain rfl := hwq.symm
                clear hq2 hwq
                go_wp2_with (at_builtin; refine wpList_append_of rfl _ _ 57 57 rfl _ _ _ w2 rfl rfl hap.out ?_)
                go_roundw
                case rel => exact ⟨k + 1, 34, 123 :: st, _, _, by omega, by go_num, by rw [List.length_cons, hK.out], (by rw [List.length_cons, hK.out]; exact hst'), htop3, Lib.hid (by have := hstl.out; rw [List.length_cons]; omega), hsay1, hbel', hB'⟩
                case measure => simp [intOf]; omega
              · have i34 : ¬ (s[k].toNat : Int) = 34 := fun e => h34 (UInt8.toNat_inj.1 (by rw [show (34 : UInt8).toNat = 34 from rfl]; omega))
                by_cases h96 : s[k] = 96
                · have i96 : (s[k].toNat : Int) = 96 := by rw [h96]; rfl
                  have e36 : (s[k] == (36 : UInt8)) = false := by rw [h96]; decide
                  have hq : (match s[k] :: (bl s).drop (k + 1) with | c :: d :: _ => c == 36 && d == 40 | _ => false) = false ∧ (match s[k] :: (bl s).drop (k + 1) with | c :: d :: _ => c == 36 && d == 123 | _ => false) = false := by cases (bl s).drop (k + 1) <;> simp [e36]
                  rw [hq.1] at hq1
                  rw [hq.2] at hq2
                  clear hq e36
                  have hsay1 := hstep [96, 123] 1 (by simp [stp, h92, h34, h96])
                  rw [hdd 1] at hsay1
                  replace hsay1 := Lib.hid hsay1
                  obtain ⟨A', c', w2, hap, hst', hb', hB'⟩ := stk_push (x := 96) hK.out hstx.out hKs hBx.out
                  replace hap := hap _ rfl
                  rw [show (((96) : UInt8).toNat : Int) = 96 by rfl] at hap
                  replace hap := Lib.hid hap
                  replace hst' := Lib.hid hst'
                  have hbel' : Hid (Below B w w2) := Lib.hid (hbelx.out.trans hb')
                  replace hB' := Lib.hid hB'
                  have htop3 : Hid (∀ v ∈ 96 :: 123 :: st, TopB v) := Lib.hid (fun v hv => by
                    rcases List.mem_cons.1 hv with rfl | hv
                    · simp [TopB]
                    · exact htop.out v hv)
                  clear h92 h34 h96 hstep hstop hdd hb'
                  replace hq1 := Lib.hid hq1
                  replace hq2 := Lib.hid hq2
                  go_wp2_with fail
                  refine hq1.out.mono ?_
                  rintro e w' ⟨rfl, hwq⟩
                  obtain rfl := hwq.symm
                  clear hq1 hwq
                  go_wp2_with fail
                  refine hq2.out.mono ?_
                  rintro e w' ⟨rfl, hwq⟩
                  obtain rfl := hwq.symm
                  clear hq2 hwq
                  go_wp2_with (at_builtin; refine wpList_append_of rfl _ _ 57 57 rfl _ _ _ w2 rfl rfl hap.out ?_)
                  go_roundw
                  case rel => exact ⟨k + 1, 96, 123 :: st, _, _, by omega, by go_num, by rw [List.length_cons, hK.out], (by rw [List.length_cons, hK.out]; exact hst'), htop3, Lib.hid (by have := hstl.out; rw [List.length_cons]; omega), hsay1, hbel', hB'⟩
                  case measure => simp [intOf]; omega
                · have i96 : ¬ (s[k].toNat : Int) = 96 := fun e => h96 (UInt8.toNat_inj.1 (by rw [show (96 : UInt8).toNat = 96 from rfl]; omega))
                  by_cases h36 : s[k] = 36
                  · have i36 : (s[k].toNat : Int) = 36 := by rw [h36]; rfl
                    by_cases hk1 : k + 1 < s.size
                    · have hki : (k : Int) + 1 < (s.size : Int) := by omega
                      have hn2 := s[k + 1].toNat_lt
                      have hx2 := bl_cons s (k + 1) hk1
                      rw [hx2] at hstep hstop hq1 hq2
                      by_cases h40 : s[k + 1] = 40
                      · have j40 : (s[k + 1].toNat : Int) = 40 := by rw [h40]; rfl
                        simp only [h36, h40] at hq1
                        have hsay1 := hstep [40, 123] 2 (by simp [stp, h92, h34, h96, h36, h40])
                        rw [hdd 2] at hsay1
                        replace hsay1 := Lib.hid hsay1
                        obtain ⟨A', c', w2, hap, hst', hb', hB'⟩ := stk_push (x := 40) hK.out hstx.out hKs hBx.out
                        replace hap := hap _ rfl
                        rw [show (((40) : UInt8).toNat : Int) = 40 by rfl] at hap
                        replace hap := Lib.hid hap
                        replace hst' := Lib.hid hst'
                        have hbel' : Hid (Below B w w2) := Lib.hid (hbelx.out.trans hb')
                        replace hB' := Lib.hid hB'
                        have htop3 : Hid (∀ v ∈ 40 :: 123 :: st, TopB v) := Lib.hid (fun v hv => by
                          rcases List.mem_cons.1 hv with rfl | hv
                          · simp [TopB]
                          · exact htop.out v hv)
                        clear h92 h34 h96 h36 h40 hstep hstop hdd hb'
                        replace hq1 := Lib.hid hq1
                        replace hq2 := Lib.hid hq2
                        go_wp2_with fail
                        refine hq1.out.mono ?_
                        rintro e w' ⟨rfl, hwq⟩
                        obtain rfl := hwq.symm
                        clear hq1 hwq
                        go_wp2_with (at_builtin; refine wpList_append_of rfl _ _ 57 57 rfl _ _ _ w2 rfl rfl hap.out ?_)
                        go_roundw
                        case rel => exact ⟨k + 2, 40, 123 :: st, _, _, by omega, by go_num, by rw [List.length_cons, hK.out], (by rw [List.length_cons, hK.out]; exact hst'), htop3, Lib.hid (by have := hstl.out; rw [List.length_cons]; omega), hsay1, hbel', hB'⟩
                        case measure => simp [intOf]; omega
                      · by_cases h123 : s[k + 1] = 123
                        · have j123 : (s[k + 1].toNat : Int) = 123 := by rw [h123]; rfl
                          simp only [h36, h123] at hq1 hq2
                          have hsay1 := hstep [123, 123] 2 (by simp [stp, h92, h34, h96, h36, h123])
                          rw [hdd 2] at hsay1
                          replace hsay1 := Lib.hid hsay1
                          obtain ⟨A', c', w2, hap, hst', hb', hB'⟩ := stk_push (x := 123) hK.out hstx.out hKs hBx.out
                          replace hap := hap _ rfl
                          rw [show (((123) : UInt8).toNat : Int) = 123 by rfl] at hap
                          replace hap := Lib.hid hap
                          replace hst' := Lib.hid hst'
                          have hbel' : Hid (Below B w w2) := Lib.hid (hbelx.out.trans hb')
                          replace hB' := Lib.hid hB'
                          have htop3 : Hid (∀ v ∈ 123 :: 123 :: st, TopB v) := Lib.hid (fun v hv => by
                            rcases List.mem_cons.1 hv with rfl | hv
                            · simp [TopB]
                            · exact htop.out v hv)
                          clear h92 h34 h96 h36 h123 hstep hstop hdd hb'
                          replace hq1 := Lib.hid hq1
                          replace hq2 := Lib.hid hq2
                          go_wp2_with fail
                          refine hq1.out.mono ?_
                          rintro e w' ⟨rfl, hwq⟩
                          obtain rfl := hwq.symm
                          clear hq1 hwq
                          go_wp2_with fail
                          refine hq2.out.mono ?_
                          rintro e w' ⟨rfl, hwq⟩
                          obtain rfl := hwq.symm
                          clear hq2 hwq
                          go_wp2_with (at_builtin; refine wpList_append_of rfl _ _ 57 57 rfl _ _ _ w2 rfl rfl hap.out ?_)
                          go_roundw
                          case rel => exact ⟨k + 2, 123, 123 :: st, _, _, by omega, by go_num, by rw [List.length_cons, hK.out], (by rw [List.length_cons, hK.out]; exact hst'), htop3, Lib.hid (by have := hstl.out; rw [List.length_cons]; omega), hsay1, hbel', hB'⟩
                          case measure => simp [intOf]; omega
                        · have e1 : (s[k + 1] == (40 : UInt8)) = false := beq_eq_false_iff_ne.2 h40
                          have e2 : (s[k + 1] == (123 : UInt8)) = false := beq_eq_false_iff_ne.2 h123
                          simp only [e1, e2, Bool.and_false] at hq1 hq2
                          clear e1 e2
                          have hsay1 := hstep [123] 1 (by simp [stp, h92, h34, h96, h36, h40, h123])
                          rw [hdd 1] at hsay1
                          replace hsay1 := Lib.hid hsay1
                          clear h92 h34 h96 h36 h40 h123  hstep hstop hdd
                          replace hq1 := Lib.hid hq1
                          replace hq2 := Lib.hid hq2
                          go_wp2_with fail
                          refine hq1.out.mono ?_
                          rintro e w' ⟨rfl, hwq⟩
                          obtain rfl := hwq.symm
                          clear hq1 hwq
                          go_wp2_with fail
                          refine hq2.out.mono ?_
                          rintro e w' ⟨rfl, hwq⟩
                          obtain rfl := hwq.symm
                          clear hq2 hwq
                          go_wp2
                          go_roundw
                          case rel => exact ⟨k + 1, _, _, _, _, by omega, by go_num, by rw [hK.out], (by rw [hK.out]; exact hstx), htop, Lib.hid (by have := hstl.out; omega), hsay1, hbelx, hBx⟩
                          case measure => simp [intOf]; omega
                    · have hnil : (bl s).drop (k + 1) = [] := bl_end s _ (by omega)
                      rw [hnil] at hstep hstop hq1 hq2
                      simp only at hq1 hq2
                      clear hnil
                      have hsay1 := hstep [123] 1 (by simp [stp, h92, h34, h96, h36])
                      rw [hdd 1] at hsay1
                      replace hsay1 := Lib.hid hsay1
                      clear h92 h34 h96 h36  hstep hstop hdd
                      replace hq1 := Lib.hid hq1
                      replace hq2 := Lib.hid hq2
                      go_wp2_with fail
                      refine hq1.out.mono ?_
                      rintro e w' ⟨rfl, hwq⟩
                      obtain rfl := hwq.symm
                      clear hq1 hwq
                      go_wp2_with fail
                      refine hq2.out.mono ?_
                      rintro e w' ⟨rfl, hwq⟩
                      obtain rfl := hwq.symm
                      clear hq2 hwq
                      go_wp2
                      go_roundw
                      case rel => exact ⟨k + 1, _, _, _, _, by omega, by go_num, by rw [hK.out], (by rw [hK.out]; exact hstx), htop, Lib.hid (by have := hstl.out; omega), hsay1, hbelx, hBx⟩
                      case measure => simp [intOf]; omega
                  · have i36 : ¬ (s[k].toNat : Int) = 36 := fun e => h36 (UInt8.toNat_inj.1 (by rw [show (36 : UInt8).toNat = 36 from rfl]; omega))
                    by_cases h39 : s[k] = 39
                    · have i39 : (s[k].toNat : Int) = 39 := by rw [h39]; rfl
                      have e36 : (s[k] == (36 : UInt8)) = false := by rw [h39]; decide
                      have hq : (match s[k] :: (bl s).drop (k + 1) with | c :: d :: _ => c == 36 && d == 40 | _ => false) = false ∧ (match s[k] :: (bl s).drop (k + 1) with | c :: d :: _ => c == 36 && d == 123 | _ => false) = false := by cases (bl s).drop (k + 1) <;> simp [e36]
                      rw [hq.1] at hq1
                      rw [hq.2] at hq2
                      clear hq e36
                      have hsay1 := hstep [39, 123] 1 (by simp [stp, h92, h34, h96, h36, h39])
                      rw [hdd 1] at hsay1
                      replace hsay1 := Lib.hid hsay1
                      obtain ⟨A', c', w2, hap, hst', hb', hB'⟩ := stk_push (x := 39) hK.out hstx.out hKs hBx.out
                      replace hap := hap _ rfl
                      rw [show (((39) : UInt8).toNat : Int) = 39 by rfl] at hap
                      replace hap := Lib.hid hap
                      replace hst' := Lib.hid hst'
                      have hbel' : Hid (Below B w w2) := Lib.hid (hbelx.out.trans hb')
                      replace hB' := Lib.hid hB'
                      have htop3 : Hid (∀ v ∈ 39 :: 123 :: st, TopB v) := Lib.hid (fun v hv => by
                        rcases List.mem_cons.1 hv with rfl | hv
                        · simp [TopB]
                        · exact htop.out v hv)
                      clear h92 h34 h96 h36 h39 hstep hstop hdd hb'
                      replace hq1 := Lib.hid hq1
                      replace hq2 := Lib.hid hq2
                      go_wp2_with fail
                      refine hq1.out.mono ?_
                      rintro e w' ⟨rfl, hwq⟩
                      obtain rfl := hwq.symm
                      clear hq1 hwq
                      go_wp2_with fail
                      refine hq2.out.mono ?_
                      rintro e w' ⟨rfl, hwq⟩
                      obtain rfl := hwq.symm
                      clear hq2 hwq
                      go_wp2_with (at_builtin; refine wpList_append_of rfl _ _ 57 57 rfl _ _ _ w2 rfl rfl hap.out ?_)
                      go_roundw
                      case rel => exact ⟨k + 1, 39, 123 :: st, _, _, by omega, by go_num, by rw [List.length_cons, hK.out], (by rw [List.length_cons, hK.out]; exact hst'), htop3, Lib.hid (by have := hstl.out; rw [List.length_cons]; omega), hsay1, hbel', hB'⟩
                      case measure => simp [intOf]; omega
                    · have i39 : ¬ (s[k].toNat : Int) = 39 := fun e => h39 (UInt8.toNat_inj.1 (by rw [show (39 : UInt8).toNat = 39 from rfl]; omega))
                      by_cases h40 : s[k] = 40
                      · have i40 : (s[k].toNat : Int) = 40 := by rw [h40]; rfl
                        have e36 : (s[k] == (36 : UInt8)) = false := by rw [h40]; decide
                        have hq : (match s[k] :: (bl s).drop (k + 1) with | c :: d :: _ => c == 36 && d == 40 | _ => false) = false ∧ (match s[k] :: (bl s).drop (k + 1) with | c :: d :: _ => c == 36 && d == 123 | _ => false) = false := by cases (bl s).drop (k + 1) <;> simp [e36]
                        rw [hq.1] at hq1
                        rw [hq.2] at hq2
                        clear hq e36
                        have hsay1 := hstep [123] 1 (by simp [stp, h92, h34, h96, h36, h39, h40])
                        rw [hdd 1] at hsay1
                        replace hsay1 := Lib.hid hsay1
                        clear h92 h34 h96 h36 h39 h40  hstep hstop hdd
                        replace hq1 := Lib.hid hq1
                        replace hq2 := Lib.hid hq2
                        go_wp2_with fail
                        refine hq1.out.mono ?_
                        rintro e w' ⟨rfl, hwq⟩
                        obtain rfl := hwq.symm
                        clear hq1 hwq
                        go_wp2_with fail
                        refine hq2.out.mono ?_
                        rintro e w' ⟨rfl, hwq⟩
                        obtain rfl := hwq.symm
                        clear hq2 hwq
                        go_wp2
                        go_roundw
                        case rel => exact ⟨k + 1, _, _, _, _, by omega, by go_num, by rw [hK.out], (by rw [hK.out]; exact hstx), htop, Lib.hid (by have := hstl.out; omega), hsay1, hbelx, hBx⟩
                        case measure => simp [intOf]; omega
                      · have i40 : ¬ (s[k].toNat : Int) = 40 := fun e => h40 (UInt8.toNat_inj.1 (by rw [show (40 : UInt8).toNat = 40 from rfl]; omega))
                        by_cases h41 : s[k] = 41
                        · have i41 : (s[k].toNat : Int) = 41 := by rw [h41]; rfl
                          have e36 : (s[k] == (36 : UInt8)) = false := by rw [h41]; decide
                          have hq : (match s[k] :: (bl s).drop (k + 1) with | c :: d :: _ => c == 36 && d == 40 | _ => false) = false ∧ (match s[k] :: (bl s).drop (k + 1) with | c :: d :: _ => c == 36 && d == 123 | _ => false) = false := by cases (bl s).drop (k + 1) <;> simp [e36]
                          rw [hq.1] at hq1
                          rw [hq.2] at hq2
                          clear hq e36
                          have hsay1 := hstep [123] 1 (by simp [stp, h92, h34, h96, h36, h39, h40, h41])
                          rw [hdd 1] at hsay1
                          replace hsay1 := Lib.hid hsay1
                          clear h92 h34 h96 h36 h39 h40 h41  hstep hstop hdd
                          replace hq1 := Lib.hid hq1
                          replace hq2 := Lib.hid hq2
                          go_wp2_with fail
                          refine hq1.out.mono ?_
                          rintro e w' ⟨rfl, hwq⟩
                          obtain rfl := hwq.symm
                          clear hq1 hwq
                          go_wp2_with fail
                          refine hq2.out.mono ?_
                          rintro e w' ⟨rfl, hwq⟩
                          obtain rfl := hwq.symm
                          clear hq2 hwq
                          go_wp2
                          go_roundw
                          case rel => exact ⟨k + 1, _, _, _, _, by omega, by go_num, by rw [hK.out], (by rw [hK.out]; exact hstx), htop, Lib.hid (by have := hstl.out; omega), hsay1, hbelx, hBx⟩
                          case measure => simp [intOf]; omega
                        · have i41 : ¬ (s[k].toNat : Int) = 41 := fun e => h41 (UInt8.toNat_inj.1 (by rw [show (41 : UInt8).toNat = 41 from rfl]; omega))
                          by_cases h125 : s[k] = 125
                          · have i125 : (s[k].toNat : Int) = 125 := by rw [h125]; rfl
                            have e36 : (s[k] == (36 : UInt8)) = false := by rw [h125]; decide
                            have hq : (match s[k] :: (bl s).drop (k + 1) with | c :: d :: _ => c == 36 && d == 40 | _ => false) = false ∧ (match s[k] :: (bl s).drop (k + 1) with | c :: d :: _ => c == 36 && d == 123 | _ => false) = false := by cases (bl s).drop (k + 1) <;> simp [e36]
                            rw [hq.1] at hq1
                            rw [hq.2] at hq2
                            clear hq e36
                            have hsay1 := hstep [] 1 (by simp [stp, h92, h34, h96, h36, h39, h40, h41, h125])
                            rw [hdd 1] at hsay1
                            replace hsay1 := Lib.hid hsay1
                            clear h92 h34 h96 h36 h39 h40 h41 h125 hstep hstop hdd
                            have hpop : Hid (StkR wc B (.slice (some ⟨g, off, none⟩) K c) st) := Lib.hid (by have := stk_pop (st := st) (by rw [hK.out]; exact hstx.out); rwa [hK.out] at this)
                            have hsay2 := hsay1.out
                            rw [List.nil_append] at hsay2
                            by_cases hK0 : K = 0
                            · have hst0 : st = [] := List.eq_nil_of_length_eq_zero (by rw [hK.out]; exact hK0)
                              rw [hst0, scan_nil, enc_some] at hsay2
                              have hbE : Hid (Below w.heap.size w wc) := Lib.hid (by rw [hB.out]; exact hbelx.out)
                              replace hsay2 := Lib.hid hsay2
                              subst hK0
                              clear hpop hst0 hsay1
                              replace hq1 := Lib.hid hq1
                              replace hq2 := Lib.hid hq2
                              go_wp2_with fail
                              refine hq1.out.mono ?_
                              rintro e w' ⟨rfl, hwq⟩
                              obtain rfl := hwq.symm
                              clear hq1 hwq
                              go_wp2_with fail
                              refine hq2.out.mono ?_
                              rintro e w' ⟨rfl, hwq⟩
                              obtain rfl := hwq.symm
                              clear hq2 hwq
                              go_wp2
                              go_ret
                              exact ⟨by rw [← hsay2.out]; rfl, hbE.out⟩
                            · obtain ⟨u, st2, hst2⟩ : ∃ u st2, st = u :: st2 := by
                                cases hh : st with
                                | nil => exact absurd (by rw [← hK.out, hh]; rfl) hK0
                                | cons u st2 => exact ⟨u, st2, rfl⟩
                              have hK2 : Hid (st2.length + 1 = K) := Lib.hid (by rw [← hK.out, hst2]; rfl)
                              have hKi : ¬ (K : Int) = 0 := by omega
                              have hKj : (K : Int) ≤ (c : Int) := by omega
                              rw [hst2] at hsay2 hpop
                              replace hsay2 := Lib.hid hsay2
                              have htop3 : Hid (∀ v ∈ u :: st2, TopB v) := Lib.hid (by rw [← hst2]; exact htop2.out)
                              have hstl2 : Hid (st2.length ≤ k + 1) := Lib.hid (by have := hstl.out; have := hK.out; have := hK2.out; omega)
                              replace hst2 := Lib.hid hst2
                              clear hsay1
                              replace hq1 := Lib.hid hq1
                              replace hq2 := Lib.hid hq2
                              go_wp2_with fail
                              refine hq1.out.mono ?_
                              rintro e w' ⟨rfl, hwq⟩
                              obtain rfl := hwq.symm
                              clear hq1 hwq
                              go_wp2_with fail
                              refine hq2.out.mono ?_
                              rintro e w' ⟨rfl, hwq⟩
                              obtain rfl := hwq.symm
                              clear hq2 hwq
                              go_wp2
                              go_roundw
                              case rel => exact ⟨k + 1, u, st2, _, _, by omega, by go_num, by rw [hK2.out], (by rw [hK2.out]; exact hpop), htop3, hstl2, hsay2, hbelx, hBx⟩
                              case measure => simp [intOf]; omega
                          · have i125 : ¬ (s[k].toNat : Int) = 125 := fun e => h125 (UInt8.toNat_inj.1 (by rw [show (125 : UInt8).toNat = 125 from rfl]; omega))
                            have e36 : (s[k] == (36 : UInt8)) = false := beq_eq_false_iff_ne.2 h36
                            have hq : (match s[k] :: (bl s).drop (k + 1) with | c :: d :: _ => c == 36 && d == 40 | _ => false) = false ∧ (match s[k] :: (bl s).drop (k + 1) with | c :: d :: _ => c == 36 && d == 123 | _ => false) = false := by cases (bl s).drop (k + 1) <;> simp [e36]
                            rw [hq.1] at hq1
                            rw [hq.2] at hq2
                            clear hq e36
                            have j92 : ((s[k].toNat : Int) == 92) = false := beq_eq_false_iff_ne.2 i92
                            have j34 : ((s[k].toNat : Int) == 34) = false := beq_eq_false_iff_ne.2 i34
                            have j96 : ((s[k].toNat : Int) == 96) = false := beq_eq_false_iff_ne.2 i96
                            have j39 : ((s[k].toNat : Int) == 39) = false := beq_eq_false_iff_ne.2 i39
                            have j40 : ((s[k].toNat : Int) == 40) = false := beq_eq_false_iff_ne.2 i40
                            have j41 : ((s[k].toNat : Int) == 41) = false := beq_eq_false_iff_ne.2 i41
                            have j125 : ((s[k].toNat : Int) == 125) = false := beq_eq_false_iff_ne.2 i125
                            have hsay1 := hstep [123] 1 (by simp [stp, h92, h34, h96, h36, h39, h40, h41, h125])
                            rw [hdd 1] at hsay1
                            replace hsay1 := Lib.hid hsay1
                            clear h92 h34 h96 h36 h39 h40 h41 h125  hstep hstop hdd
                            replace hq1 := Lib.hid hq1
                            replace hq2 := Lib.hid hq2
                            go_wp2_with fail
                            refine hq1.out.mono ?_
                            rintro e w' ⟨rfl, hwq⟩
                            obtain rfl := hwq.symm
                            clear hq1 hwq
                            go_wp2_with fail
                            refine hq2.out.mono ?_
                            rintro e w' ⟨rfl, hwq⟩
                            obtain rfl := hwq.symm
                            clear hq2 hwq
                            go_wp2
                            go_roundw
                            case rel => exact ⟨k + 1, _, _, _, _, by omega, by go_num, by rw [hK.out], (by rw [hK.out]; exact hstx), htop, Lib.hid (by have := hstl.out; omega), hsay1, hbelx, hBx⟩
                            case measure => simp [intOf]; omega
          · as_aux_lemma =>
            by_cases h92 : s[k] = 92
            · have i92 : (s[k].toNat : Int) = 92 := by rw [h92]; rfl
              by_cases hk1 : k + 1 = s.size
              · have hki : (k : Int) + 1 = (s.size : Int) := by omega
                have hnil : (bl s).drop (k + 1) = [] := bl_end s _ (by omega)
                have hsay1 := hstop (by simp [stp, h92, hnil])
                replace hsay1 := Lib.hid hsay1
                have hbE : Hid (Below w.heap.size w wc) := Lib.hid (by rw [hB.out]; exact hbelx.out)
                clear hx h92 hnil hstep hstop hdd hq1 hq2
                go_wp2
                go_ret
                exact ⟨by rw [← hsay1.out]; rfl, hbE.out⟩
              · have hki : ¬ (k : Int) + 1 = (s.size : Int) := by omega
                have hnn : (bl s).drop (k + 1) ≠ [] := by rw [bl_cons s (k + 1) (by omega)]; simp
                have hsay1 := hstep [119] 2 (by simp [stp, h92, hnn])
                rw [hdd 2] at hsay1
                replace hsay1 := Lib.hid hsay1
                clear h92 hnn  hstep hstop hdd
                clear hq1 hq2
                go_wp2
                go_roundw
                case rel => exact ⟨k + 2, _, _, _, _, by omega, by go_num, by rw [hK.out], (by rw [hK.out]; exact hstx), htop, Lib.hid (by have := hstl.out; omega), hsay1, hbelx, hBx⟩
                case measure => simp [intOf]; omega
            · have i92 : ¬ (s[k].toNat : Int) = 92 := fun e => h92 (UInt8.toNat_inj.1 (by rw [show (92 : UInt8).toNat = 92 from rfl]; omega))
              by_cases h34 : s[k] = 34
              · have i34 : (s[k].toNat : Int) = 34 := by rw [h34]; rfl
                have e36 : (s[k] == (36 : UInt8)) = false := by rw [h34]; decide
                have hq : (match s[k] :: (bl s).drop (k + 1) with | c :: d :: _ => c == 36 && d == 40 | _ => false) = false ∧ (match s[k] :: (bl s).drop (k + 1) with | c :: d :: _ => c == 36 && d == 123 | _ => false) = false := by cases (bl s).drop (k + 1) <;> simp [e36]
                rw [hq.1] at hq1
                rw [hq.2] at hq2
                clear hq e36
                have hsay1 := hstep [34, 119] 1 (by simp [stp, h92, h34])
                rw [hdd 1] at hsay1
                replace hsay1 := Lib.hid hsay1
                obtain ⟨A', c', w2, hap, hst', hb', hB'⟩ := stk_push (x := 34) hK.out hstx.out hKs hBx.out
                replace hap := hap _ rfl
                rw [show (((34) : UInt8).toNat : Int) = 34 by rfl] at hap
                replace hap := Lib.hid hap
                replace hst' := Lib.hid hst'
                have hbel' : Hid (Below B w w2) := Lib.hid (hbelx.out.trans hb')
                replace hB' := Lib.hid hB'
                have htop3 : Hid (∀ v ∈ 34 :: 119 :: st, TopB v) := Lib.hid (fun v hv => by
                  rcases List.mem_cons.1 hv with rfl | hv
                  · simp [TopB]
                  · exact htop.out v hv)
                clear h92 h34 hstep hstop hdd hb'
                replace hq1 := Lib.hid hq1
                replace hq2 := Lib.hid hq2
                go_wp2_with fail
                refine hq1.out.mono ?_
                rintro e w' ⟨rfl, hwq⟩
                obtain rfl := hwq.symm
                clear hq1 hwq
                go_wp2_with fail
                refine hq2.out.mono ?_
                rintro e w' ⟨rfl, hwq⟩
                obtain rfl := hwq.symm
                clear hq2 hwq
                go_wp2_with (at_builtin; refine wpList_append_of rfl _ _ 57 57 rfl _ _ _ w2 rfl rfl hap.out ?_)
                go_roundw
                case rel => exact ⟨k + 1, 34, 119 :: st, _, _, by omega, by go_num, by rw [List.length_cons, hK.out], (by rw [List.length_cons, hK.out]; exact hst'), htop3, Lib.hid (by have := hstl.out; rw [List.length_cons]; omega), hsay1, hbel', hB'⟩
                case measure => simp [intOf]; omega
              · have i34 : ¬ (s[k].toNat : Int) = 34 := fun e => h34 (UInt8.toNat_inj.1 (by rw [show (34 : UInt8).toNat = 34 from rfl]; omega))
                by_cases h96 : s[k] = 96
                · have i96 : (s[k].toNat : Int) = 96 := by rw [h96]; rfl
                  have e36 : (s[k] == (36 : UInt8)) = false := by rw [h96]; decide
                  have hq : (match s[k] :: (bl s).drop (k + 1) with | c :: d :: _ => c == 36 && d == 40 | _ => false) = false ∧ (match s[k] :: (bl s).drop (k + 1) with | c :: d :: _ => c == 36 && d == 123 | _ => false) = false := by cases (bl s).drop (k + 1) <;> simp [e36]
                  rw [hq.1] at hq1
                  rw [hq.2] at hq2
                  clear hq e36
                  have hsay1 := hstep [96, 119] 1 (by simp [stp, h92, h34, h96])
                  rw [hdd 1] at hsay1
                  replace hsay1 := Lib.hid hsay1
                  obtain ⟨A', c', w2, hap, hst', hb', hB'⟩ := stk_push (x := 96) hK.out hstx.out hKs hBx.out
                  replace hap := hap _ rfl
                  rw [show (((96) : UInt8).toNat : Int) = 96 by rfl] at hap
                  replace hap := Lib.hid hap
                  replace hst' := Lib.hid hst'
                  have hbel' : Hid (Below B w w2) := Lib.hid (hbelx.out.trans hb')
                  replace hB' := Lib.hid hB'
                  have htop3 : Hid (∀ v ∈ 96 :: 119 :: st, TopB v) := Lib.hid (fun v hv => by
                    rcases List.mem_cons.1 hv with rfl | hv
                    · simp [TopB]
                    · exact htop.out v hv)
                  clear h92 h34 h96 hstep hstop hdd hb'
                  replace hq1 := Lib.hid hq1
                  replace hq2 := Lib.hid hq2
                  go_wp2_with fail
                  refine hq1.out.mono ?_
                  rintro e w' ⟨rfl, hwq⟩
                  obtain rfl := hwq.symm
                  clear hq1 hwq
                  go_wp2_with fail
                  refine hq2.out.mono ?_
                  rintro e w' ⟨rfl, hwq⟩
                  obtain rfl := hwq.symm
                  clear hq2 hwq
                  go_wp2_with (at_builtin; refine wpList_append_of rfl _ _ 57 57 rfl _ _ _ w2 rfl rfl hap.out ?_)
                  go_roundw
                  case rel => exact ⟨k + 1, 96, 119 :: st, _, _, by omega, by go_num, by rw [List.length_cons, hK.out], (by rw [List.length_cons, hK.out]; exact hst'), htop3, Lib.hid (by have := hstl.out; rw [List.length_cons]; omega), hsay1, hbel', hB'⟩
                  case measure => simp [intOf]; omega
                · have i96 : ¬ (s[k].toNat : Int) = 96 := fun e => h96 (UInt8.toNat_inj.1 (by rw [show (96 : UInt8).toNat = 96 from rfl]; omega))
                  by_cases h36 : s[k] = 36
                  · have i36 : (s[k].toNat : Int) = 36 := by rw [h36]; rfl
                    by_cases hk1 : k + 1 < s.size
                    · have hki : (k : Int) + 1 < (s.size : Int) := by omega
                      have hn2 := s[k + 1].toNat_lt
                      have hx2 := bl_cons s (k + 1) hk1
                      rw [hx2] at hstep hstop hq1 hq2
                      by_cases h40 : s[k + 1] = 40
                      · have j40 : (s[k + 1].toNat : Int) = 40 := by rw [h40]; rfl
                        simp only [h36, h40] at hq1
                        have hsay1 := hstep [40, 119] 2 (by simp [stp, h92, h34, h96, h36, h40])
                        rw [hdd 2] at hsay1
                        replace hsay1 := Lib.hid hsay1
                        obtain ⟨A', c', w2, hap, hst', hb', hB'⟩ := stk_push (x := 40) hK.out hstx.out hKs hBx.out
                        replace hap := hap _ rfl
                        rw [show (((40) : UInt8).toNat : Int) = 40 by rfl] at hap
                        replace hap := Lib.hid hap
                        replace hst' := Lib.hid hst'
                        have hbel' : Hid (Below B w w2) := Lib.hid (hbelx.out.trans hb')
                        replace hB' := Lib.hid hB'
                        have htop3 : Hid (∀ v ∈ 40 :: 119 :: st, TopB v) := Lib.hid (fun v hv => by
                          rcases List.mem_cons.1 hv with rfl | hv
                          · simp [TopB]
                          · exact htop.out v hv)
                        clear h92 h34 h96 h36 h40 hstep hstop hdd hb'
                        replace hq1 := Lib.hid hq1
                        replace hq2 := Lib.hid hq2
                        go_wp2_with fail
                        refine hq1.out.mono ?_
                        rintro e w' ⟨rfl, hwq⟩
                        obtain rfl := hwq.symm
                        clear hq1 hwq
                        go_wp2_with (at_builtin; refine wpList_append_of rfl _ _ 57 57 rfl _ _ _ w2 rfl rfl hap.out ?_)
                        go_roundw
                        case rel => exact ⟨k + 2, 40, 119 :: st, _, _, by omega, by go_num, by rw [List.length_cons, hK.out], (by rw [List.length_cons, hK.out]; exact hst'), htop3, Lib.hid (by have := hstl.out; rw [List.length_cons]; omega), hsay1, hbel', hB'⟩
                        case measure => simp [intOf]; omega
                      · by_cases h123 : s[k + 1] = 123
                        · have j123 : (s[k + 1].toNat : Int) = 123 := by rw [h123]; rfl
                          simp only [h36, h123] at hq1 hq2
                          have hsay1 := hstep [123, 119] 2 (by simp [stp, h92, h34, h96, h36, h123])
                          rw [hdd 2] at hsay1
                          replace hsay1 := Lib.hid hsay1
                          obtain ⟨A', c', w2, hap, hst', hb', hB'⟩ := stk_push (x := 123) hK.out hstx.out hKs hBx.out
                          replace hap := hap _ rfl
                          rw [show (((123) : UInt8).toNat : Int) = 123 by rfl] at hap
                          replace hap := Lib.hid hap
                          replace hst' := Lib.hid hst'
                          have hbel' : Hid (Below B w w2) := Lib.hid (hbelx.out.trans hb')
                          replace hB' := Lib.hid hB'
                          have htop3 : Hid (∀ v ∈ 123 :: 119 :: st, TopB v) := Lib.hid (fun v hv => by
                            rcases List.mem_cons.1 hv with rfl | hv
                            · simp [TopB]
                            · exact htop.out v hv)
                          clear h92 h34 h96 h36 h123 hstep hstop hdd hb'
                          replace hq1 := Lib.hid hq1
                          replace hq2 := Lib.hid hq2
                          go_wp2_with fail
                          refine hq1.out.mono ?_
                          rintro e w' ⟨rfl, hwq⟩
                          obtain rfl := hwq.symm
                          clear hq1 hwq
                          go_wp2_with fail
                          refine hq2.out.mono ?_
                          rintro e w' ⟨rfl, hwq⟩
                          obtain rfl := hwq.symm
                          clear hq2 hwq
                          go_wp2_with (at_builtin; refine wpList_append_of rfl _ _ 57 57 rfl _ _ _ w2 rfl rfl hap.out ?_)
                          go_roundw
                          case rel => exact ⟨k + 2, 123, 119 :: st, _, _, by omega, by go_num, by rw [List.length_cons, hK.out], (by rw [List.length_cons, hK.out]; exact hst'), htop3, Lib.hid (by have := hstl.out; rw [List.length_cons]; omega), hsay1, hbel', hB'⟩
                          case measure => simp [intOf]; omega
                        · have e1 : (s[k + 1] == (40 : UInt8)) = false := beq_eq_false_iff_ne.2 h40
                          have e2 : (s[k + 1] == (123 : UInt8)) = false := beq_eq_false_iff_ne.2 h123
                          simp only [e1, e2, Bool.and_false] at hq1 hq2
                          clear e1 e2
                          have hsay1 := hstep [119] 1 (by simp [stp, h92, h34, h96, h36, h40, h123])
                          rw [hdd 1] at hsay1
                          replace hsay1 := Lib.hid hsay1
                          clear h92 h34 h96 h36 h40 h123  hstep hstop hdd
                          replace hq1 := Lib.hid hq1
                          replace hq2 := Lib.hid hq2
                          go_wp2_with fail
                          refine hq1.out.mono ?_
                          rintro e w' ⟨rfl, hwq⟩
                          obtain rfl := hwq.symm
                          clear hq1 hwq
                          go_wp2_with fail
                          refine hq2.out.mono ?_
                          rintro e w' ⟨rfl, hwq⟩
                          obtain rfl := hwq.symm
                          clear hq2 hwq
                          go_wp2
                          go_roundw
                          case rel => exact ⟨k + 1, _, _, _, _, by omega, by go_num, by rw [hK.out], (by rw [hK.out]; exact hstx), htop, Lib.hid (by have := hstl.out; omega), hsay1, hbelx, hBx⟩
                          case measure => simp [intOf]; omega
                    · have hnil : (bl s).drop (k + 1) = [] := bl_end s _ (by omega)
                      rw [hnil] at hstep hstop hq1 hq2
                      simp only at hq1 hq2
                      clear hnil
                      have hsay1 := hstep [119] 1 (by simp [stp, h92, h34, h96, h36])
                      rw [hdd 1] at hsay1
                      replace hsay1 := Lib.hid hsay1
                      clear h92 h34 h96 h36  hstep hstop hdd
                      replace hq1 := Lib.hid hq1
                      replace hq2 := Lib.hid hq2
                      go_wp2_with fail
                      refine hq1.out.mono ?_
                      rintro e w' ⟨rfl, hwq⟩
                      obtain rfl := hwq.symm
                      clear hq1 hwq
                      go_wp2_with fail
                      refine hq2.out.mono ?_
                      rintro e w' ⟨rfl, hwq⟩
                      obtain rfl := hwq.symm
                      clear hq2 hwq
                      go_wp2
                      go_roundw
                      case rel => exact ⟨k + 1, _, _, _, _, by omega, by go_num, by rw [hK.out], (by rw [hK.out]; exact hstx), htop, Lib.hid (by have := hstl.out; omega), hsay1, hbelx, hBx⟩
                      case measure => simp [intOf]; omega
                  · have i36 : ¬ (s[k].toNat : Int) = 36 := fun e => h36 (UInt8.toNat_inj.1 (by rw [show (36 : UInt8).toNat = 36 from rfl]; omega))
                    by_cases h39 : s[k] = 39
                    · have i39 : (s[k].toNat : Int) = 39 := by rw [h39]; rfl
                      have e36 : (s[k] == (36 : UInt8)) = false := by rw [h39]; decide
                      have hq : (match s[k] :: (bl s).drop (k + 1) with | c :: d :: _ => c == 36 && d == 40 | _ => false) = false ∧ (match s[k] :: (bl s).drop (k + 1) with | c :: d :: _ => c == 36 && d == 123 | _ => false) = false := by cases (bl s).drop (k + 1) <;> simp [e36]
                      rw [hq.1] at hq1
                      rw [hq.2] at hq2
                      clear hq e36
                      have hsay1 := hstep [39, 119] 1 (by simp [stp, h92, h34, h96, h36, h39])
                      rw [hdd 1] at hsay1
                      replace hsay1 := Lib.hid hsay1
                      obtain ⟨A', c', w2, hap, hst', hb', hB'⟩ := stk_push (x := 39) hK.out hstx.out hKs hBx.out
                      replace hap := hap _ rfl
                      rw [show (((39) : UInt8).toNat : Int) = 39 by rfl] at hap
                      replace hap := Lib.hid hap
                      replace hst' := Lib.hid hst'
                      have hbel' : Hid (Below B w w2) := Lib.hid (hbelx.out.trans hb')
                      replace hB' := Lib.hid hB'
                      have htop3 : Hid (∀ v ∈ 39 :: 119 :: st, TopB v) := Lib.hid (fun v hv => by
                        rcases List.mem_cons.1 hv with rfl | hv
                        · simp [TopB]
                        · exact htop.out v hv)
                      clear h92 h34 h96 h36 h39 hstep hstop hdd hb'
                      replace hq1 := Lib.hid hq1
                      replace hq2 := Lib.hid hq2
                      go_wp2_with fail
                      refine hq1.out.mono ?_
                      rintro e w' ⟨rfl, hwq⟩
                      obtain rfl := hwq.symm
                      clear hq1 hwq
                      go_wp2_with fail
                      refine hq2.out.mono ?_
                      rintro e w' ⟨rfl, hwq⟩
                      obtain rfl := hwq.symm
                      clear hq2 hwq
                      go_wp2_with (at_builtin; refine wpList_append_of rfl _ _ 57 57 rfl _ _ _ w2 rfl rfl hap.out ?_)
                      go_roundw
                      case rel => exact ⟨k + 1, 39, 119 :: st, _, _, by omega, by go_num, by rw [List.length_cons, hK.out], (by rw [List.length_cons, hK.out]; exact hst'), htop3, Lib.hid (by have := hstl.out; rw [List.length_cons]; omega), hsay1, hbel', hB'⟩
                      case measure => simp [intOf]; omega
                    · have i39 : ¬ (s[k].toNat : Int) = 39 := fun e => h39 (UInt8.toNat_inj.1 (by rw [show (39 : UInt8).toNat = 39 from rfl]; omega))
                      by_cases h40 : s[k] = 40
                      · have i40 : (s[k].toNat : Int) = 40 := by rw [h40]; rfl
                        have e36 : (s[k] == (36 : UInt8)) = false := by rw [h40]; decide
                        have hq : (match s[k] :: (bl s).drop (k + 1) with | c :: d :: _ => c == 36 && d == 40 | _ => false) = false ∧ (match s[k] :: (bl s).drop (k + 1) with | c :: d :: _ => c == 36 && d == 123 | _ => false) = false := by cases (bl s).drop (k + 1) <;> simp [e36]
                        rw [hq.1] at hq1
                        rw [hq.2] at hq2
                        clear hq e36
                        have hsay1 := hstep [119] 1 (by simp [stp, h92, h34, h96, h36, h39, h40])
                        rw [hdd 1] at hsay1
                        replace hsay1 := Lib.hid hsay1
                        clear h92 h34 h96 h36 h39 h40  hstep hstop hdd
                        replace hq1 := Lib.hid hq1
                        replace hq2 := Lib.hid hq2
                        go_wp2_with fail
                        refine hq1.out.mono ?_
                        rintro e w' ⟨rfl, hwq⟩
                        obtain rfl := hwq.symm
                        clear hq1 hwq
                        go_wp2_with fail
                        refine hq2.out.mono ?_
                        rintro e w' ⟨rfl, hwq⟩
                        obtain rfl := hwq.symm
                        clear hq2 hwq
                        go_wp2
                        go_roundw
                        case rel => exact ⟨k + 1, _, _, _, _, by omega, by go_num, by rw [hK.out], (by rw [hK.out]; exact hstx), htop, Lib.hid (by have := hstl.out; omega), hsay1, hbelx, hBx⟩
                        case measure => simp [intOf]; omega
                      · have i40 : ¬ (s[k].toNat : Int) = 40 := fun e => h40 (UInt8.toNat_inj.1 (by rw [show (40 : UInt8).toNat = 40 from rfl]; omega))
                        by_cases h41 : s[k] = 41
                        · have i41 : (s[k].toNat : Int) = 41 := by rw [h41]; rfl
                          have e36 : (s[k] == (36 : UInt8)) = false := by rw [h41]; decide
                          have hq : (match s[k] :: (bl s).drop (k + 1) with | c :: d :: _ => c == 36 && d == 40 | _ => false) = false ∧ (match s[k] :: (bl s).drop (k + 1) with | c :: d :: _ => c == 36 && d == 123 | _ => false) = false := by cases (bl s).drop (k + 1) <;> simp [e36]
                          rw [hq.1] at hq1
                          rw [hq.2] at hq2
                          clear hq e36
                          have hsay1 := hstep [119] 1 (by simp [stp, h92, h34, h96, h36, h39, h40, h41])
                          rw [hdd 1] at hsay1
                          replace hsay1 := Lib.hid hsay1
                          clear h92 h34 h96 h36 h39 h40 h41  hstep hstop hdd
                          replace hq1 := Lib.hid hq1
                          replace hq2 := Lib.hid hq2
                          go_wp2_with fail
                          refine hq1.out.mono ?_
                          rintro e w' ⟨rfl, hwq⟩
                          obtain rfl := hwq.symm
                          clear hq1 hwq
                          go_wp2_with fail
                          refine hq2.out.mono ?_
                          rintro e w' ⟨rfl, hwq⟩
                          obtain rfl := hwq.symm
                          clear hq2 hwq
                          go_wp2
                          go_roundw
                          case rel => exact ⟨k + 1, _, _, _, _, by omega, by go_num, by rw [hK.out], (by rw [hK.out]; exact hstx), htop, Lib.hid (by have := hstl.out; omega), hsay1, hbelx, hBx⟩
                          case measure => simp [intOf]; omega
                        · have i41 : ¬ (s[k].toNat : Int) = 41 := fun e => h41 (UInt8.toNat_inj.1 (by rw [show (41 : UInt8).toNat = 41 from rfl]; omega))
                          by_cases h125 : s[k] = 125
                          · have i125 : (s[k].toNat : Int) = 125 := by rw [h125]; rfl
                            have e36 : (s[k] == (36 : UInt8)) = false := by rw [h125]; decide
                            have hq : (match s[k] :: (bl s).drop (k + 1) with | c :: d :: _ => c == 36 && d == 40 | _ => false) = false ∧ (match s[k] :: (bl s).drop (k + 1) with | c :: d :: _ => c == 36 && d == 123 | _ => false) = false := by cases (bl s).drop (k + 1) <;> simp [e36]
                            rw [hq.1] at hq1
                            rw [hq.2] at hq2
                            clear hq e36
                            have hsay1 := hstep [119] 1 (by simp [stp, h92, h34, h96, h36, h39, h40, h41, h125])
                            rw [hdd 1] at hsay1
                            replace hsay1 := Lib.hid hsay1
                            clear h92 h34 h96 h36 h39 h40 h41 h125  hstep hstop hdd
                            replace hq1 := Lib.hid hq1
                            replace hq2 := Lib.hid hq2
                            go_wp2_with fail
                            refine hq1.out.mono ?_
                            rintro e w' ⟨rfl, hwq⟩
                            obtain rfl := hwq.symm
                            clear hq1 hwq
                            go_wp2_with fail
                            refine hq2.out.mono ?_
                            rintro e w' ⟨rfl, hwq⟩
                            obtain rfl := hwq.symm
                            clear hq2 hwq
                            go_wp2
                            go_roundw
                            case rel => exact ⟨k + 1, _, _, _, _, by omega, by go_num, by rw [hK.out], (by rw [hK.out]; exact hstx), htop, Lib.hid (by have := hstl.out; omega), hsay1, hbelx, hBx⟩
                            case measure => simp [intOf]; omega
                          · have i125 : ¬ (s[k].toNat : Int) = 125 := fun e => h125 (UInt8.toNat_inj.1 (by rw [show (125 : UInt8).toNat = 125 from rfl]; omega))
                            have e36 : (s[k] == (36 : UInt8)) = false := beq_eq_false_iff_ne.2 h36
                            have hq : (match s[k] :: (bl s).drop (k + 1) with | c :: d :: _ => c == 36 && d == 40 | _ => false) = false ∧ (match s[k] :: (bl s).drop (k + 1) with | c :: d :: _ => c == 36 && d == 123 | _ => false) = false := by cases (bl s).drop (k + 1) <;> simp [e36]
                            rw [hq.1] at hq1
                            rw [hq.2] at hq2
                            clear hq e36
                            have j92 : ((s[k].toNat : Int) == 92) = false := beq_eq_false_iff_ne.2 i92
                            have j34 : ((s[k].toNat : Int) == 34) = false := beq_eq_false_iff_ne.2 i34
                            have j96 : ((s[k].toNat : Int) == 96) = false := beq_eq_false_iff_ne.2 i96
                            have j39 : ((s[k].toNat : Int) == 39) = false := beq_eq_false_iff_ne.2 i39
                            have j40 : ((s[k].toNat : Int) == 40) = false := beq_eq_false_iff_ne.2 i40
                            have j41 : ((s[k].toNat : Int) == 41) = false := beq_eq_false_iff_ne.2 i41
                            have j125 : ((s[k].toNat : Int) == 125) = false := beq_eq_false_iff_ne.2 i125
                            have hsay1 := hstep [119] 1 (by simp [stp, h92, h34, h96, h36, h39, h40, h41, h125])
                            rw [hdd 1] at hsay1
                            replace hsay1 := Lib.hid hsay1
                            clear h92 h34 h96 h36 h39 h40 h41 h125  hstep hstop hdd
                            replace hq1 := Lib.hid hq1
                            replace hq2 := Lib.hid hq2
                            go_wp2_with fail
                            refine hq1.out.mono ?_
                            rintro e w' ⟨rfl, hwq⟩
                            obtain rfl := hwq.symm
                            clear hq1 hwq
                            go_wp2_with fail
                            refine hq2.out.mono ?_
                            rintro e w' ⟨rfl, hwq⟩
                            obtain rfl := hwq.symm
                            clear hq2 hwq
                            go_wp2
                            go_roundw
                            case rel => exact ⟨k + 1, _, _, _, _, by omega, by go_num, by rw [hK.out], (by rw [hK.out]; exact hstx), htop, Lib.hid (by have := hstl.out; omega), hsay1, hbelx, hBx⟩
                            case measure => simp [intOf]; omega
    · have hi1 : ¬ (k : Int) < (s.size : Int) := by omega
      have hsay0 := hsay.out
      rw [bl_end s k (by omega), scan_end] at hsay0
      have hbE : Hid (Below w.heap.size w wr) := Lib.hid (by rw [hB.out]; exact hbel.out)
      by_cases h0 : t = 119 ∧ st = []
      · obtain ⟨rfl, rfl⟩ := h0
        rw [if_pos ⟨rfl, rfl⟩, enc_some] at hsay0
        obtain rfl : K = 0 := by rw [← hK]; rfl
        rw [Nat.add_zero] at hcell
        replace hsay0 := Lib.hid hsay0
        clear hstk htop htop2 htt hsay
        go_wp2
        go_ret
        exact ⟨by rw [← hsay0.out]; rfl, hbE.out⟩
      · rw [if_neg h0, enc_none] at hsay0
        replace hsay0 := Lib.hid hsay0
        by_cases hK0 : K = 0
        · subst hK0
          rw [Nat.add_zero] at hcell
          have hst : st = [] := List.eq_nil_of_length_eq_zero hK
          have htne : ¬ (t.toNat : Int) = 119 := fun e => h0 ⟨UInt8.toNat_inj.1 (by rw [show (119 : UInt8).toNat = 119 from rfl]; omega), hst⟩
          clear hstk htop htop2 htt hsay h0
          go_wp2
          go_ret
          exact ⟨by rw [← hsay0.out]; rfl, hbE.out⟩
        · have hKi : ¬ ((K : Int) + 1 = 1) := by omega
          clear hstk htop htop2 htt hsay h0
          go_wp2
          go_ret
          exact ⟨by rw [← hsay0.out]; rfl, hbE.out⟩
end Go.Proofs.YtjeleebgifajkaaDoor
