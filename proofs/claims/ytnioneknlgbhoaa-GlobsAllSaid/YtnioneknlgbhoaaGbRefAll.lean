/-
  The reference's All: the texts out of an alphabet that a pattern fits, or what is wrong. Conditions: at most 999999 items, 300 bytes.
-/
import Derived.Test.YtnioneknlgbhoaaGbAll
import Derived.Test.YtnioneknlgbhoaaGbRefFits
namespace Go.Proofs.Ytnioneknlgbhoaa
open Go Go.RowKit

theorem take_snoc8 (l : List UInt8) (k : Nat) {c : UInt8} (h : l[k]? = some c) (x : UInt8) : (l.take (k + 1)).contains x = ((l.take k).contains x || x == c) := by
  have hlt := (List.getElem?_eq_some_iff.1 h).1
  have he := (List.getElem?_eq_some_iff.1 h).2
  rw [List.take_succ_eq_append_getElem hlt, he, Bool.eq_iff_iff]
  simp

/-- What stands in all while a row is put behind it. -/
def rowL (al : ByteArray) (n j : Nat) : List ByteArray := bef al (n + 1) ++ ((lev al n).take j).flatMap (kidsA al)
theorem rowL_head {al : ByteArray} {n j : Nat} (hj : j < (lev al n).length) {more : List ByteArray} : (rowL al n j ++ more)[(bef al n).length + j]? = some (lev al n)[j] := by
  unfold rowL
  rw [bef, List.append_assoc, List.append_assoc, List.getElem?_append_right (by omega), show (bef al n).length + j - (bef al n).length = j by omega, List.getElem?_append_left hj]
  exact List.getElem?_eq_getElem hj
theorem rowL_next {al : ByteArray} {n j : Nat} (hj : j < (lev al n).length) : rowL al n (j + 1) = rowL al n j ++ kidsB al (lev al n)[j] al.size := by
  unfold rowL; rw [row_next hj, List.append_assoc]; rfl
theorem rowL_zero (al : ByteArray) (n : Nat) : rowL al n 0 = bef al (n + 1) := by simp [rowL]
theorem rowL_full (al : ByteArray) (n : Nat) : rowL al n (lev al n).length = bef al (n + 1 + 1) := row_whole al n

/-- How all stands between two rows: it is all of fewer than n + 1 bytes, and the last row begins at f; or it is too long already. -/
def RA (al : ByteArray) (most n f : Nat) (L : List ByteArray) : Prop :=
  (L = bef al (n + 1) ∧ f = (bef al n).length) ∨ (4096 < L.length ∧ 4096 < cnt al.size (most + 1))
theorem RA.done {al : ByteArray} {most n f : Nat} {L : List ByteArray} (h : RA al most n f L) (hn : n ≤ most) (hs : ¬ (n < most ∧ L.length ≤ 4096 ∧ f < L.length)) :
    (4096 < L.length ∧ 4096 < cnt al.size (most + 1)) ∨ (L = bef al (most + 1) ∧ L.length ≤ 4096) := by
  rcases h with ⟨rfl, rfl⟩ | h
  · by_cases h1 : n < most
    · by_cases h2 : (bef al (n + 1)).length ≤ 4096
      · have h3 : ¬ (bef al n).length < (bef al (n + 1)).length := fun h => hs ⟨h1, h2, h⟩
        have h4 : lev al n = [] := by
          apply List.eq_nil_of_length_eq_zero
          rw [bef, List.length_append] at h3
          omega
        exact .inr ⟨(bef_all h4 (by omega)).symm, h2⟩
      · have h3 := cnt_mono al.size (show n + 1 ≤ most + 1 by omega)
        rw [bef_len] at h2
        exact .inl ⟨by rw [bef_len]; omega, by omega⟩
    · obtain rfl : n = most := by omega
      by_cases h2 : (bef al (n + 1)).length ≤ 4096
      · exact .inr ⟨rfl, h2⟩
      · have h3 := bef_len al (n + 1)
        exact .inl ⟨by omega, by omega⟩
  · exact .inl h

theorem wpList_appendS (w : World) {ops : Array Oper} {rest : List Oper} {o : Oper} {a : Act} {Q : Exit → Act → World → Prop} (hgd : o.guard = none) (s x : Operand)
    (ho : o.op = .call { callee := .builtin .append, args := #[s, x], argTypes := #[39, 39] })
    (base : Nat) (v : Value) {k : Nat} {xs : List Value} (hs : a.eval s = v) (hown : w.ownsRow base 9 1 v k xs)
    (ad : Addr) (t : ByteArray) (hx : a.eval x = .slice (some ad) 1 1) (hc : w.cell? ad = some (.string t)) (hk : k ≤ 1000000) (hb : base ≤ w.heap.size)
    (h : ∀ v' w', w'.ownsRow base 9 1 v' (k + 1) (xs ++ [.string t]) → w.grownBy w' v.ownBlock → wpList Try.prog ops Q rest (a.put o.dst v') w') :
    wpList Try.prog ops Q (o :: rest) a w := by
  obtain ⟨i, hi, hz, hsz, hby⟩ := info_parts infoStr
  refine wpList_append_own_at w hgd s x 39 ho base 9 i _ 1 16 Try.underlying39 hi hz hsz hby rfl (by omega) v k xs hs hown ad 1 1 [.string t] hx rfl (fun j u hu => ?_) (fun u hu => ?_) (by unfold maxLen; omega) (by omega) hb (fun v' w' h1 h2 _ _ => h v' w' h1 h2)
  · cases j with
    | zero =>
      have : u = .string t := by simpa using hu.symm
      subst this
      have e : ad.add 0 = ad := by cases ad with | mk a b c => cases c <;> simp [Addr.add]
      rw [e]; exact hc
    | succ j => simp at hu
  · have : u = .string t := by simpa using hu
    subst this; rfl
theorem rowL_len {al : ByteArray} {n most j : Nat} (hn : n < most) (hj : j ≤ (lev al n).length) : (rowL al n j).length ≤ cnt al.size (most + 1) := row_len hn hj
theorem fitL_step (p : List It) (L : List ByteArray) {i : Nat} (h : i < L.length) : fitL p (L.take (i + 1)) = if mt p (bl L[i]) then fitL p (L.take i) ++ [L[i]] else fitL p (L.take i) := by
  rw [List.take_succ_eq_append_getElem h]
  cases hm : mt p (bl L[i]) with
  | true => rw [fitL_hit p _ hm]; rfl
  | false => rw [fitL_miss p _ hm]; simp

set_option maxHeartbeats 8000000 in
set_option maxRecDepth 100000 in
theorem allRef_main (p : List It) (v : Value) (al : ByteArray) (most : Nat) (B : Nat) (w : World) (ht : Its w B v p) (hB : B ≤ w.heap.size) (hl : p.length ≤ 999999) (ha : al.size ≤ 300) (hm : (most : Int) ≤ 9223372036854775807) :
    Calls Try.prog 30 #[v, .string al, .int .i64 (most : Int)] w fun e w' => ∃ v', e = .returned (.tuple #[v', .int .i64 (allE al most)]) ∧ Below w.heap.size w w' ∧
      w'.ownsRow w.heap.size 9 1 v' (allL p al most).length (cellsT (allL p al most)) := by
  have k0 : ¬ (most : Int) < 0 := by omega
  obtain ⟨E, hE0⟩ : ∃ E, allE al most = E := ⟨_, rfl⟩
  obtain ⟨L0, hL0⟩ : ∃ L0, allL p al most = L0 := ⟨_, rfl⟩
  rw [hE0, hL0]
  have hE := Lib.hid hE0
  have hL := Lib.hid hL0
  clear hE0 hL0
  go_enter Try.func30, Try.ntmps30
  go_wp2
  go_loopw [8] (fun iv wr => ∃ i : Nat, i ≤ al.size ∧ iv = .int .i64 i ∧ (∃ d, wr = w.drewN d) ∧ Hid (twiceQ (bl al) i = false)) (fun iv _ => al.size - (intOf iv).toNat)
  case atStart => exact ⟨0, Nat.zero_le _, rfl, ⟨0, rfl⟩, rfl⟩
  case round =>
    obtain ⟨i, hi, rfl, hd, hq⟩ := hrel
    by_cases hlt : i < al.size
    · have hst := Lib.hid (twiceQ_succ (bl al) i (bl_get al i hlt))
      go_wp2
      go_loopw [9] (fun kv ws => ∃ k : Nat, k ≤ i ∧ kv = .int .i64 k ∧ (∃ d, ws = w.drewN d) ∧ Hid (((bl al).take k).contains al[i] = false)) (fun kv _ => i - (intOf kv).toNat)
      case atStart => exact ⟨0, Nat.zero_le _, rfl, hd, rfl⟩
      case round =>
        clear hd
        obtain ⟨k, hk, rfl, hd, hc⟩ := hrel
        by_cases hlt2 : k < i
        · have hk2 : k < al.size := by omega
          have hsn := take_snoc8 (bl al) k (bl_get al k hk2) al[i]
          rw [hc.out, Bool.false_or] at hsn
          by_cases he : al[i] = al[k]
          · have hE1 : allE al most = 1 := by
              refine if_pos (.inr ?_)
              refine twiceQ_true (k := i + 1) ?_ (by omega)
              rw [hst.out, show ((bl al).take i).contains al[i] = true from List.contains_iff_mem.2 (by rw [he]; exact List.mem_of_getElem? (i := k) (by rw [List.getElem?_take, if_pos hlt2]; exact bl_get al k hk2)), Bool.or_true]
            have hn : ∀ W : World, W.ownsRow w.heap.size 9 1 (.slice none 0 0) L0.length (cellsT L0) := fun W => by rw [← hL.out, show allL p al most = [] by unfold allL; rw [hE1]; rfl]; exact World.ownsRow_nil _ _ _ _
            obtain rfl : E = 1 := hE.out.symm.trans hE1
            have he2 : ((al[i].toNat : Int)) = (al[k].toNat : Int) := by rw [he]
            obtain ⟨d, rfl⟩ := hd
            clear hsn hst hc hq he hE1 hL hE
            go_wp2
            go_quiet (fail)
            go_wp2
            go_ret2
            exact ⟨_, rfl, below_drewN (below_drewN (Below.refl _ _) _) _, hn _⟩
          · have hc2 : Hid (((bl al).take (k + 1)).contains al[i] = false) := by rw [Hid, hsn]; simpa using he
            have he2 : ¬ ((al[i].toNat : Int)) = (al[k].toNat : Int) := fun h => he (UInt8.toNat_inj.1 (by omega))
            clear hsn hst hc hq he
            go_wp2
            go_quiet (fail)
            go_wp2
            go_roundw
            case rel => exact ⟨k + 1, by omega, by go_num, drew_more hd _, hc2⟩
            case measure => simp [intOf]; omega
        · obtain rfl : k = i := by omega
          have hq2 : Hid (twiceQ (bl al) (k + 1) = false) := by
            rw [Hid, hst.out, hq.out, Bool.false_or]
            exact hc.out
          clear hst hc hq
          go_wp2
          go_roundw
          case rel => exact ⟨k + 1, by omega, by go_num, hd, hq2⟩
          case measure => simp [intOf]; omega
    · obtain rfl : i = al.size := by omega
      have htw := Lib.hid hq.out
      clear hq
      obtain ⟨d, rfl⟩ := hd
      go_wp2
      go_loopw [10, 11, 12] (fun av fv nv wr => ∃ (n f b : Nat) (L : List ByteArray), n ≤ most ∧ nv = .int .i64 n ∧ fv = .int .i64 f ∧ w.heap.size ≤ b ∧ b < wr.heap.size ∧ QRow wr b av L ∧ Below w.heap.size w wr ∧ L.length ≤ 4396 ∧ f ≤ 4396 ∧ Hid (RA al most n f L)) (fun _ _ nv _ => most - (intOf nv).toNat)
      case atStart =>
        exact ⟨0, 0, w.heap.size, [⟨#[]⟩], Nat.zero_le _, rfl, rfl, Nat.le_refl _, by simp, QRow.first (w.drewN d) ⟨#[]⟩, (below_drewN (Below.refl _ w) d).alloc (Nat.le_refl _) _, by simp, by omega, .inl ⟨rfl, rfl⟩⟩
      case round =>
        obtain ⟨n, f, b, L, hn, rfl, rfl, hb, hbl, hq, hbw, hL4, hf4, hra⟩ := hrel
        obtain ⟨off, c, rfl, hc, hcm, hcell⟩ := hq.form
        by_cases hgo : n < most ∧ L.length ≤ 4096 ∧ f < L.length
        · obtain ⟨g1, g2, g3⟩ := hgo
          obtain ⟨rfl, rfl⟩ : L = bef al (n + 1) ∧ f = (bef al n).length := by
            rcases hra.out with h | h
            · exact h
            · omega
          clear hra
          have hlv : Hid ((bef al (n + 1)).length = (bef al n).length + (lev al n).length) := by rw [Hid, bef, List.length_append]
          obtain ⟨F, hF⟩ : ∃ F, (bef al n).length = F := ⟨_, rfl⟩
          obtain ⟨T, hT⟩ : ∃ T, (bef al (n + 1)).length = T := ⟨_, rfl⟩
          rw [hT] at g2 g3 hL4 hc hlv ⊢
          rw [hF] at g3 hf4 hlv ⊢
          have g4 : (F : Int) < (T : Int) := by omega
          have hq0 : QRow wr b (.slice (some ⟨b, off, none⟩) T c) (rowL al n 0) := by rw [rowL_zero]; exact hT ▸ hq
          clear hq hcell
          go_wp2
          go_loopw [10, 14] (fun av iv wi => ∃ j bb : Nat, j ≤ (lev al n).length ∧ iv = .int .i64 ((F + j : Nat) : Int) ∧ w.heap.size ≤ bb ∧ bb < wi.heap.size ∧ QRow wi bb av (rowL al n j) ∧ Below w.heap.size w wi ∧ (rowL al n j).length ≤ 4396) (fun _ iv _ => T - (intOf iv).toNat)
          case atStart => exact ⟨0, b, Nat.zero_le _, rfl, hb, hbl, hq0, hbw, by rw [rowL_zero, hT]; exact hL4⟩
          case round =>
            clear hq0 hbw hb hbl
            obtain ⟨j, bb, hj, rfl, hb, hbl, hq, hbw, hrl⟩ := hrel
            obtain ⟨off2, c2, rfl, hc2, hcm2, hcell2⟩ := hq.form
            obtain ⟨M, hM⟩ : ∃ M, (rowL al n j).length = M := ⟨_, rfl⟩
            rw [hM] at hq hc2 hrl ⊢
            by_cases h1 : j < (lev al n).length
            · have h1' : ((F + j : Nat) : Int) < (T : Int) := by have := hlv.out; omega
              by_cases h2 : M ≤ 4096
              · have h2d : decide ((M : Int) ≤ 4096) = true := decide_eq_true (by omega)
                have hts := lev_size al n _ (List.getElem_mem h1)
                have hnx := Lib.hid (rowL_next h1)
                have hhd := fun more => Lib.hid (rowL_head h1 (more := more))
                rw [hF] at hhd
                obtain ⟨I, hI⟩ : ∃ I, F + j = I := ⟨_, rfl⟩
                rw [hI] at h1' hhd ⊢
                have hI : Hid (F + j = I) := hI
                generalize (lev al n)[j] = t at hts hnx hhd
                have hq1 : QRow wr bb (.slice (some ⟨bb, off2, none⟩) M c2) (rowL al n j ++ kidsB al t 0) := by rw [show kidsB al t 0 = [] from rfl, List.append_nil]; exact hq
                clear hq hcell2
                go_wp2
                go_loopw [10, 15] (fun av kv wk => ∃ k b3 : Nat, k ≤ al.size ∧ kv = .int .i64 k ∧ w.heap.size ≤ b3 ∧ b3 < wk.heap.size ∧ QRow wk b3 av (rowL al n j ++ kidsB al t k) ∧ Below w.heap.size w wk) (fun _ kv _ => al.size - (intOf kv).toNat)
                case atStart => exact ⟨0, bb, Nat.zero_le _, rfl, hb, hbl, hq1, hbw⟩
                case round =>
                  clear hq1 hbw hb hbl
                  obtain ⟨k, b3, hk, rfl, hb, hbl, hq, hbw⟩ := hrel
                  obtain ⟨off3, c3, rfl, hc3, hcm3, hcell3⟩ := hq.form
                  have hN : (rowL al n j ++ kidsB al t k).length = M + k := by rw [List.length_append, kidsB_len, hM]
                  have hjlt : I < M + k := by rw [← hN]; exact (List.getElem?_eq_some_iff.1 (hhd (kidsB al t k)).out).1
                  have hcl := hcell3 I (by rw [hN]; exact hjlt)
                  have hgj : (rowL al n j ++ kidsB al t k)[I]'(by rw [hN]; exact hjlt) = t := (List.getElem?_eq_some_iff.1 (hhd (kidsB al t k)).out).2
                  rw [hgj] at hcl
                  clear hcell3 hgj
                  rw [hN] at hq hc3 ⊢
                  obtain ⟨N, hN2⟩ : ∃ N, M + k = N := ⟨_, rfl⟩
                  rw [hN2] at hq hc3 hN hjlt ⊢
                  by_cases hlt3 : k < al.size
                  · have hsnoc := Lib.hid (kidsB_succ al t k)
                    have hkeep : ∀ o : Obj, QRow ((wr.alloc o).drew) b3 (.slice (some ⟨b3, off3, none⟩) N c3) (rowL al n j ++ kidsB al t k) := fun o => hq.keep (by simp) (Below.heap_alloc wr o b3 hbl)
                    have hbq : N + 1 ≤ 1000000 := by omega
                    have i1 : (I : Int) < (N : Int) := by omega
                    have i1' : I < N := by omega
                    have i2 : IntKind.i64.wrap ((k : Int) + 1) = (k : Int) + 1 := IntWalk.i64_in _ (by omega)
                    have i3 : (0 : Int) ≤ (k : Int) := by omega
                    have i4 : (k : Int) ≤ (k : Int) + 1 := by omega
                    have i5 : (k : Int) + 1 ≤ (al.size : Int) := by omega
                    have i6 : ((k : Int) + 1).toNat = k + 1 := by omega
                    have i7 : ∀ W, (Op.stringOp .add t (al.extract k (k + 1))).run Try.prog W = .ok (.string (t ++ al.extract k (k + 1))) W := fun W => run_string_add_sum W _ _ (by
                      have h2 : (al.extract k (k + 1)).size ≤ 1 := by rw [ByteArray.size_extract]; omega
                      omega)
                    clear hN2
                    go_wp2_with fail
                    go_region_held3 (fun w' => w'.cell? ⟨b3, off3 + I, none⟩ = some (.string t))
                      (first
                        | go_keep
                        | ((have h9 := hat off3 c3 (by rw [hN]) I (by rw [hN]; exact i1'); rw [h9]; assumption)))
                      ((refine step_append_q (by rfl) _ _ (by rfl) (b := b3) (v := .slice (some ⟨b3, off3, none⟩) N c3) (q := rowL al n j ++ kidsB al t k) (by rfl) (hkeep _) ⟨wr.heap.size, 0, none⟩ (t ++ al.extract k (k + 1)) (by rfl) (by simp) (by rw [hN]; exact hbq) ?_; intro v' b' w1 hq9 hgrow hbb hat))
                    have hgr : wr.grownBy w1 (some b3) := grownBy_trans (World.grownBy_alloc wr _ _) (grownBy_trans (grownBy_drew _ _) hgrow)
                    have hlt9 : b' < w1.heap.size := by obtain ⟨_, _, _, _, _, h9, _⟩ := hq9; exact h9
                    have hq2 : QRow w1 b' v' (rowL al n j ++ kidsB al t (k + 1)) := by rw [hsnoc.out, ← List.append_assoc]; exact hq9
                    have hbw2 : Below w.heap.size w w1 := hbw.grown hgr (by have := hbw.size; omega) (fun g h => by cases h; exact hb)
                    have hb2 : w.heap.size ≤ b' := by have h8 := hbw.size; exact hbb.elim (fun h => by omega) (fun h => by rw [h]; simp; omega)
                    clear hq9 hgrow hbb hat hkeep hgr hq hbw hb hbl
                    go_wp2
                    go_roundw
                    case rel => exact ⟨k + 1, b', by omega, by go_num, hb2, hlt9, hq2, hbw2⟩
                    case measure => simp [intOf]; omega
                  · obtain rfl : k = al.size := by omega
                    have hlen : (rowL al n (j + 1)).length = N := by rw [hnx.out]; exact hN
                    have hq2 : QRow wr b3 (.slice (some ⟨b3, off3, none⟩) N c3) (rowL al n (j + 1)) := by rw [hnx.out]; exact hq
                    have hN4 : N ≤ 4396 := by omega
                    clear hN hN2 hq hcl hhd
                    go_wp2
                    go_roundw
                    case rel => exact ⟨j + 1, b3, h1, by have := hI.out; go_num, hb, hbl, hq2, hbw, by omega⟩
                    case measure => have := hI.out; simp [intOf]; omega
              · have hra2 : Hid (RA al most (n + 1) T (rowL al n j)) := .inr ⟨by omega, by have := rowL_len g1 hj; omega⟩
                clear hcell2
                go_wp2
                go_roundw
                case rel => exact ⟨n + 1, T, bb, rowL al n j, g1, by go_num, rfl, hb, hbl, hq, hbw, by omega, by omega, hra2⟩
                case measure => simp [intOf]; omega
            · obtain rfl : j = (lev al n).length := by omega
              have hra2 : Hid (RA al most (n + 1) T (rowL al n (lev al n).length)) := .inl ⟨rowL_full al n, hT.symm⟩
              have h1' : ¬ ((F + (lev al n).length : Nat) : Int) < (T : Int) := by have := hlv.out; omega
              generalize (lev al n).length = j at hq hM hra2 h1' ⊢
              clear hcell2
              go_wp2
              go_roundw
              case rel => exact ⟨n + 1, T, bb, rowL al n j, g1, by go_num, rfl, hb, hbl, hq, hbw, by omega, by omega, hra2⟩
              case measure => simp [intOf]; omega
        · have hdone := hra.out.done hn hgo
          clear hra
          rcases hdone with ⟨q1, q2⟩ | ⟨q1, q2⟩
          · have hE1 : allE al most = 20 := by
              unfold allE
              rw [if_neg (by rw [htw.out]; simp), Int.toNat_natCast, if_pos q2]
            have hn : ∀ W : World, W.ownsRow w.heap.size 9 1 (.slice none 0 0) L0.length (cellsT L0) := fun W => by rw [← hL.out, show allL p al most = [] by unfold allL; rw [hE1]; rfl]; exact World.ownsRow_nil _ _ _ _
            obtain rfl : E = 20 := hE.out.symm.trans hE1
            clear hE1 hL hE hcell hq q2 hgo
            by_cases g1 : n < most
            all_goals
              go_wp2
              go_ret2
              exact ⟨_, rfl, hbw, hn _⟩
          · have hE1 : allE al most = 0 := by
              unfold allE
              rw [if_neg (by rw [htw.out]; simp), Int.toNat_natCast, if_neg (by rw [← bef_len, ← q1]; omega)]
            have hxs : ∀ t ∈ L, t.size ≤ 999999 := by
              intro t htL
              rw [q1] at htL q2
              have h1 := bef_size htL
              rw [bef_len] at q2
              rcases Nat.eq_zero_or_pos al.size with h0 | h0
              · rw [bef_none al h0 (k := 1) (by omega) (by omega)] at htL
                have := bef_size htL; omega
              · have := cnt_ge al.size h0 (most + 1); omega
            have hL1 : L0 = fitL p L := by rw [← hL.out, q1]; unfold allL; rw [if_pos hE1, Int.toNat_natCast]
            subst hL1
            obtain rfl : E = 0 := hE.out.symm.trans hE1
            clear hE1 hL hE q1 htw
            have g0 : Hid (n < most → ¬ f < L.length) := fun g1 h => hgo ⟨g1, q2, h⟩
            obtain ⟨wx, rfl⟩ : ∃ wx, wx = wr := ⟨wr, rfl⟩
            have hbs := hbw.size
            by_cases g1 : n < most
            all_goals
              clear hgo
              try have g3 := g0.out g1
              clear g0
              go_wp2
              go_loopw [16, 17] (fun ov iv wi => ∃ i : Nat, i ≤ L.length ∧ iv = .int .i64 i ∧ Below wx.heap.size wx wi ∧ wi.ownsRow wx.heap.size 9 1 ov (fitL p (L.take i)).length (cellsT (fitL p (L.take i)))) (fun _ iv _ => L.length - (intOf iv).toNat)
              case atStart => exact ⟨0, Nat.zero_le _, rfl, Below.refl _ _, World.ownsRow_nil _ _ _ _⟩
              case round =>
                obtain ⟨i, hi, rfl, hb6, ho6⟩ := hrel
                have hs6 := hb6.size
                by_cases hlt6 : i < L.length
                · have hcl := (hb6.cell (p := ⟨b, off + i, none⟩) hbl).trans (hcell i hlt6)
                  have hst := Lib.hid (fitL_step p L hlt6)
                  have hsz := hxs _ (List.getElem_mem hlt6)
                  have hfl : (fitL p (L.take i)).length ≤ 1000000 := by have := fitL_len p (L.take i); rw [List.length_take] at this; omega
                  generalize L[i] = t at hcl hst hsz
                  generalize fitL p (L.take i) = R at ho6 hst hfl
                  have hit6 := ht.below ((hbw.trans (hb6.mono hbs)).mono hB)
                  go_wp2_with fail
                  refine (matchRef_any p _ t B _ hit6 (by omega) (by omega) hsz).mono ?_
                  rintro e w7 ⟨rfl, hb7⟩
                  have hb67 := hb6.trans (hb7.mono hs6)
                  have ho7 := own_below ho6 hb7
                  have hcl7 : w7.cell? ⟨b, off + i, none⟩ = some (.string t) := (hb7.cell (p := ⟨b, off + i, none⟩) (by show b < _; omega)).trans hcl
                  have hs7 := hb67.size
                  clear hcl hb6 hb7 ho6 hit6
                  cases hmt : mt p (bl t) with
                  | false =>
                    have hR : Hid (fitL p (L.take (i + 1)) = R) := by rw [Hid, hst.out, hmt]; rfl
                    clear hst hmt
                    go_wp2
                    go_roundw
                    case rel => exact ⟨i + 1, by omega, by go_num, hb67, by rw [hR.out]; exact ho7⟩
                    case measure => simp [intOf]; omega
                  | true =>
                    have hR : Hid (fitL p (L.take (i + 1)) = R ++ [t]) := by rw [Hid, hst.out, hmt]; rfl
                    clear hst hmt
                    go_wp2_with (at_builtin; refine Hid.out ?_)
                    refine Lib.hid ?_
                    refine wpList_appendS _ rfl _ _ rfl wx.heap.size u16 rfl (ho7.alloc _) ⟨w7.heap.size, 0, none⟩ t rfl (by simp) hfl (by simp; omega) ?_
                    intro v' w8 ho8 hg8
                    have hb8 : Below wx.heap.size wx w8 := (hb67.alloc hs7 (.cells #[.string t] 9)).grown hg8 (by simp; omega) (fun g h => (ho7.lt g h).1)
                    have ho9 : w8.ownsRow wx.heap.size 9 1 v' (fitL p (L.take (i + 1))).length (cellsT (fitL p (L.take (i + 1)))) := by rw [hR.out, List.length_append, cellsT_append]; exact ho8
                    clear ho8 hg8 ho7 hb67
                    go_wp2
                    go_roundw
                    case rel => exact ⟨i + 1, by omega, by go_num, hb8, ho9⟩
                    case measure => simp [intOf]; omega
                · obtain rfl : i = L.length := by omega
                  rw [List.take_length] at ho6
                  have hbE := hbw.trans (hb6.mono hbs)
                  have hoE := own_less ho6 hbs
                  clear ho6 hxs hcell hq
                  go_wp2
                  go_ret2
                  exact ⟨_, rfl, hbE, hoE⟩

set_option maxHeartbeats 400000 in
set_option maxRecDepth 100000 in
theorem allRef_any (p : List It) (v : Value) (al : ByteArray) (most : Int) (B : Nat) (w : World) (ht : Its w B v p) (hB : B ≤ w.heap.size) (hl : p.length ≤ 999999) (ha : al.size ≤ 300) (hm : most ≤ 9223372036854775807) :
    Calls Try.prog 30 #[v, .string al, .int .i64 most] w fun e w' => ∃ v', e = .returned (.tuple #[v', .int .i64 (allE al most)]) ∧ Below w.heap.size w w' ∧
      w'.ownsRow w.heap.size 9 1 v' (allL p al most).length (cellsT (allL p al most)) := by
  by_cases h0 : most < 0
  · have hE : allE al most = 1 := if_pos (.inl h0)
    have hn : ∀ W : World, W.ownsRow w.heap.size 9 1 (.slice none 0 0) (allL p al most).length (cellsT (allL p al most)) := fun W => by rw [show allL p al most = [] by unfold allL; rw [hE]; rfl]; exact World.ownsRow_nil _ _ _ _
    rw [hE]
    go_enter Try.func30, Try.ntmps30
    go_wp2
    go_ret2
    exact ⟨_, rfl, Below.refl _ _, hn _⟩
  · obtain ⟨m, rfl⟩ : ∃ m : Nat, most = m := ⟨most.toNat, by omega⟩
    exact allRef_main p v al m B w ht hB hl ha hm
end Go.Proofs.Ytnioneknlgbhoaa
