/-
  Names and Environ of a state. Conditions: what is told stands; fewer than a hundred thousand names.
-/
import Derived.Test.YtigmdfdcflkggaaGreatStKeys
import Derived.Laws.Concat
import Derived.Deep.AppendLies
import Derived.Deep.Cut
import Derived.Deep.DeepCutAuto
namespace Go.Proofs.YtigmdfdcflkggaaGreat
open Go Go.RowKit Go.ChangeMaps

/-- All names, rising. -/
def KeysOf {α : Type} (f : ByteArray → Option α) (ns : List ByteArray) : Prop := ∃ es : Es α, es.Pairwise (fun p q => p.1 ≠ q.1) ∧ (∀ k, look es k = f k) ∧ ns = names es
theorem KeysOf.mem {α : Type} {f : ByteArray → Option α} {ns : List ByteArray} (h : KeysOf f ns) {k : ByteArray} (hk : k ∈ ns) : ∃ x, f k = some x := by
  obtain ⟨es, h1, h2, rfl⟩ := h
  obtain ⟨p, hp, rfl⟩ := (names_mem es k).1 hk
  exact ⟨p.2, (h2 p.1).symm.trans (look_of_mem h1 (show (p.1, p.2) ∈ es from hp))⟩
section
variable {w w' : World} {B sb : Nat} {a : Ad} {pot : Nat} {t : Tg} {n : Int}
theorem enc_apart {α : Type} {enc : α → Value} {es : Es α} (h : (encE enc es).Pairwise (fun p q => p.1 ≠ q.1)) : es.Pairwise (fun p q => p.1 ≠ q.1) := by
  unfold encE at h
  rw [List.pairwise_map] at h
  exact h
set_option maxRecDepth 100000 in
theorem Names_any (h : StAt w B sb a pot t n) (hp : pot ≤ 100000) : ∃ ns, KeysOf t.cur.v ns ∧ ns.length ≤ pot ∧
    Calls Tryz.prog 68 #[ptrV sb] w fun e w' => ∃ v, e = .returned v ∧ w'.ownsRow w.heap.size 9 1 v ns.length (ns.map .string) ∧ Below w.heap.size w w' := by
  have hi := sisNil_no h.blk
  have c0 := h.blk.cell (i := 0) rfl
  have hlt := h.blk.lt
  have hgood := h.th.good
  obtain ⟨ms, fs, ev, ef, ea, et, h1, h2, h5, h6, h7, h8, h9⟩ := h.th
  have hap := enc_apart h2.mv.map.apart
  have hkb : ∀ p ∈ ev, p.1.size ≤ 200 := fun p hp => (hgood.kb.v p.1 p.2 (by rw [← h2.lv]; exact look_of_mem hap (show (p.1, p.2) ∈ ev from hp))).1
  have hks := Keys_V h2.mv hkb (by omega)
  rw [names_enc, ← names_len ev] at hks
  refine ⟨names ev, ⟨ev, hap, h2.lv, rfl⟩, by rw [names_len]; omega, ?_⟩
  generalize names ev = ns at hks ⊢
  unfold ptrV at hi c0 hks ⊢
  clear h h1 h2 h5 h6 h7 h8 h9 hap hkb hgood
  go_enter Tryz.func68, Tryz.ntmps68
  go_wp2_with fail
  refine hi.mono ?_
  rintro e w' ⟨rfl, hw⟩
  obtain rfl := hw.symm
  clear hi hw
  go_wp2_with fail
  refine hks.mono ?_
  rintro e w2 ⟨v, rfl, hr, hb⟩
  have hfin := Lib.hid (And.intro hr hb)
  clear hks hr hb
  go_wp2
  go_ret
  exact ⟨v, rfl, hfin.out⟩
def envT (t : Tg) (k : ByteArray) : ByteArray := k ++ ⟨#[61]⟩ ++ (valV t k).v
def envL (t : Tg) (ns : List ByteArray) : List ByteArray := (ns.filter fun k => (valV t k).e && (valV t k).s).map (envT t)
theorem envL_snoc (t : Tg) (ns : List ByteArray) (k : ByteArray) : envL t (ns ++ [k]) = envL t ns ++ (if ((valV t k).e && (valV t k).s) = true then [envT t k] else []) := by
  unfold envL
  rw [List.filter_append, List.map_append]
  congr 1
  rw [List.filter_cons]
  split <;> rfl
theorem envL_len (t : Tg) (ns : List ByteArray) : (envL t ns).length ≤ ns.length := by
  unfold envL
  rw [List.length_map]
  exact List.length_filter_le _ _
theorem own_at {w : World} {base : Nat} {e : TypeId} {c m : Nat} {A : Option Addr} {xs : List Value} (h : w.ownsRow base e 1 (.slice A m c) m xs) (hn : 0 < m) : ∃ g, A = some ⟨g, 0, none⟩ ∧ base ≤ g ∧ g < w.heap.size ∧ ∀ (j : Nat) (u : Value), xs[j]? = some u → w.cell? ⟨g, j, none⟩ = some u := by
  rcases h.2 with ⟨h1, h2⟩ | ⟨g, cap, cur, h1, hb, hg, h2⟩
  · omega
  · cases h1
    refine ⟨g, rfl, hb, (Array.getElem?_eq_some_iff.1 hg).1, fun j u hu => ?_⟩
    have := h.cells (g := g) rfl j u hu
    rwa [add_plain0, Nat.zero_add] at this
theorem own_form {w : World} {base : Nat} {e : TypeId} {size m : Nat} {v : Value} {xs : List Value} (h : w.ownsRow base e size v m xs) : ∃ A c, v = .slice A m c ∧ m ≤ c ∧ c ≤ maxLen := by
  rcases h.2 with ⟨rfl, rfl⟩ | ⟨g, cap, cur, rfl, hb, hg, h1, h2, _⟩
  · exact ⟨none, 0, rfl, Nat.le_refl _, Nat.zero_le _⟩
  · exact ⟨_, cap, rfl, h1, h2⟩
theorem ownBelow {base m : Nat} {e : TypeId} {size : Nat} {v : Value} {xs : List Value} (h : w.ownsRow base e size v m xs) (k : Below w.heap.size w w') : w'.ownsRow base e size v m xs :=
  h.kept (row := none) ⟨k.os, k.tape, k.output, k.size, fun b hb _ => k.block b hb⟩ (by cases v.ownBlock <;> simp)
set_option maxRecDepth 100000 in
set_option maxHeartbeats 4000000 in
theorem Environ_any (h : StAt w B sb a pot t n) (hp : pot ≤ 100000) : ∃ ns, KeysOf t.cur.v ns ∧
    Calls Tryz.prog 31 #[ptrV sb] w fun e w' => ∃ v, e = .returned v ∧ w'.ownsRow w.heap.size 9 1 v (envL t ns).length ((envL t ns).map .string) ∧ Below w.heap.size w w' := by
  obtain ⟨i0, hi, hz0, hz1, hz2⟩ := info_parts infoStr
  obtain ⟨ns, hkeys, hns, hnm⟩ := Names_any h hp
  refine ⟨ns, hkeys, ?_⟩
  have hvar := fun (W : World) (hb : Below w.heap.size w W) (k : ByteArray) => Var_any (h.below hb) k
  have hvb := h.vb
  have hkb : ∀ j (hj : j < ns.length), ns[j].size ≤ 200 := fun j hj => by
    obtain ⟨x, hx⟩ := hkeys.mem (List.getElem_mem hj)
    exact (h.th.good.kb.v _ x hx).1
  unfold ptrV at hnm hvar ⊢
  replace hvar := Lib.hid hvar
  replace hvb := Lib.hid hvb
  replace hkb := Lib.hid hkb
  replace hi := Lib.hid hi
  clear h hkeys
  go_enter Tryz.func31, Tryz.ntmps31
  go_wp2_with fail
  refine hnm.mono ?_
  rintro e w2 ⟨nv, rfl, hnr, hb2⟩
  obtain ⟨A, c, rfl, hc, hcm⟩ := own_form hnr
  obtain ⟨KN, hKN⟩ : ∃ K, ns.length = K := ⟨_, rfl⟩
  obtain ⟨z, hz⟩ : ∃ z, w2.heap.size = z := ⟨_, rfl⟩
  rw [hKN] at hnr hc hns ⊢
  have hwz := hb2.size
  rw [hz] at hwz
  have hrow0 : Hid (w2.ownsRow z 9 1 (.slice none 0 0) (envL t (ns.take 0)).length ((envL t (ns.take 0)).map .string)) := Lib.hid (World.ownsRow_nil _ _ _ _)
  have hbz : Hid (Below z w2 w2) := Lib.hid (Below.refl _ _)
  unfold maxLen at hcm
  replace hb2 := Lib.hid hb2
  replace hKN := Lib.hid hKN
  replace hz := Lib.hid hz
  replace hnr := Lib.hid hnr
  clear hnm
  go_wp2
  go_loopw [10, 3] (fun iv ov wr => ∃ j : Nat, j ≤ KN ∧ iv = .int .i64 (j : Int) ∧ Hid (wr.ownsRow z 9 1 ov (envL t (ns.take j)).length ((envL t (ns.take j)).map .string)) ∧ Hid (Below z w2 wr)) (fun iv _ _ => KN - (intOf iv).toNat)
  case atStart => exact ⟨0, Nat.zero_le _, rfl, hrow0, hbz⟩
  case round =>
    clear hrow0 hbz
    obtain ⟨j, hj, rfl, hrow, hbz⟩ := hrel
    obtain ⟨A2, c2, rfl, hc2, hcm2⟩ := own_form hrow.out
    by_cases hlt : j < KN
    · have hjn : j < ns.length := by rw [hKN.out]; exact hlt
      obtain ⟨g, rfl, hg1, hg2, hgc⟩ := own_at hnr.out (by omega)
      have hgz : g < z := by rw [← hz.out]; exact hg2
      have ck := hgc j (.string ns[j]) (by rw [List.getElem?_map, List.getElem?_eq_getElem hjn]; rfl)
      have ck2 : wr.cell? ⟨g, j, none⟩ = some (.string ns[j]) := (World.cell?_of_block (a := ⟨g, j, none⟩) (hbz.out.block g hgz)).trans ck
      have hgl : g < wr.heap.size := by have := hbz.out.size; rw [hz.out] at this; omega
      have htk : ns.take (j + 1) = ns.take j ++ [ns[j]] := List.take_succ_eq_append_getElem hjn
      have hks := hkb.out j hjn
      have hvs := hvb.out ns[j]
      have hbw : Below w.heap.size w wr := hb2.out.trans (hbz.out.mono (by omega))
      have hv := hvar.out wr hbw ns[j]
      have hsn := envL_snoc t (ns.take j) ns[j]
      have hlen := envL_len t (ns.take j)
      rw [← htk] at hsn
      unfold envT at hsn
      have hj1 : (0 : Int) ≤ (j : Int) := by omega
      have hj2 : (j : Int) < (KN : Int) := by omega
      rw [List.length_take] at hlen
      generalize ns[j] = k at ck2 hks hvs hv hsn
      obtain ⟨V, hV⟩ : ∃ V, valV t k = V := ⟨_, rfl⟩
      rw [hV] at hvs hv hsn
      obtain ⟨x0, x1, x2, x3⟩ := V
      unfold encV at hv
      dsimp only at hvs hv hsn
      obtain ⟨L2, hL2⟩ : ∃ L2, envL t (ns.take (j + 1)) = L2 := ⟨_, rfl⟩
      rw [hL2] at hsn
      replace hL2 := Lib.hid hL2
      generalize envL t (ns.take j) = L1 at hrow hc2 hsn hlen ⊢
      replace hV := Lib.hid hV
      replace hsn := Lib.hid hsn
      clear ck hgc hg1 hg2 htk hbw
      cases x2
      · skip
        go_wp2_with fail
        refine hv.mono ?_
        rintro e w3 ⟨rfl, hb3⟩
        have hrow3 := ownBelow hrow.out hb3
        have hbz3 : Below z w2 w3 := hbz.out.trans (hb3.mono (by have := hbz.out.size; rw [hz.out] at this; omega))
        go_upto_region 6 with fail
        have hrowB := ownBelow hrow3 (Below.of_alloc w3 (.cells #[.string x0, .bool x1, .bool false, .bool x3] 59))
        have hbzB := hbz3.alloc (by have := hbz3.size; rw [hz.out] at this; omega) (.cells #[.string x0, .bool x1, .bool false, .bool x3] 59)
        have bB : Blk (w3.alloc (.cells #[.string x0, .bool x1, .bool false, .bool x3] 59)) w3.heap.size [.string x0, .bool x1, .bool false, .bool x3] 59 := Blk.new w3 _ _
        generalize (w3.alloc (.cells #[.string x0, .bool x1, .bool false, .bool x3] 59)) = wB at hrowB hbzB bB ⊢
        generalize w3.heap.size = y at bB ⊢
        have y0 := bB.cell (i := 0) rfl
        have y1 := bB.cell (i := 1) rfl
        have y2 := bB.cell (i := 2) rfl
        have yl := bB.lt
        clear bB hb3 hrow3 hbz3 hv hrow hbz ck2
        have hrowE : Hid (wB.ownsRow z 9 1 (.slice A2 L1.length c2) L2.length (L2.map .string)) := Lib.hid (by rw [hsn.out]; simpa using hrowB)
        replace hbzB := Lib.hid hbzB
        clear hrowB
        go_wp2
        go_roundw
        case rel => exact ⟨j + 1, by omega, by go_num, (by rw [hL2.out]; exact hrowE), hbzB⟩
        case measure => simp [intOf]; omega
      · cases x1
        · skip
          go_wp2_with fail
          refine hv.mono ?_
          rintro e w3 ⟨rfl, hb3⟩
          have hrow3 := ownBelow hrow.out hb3
          have hbz3 : Below z w2 w3 := hbz.out.trans (hb3.mono (by have := hbz.out.size; rw [hz.out] at this; omega))
          go_upto_region 6 with fail
          have hrowB := ownBelow hrow3 (Below.of_alloc w3 (.cells #[.string x0, .bool false, .bool true, .bool x3] 59))
          have hbzB := hbz3.alloc (by have := hbz3.size; rw [hz.out] at this; omega) (.cells #[.string x0, .bool false, .bool true, .bool x3] 59)
          have bB : Blk (w3.alloc (.cells #[.string x0, .bool false, .bool true, .bool x3] 59)) w3.heap.size [.string x0, .bool false, .bool true, .bool x3] 59 := Blk.new w3 _ _
          generalize (w3.alloc (.cells #[.string x0, .bool false, .bool true, .bool x3] 59)) = wB at hrowB hbzB bB ⊢
          generalize w3.heap.size = y at bB ⊢
          have y0 := bB.cell (i := 0) rfl
          have y1 := bB.cell (i := 1) rfl
          have y2 := bB.cell (i := 2) rfl
          have yl := bB.lt
          clear bB hb3 hrow3 hbz3 hv hrow hbz ck2
          have hrowE : Hid (wB.ownsRow z 9 1 (.slice A2 L1.length c2) L2.length (L2.map .string)) := Lib.hid (by rw [hsn.out]; simpa using hrowB)
          replace hbzB := Lib.hid hbzB
          clear hrowB
          go_wp2
          go_roundw
          case rel => exact ⟨j + 1, by omega, by go_num, (by rw [hL2.out]; exact hrowE), hbzB⟩
          case measure => simp [intOf]; omega
        · skip
          go_wp2_with fail
          refine hv.mono ?_
          rintro e w3 ⟨rfl, hb3⟩
          have hrow3 := ownBelow hrow.out hb3
          have hbz3 : Below z w2 w3 := hbz.out.trans (hb3.mono (by have := hbz.out.size; rw [hz.out] at this; omega))
          go_upto_region 6 with fail
          have hrowB := ownBelow hrow3 (Below.of_alloc w3 (.cells #[.string x0, .bool true, .bool true, .bool x3] 59))
          have hbzB := hbz3.alloc (by have := hbz3.size; rw [hz.out] at this; omega) (.cells #[.string x0, .bool true, .bool true, .bool x3] 59)
          have bB : Blk (w3.alloc (.cells #[.string x0, .bool true, .bool true, .bool x3] 59)) w3.heap.size [.string x0, .bool true, .bool true, .bool x3] 59 := Blk.new w3 _ _
          generalize (w3.alloc (.cells #[.string x0, .bool true, .bool true, .bool x3] 59)) = wB at hrowB hbzB bB ⊢
          generalize w3.heap.size = y at bB ⊢
          have y0 := bB.cell (i := 0) rfl
          have y1 := bB.cell (i := 1) rfl
          have y2 := bB.cell (i := 2) rfl
          have yl := bB.lt
          clear bB hb3 hrow3 hbz3 hv hrow hbz ck2
          have hadd1 : ∀ W : World, (Op.stringOp .add k ⟨#[61]⟩).run Tryz.prog W = .ok (.string (k ++ ⟨#[61]⟩)) W := fun W => run_string_add W _ _ (by omega) (by decide)
          have hsz2 : ((k ++ ⟨#[61]⟩ : ByteArray).size : Int) ≤ 8388608 := by rw [ByteArray.size_append]; have : (⟨#[61]⟩ : ByteArray).size = 1 := rfl; omega
          have hadd2 : ∀ W : World, (Op.stringOp .add (k ++ ⟨#[61]⟩) x0).run Tryz.prog W = .ok (.string (k ++ ⟨#[61]⟩ ++ x0)) W := fun W => run_string_add W _ _ hsz2 (by omega)
          have hBn : ∀ i u, ([.string (k ++ ⟨#[61]⟩ ++ x0)] : List Value)[i]? = some u → (wB.alloc (.cells #[.string (k ++ ⟨#[61]⟩ ++ x0)] 9)).cell? ((⟨wB.heap.size, 0, none⟩ : Addr).add i) = some u := by
            intro i u hu
            rw [add_plain0, Nat.zero_add]
            exact (Blk.new wB [.string (k ++ ⟨#[61]⟩ ++ x0)] 9).cell hu
          obtain ⟨gg, cap, w5, hrun, hrow5, hgr5, hat, hgl5⟩ := run_append_lies (P := Tryz.prog) (wB.alloc (.cells #[.string (k ++ ⟨#[61]⟩ ++ x0)] 9)) 35 35 z 9 i0 _ 1 16 Tryz.underlying35 hi.out hz0 hz1 hz2 rfl (by decide)
            (.slice A2 L1.length c2) L1.length _ (hrowB.alloc _) ⟨wB.heap.size, 0, none⟩ 1 1 [.string (k ++ ⟨#[61]⟩ ++ x0)] rfl hBn (by simp [Value.oneCell']) (by decide) (by unfold maxLen; omega) (by omega) (by have := hbzB.size; rw [hz.out] at this; simp; omega) (wB.heap.size + 1) (by simp)
          have hlt5 := hrowB.lt
          have hbz5 : Hid (Below z w2 w5) := Lib.hid ((hbzB.alloc (by have := hbzB.size; rw [hz.out] at this; omega) _).grown hgr5 (by have := hbzB.size; rw [hz.out] at this; simp; omega) (fun k hk => (hlt5 k hk).1))
          have hrowE : Hid (w5.ownsRow z 9 1 (.slice (some ⟨gg, 0, none⟩) (L1.length + 1) cap) L2.length (L2.map .string)) := Lib.hid (by rw [hsn.out]; simpa using hrow5)
          replace hrun := Lib.hid hrun
          clear hrowB hrow5 hgr5 hat hgl5 hlt5 hBn hbzB hsz2
          go_wp2_with (at_builtin; refine wpList_append_of rfl _ _ 35 35 rfl _ _ _ w5 rfl rfl hrun.out ?_)
          go_wp2
          go_roundw
          case rel => exact ⟨j + 1, by omega, by go_num, (by rw [hL2.out]; exact hrowE), hbz5⟩
          case measure => simp [intOf]; omega
    · obtain rfl : j = KN := by omega
      have hj2 : ¬ (j : Int) < (j : Int) := by omega
      have hfin : Hid (wr.ownsRow w.heap.size 9 1 (.slice A2 (envL t (ns.take j)).length c2) (envL t ns).length ((envL t ns).map .string) ∧ Below w.heap.size w wr) := Lib.hid ⟨by
        have := hrow.out
        rw [← hKN.out, List.take_length] at this ⊢
        exact World.ownsRow.mono this hwz, hb2.out.trans (hbz.out.mono hwz)⟩
      clear hrow hbz
      go_wp2
      go_ret
      exact ⟨_, rfl, hfin.out⟩
end
end Go.Proofs.YtigmdfdcflkggaaGreat
