/-
  Aliases and SetOption of a state. Conditions: what is told stands; fewer than a hundred thousand names.
-/
import Derived.Test.YtigmdfdcflkggaaGreatStShift
import Derived.Test.YtigmdfdcflkggaaGreatStEnv
import Derived.Laws.IdiomStrings
import Derived.Lib.BufferRead
import Derived.Lib.SlBytesConst
namespace Go.Proofs.YtigmdfdcflkggaaGreat
open Go Go.RowKit Go.ChangeMaps

section
variable {w w' : World} {B sb : Nat} {a : Ad} {pot : Nat} {t : Tg} {n : Int}
set_option maxRecDepth 100000 in
theorem Aliases_any (h : StAt w B sb a pot t n) (hp : pot ≤ 100000) : ∃ ns, KeysOf t.cur.a ns ∧ ns.length ≤ pot ∧
    Calls Tryz.prog 69 #[ptrV sb] w fun e w' => ∃ v, e = .returned v ∧ w'.ownsRow w.heap.size 9 1 v ns.length (ns.map .string) ∧ Below w.heap.size w w' := by
  have hi := sisNil_no h.blk
  have c0 := h.blk.cell (i := 2) rfl
  have hlt := h.blk.lt
  have hgood := h.th.good
  obtain ⟨ms, fs, ev, ef, ea, et, h1, h2, h5, h6, h7, h8, h9⟩ := h.th
  have hap := enc_apart h2.ma.map.apart
  have hkb : ∀ p ∈ ea, p.1.size ≤ 200 := fun p hp => (hgood.kb.a p.1 p.2 (by rw [← h2.la]; exact look_of_mem hap (show (p.1, p.2) ∈ ea from hp))).1
  have hks := Keys_W h2.ma hkb (by omega)
  rw [names_enc, ← names_len ea] at hks
  refine ⟨names ea, ⟨ea, hap, h2.la, rfl⟩, by rw [names_len]; omega, ?_⟩
  generalize names ea = ns at hks ⊢
  unfold ptrV at hi c0 hks ⊢
  clear h h1 h2 h5 h6 h7 h8 h9 hap hkb hgood
  go_enter Tryz.func69, Tryz.ntmps69
  go_wp2_with fail
  refine hi.mono ?_
  rintro e w' ⟨rfl, hw⟩
  obtain rfl := hw.symm
  clear hi hw
  go_wp2_with fail
  refine hks.mono ?_
  rintro e w2 ⟨v, rfl, hr, hb⟩
  have hfin := Lib.hid (And.intro hr hb)
  clear hks hr hb
  go_wp2
  go_ret
  exact ⟨v, rfl, hfin.out⟩
theorem ownKeepB {base m : Nat} {e : TypeId} {v : Value} {xs : List Value} (h : w.ownsRow base e 1 v m xs) (k : KeepB w w') (he : ¬ PkT e) : w'.ownsRow base e 1 v m xs := by
  refine ⟨h.1, h.2.elim .inl (fun ⟨g, cap, cur, hv, hb, hg, h1, h2, h3, h4⟩ => .inr ⟨g, cap, cur, hv, hb, ?_, h1, h2, h3, h4⟩)⟩
  have b : Blk w g cur.toList e := by unfold Blk; simpa using hg
  have := k _ _ _ b he
  unfold Blk at this
  simpa using this
theorem infoByte : (Tryz.prog.info? 5).map (fun i => (i.zero, i.size, i.bytes)) = some (some (.int .u8 0), 1, 1) := by kernel_rfl
/-- string(b) of a row of bytes that the call has made; nil too. -/
theorem run_string_own {base n : Nat} {v : Value} {l : List UInt8} (h : w.ownsRow base 5 1 v n (Lib.byteCells l)) :
    (convert 130 9 v).run Tryz.prog w = .ok (.string ⟨l.toArray⟩) w := by
  have hl := h.1
  rw [Lib.byteCells_length, Nat.mul_one] at hl
  rcases h.2 with ⟨rfl, h0⟩ | ⟨g, cap, cur, rfl, r⟩
  · have : l = [] := List.eq_nil_of_length_eq_zero (by omega)
    subst this
    exact Lib.run_convert_nil_bytes w _ _ _ _ Tryz.underlying130 Tryz.underlying5 Tryz.underlying9
  · subst hl
    refine run_convert_bytes_back w _ _ 5 _ _ l Tryz.underlying130 Tryz.underlying5 Tryz.underlying9 (fun j hj => ?_)
    refine h.cells (g := g) rfl j _ ?_
    simp [Lib.byteCells, hj]
def optA : List UInt8 := [67, 97, 101, 102, 117, 120]
/-- Whether an option is on behind SetOption. -/
def optK (t : Tg) (o : UInt8) (on : Bool) (x : UInt8) : Bool := if x = o then on else optB t x
def optL (t : Tg) (o : UInt8) (on : Bool) (l : List UInt8) : List UInt8 := l.filter (optK t o on)
theorem optL_snoc (t : Tg) (o : UInt8) (on : Bool) (l : List UInt8) (x : UInt8) : optL t o on (l ++ [x]) = optL t o on l ++ (if optK t o on x = true then [x] else []) := by
  unfold optL
  rw [List.filter_append]
  congr 1
  rw [List.filter_cons]
  split <;> rfl
theorem optL_len (t : Tg) (o : UInt8) (on : Bool) (l : List UInt8) : (optL t o on l).length ≤ l.length := List.length_filter_le _ _
def Tg.setO (t : Tg) (o : UInt8) (on : Bool) : Int × Tg := if Lib.indexByte optA o < 0 then (1, t) else t.seto ⟨(optL t o on optA).toArray⟩
set_option maxRecDepth 100000 in
theorem SetOption_no (h : StAt w B sb a pot t n) (o : UInt8) (on : Bool) (hno : Lib.indexByte optA o < 0) :
    Calls Tryz.prog 30 #[ptrV sb, .int .u8 (o.toNat : Int), .bool on] w fun e w' => e = .returned (.int .i64 1) ∧ w' = w := by
  have hi := sisNil_no h.blk
  have hix := indexByte ⟨optA.toArray⟩ (o.toNat : Int) w
  rw [show ((o.toNat : Int)).toNat.toUInt8 = o by simp] at hix
  rw [show (⟨optA.toArray⟩ : ByteArray).data.toList = optA from rfl] at hix
  generalize Lib.indexByte optA o = ix at hix hno
  unfold optA at hix
  unfold ptrV at hi ⊢
  clear h
  go_enter Tryz.func30, Tryz.ntmps30
  go_wp2_with fail
  refine hi.mono ?_
  rintro e w' ⟨rfl, hw⟩
  obtain rfl := hw.symm
  clear hi hw
  go_wp2_with fail
  refine hix.mono ?_
  rintro e w' ⟨rfl, hw⟩
  obtain rfl := hw.symm
  clear hix hw
  go_wp2
  go_ret
  exact ⟨rfl, rfl⟩
set_option maxRecDepth 100000 in
set_option maxHeartbeats 4000000 in
theorem SetOption_ok (h : StAt w B sb a pot t n) (o : UInt8) (on : Bool) (hno : ¬ Lib.indexByte optA o < 0) :
    Calls Tryz.prog 30 #[ptrV sb, .int .u8 (o.toNat : Int), .bool on] w fun e w' => e = .returned (.int .i64 (t.seto ⟨(optL t o on optA).toArray⟩).1) ∧ StAt w' B sb a (pot + 2) (t.seto ⟨(optL t o on optA).toArray⟩).2 n ∧ FrT B a w w' := by
  obtain ⟨i0, hif, hz0, hz1, hz2⟩ := info_parts infoByte
  have hi := sisNil_no h.blk
  have hix := indexByte ⟨optA.toArray⟩ (o.toNat : Int) w
  rw [show ((o.toNat : Int)).toNat.toUInt8 = o by simp] at hix
  rw [show (⟨optA.toArray⟩ : ByteArray).data.toList = optA from rfl] at hix
  generalize Lib.indexByte optA o = ix at hix hno
  obtain ⟨OC, hOC⟩ : ∃ OC : ByteArray, OC = ⟨optA.toArray⟩ := ⟨_, rfl⟩
  have hopt := fun (W : World) (hb : Below w.heap.size w W) (c : UInt8) => Option_any (h.below hb) c
  have hst := fun (W : World) (hb : Below w.heap.size w W) => h.below hb
  have hset := fun (W : World) (hb : Below w.heap.size w W) (x : ByteArray) => th_seto (h.below hb).th x
  unfold optA at hix
  unfold ptrV at hi hopt hset ⊢
  replace hopt := Lib.hid hopt
  replace hst := Lib.hid hst
  replace hset := Lib.hid hset
  replace hif := Lib.hid hif
  clear h hOC
  have kc := fun (w : World) (C : Array Value) (n c : Nat) => Lib.run_convert_bytes_const (P := Tryz.prog) w 130 5 C n c Tryz.underlying130 Tryz.underlying5
  go_enter Tryz.func30, Tryz.ntmps30
  go_wp2_with fail
  refine hi.mono ?_
  rintro e w' ⟨rfl, hw⟩
  obtain rfl := hw.symm
  clear hi hw
  go_wp2_with fail
  refine hix.mono ?_
  rintro e w' ⟨rfl, hw⟩
  obtain rfl := hw.symm
  clear hix hw
  have bC : ∀ j (hj : j < 6), (w.alloc (.cells #[.int .u8 67, .int .u8 97, .int .u8 101, .int .u8 102, .int .u8 117, .int .u8 120] 5 (6, 7))).cell? ⟨w.heap.size, j, none⟩ = some (.int .u8 ((optA[j]'hj).toNat : Int)) := by
    intro j hj
    have e : (#[.int .u8 67, .int .u8 97, .int .u8 101, .int .u8 102, .int .u8 117, .int .u8 120] : Array Value)[j]? = some (.int .u8 ((optA[j]'hj).toNat : Int)) := by
      match j, hj with
      | 0, _ => rfl
      | 1, _ => rfl
      | 2, _ => rfl
      | 3, _ => rfl
      | 4, _ => rfl
      | 5, _ => rfl
    have hr : (w.alloc (.cells #[.int .u8 67, .int .u8 97, .int .u8 101, .int .u8 102, .int .u8 117, .int .u8 120] 5 (6, 7))).heap[w.heap.size]? = some (.cells #[.int .u8 67, .int .u8 97, .int .u8 101, .int .u8 102, .int .u8 117, .int .u8 120] 5 (6, 7)) := heap_alloc_new w _
    generalize (w.alloc (.cells #[.int .u8 67, .int .u8 97, .int .u8 101, .int .u8 102, .int .u8 117, .int .u8 120] 5 (6, 7))) = W at hr ⊢
    unfold World.cell?
    rw [hr]
    exact e
  have hbC : Below w.heap.size w (w.alloc (.cells #[.int .u8 67, .int .u8 97, .int .u8 101, .int .u8 102, .int .u8 117, .int .u8 120] 5 (6, 7))) := Below.of_alloc w _
  have hgs : w.heap.size < (w.alloc (.cells #[.int .u8 67, .int .u8 97, .int .u8 101, .int .u8 102, .int .u8 117, .int .u8 120] 5 (6, 7))).heap.size := by simp
  replace bC := Lib.hid bC
  replace hbC := Lib.hid hbC
  replace hgs := Lib.hid hgs
  go_upto_region 7 with fail
  obtain ⟨g, hg⟩ : ∃ g, w.heap.size = g := ⟨_, rfl⟩
  rw [hg] at bC hbC hgs ⊢
  generalize (w.alloc (.cells #[.int .u8 67, .int .u8 97, .int .u8 101, .int .u8 102, .int .u8 117, .int .u8 120] 5 (6, 7))) = w2 at bC hbC hgs ⊢
  replace hg := Lib.hid hg
  obtain ⟨z, hz⟩ : ∃ z, w2.heap.size = z := ⟨_, rfl⟩
  have hgz : g < z := by rw [← hz]; exact hgs.out
  replace hz := Lib.hid hz
  have hrow0 : Hid (w2.ownsRow z 5 1 (.slice none 0 0) (optL t o on (optA.take 0)).length (Lib.byteCells (optL t o on (optA.take 0)))) := Lib.hid (World.ownsRow_nil _ _ _ _)
  have hbz : Hid (Below z w2 w2) := Lib.hid (Below.refl _ _)
  clear kc
  go_loopw [20, 7] (fun iv ov wr => ∃ j : Nat, j ≤ 6 ∧ iv = .int .i64 (j : Int) ∧ Hid (wr.ownsRow z 5 1 ov (optL t o on (optA.take j)).length (Lib.byteCells (optL t o on (optA.take j)))) ∧ Hid (Below z w2 wr)) (fun iv _ _ => 6 - (intOf iv).toNat)
  case atStart => exact ⟨0, Nat.zero_le _, rfl, hrow0, hbz⟩
  case round =>
    clear hrow0 hbz
    obtain ⟨j, hj, rfl, hrow, hbz⟩ := hrel
    obtain ⟨A2, c2, rfl, hc2, hcm2⟩ := own_form hrow.out
    by_cases hlt : j < 6
    · have hjn : j < optA.length := hlt
      have htk : optA.take (j + 1) = optA.take j ++ [optA[j]] := List.take_succ_eq_append_getElem hjn
      have ck : wr.cell? ⟨g, j, none⟩ = some (.int .u8 ((optA[j]).toNat : Int)) := (World.cell?_of_block (a := ⟨g, j, none⟩) (hbz.out.block g hgz)).trans (bC.out j hlt)
      have hgl : g < wr.heap.size := by have := hbz.out.size; rw [hz.out] at this; omega
      have hsn := optL_snoc t o on (optA.take j) optA[j]
      rw [← htk] at hsn
      have hlen := optL_len t o on (optA.take j)
      rw [List.length_take] at hlen
      have hj1 : (0 : Int) ≤ (j : Int) := by omega
      have hj2 : (j : Int) < 6 := by omega
      generalize optA[j] = x at ck hsn
      obtain ⟨L2, hL2⟩ : ∃ L2, optL t o on (optA.take (j + 1)) = L2 := ⟨_, rfl⟩
      rw [hL2] at hsn
      replace hL2 := Lib.hid hL2
      generalize optL t o on (optA.take j) = L1 at hrow hc2 hsn hlen ⊢
      replace hsn := Lib.hid hsn
      have hv := hopt.out wr (hbC.out.trans (hbz.out.mono (by omega))|>.mono (by rw [hg.out]; exact Nat.le_refl _)) x
      clear htk
      by_cases hxo : x = o
      · subst hxo
        clear hv
        have hrowB := hrow.out
        have hbzB := hbz.out
        clear hrow hbz
        cases on
        · have hkk : (if optK t x false x = true then [x] else []) = ([] : List UInt8) := by unfold optK; simp
          have hrowE : Hid (wr.ownsRow z 5 1 (.slice A2 L1.length c2) L2.length (Lib.byteCells L2)) := Lib.hid (by rw [hsn.out, hkk]; simpa using hrowB)
          replace hbzB := Lib.hid hbzB
          clear hrowB
          go_wp2
          go_roundw
          case rel => exact ⟨j + 1, by omega, by go_num, (by rw [hL2.out]; exact hrowE), hbzB⟩
          case measure => simp [intOf]; omega
        · have hkk : (if optK t x true x = true then [x] else []) = [x] := by unfold optK; simp
          have hBn : ∀ i u, ([.int .u8 (x.toNat : Int)] : List Value)[i]? = some u → (wr.alloc (.cells #[.int .u8 (x.toNat : Int)] 5)).cell? ((⟨wr.heap.size, 0, none⟩ : Addr).add i) = some u := by
            intro i u hu
            rw [add_plain0, Nat.zero_add]
            exact (Blk.new wr [.int .u8 (x.toNat : Int)] 5).cell hu
          obtain ⟨gg, cap, w5, hrun, hrow5, hgr5, hat, hgl5⟩ := run_append_lies (P := Tryz.prog) (wr.alloc (.cells #[.int .u8 (x.toNat : Int)] 5)) 130 130 z 5 i0 _ 1 1 Tryz.underlying130 hif.out hz0 hz1 hz2 rfl (by decide)
            (.slice A2 L1.length c2) L1.length _ (hrowB.alloc _) ⟨wr.heap.size, 0, none⟩ 1 1 [.int .u8 (x.toNat : Int)] rfl hBn (by simp [Value.oneCell']) (by decide) (by unfold maxLen; omega) (by omega) (by have := hbzB.size; rw [hz.out] at this; simp; omega) (wr.heap.size + 1) (by simp)
          have hlt5 := hrowB.lt
          have hbz5 : Hid (Below z w2 w5) := Lib.hid ((hbzB.alloc (by have := hbzB.size; rw [hz.out] at this; omega) _).grown hgr5 (by have := hbzB.size; rw [hz.out] at this; simp; omega) (fun k hk => (hlt5 k hk).1))
          have hrowE : Hid (w5.ownsRow z 5 1 (.slice (some ⟨gg, 0, none⟩) (L1.length + 1) cap) L2.length (Lib.byteCells L2)) := Lib.hid (by rw [hsn.out, hkk]; simpa [Lib.byteCells] using hrow5)
          replace hrun := Lib.hid hrun
          clear hrowB hrow5 hgr5 hat hgl5 hlt5 hBn hbzB
          go_wp2_with (at_builtin; refine wpList_append_of rfl _ _ 130 130 rfl _ _ _ w5 rfl rfl hrun.out ?_)
          go_wp2
          go_roundw
          case rel => exact ⟨j + 1, by omega, by go_num, (by rw [hL2.out]; exact hrowE), hbz5⟩
          case measure => simp [intOf]; omega
      · have hne : ((x.toNat : Int) == (o.toNat : Int)) = false := by
          rw [beq_eq_false_iff_ne]
          intro e
          exact hxo (UInt8.toNat_inj.1 (by omega))
        have hne2 : ((x.toNat : Int) != (o.toNat : Int)) = true := by rw [bne, hne]; rfl
        have hkk0 : optK t o on x = optB t x := if_neg hxo
        obtain ⟨R, hR⟩ : ∃ R, optB t x = R := ⟨_, rfl⟩
        rw [hR] at hv hkk0
        replace hR := Lib.hid hR
        replace hkk0 := Lib.hid hkk0
        cases R
        · go_wp2_with fail
          refine hv.mono ?_
          rintro e w3 ⟨rfl, hb3⟩
          have hrowB := ownBelow hrow.out hb3
          have hbzB : Below z w2 w3 := hbz.out.trans (hb3.mono (by have := hbz.out.size; rw [hz.out] at this; omega))
          have hkk : (if optK t o on x = true then [x] else []) = ([] : List UInt8) := by rw [hkk0.out]; rfl
          clear hb3 hv hrow hbz ck
          have hrowE : Hid (w3.ownsRow z 5 1 (.slice A2 L1.length c2) L2.length (Lib.byteCells L2)) := Lib.hid (by rw [hsn.out, hkk]; simpa using hrowB)
          replace hbzB := Lib.hid hbzB
          clear hrowB
          go_wp2
          go_roundw
          case rel => exact ⟨j + 1, by omega, by go_num, (by rw [hL2.out]; exact hrowE), hbzB⟩
          case measure => simp [intOf]; omega
        · go_wp2_with fail
          refine hv.mono ?_
          rintro e w3 ⟨rfl, hb3⟩
          have hrowB := ownBelow hrow.out hb3
          have hbzB : Below z w2 w3 := hbz.out.trans (hb3.mono (by have := hbz.out.size; rw [hz.out] at this; omega))
          have hkk : (if optK t o on x = true then [x] else []) = [x] := by rw [hkk0.out]; rfl
          clear hb3 hv hrow hbz ck
          have hBn : ∀ i u, ([.int .u8 (x.toNat : Int)] : List Value)[i]? = some u → (w3.alloc (.cells #[.int .u8 (x.toNat : Int)] 5)).cell? ((⟨w3.heap.size, 0, none⟩ : Addr).add i) = some u := by
            intro i u hu
            rw [add_plain0, Nat.zero_add]
            exact (Blk.new w3 [.int .u8 (x.toNat : Int)] 5).cell hu
          obtain ⟨gg, cap, w5, hrun, hrow5, hgr5, hat, hgl5⟩ := run_append_lies (P := Tryz.prog) (w3.alloc (.cells #[.int .u8 (x.toNat : Int)] 5)) 130 130 z 5 i0 _ 1 1 Tryz.underlying130 hif.out hz0 hz1 hz2 rfl (by decide)
            (.slice A2 L1.length c2) L1.length _ (hrowB.alloc _) ⟨w3.heap.size, 0, none⟩ 1 1 [.int .u8 (x.toNat : Int)] rfl hBn (by simp [Value.oneCell']) (by decide) (by unfold maxLen; omega) (by omega) (by have := hbzB.size; rw [hz.out] at this; simp; omega) (w3.heap.size + 1) (by simp)
          have hlt5 := hrowB.lt
          have hbz5 : Hid (Below z w2 w5) := Lib.hid ((hbzB.alloc (by have := hbzB.size; rw [hz.out] at this; omega) _).grown hgr5 (by have := hbzB.size; rw [hz.out] at this; simp; omega) (fun k hk => (hlt5 k hk).1))
          have hrowE : Hid (w5.ownsRow z 5 1 (.slice (some ⟨gg, 0, none⟩) (L1.length + 1) cap) L2.length (Lib.byteCells L2)) := Lib.hid (by rw [hsn.out, hkk]; simpa [Lib.byteCells] using hrow5)
          replace hrun := Lib.hid hrun
          clear hrowB hrow5 hgr5 hat hgl5 hlt5 hBn hbzB
          go_wp2_with (at_builtin; refine wpList_append_of rfl _ _ 130 130 rfl _ _ _ w5 rfl rfl hrun.out ?_)
          go_wp2
          go_roundw
          case rel => exact ⟨j + 1, by omega, by go_num, (by rw [hL2.out]; exact hrowE), hbz5⟩
          case measure => simp [intOf]; omega
    · obtain rfl : j = 6 := by omega
      have hj2 : ¬ (6 : Int) < (6 : Int) := by omega
      have hbw : Below w.heap.size w wr := hbC.out.trans (hbz.out.mono (by omega)) |>.mono (by rw [hg.out]; exact Nat.le_refl _)
      have hrowD := ownBelow hrow.out (drewN_below wr 1)
      rw [show optA.take 6 = optA from rfl] at hrowD 
      have hcv : (convert 130 9 (.slice A2 (optL t o on (optA.take 6)).length c2)).run Tryz.prog wr.drew = .ok (.string ⟨(optL t o on optA).toArray⟩) wr.drew := run_string_own hrowD
      have hS4 := hst.out wr hbw
      have c4 : wr.cell? ⟨sb, 4, none⟩ = some (.pointer (some ⟨a.o, 0, none⟩)) := hS4.blk.cell (i := 4) rfl
      have hlt4 := hS4.blk.lt
      obtain ⟨SV, hSV⟩ : ∃ SV : ByteArray, (⟨(optL t o on optA).toArray⟩ : ByteArray) = SV := ⟨_, rfl⟩
      rw [hSV] at hcv
      have hk0 : wr.drew.cell? ⟨sb, 4, none⟩ = some (.pointer (some ⟨a.o, 0, none⟩)) ∧ (convert 130 9 (.slice A2 (optL t o on (optA.take 6)).length c2)).run Tryz.prog wr.drew = .ok (.string SV) wr.drew := ⟨c4, hcv⟩
      replace hrowD := Lib.hid hrowD
      have hbE := Lib.hid (drewB hbw 1)
      have hs := Lib.hid (hset.out _ hbE.out SV)
      replace hSV := Lib.hid hSV
      have hSE := Lib.hid (hst.out _ hbE.out)
      clear hS4 hrow hbz hc2 hbw
      go_wp2
      go_region_held3 (fun w' => w'.cell? ⟨sb, 4, none⟩ = some (.pointer (some ⟨a.o, 0, none⟩)) ∧ (convert 130 9 (.slice A2 (optL t o on (optA.take 6)).length c2)).run Tryz.prog w' = .ok (.string SV) w')
        (first | go_keep | exact hk0 | exact hk1)
        ((go_at_call 95; refine hs.out.mono ?_; rintro e w5 ⟨rfl, q1, q2⟩; have hS5 := hSE.out.next q1 q2; have hk1 : w5.cell? ⟨sb, 4, none⟩ = some (.pointer (some ⟨a.o, 0, none⟩)) ∧ (convert 130 9 (.slice A2 (optL t o on (optA.take 6)).length c2)).run Tryz.prog w5 = .ok (.string SV) w5 := ⟨hS5.blk.cell (i := 4) rfl, by rw [← hSV.out]; exact run_string_own (ownKeepB hrowD.out (hSE.out.th.keepB q2) (nPk (by decide)))⟩; replace hS5 := Lib.hid hS5; replace q2 := Lib.hid ((FrT.of_below hbE.out).trans q2); clear q1))
      clear hs hk0 hk1 hlt4 c4 hcv
      go_wp2
      go_ret
      rw [hSV.out]
      exact ⟨rfl, hS5.out, q2.out⟩
theorem SetOption_any (h : StAt w B sb a pot t n) (o : UInt8) (on : Bool) :
    Calls Tryz.prog 30 #[ptrV sb, .int .u8 (o.toNat : Int), .bool on] w fun e w' => e = .returned (.int .i64 (t.setO o on).1) ∧ StAt w' B sb a (pot + 2) (t.setO o on).2 n ∧ FrT B a w w' := by
  by_cases hno : Lib.indexByte optA o < 0
  · rw [show t.setO o on = (1, t) from if_pos hno]
    refine (SetOption_no h o on hno).mono ?_
    rintro e w' ⟨rfl, rfl⟩
    exact ⟨rfl, h.mono (Nat.le_add_right pot 2), FrT.of_below (Below.refl _ _)⟩
  · rw [show t.setO o on = t.seto ⟨(optL t o on optA).toArray⟩ from if_neg hno]
    exact SetOption_ok h o on hno
end
end Go.Proofs.YtigmdfdcflkggaaGreat
