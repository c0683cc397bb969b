/-
  A part. Conditions: each theorem's own.
-/
import Derived.Deep.QuietTactic
import Derived.BigQuiet
import Derived.Deep.DeepCutAuto
import Derived.Test.YtfofpphnglhopaaGreatDoorZb6
import Derived.Test.YtfofpphnglhopaaGreatDoorZb8
import Derived.Test.YtfofpphnglhopaaGreatDoorZb12
import Derived.Test.YtfofpphnglhopaaGreatDoorZb14
import Derived.Test.YtfofpphnglhopaaGreatDoorZb15
set_option maxHeartbeats 8000000
set_option maxRecDepth 100000
namespace Go.Proofs.YtfofpphnglhopaaGreatDoor
open Go Go.Shelf Go.RowKit
def shRenL : Ren := ⟨fun | 119 => 218 | 149 => 138 | 222 => 164 | 120 => 208 | 137 => 152 | 151 => 192 | 152 => 210 | 162 => 137 | 161 => 176 | 231 => 198 | 233 => 199 | 235 => 200 | 165 => 214 | 166 => 145 | 169 => 115 | 197 => 209 | 217 => 177 | 224 => 219 | 225 => 220 | 227 => 161 | 228 => 190 | 232 => 160 | 234 => 162 | 236 => 163 | 240 => 173 | 241 => 232 | 260 => 217 | 266 => 201 | 271 => 191 | 276 => 196 | 277 => 238 | n => n, fun | 0 => 0 | 3 => 3 | 4 => 4 | 5 => 5 | 9 => 9 | 20 => 20 | 21 => 21 | 37 => 153 | 46 => 252 | 70 => 212 | 72 => 214 | 75 => 241 | 80 => 105 | 105 => 291 | 116 => 260 | 117 => 261 | 119 => 318 | 124 => 264 | 127 => 245 | 138 => 320 | 139 => 321 | 164 => 295 | n => n, fun | 3 => 1 | 4 => 2 | n => n⟩
theorem sh161 : Lays.n161 Tryz.prog shRenL := {
  mixed := by kernel_rfl
  f119 := Tryz.func218.trans (congrArg some (by kernel_rfl))
  f137 := Tryz.func152.trans (congrArg some (by kernel_rfl))
  f151 := Tryz.func192.trans (congrArg some (by kernel_rfl))
  f152 := Tryz.func210.trans (congrArg some (by kernel_rfl))
  f161 := Tryz.func176.trans (congrArg some (by kernel_rfl))
  f197 := Tryz.func209.trans (congrArg some (by kernel_rfl))
  f217 := Tryz.func177.trans (congrArg some (by kernel_rfl))
  f224 := Tryz.func219.trans (congrArg some (by kernel_rfl))
  f225 := Tryz.func220.trans (congrArg some (by kernel_rfl))
  f227 := Tryz.func161.trans (congrArg some (by kernel_rfl))
  f228 := Tryz.func190.trans (congrArg some (by kernel_rfl))
  f231 := Tryz.func198.trans (congrArg some (by kernel_rfl))
  f233 := Tryz.func199.trans (congrArg some (by kernel_rfl))
  f235 := Tryz.func200.trans (congrArg some (by kernel_rfl))
  f260 := Tryz.func217.trans (congrArg some (by kernel_rfl))
  f266 := Tryz.func201.trans (congrArg some (by kernel_rfl))
  t0 := Tryz.underlying0
  a0 := Tryz.isAgg0
  z0 := Tryz.sizeOf0
  v0 := Tryz.zeroValue0
  t3 := Tryz.underlying3
  a3 := Tryz.isAgg3
  z3 := Tryz.sizeOf3
  v3 := Tryz.zeroValue3
  t4 := Tryz.underlying4
  a4 := Tryz.isAgg4
  z4 := Tryz.sizeOf4
  v4 := Tryz.zeroValue4
  t5 := Tryz.underlying5
  a5 := Tryz.isAgg5
  z5 := Tryz.sizeOf5
  v5 := Tryz.zeroValue5
  t9 := Tryz.underlying9
  a9 := Tryz.isAgg9
  z9 := Tryz.sizeOf9
  v9 := Tryz.zeroValue9
  t21 := Tryz.underlying21
  a21 := Tryz.isAgg21
  z21 := Tryz.sizeOf21
  v21 := Tryz.zeroValue21
  t46 := Tryz.underlying252
  a46 := Tryz.isAgg252
  z46 := Tryz.sizeOf252
  v46 := Tryz.zeroValue252
  t105 := Tryz.underlying291
  a105 := Tryz.isAgg291
  z105 := Tryz.sizeOf291
  v105 := Tryz.zeroValue291
  t116 := Tryz.underlying260
  a116 := Tryz.isAgg260
  z116 := Tryz.sizeOf260
  t117 := Tryz.underlying261
  a117 := Tryz.isAgg261
  z117 := Tryz.sizeOf261
  v117 := Tryz.zeroValue261
  t119 := Tryz.underlying318
  a119 := Tryz.isAgg318
  z119 := Tryz.sizeOf318
  t124 := Tryz.underlying264
  a124 := Tryz.isAgg264
  z124 := Tryz.sizeOf264
  v124 := Tryz.zeroValue264
  t138 := Tryz.underlying320
  a138 := Tryz.isAgg320
  z138 := Tryz.sizeOf320
  v138 := Tryz.zeroValue320
  t139 := Tryz.underlying321
  a139 := Tryz.isAgg321
  z139 := Tryz.sizeOf321
  v139 := Tryz.zeroValue321
  g3 := by kernel_rfl
  g4 := by kernel_rfl }
theorem trimLeft (s : ByteArray) (c : UInt8) (hc : c.toNat < 128) (w : World) :
    Calls Tryz.prog 176 #[.string s, .string ⟨#[c]⟩] w fun e w' => e = .returned (.string ⟨(Lib.trimLeftB s.data.toList c).toArray⟩) ∧ w' = w :=
  Any.strings_TrimLeft_one sh161 s c hc w
theorem tlw_upto (s : ByteArray) (k : Nat) : tl (s.extract 0 k) = (tl s).take k := by simp [tl, ByteArray.data_extract]
theorem tlw_from (s : ByteArray) (k : Nat) : tl (s.extract k s.size) = (tl s).drop k := tl_from s k
theorem tw_idx {l : List UInt8} {i : Nat} (h : Lib.indexByte l 47 = (i : Int)) : l.takeWhile (· != 47) = l.take i ∧ l.dropWhile (· != 47) = l.drop i := by
  obtain ⟨h1, h2⟩ := Lib.indexByte_some h
  clear h
  induction l generalizing i with
  | nil => simp at h1
  | cons a l ih =>
    cases i with
    | zero =>
      have : a = 47 := by simpa using h1
      subst this
      exact ⟨rfl, rfl⟩
    | succ i =>
      have ha : a ≠ 47 := fun e => h2 0 (Nat.succ_pos _) (by rw [e]; rfl)
      have := ih (i := i) (by simpa using h1) (fun k hk => by have := h2 (k + 1) (by omega); simpa using this)
      rw [List.takeWhile_cons, if_pos (by simpa using ha), List.dropWhile_cons, if_pos (by simpa using ha), this.1, this.2]
      exact ⟨rfl, rfl⟩
theorem tw_none {l : List UInt8} (h : Lib.indexByte l 47 = -1) : l.takeWhile (· != 47) = l ∧ l.dropWhile (· != 47) = [] := by
  have h2 := Lib.indexByte_none h
  clear h
  induction l with
  | nil => exact ⟨rfl, rfl⟩
  | cons a l ih =>
    have ha : a ≠ 47 := fun e => h2 0 (by rw [e]; rfl)
    have := ih fun k => by have := h2 (k + 1); simpa using this
    rw [List.takeWhile_cons, if_pos (by simpa using ha), List.dropWhile_cons, if_pos (by simpa using ha), this.1, this.2]
    exact ⟨rfl, rfl⟩
theorem cutPart_any (s : ByteArray) (w : World) :
    Calls Tryz.prog 150 #[.string s] w fun e w' => (∃ P Q : ByteArray, e = .returned (.tuple #[.string P, .string Q]) ∧ tl P = cutA (tl s) ∧ tl Q = cutB (tl s)) ∧ w.grownBy w' none := by
  have ht := trimLeft s 47 (by decide) w
  obtain ⟨T, hT⟩ : ∃ T : ByteArray, (⟨(Lib.trimLeftB s.data.toList 47).toArray⟩ : ByteArray) = T := ⟨_, rfl⟩
  have hTl : tl T = Lib.trimLeftB (tl s) 47 := by rw [← hT]; rfl
  rw [hT] at ht
  have hi := indexByte T 47 w
  rw [show (47 : Int).toNat.toUInt8 = 47 from rfl, show T.data.toList = tl T from rfl] at hi
  rcases Lib.indexByte_ge (tl T) 47 |> fun h => (show Lib.indexByte (tl T) 47 = -1 ∨ ∃ i : Nat, Lib.indexByte (tl T) 47 = (i : Int) by
      by_cases h1 : Lib.indexByte (tl T) 47 = -1
      · exact .inl h1
      · exact .inr ⟨(Lib.indexByte (tl T) 47).toNat, by omega⟩) with hx | ⟨i, hx⟩
  · rw [hx] at hi
    have q := tw_none hx
    rw [hTl] at q
    clear hx hT
    go_enter Tryz.func150, Tryz.ntmps150
    go_wp2_with fail
    refine ht.mono ?_
    rintro e w' ⟨rfl, hw⟩
    obtain rfl := hw.symm
    clear ht hw
    go_wp2_with fail
    refine hi.mono ?_
    rintro e w' ⟨rfl, hw⟩
    obtain rfl := hw.symm
    clear hi hw
    go_wp2
    go_ret2
    exact ⟨⟨_, _, rfl, by rw [hTl]; exact q.1.symm, by show [] = _; exact q.2.symm⟩, grownBy_re _⟩
  · rw [hx] at hi
    have hlt : i < T.size := by
      have := (Lib.indexByte_some hx).1
      have := (List.getElem?_eq_some_iff.1 this).1
      rwa [tl_len] at this
    have q := tw_idx hx
    rw [hTl] at q
    have z1 := tlw_upto T i
    have z2 := tlw_from T i
    rw [hTl] at z1 z2
    rw [← q.1] at z1
    rw [← q.2] at z2
    have hge : (0 : Int) ≤ (i : Int) := by omega
    replace z1 := Lib.hid z1
    replace z2 := Lib.hid z2
    clear hx hT q hTl
    go_enter Tryz.func150, Tryz.ntmps150
    go_wp2_with fail
    refine ht.mono ?_
    rintro e w' ⟨rfl, hw⟩
    obtain rfl := hw.symm
    clear ht hw
    go_wp2_with fail
    refine hi.mono ?_
    rintro e w' ⟨rfl, hw⟩
    obtain rfl := hw.symm
    clear hi hw
    go_wp2_with fail
    go_quiet (fail)
    go_wp2
    go_ret2
    exact ⟨⟨_, _, rfl, z1.out, z2.out⟩, grownBy_drewN (grownBy_re _) _⟩
theorem tl_empty (s : ByteArray) : s.toList.isEmpty = decide (tl s = []) := by
  rw [ByteArray.toList_eq]
  unfold tl
  cases s.data.toList <;> rfl
theorem tl_size0 (s : ByteArray) : tl s = [] ↔ s.size = 0 := by rw [← tl_len, List.length_eq_zero_iff]
theorem begin_any (d : Int) (s : ByteArray) (w : World) :
    Calls Tryz.prog 149 #[.int .i64 d, .string s] w fun e w' => e = .returned (.tuple #[.int .i64 (beginP d (tl s)).1, .int .i64 (beginP d (tl s)).2]) ∧ w' = w := by
  obtain ⟨R, hR⟩ : ∃ R, beginP d (tl s) = R := ⟨_, rfl⟩
  rw [hR]
  unfold beginP at hR
  have he := tl_empty s
  by_cases h0 : tl s = []
  · rw [if_pos h0] at hR
    subst hR
    rw [decide_eq_true h0] at he
    go_enter Tryz.func149, Tryz.ntmps149
    go_wp2
    go_ret2
    exact ⟨rfl, rfl⟩
  rw [if_neg h0] at hR
  rw [decide_eq_false h0] at he
  have hl := tl_len s
  by_cases h1 : 256 < (tl s).length
  · rw [if_pos h1] at hR
    subst hR
    have hi : (256 : Int) < (s.size : Int) := by omega
    clear hl h0 h1
    go_enter Tryz.func149, Tryz.ntmps149
    go_wp2
    go_ret2
    exact ⟨rfl, rfl⟩
  rw [if_neg h1] at hR
  have hi : ¬ (256 : Int) < (s.size : Int) := by omega
  have hpos : 0 < s.size := Nat.pos_of_ne_zero fun e => h0 ((tl_size0 s).2 e)
  obtain ⟨c, hc⟩ : ∃ c, s[0]'hpos = c := ⟨_, rfl⟩
  have hc2 : s.data[0]? = some c := by rw [← hc]; exact Array.getElem?_eq_getElem _
  have hh : (tl s).head? = some c := by
    rw [List.head?_eq_getElem?]
    unfold tl
    rw [Array.getElem?_toList]
    exact hc2
  rw [hh] at hR
  by_cases h2 : c = 47
  · subst h2
    rw [if_pos rfl] at hR
    subst hR
    have e1 : (((47 : UInt8).toNat : Int) == 47) = true := rfl
    clear hl h0 h1 hh
    go_enter Tryz.func149, Tryz.ntmps149
    go_wp2
    go_ret2
    exact ⟨rfl, rfl⟩
  · rw [if_neg (by simpa using h2)] at hR
    subst hR
    have e1 : ((c.toNat : Int) == 47) = false := by
      simp only [beq_eq_false_iff_ne, ne_eq]
      intro h
      exact h2 (UInt8.toNat_inj.1 (by show c.toNat = 47; omega))
    clear hl h0 h1 hh h2
    go_enter Tryz.func149, Tryz.ntmps149
    go_wp2
    go_ret2
    exact ⟨rfl, rfl⟩
section
variable {w : World} {lab : Nat → TL} {F : Nat → Prop} {fb most room mb : Nat} {nds : Nds} {mem : Int → NM}
theorem start_any (h : TreeR w lab fb most room nds mb mem) (a : Int) (s : ByteArray) :
    Calls Tryz.prog 118 #[.pointer (some ⟨fb, 0, none⟩), .int .i64 a, .string s] w fun e w' => e = .returned (.tuple #[.int .i64 (startP nds a (tl s)).1, .int .i64 (startP nds a (tl s)).2]) ∧ w' = w := by
  have hb := begin_any a s w
  obtain ⟨R, hR⟩ : ∃ R, startP nds a (tl s) = R := ⟨_, rfl⟩
  rw [hR]
  unfold startP at hR
  have f0 := h.fs.cell (i := 0) rfl
  have hfl := h.fs.lt
  cases hx : look nds a with
  | none =>
    rw [hx] at hR
    simp only at hR
    subst hR
    have hf := h.find_none hx
    clear h hx hb
    go_enter Tryz.func118, Tryz.ntmps118
    go_wp2
    go_ret2
    exact ⟨rfl, rfl⟩
  | some x =>
    rw [hx] at hR
    simp only at hR
    have hf := h.find_some hx
    have c0 := (h.nd a x hx).blk.cell (show (bodyC x (mem a))[0]? = some _ from rfl)
    have hlt := (h.nd a x hx).blk.lt
    generalize (mem a).blk = kb at hf c0 hlt
    by_cases hk : x.kind ≠ 1
    · rw [if_pos hk] at hR
      subst hR
      have e1 : ((x.kind : Int) == 1) = false := by simp; omega
      clear h hx hb hk
      go_enter Tryz.func118, Tryz.ntmps118
      go_wp2
      go_ret2
      exact ⟨rfl, rfl⟩
    · rw [if_neg hk] at hR
      rw [hR] at hb
      obtain ⟨R1, R2⟩ := R
      simp only [Decidable.not_not] at hk
      rw [hk] at c0
      clear h hx hk hR
      go_enter Tryz.func118, Tryz.ntmps118
      go_wp2_with fail
      refine hb.mono ?_
      rintro e w' ⟨rfl, hw⟩
      obtain rfl := hw.symm
      clear hb hw
      go_wp2
      go_ret2
      exact ⟨rfl, rfl⟩
theorem findD_any (h : TreeR w lab fb most room nds mb mem) {k : Int} {x : Pn} {l : List (ByteArray × Nat)} (hx : look nds k = some x) (hn : x.nms = some l) (s : ByteArray) :
    Calls Tryz.prog 124 #[.pointer (some ⟨(mem k).blk, 0, none⟩), .string s] w fun e w' => e = .returned (.tuple #[.int .i64 (findP l (tl s)).1, .int .i64 (findP l (tl s)).2]) ∧ w' = w := by
  obtain ⟨R, hR⟩ : ∃ R, findP l (tl s) = R := ⟨_, rfl⟩
  rw [hR]
  unfold findP at hR
  have hN := h.nd k x hx
  obtain ⟨nb, h1, _, h3⟩ := hN.nms l hn
  have c4 := hN.blk.cell (show (bodyC x (mem k))[4]? = some _ from rfl)
  have hlt := hN.blk.lt
  rw [h1] at c4
  have hl := tl_len s
  have hix := indexByte s 0 w
  rw [show (0 : Int).toNat.toUInt8 = 0 from rfl, show s.data.toList = tl s from rfl] at hix
  by_cases h32 : 32 < s.size
  · rw [if_pos (.inl (by omega))] at hR
    subst hR
    have hi : (32 : Int) < (s.size : Int) := by omega
    generalize (mem k).blk = kb at c4 hlt ⊢
    clear h hN hx hn hl h3 h1 hix h32
    go_enter Tryz.func124, Tryz.ntmps124
    go_wp2
    go_ret2
    exact ⟨rfl, rfl⟩
  have hi : ¬ (32 : Int) < (s.size : Int) := by omega
  by_cases h0 : (0 : UInt8) ∈ tl s
  · rw [if_pos (.inr h0)] at hR
    subst hR
    obtain ⟨i, hx2⟩ : ∃ i : Nat, Lib.indexByte (tl s) 0 = (i : Int) := by
      have := Lib.indexByte_ge (tl s) 0
      by_cases h9 : Lib.indexByte (tl s) 0 = -1
      · obtain ⟨j, hj, he⟩ := List.getElem_of_mem h0
        exact absurd (by rw [List.getElem?_eq_getElem hj, he]) (Lib.indexByte_none h9 j)
      · exact ⟨(Lib.indexByte (tl s) 0).toNat, by omega⟩
    rw [hx2] at hix
    have hge : (0 : Int) ≤ (i : Int) := by omega
    generalize (mem k).blk = kb at c4 hlt ⊢
    clear h hN hx hn hl h3 h1 h32 h0 hx2
    go_enter Tryz.func124, Tryz.ntmps124
    go_wp2_with fail
    refine hix.mono ?_
    rintro e w' ⟨rfl, hw⟩
    obtain rfl := hw.symm
    clear hix hw
    go_wp2
    go_ret2
    exact ⟨rfl, rfl⟩
  rw [if_neg (fun q => q.elim (fun q => by omega) h0)] at hR
  have hx2 : Lib.indexByte (tl s) 0 = -1 := by
    have := Lib.indexByte_ge (tl s) 0
    refine Classical.byContradiction fun h9 => ?_
    obtain ⟨i, hi2⟩ : ∃ i : Nat, Lib.indexByte (tl s) 0 = (i : Int) := ⟨(Lib.indexByte (tl s) 0).toNat, by omega⟩
    exact h0 (List.mem_of_getElem? (Lib.indexByte_some hi2).1)
  rw [hx2] at hix
  rw [show (⟨(tl s).toArray⟩ : ByteArray) = s by unfold tl; simp] at hR
  have hfi := h3.find keyS Tryz.underlying154 Tryz.underlying9 (Tryz.zeroValue3 w) true s
  rw [look_map (fun n : Nat => Value.int .i64 (n : Int))] at hfi
  cases hlk : look l s with
  | none =>
    rw [hlk] at hfi hR
    simp only at hR
    subst hR
    replace hfi : (Instr.lookup 154 (.map (some nb)) (.string s) true).run Tryz.prog w = .ok (.tuple #[.int .i64 0, .bool false]) w := hfi
    generalize (mem k).blk = kb at c4 hlt ⊢
    clear h hN hx hn hl h3 h1 h32 h0 hx2
    go_enter Tryz.func124, Tryz.ntmps124
    go_wp2_with fail
    refine hix.mono ?_
    rintro e w' ⟨rfl, hw⟩
    obtain rfl := hw.symm
    clear hix hw
    go_wp2
    go_ret2
    exact ⟨rfl, rfl⟩
  | some n =>
    rw [hlk] at hfi hR
    simp only at hR
    subst hR
    replace hfi : (Instr.lookup 154 (.map (some nb)) (.string s) true).run Tryz.prog w = .ok (.tuple #[.int .i64 (n : Int), .bool true]) w := hfi
    generalize (mem k).blk = kb at c4 hlt ⊢
    clear h hN hx hn hl h3 h1 h32 h0 hx2
    go_enter Tryz.func124, Tryz.ntmps124
    go_wp2_with fail
    refine hix.mono ?_
    rintro e w' ⟨rfl, hw⟩
    obtain rfl := hw.symm
    clear hix hw
    go_wp2
    go_ret2
    exact ⟨rfl, rfl⟩
end
end Go.Proofs.YtfofpphnglhopaaGreatDoor
namespace Go.Proofs.YtfofpphnglhopaaGreatDoor
open Go Go.RowKit
theorem beqL (l m : List UInt8) : (l == m) = decide (l = m) := by
  by_cases h : l = m
  · subst h; simp
  · rw [decide_eq_false h, beq_eq_false_iff_ne]; exact h
theorem intOf_nat (n : Nat) : (intOf (.int .i64 (n : Int))).toNat = n := by simp [intOf]
theorem intOf_succ (n : Nat) : (intOf (.int .i64 ((n : Int) + 1))).toNat = n + 1 := by simp [intOf]
def lenS (v : Value) : Nat := match v with | .string s => s.size | _ => 0
section
variable {w : World} {lab : Nat → TL} {F : Nat → Prop} {fb most room mb : Nat} {nds : Nds} {mem : Int → NM}
theorem walk_any (h : TreeR w lab fb most room nds mb mem) (T : TOk nds) (fo : Bool) (a : Int) (hx : ∃ x, look nds a = some x) (s : ByteArray) (hs : s.size ≤ 1000000) :
    Calls Tryz.prog 119 #[.pointer (some ⟨fb, 0, none⟩), .int .i64 a, .string s, .bool fo] w fun e w' => e = .returned (.tuple #[.int .i64 (walkP nds fo (wM (tl s) 0 + 1) a (tl s) 0).1, .int .i64 (walkP nds fo (wM (tl s) 0 + 1) a (tl s) 0).2]) ∧ w.grownBy w' none := by
  obtain ⟨R, hR⟩ : ∃ R, walkP nds fo (wM (tl s) 0 + 1) a (tl s) 0 = R := ⟨_, rfl⟩
  rw [hR]
  obtain ⟨R1, R2⟩ := R
  have hS : wM (tl s) 0 ≤ 2056 + s.size := by unfold wM; rw [tl_len]; omega
  replace hR := Lib.hid hR
  replace hS := Lib.hid hS
  replace h := Lib.hid h
  replace hx := Lib.hid hx
  have hg0 : w.grownBy w none := grownBy_re w
  replace hg0 := Lib.hid hg0
  go_enter Tryz.func119, Tryz.ntmps119
  go_wp2
  go_step3
  go_wp2
  go_step3
  go_wp2
  go_loopw [1, 2, 10] (fun av rv lv wr => ∃ (a : Int) (rest : ByteArray) (links f : Nat), av = .int .i64 a ∧ rv = .string rest ∧ lv = .int .i64 (links : Int) ∧ links ≤ 8 ∧ Hid (∃ x, look nds a = some x) ∧ Hid (walkP nds fo f a (tl rest) links = (R1, R2)) ∧ Hid (wM (tl rest) links < f) ∧ Hid (wM (tl rest) links ≤ 2056 + s.size) ∧ Hid (w.grownBy wr none)) (fun _ rv lv _ => (8 - (intOf lv).toNat) * 257 + lenS rv)
  case atStart => exact ⟨a, s, 0, _, rfl, rfl, rfl, by omega, hx, hR, Lib.hid (Nat.lt_succ_self _), hS, hg0⟩
  case round =>
    clear hx hR hg0 hS
    obtain ⟨a, rest, links, f, rfl, rfl, rfl, hl8, hx, hR, hf, hM, hg⟩ := hrel
    obtain ⟨f, rfl⟩ : ∃ f', f = f' + 1 := ⟨f - 1, by have := hf.out; omega⟩
    replace hR := hR.out
    replace hf := hf.out
    replace hM := hM.out
    replace hx := hx.out
    obtain ⟨x, hx⟩ := hx
    have hsz : rest.size ≤ 1002056 := by unfold wM at hM; rw [tl_len] at hM; omega
    unfold walkP at hR
    have he := tl_empty rest
    by_cases h0 : tl rest = []
    · rw [if_pos h0] at hR
      obtain ⟨rfl, rfl⟩ := Prod.mk.inj hR
      rw [decide_eq_true h0] at he
      clear hx hR hf hM h0 h
      go_wp2
      first | go_ret2 | (rw [Exit.noGoto_ret]; go_ret2)
      exact ⟨rfl, hg.out⟩
    rw [if_neg h0, hx] at hR
    simp only at hR
    rw [decide_eq_false h0] at he
    have hh := h.out.grown hg.out
    have f0 := hh.fs.cell (i := 0) rfl
    have hfl := hh.fs.lt
    have hN := hh.nd a x hx
    have hfi := hh.find_some hx
    have c0 := hN.blk.cell (show (bodyC x (mem a))[0]? = some _ from rfl)
    have hbl := hN.blk.lt
    obtain ⟨kb, hkb⟩ : ∃ kb, (mem a).blk = kb := ⟨_, rfl⟩
    rw [hkb] at hfi c0 hbl
    have hcl := cutB_lt h0
    have hst : wM (cutB (tl rest)) links < f := by have := wM_step hcl links; omega
    by_cases h1 : x.kind ≠ 1
    · rw [if_pos h1] at hR
      obtain ⟨rfl, rfl⟩ := Prod.mk.inj hR
      have e1 : ((x.kind : Int) == 1) = false := by simp; omega
      clear hx hR hf hM h0 h hN hh hkb hcl hst h1
      go_wp2
      first | go_ret2 | (rw [Exit.noGoto_ret]; go_ret2)
      exact ⟨rfl, hg.out⟩
    rw [if_neg h1] at hR
    replace h1 : x.kind = 1 := by omega
    rw [h1] at c0
    have hcp := cutPart_any rest wr
    replace hR := Lib.hid hR
    replace hst := Lib.hid hst
    replace hf := Lib.hid hf
    replace hM := Lib.hid hM
    replace h0 := Lib.hid h0
    replace hN := Lib.hid hN
    replace hh := Lib.hid hh
    replace hcl := Lib.hid hcl
    replace hkb := Lib.hid hkb
    go_wp2_with fail
    refine hcp.mono ?_
    rintro e w1 ⟨⟨P, Q, rfl, hP, hQ⟩, g1⟩
    replace hg := Lib.hid (grownBy_tr hg.out g1)
    replace hh := Lib.hid (hh.out.grown g1)
    have hN1 := hh.out.nd a x hx
    have f0' := hh.out.fs.cell (i := 0) rfl
    have hfl' := hh.out.fs.lt
    have c5 := hN1.blk.cell (show (bodyC x (mem a))[5]? = some _ from rfl)
    have hbl' := hN1.blk.lt
    rw [hkb.out] at c5 hbl'
    replace hR := hR.out
    replace hst := hst.out
    rw [← hP, ← hQ] at hR
    rw [← hQ] at hst
    have hQl : Hid ((tl Q).length < (tl rest).length) := Lib.hid (by rw [hQ]; exact hcl.out)
    have hQm : Hid (lenS (.string Q) < lenS (.string rest)) := Lib.hid (by have := hQl.out; rw [tl_len, tl_len] at this; exact this)
    have q0 : (P.toList == []) = decide (tl P = []) := by rw [ByteArray.toList_eq]; show (tl P == []) = _; rw [beqL]
    have q1 : (P.toList == [46]) = decide (tl P = [46]) := by rw [ByteArray.toList_eq]; show (tl P == [46]) = _; rw [beqL]
    have q2 : (P.toList == [46, 46]) = decide (tl P = [46, 46]) := by rw [ByteArray.toList_eq]; show (tl P == [46, 46]) = _; rw [beqL]
    have q0' := tl_empty P
    clear hcp f0 hfl hfi c0 hbl hN he hP hQ
    by_cases h2 : tl P = []
    · rw [if_pos h2] at hR
      obtain ⟨rfl, rfl⟩ := Prod.mk.inj hR
      rw [decide_eq_true h2] at q0 q0'
      clear hR h2 q1 q2 h
      go_wp2
      first | go_ret2 | (rw [Exit.noGoto_ret]; go_ret2)
      exact ⟨rfl, hg.out⟩
    rw [if_neg h2] at hR
    rw [decide_eq_false h2] at q0 q0'
    have hM2 : Hid (wM (tl Q) links ≤ 2056 + s.size) := Lib.hid (by have := wM_step hQl.out links; have := hM.out; omega)
    by_cases h3 : tl P = [46]
    · rw [if_pos h3] at hR
      rw [decide_eq_true h3] at q1
      replace hR := Lib.hid hR
      replace hst := Lib.hid hst
      have hx' : Hid (∃ x, look nds a = some x) := Lib.hid ⟨x, hx⟩
      clear h2 h3 q2 h hx
      go_wp2
      all_goals (
        go_roundw
        first
          | (case rel => exact ⟨a, Q, links, f, rfl, rfl, rfl, hl8, hx', hR, hst, hM2, hg⟩
             case measure => have := hQm.out; simp [intOf]; omega)
          | exact ⟨⟨a, Q, links, f, rfl, rfl, rfl, hl8, hx', hR, hst, hM2, hg⟩, by have := hQm.out; simp [intOf]; omega⟩)
    rw [if_neg h3] at hR
    rw [decide_eq_false h3] at q1
    by_cases h4 : tl P = [46, 46]
    · rw [if_pos h4] at hR
      rw [decide_eq_true h4] at q2
      by_cases h5 : x.par = 0
      · rw [if_pos h5] at hR
        obtain ⟨rfl, rfl⟩ := Prod.mk.inj hR
        rw [h5] at c5
        clear hR h2 h3 h4 h hx h5 hst
        go_wp2
        first | go_ret2 | (rw [Exit.noGoto_ret]; go_ret2)
        exact ⟨rfl, hg.out⟩
      · rw [if_neg h5] at hR
        have e5 : ((x.par : Int) == 0) = false := by simp; omega
        obtain ⟨p, hp, _⟩ := T.par a x hx h1 h5
        replace hR := Lib.hid hR
        replace hst := Lib.hid hst
        have hx' : Hid (∃ y, look nds (x.par : Int) = some y) := Lib.hid ⟨p, hp⟩
        clear h2 h3 h4 h hx h5 hp
        go_wp2
        all_goals (
          go_roundw
          first
            | (case rel => exact ⟨x.par, Q, links, f, rfl, rfl, rfl, hl8, hx', hR, hst, hM2, hg⟩
               case measure => have := hQm.out; simp [intOf]; omega)
            | exact ⟨⟨x.par, Q, links, f, rfl, rfl, rfl, hl8, hx', hR, hst, hM2, hg⟩, by have := hQm.out; simp [intOf]; omega⟩)
    rw [if_neg h4] at hR
    rw [decide_eq_false h4] at q2
    have hfd := findD_any hh.out hx (T.dirAt hx h1) P
    rw [hkb.out] at hfd
    rcases findP_e (nmsOf x) (tl P) with ⟨r1, n, r2, r3⟩ | ⟨r1, r2⟩
    · rw [if_neg (by rw [r1]; simp), r2] at hR
      rw [r1, r2] at hfd
      obtain ⟨_, y, hy⟩ := T.ent a x hx _ r3
      simp only at hy
      rw [hy] at hR
      simp only at hR
      have hNy := hh.out.nd _ y hy
      have hfy := hh.out.find_some hy
      have y0 := hNy.blk.cell (show (bodyC y (mem n))[0]? = some _ from rfl)
      have y3 := hNy.blk.cell (show (bodyC y (mem n))[3]? = some _ from rfl)
      have hyl := hNy.blk.lt
      have hrow := hNy.data
      generalize (mem n).blk = nb at hfy y0 y3 hyl
      generalize (mem n).dv = dv at y3 hrow
      have hqe := tl_empty Q
      have hqE : (Q.toList == []) = decide (tl Q = []) := by rw [ByteArray.toList_eq]; show (tl Q == []) = _; rw [beqL]
      by_cases h6 : y.kind ≠ 3 ∨ (tl Q = [] ∧ fo = false)
      · rw [if_pos h6] at hR
        replace hR := Lib.hid hR
        replace hst := Lib.hid hst
        have hx' : Hid (∃ y, look nds (n : Int) = some y) := Lib.hid ⟨y, hy⟩
        replace h6 : ((y.kind : Int) == 3) = false ∨ (((y.kind : Int) == 3) = true ∧ Q.toList.isEmpty = true ∧ (Q.toList == []) = true ∧ fo = false) := by
          by_cases hk3 : y.kind = 3
          · rcases h6 with h6 | h6
            · exact absurd hk3 h6
            · exact .inr ⟨by rw [hk3]; rfl, by rw [hqe]; simpa using h6.1, by rw [hqE]; simpa using h6.1, h6.2⟩
          · exact .inl (by simp; omega)
        clear h2 h3 h4 h hx hy hqe hqE hrow y3 hNy r3
        rcases h6 with h6 | ⟨h6, h7, h7', rfl⟩
        · go_wp2_with fail
          refine hfd.mono ?_
          rintro e w' ⟨rfl, hw⟩
          obtain rfl := hw.symm
          go_wp2
          all_goals (
            go_roundw
            first
              | (case rel => exact ⟨n, Q, links, f, rfl, rfl, rfl, hl8, hx', hR, hst, hM2, hg⟩
                 case measure => have := hQm.out; simp [intOf]; omega)
              | exact ⟨⟨n, Q, links, f, rfl, rfl, rfl, hl8, hx', hR, hst, hM2, hg⟩, by have := hQm.out; simp [intOf]; omega⟩)
        · go_wp2_with fail
          refine hfd.mono ?_
          rintro e w' ⟨rfl, hw⟩
          obtain rfl := hw.symm
          go_wp2
          all_goals (
            go_roundw
            first
              | (case rel => exact ⟨n, Q, links, f, rfl, rfl, rfl, hl8, hx', hR, hst, hM2, hg⟩
                 case measure => have := hQm.out; simp [intOf]; omega)
              | exact ⟨⟨n, Q, links, f, rfl, rfl, rfl, hl8, hx', hR, hst, hM2, hg⟩, by have := hQm.out; simp [intOf]; omega⟩)
      · rw [if_neg h6] at hR
        replace h6 : y.kind = 3 ∧ (Q.toList.isEmpty = false ∧ (Q.toList == []) = false ∨ Q.toList.isEmpty = true ∧ (Q.toList == []) = true ∧ fo = true) := by
          have hk3 : y.kind = 3 := Classical.byContradiction fun e => h6 (.inl e)
          refine ⟨hk3, ?_⟩
          by_cases hq : tl Q = []
          · refine .inr ⟨by rw [hqe]; simpa using hq, by rw [hqE]; simpa using hq, ?_⟩
            cases fo
            · exact absurd (.inr ⟨hq, rfl⟩) h6
            · rfl
          · exact .inl ⟨by rw [hqe]; simpa using hq, by rw [hqE]; simpa using hq⟩
        obtain ⟨hk3, h6⟩ := h6
        rw [hk3] at y0
        by_cases h7 : links = 8
        · rw [if_pos h7] at hR
          obtain ⟨rfl, rfl⟩ := Prod.mk.inj hR
          subst h7
          clear h2 h3 h4 h hx hy hqe hqE hrow y3 hNy r3 hR hst
          rcases h6 with ⟨h6, h7⟩ | ⟨h6, h7, rfl⟩
          · go_wp2_with fail
            refine hfd.mono ?_
            rintro e w' ⟨rfl, hw⟩
            obtain rfl := hw.symm
            go_wp2
            first | go_ret2 | (rw [Exit.noGoto_ret]; go_ret2)
            exact ⟨rfl, hg.out⟩
          · go_wp2_with fail
            refine hfd.mono ?_
            rintro e w' ⟨rfl, hw⟩
            obtain rfl := hw.symm
            go_wp2
            first | go_ret2 | (rw [Exit.noGoto_ret]; go_ret2)
            exact ⟨rfl, hg.out⟩
        · rw [if_neg h7] at hR
          have e8 : ((links : Int) == 8) = false := by simp; omega
          have hcv := conv_row hrow
          obtain ⟨X, hX⟩ : ∃ X : ByteArray, (⟨y.data.toArray⟩ : ByteArray) = X := ⟨_, rfl⟩
          have hXl : tl X = y.data := by rw [← hX]; rfl
          rw [hX] at hcv
          rw [← hXl] at hR
          have hbg := begin_any a X w1
          have htx : tl (X ++ Q) = tl X ++ tl Q := by simp [tl]
          have hxq : (X ++ Q).size = X.size + Q.size := by rw [← tl_len, htx, List.length_append, tl_len, tl_len]
          have hlk : Hid (beginP a (tl X) = beginP a (tl X)) := Lib.hid rfl
          have hroot := T.root
          rcases beginP_e a (tl X) with ⟨b1, b2, b3⟩ | ⟨b1, b2⟩
          · rw [if_neg (by rw [b1]; simp), ← htx] at hR
            rw [b1] at hbg
            have hxs : ¬ 9223372036854775807 < X.size + Q.size := by have q := hQl.out; rw [tl_len, tl_len] at q; rw [tl_len] at b3; omega
            have hml := wM_link (t := tl X) hQl.out b3 (links := links) (by omega)
            rw [← htx] at hml
            have hf2 : Hid (wM (tl (X ++ Q)) (links + 1) < f) := Lib.hid (by have := hf.out; omega)
            have hM3 : Hid (wM (tl (X ++ Q)) (links + 1) ≤ 2056 + s.size) := Lib.hid (by have := hM.out; omega)
            have hme : Hid ((8 - (links + 1)) * 257 + lenS (.string (X ++ Q)) < (8 - links) * 257 + lenS (.string rest)) := Lib.hid (by unfold wM at hml; rw [tl_len, tl_len] at hml; exact hml)
            obtain ⟨a2, ha2⟩ : ∃ a2, (beginP a (tl X)).1 = a2 := ⟨_, rfl⟩
            rw [ha2] at hR hbg b2
            have hx' : Hid (∃ x, look nds a2 = some x) := Lib.hid (by
              obtain ⟨r, hr, _⟩ := hroot
              rcases b2 with rfl | rfl
              · exact ⟨r, hr⟩
              · exact ⟨x, hx⟩)
            replace hR := Lib.hid hR
            have hl8' : links + 1 ≤ 8 := by omega
            clear h2 h3 h4 h hx hy hqe hqE hrow hNy r3 hst htx hml hlk hroot ha2 b2 hXl hX hxq b1 b3
            rcases h6 with ⟨h6, h7⟩ | ⟨h6, h7, rfl⟩
            · go_wp2_with fail
              refine hfd.mono ?_
              rintro e w' ⟨rfl, hw⟩
              obtain rfl := hw.symm
              go_wp2_with fail
              refine hbg.mono ?_
              rintro e w' ⟨rfl, hw⟩
              obtain rfl := hw.symm
              go_wp2
              all_goals (
                go_roundw
                first
                  | (case rel => exact ⟨a2, X ++ Q, links + 1, f, rfl, rfl, by go_num, hl8', hx', hR, hf2, hM3, hg⟩
                     case measure => rw [intOf_succ, intOf_nat]; exact hme.out)
                  | exact ⟨⟨a2, X ++ Q, links + 1, f, rfl, rfl, by go_num, hl8', hx', hR, hf2, hM3, hg⟩, by have := hme.out; simp [intOf]; omega⟩)
            · go_wp2_with fail
              refine hfd.mono ?_
              rintro e w' ⟨rfl, hw⟩
              obtain rfl := hw.symm
              go_wp2_with fail
              refine hbg.mono ?_
              rintro e w' ⟨rfl, hw⟩
              obtain rfl := hw.symm
              go_wp2
              all_goals (
                go_roundw
                first
                  | (case rel => exact ⟨a2, X ++ Q, links + 1, f, rfl, rfl, by go_num, hl8', hx', hR, hf2, hM3, hg⟩
                     case measure => rw [intOf_succ, intOf_nat]; exact hme.out)
                  | exact ⟨⟨a2, X ++ Q, links + 1, f, rfl, rfl, by go_num, hl8', hx', hR, hf2, hM3, hg⟩, by have := hme.out; simp [intOf]; omega⟩)
          · have hne : (beginP a (tl X)).2 ≠ 0 := by rcases b2 with b2 | b2 <;> rw [b2] <;> decide
            rw [if_pos hne] at hR
            have hne2 : ((beginP a (tl X)).2 == 0) = false := by rw [beq_eq_false_iff_ne]; exact hne
            rw [b1] at hbg
            obtain ⟨E, hE⟩ : ∃ E, (beginP a (tl X)).2 = E := ⟨_, rfl⟩
            rw [hE] at hR hbg hne2
            clear hE b2
            obtain ⟨rfl, rfl⟩ := Prod.mk.inj hR
            clear h2 h3 h4 h hx hy hqe hqE hrow hNy r3 hst htx hlk hroot hXl hX hxq b1 hR hne
            rcases h6 with ⟨h6, h7⟩ | ⟨h6, h7, rfl⟩
            · go_wp2_with fail
              refine hfd.mono ?_
              rintro e w' ⟨rfl, hw⟩
              obtain rfl := hw.symm
              go_wp2_with fail
              refine hbg.mono ?_
              rintro e w' ⟨rfl, hw⟩
              obtain rfl := hw.symm
              go_wp2
              first | go_ret2 | (rw [Exit.noGoto_ret]; go_ret2)
              exact ⟨rfl, hg.out⟩
            · go_wp2_with fail
              refine hfd.mono ?_
              rintro e w' ⟨rfl, hw⟩
              obtain rfl := hw.symm
              go_wp2_with fail
              refine hbg.mono ?_
              rintro e w' ⟨rfl, hw⟩
              obtain rfl := hw.symm
              go_wp2
              first | go_ret2 | (rw [Exit.noGoto_ret]; go_ret2)
              exact ⟨rfl, hg.out⟩
    · have hne : (findP (nmsOf x) (tl P)).2 ≠ 0 := by rcases r2 with r2 | r2 <;> rw [r2] <;> decide
      rw [if_pos hne] at hR
      rw [r1] at hfd
      have hne2 : ((findP (nmsOf x) (tl P)).2 == 0) = false := by rw [beq_eq_false_iff_ne]; exact hne
      obtain ⟨E, hE⟩ : ∃ E, (findP (nmsOf x) (tl P)).2 = E := ⟨_, rfl⟩
      rw [hE] at hR hfd hne2
      clear hE r2
      obtain ⟨rfl, rfl⟩ := Prod.mk.inj hR
      clear h2 h3 h4 h hx hR hst r1 hne
      go_wp2_with fail
      refine hfd.mono ?_
      rintro e w' ⟨rfl, hw⟩
      obtain rfl := hw.symm
      go_wp2
      first | go_ret2 | (rw [Exit.noGoto_ret]; go_ret2)
      exact ⟨rfl, hg.out⟩
theorem Walk_any (h : TreeR w lab fb most room nds mb mem) (T : TOk nds) (fo : Bool) (a : Int) (s : ByteArray) (hs : s.size ≤ 1000000) :
    Calls Tryz.prog 69 #[.pointer (some ⟨fb, 0, none⟩), .int .i64 a, .string s, .bool fo] w fun e w' => e = .returned (.tuple #[.int .i64 (WalkQ nds a (tl s) fo).1, .int .i64 (WalkQ nds a (tl s) fo).2]) ∧ w.grownBy w' none := by
  have hst := start_any h a s
  obtain ⟨R, hR⟩ : ∃ R, WalkQ nds a (tl s) fo = R := ⟨_, rfl⟩
  rw [hR]
  unfold WalkQ at hR
  obtain ⟨S, hS⟩ : ∃ S, startP nds a (tl s) = S := ⟨_, rfl⟩
  rw [hS] at hst hR
  obtain ⟨S1, S2⟩ := S
  simp only at hst hR
  by_cases h0 : S2 = 0
  · subst h0
    rw [if_neg (by simp)] at hR
    have hx : ∃ x, look nds S1 = some x := by
      unfold startP at hS
      cases hx : look nds a with
      | none => rw [hx] at hS; simp at hS
      | some x =>
        rw [hx] at hS
        simp only at hS
        split at hS
        · simp at hS
        · rcases beginP_e a (tl s) with ⟨_, b2, _⟩ | ⟨_, b2⟩
          · rw [hS] at b2
            obtain ⟨r, hr, _⟩ := T.root
            simp only at b2
            rcases b2 with rfl | rfl
            · exact ⟨r, hr⟩
            · exact ⟨x, hx⟩
          · rw [hS] at b2
            simp at b2
    have hw := walk_any h T fo S1 hx s hs
    rw [hR] at hw
    obtain ⟨R1, R2⟩ := R
    clear h hS hR hx
    go_enter Tryz.func69, Tryz.ntmps69
    go_wp2_with fail
    refine hst.mono ?_
    rintro e w' ⟨rfl, hw'⟩
    obtain rfl := hw'.symm
    clear hst hw'
    go_wp2_with fail
    refine hw.mono ?_
    rintro e w' ⟨rfl, hg⟩
    clear hw
    replace hg := Lib.hid hg
    go_wp2
    go_ret2
    exact ⟨rfl, hg.out⟩
  · rw [if_pos h0] at hR
    subst hR
    have e0 : (S2 == 0) = false := by rw [beq_eq_false_iff_ne]; exact h0
    clear h hS h0
    go_enter Tryz.func69, Tryz.ntmps69
    go_wp2_with fail
    refine hst.mono ?_
    rintro e w' ⟨rfl, hw⟩
    obtain rfl := hw.symm
    clear hst hw
    go_wp2
    go_ret2
    exact ⟨rfl, grownBy_re _⟩
end
end Go.Proofs.YtfofpphnglhopaaGreatDoor
namespace Go.Proofs.YtfofpphnglhopaaGreatDoor
open Go Go.RowKit Go.ChangeMaps
def modeV (k : Nat) : Value := .agg #[.bool (decide (k = 1 ∨ k = 4)), .bool (decide (k ≠ 1)), .bool (decide (k = 3))]
theorem modeOf_1 (w : World) : Calls Tryz.prog 147 #[.int .i64 1] w fun e w' => e = .returned (.agg #[.bool true, .bool false, .bool false]) ∧ w.grownBy w' none := by
  obtain ⟨z, hz⟩ : ∃ z, w.heap.size = z := ⟨_, rfl⟩
  have b1 : Blk (w.alloc (.cells #[.bool false, .bool false, .bool false] 38)) z [.bool false, .bool false, .bool false] 38 := by rw [← hz]; exact Blk.new w _ _
  have g1 : w.grownBy (w.alloc (.cells #[.bool false, .bool false, .bool false] 38)) none := World.grownBy_alloc w _ _
  replace hz := Lib.hid hz
  go_enter Tryz.func147, Tryz.ntmps147
  go_upto_region 1 with fail
  try simp only [hz.out]
  generalize (w.alloc (.cells #[.bool false, .bool false, .bool false] 38)) = w1 at b1 g1 ⊢
  have z0 := b1.cell (i := 0) rfl
  have z1 := b1.cell (i := 1) rfl
  have z2 := b1.cell (i := 2) rfl
  have f0 := b1.frozen 0
  have f1 := b1.frozen 1
  have f2 := b1.frozen 2
  have hzl := b1.lt
  replace b1 := Lib.hid b1
  replace g1 := Lib.hid g1
  go_wp2
  have b3 := ((b1.out.set 0 (.bool true)).set 1 (.bool false)).set 2 (.bool false)
  have g3 := grown_setNew (grown_setNew (grown_setNew g1.out (Nat.le_of_eq hz.out) 0 (.bool true)) (Nat.le_of_eq hz.out) 1 (.bool false)) (Nat.le_of_eq hz.out) 2 (.bool false)
  generalize ((w1.setCell ⟨z, 0, none⟩ (.bool true)).setCell ⟨z, 1, none⟩ (.bool false)).setCell ⟨z, 2, none⟩ (.bool false) = w3 at b3 g3 ⊢
  have e0 := b3.cell (i := 0) rfl
  have e1 := b3.cell (i := 1) rfl
  have e2 := b3.cell (i := 2) rfl
  exact bodyPost_ret (v := .agg #[.bool true, .bool false, .bool false]) (by simp [results, Tryz.results147, go_sem, e0, e1, e2]) rfl ⟨rfl, g3⟩
theorem modeOf_2 (w : World) : Calls Tryz.prog 147 #[.int .i64 2] w fun e w' => e = .returned (.agg #[.bool false, .bool true, .bool false]) ∧ w.grownBy w' none := by
  obtain ⟨z, hz⟩ : ∃ z, w.heap.size = z := ⟨_, rfl⟩
  have b1 : Blk (w.alloc (.cells #[.bool false, .bool false, .bool false] 38)) z [.bool false, .bool false, .bool false] 38 := by rw [← hz]; exact Blk.new w _ _
  have g1 : w.grownBy (w.alloc (.cells #[.bool false, .bool false, .bool false] 38)) none := World.grownBy_alloc w _ _
  replace hz := Lib.hid hz
  go_enter Tryz.func147, Tryz.ntmps147
  go_upto_region 1 with fail
  try simp only [hz.out]
  generalize (w.alloc (.cells #[.bool false, .bool false, .bool false] 38)) = w1 at b1 g1 ⊢
  have z0 := b1.cell (i := 0) rfl
  have z1 := b1.cell (i := 1) rfl
  have z2 := b1.cell (i := 2) rfl
  have f0 := b1.frozen 0
  have f1 := b1.frozen 1
  have f2 := b1.frozen 2
  have hzl := b1.lt
  replace b1 := Lib.hid b1
  replace g1 := Lib.hid g1
  go_wp2
  have b3 := ((b1.out.set 0 (.bool false)).set 1 (.bool true)).set 2 (.bool false)
  have g3 := grown_setNew (grown_setNew (grown_setNew g1.out (Nat.le_of_eq hz.out) 0 (.bool false)) (Nat.le_of_eq hz.out) 1 (.bool true)) (Nat.le_of_eq hz.out) 2 (.bool false)
  generalize ((w1.setCell ⟨z, 0, none⟩ (.bool false)).setCell ⟨z, 1, none⟩ (.bool true)).setCell ⟨z, 2, none⟩ (.bool false) = w3 at b3 g3 ⊢
  have e0 := b3.cell (i := 0) rfl
  have e1 := b3.cell (i := 1) rfl
  have e2 := b3.cell (i := 2) rfl
  exact bodyPost_ret (v := .agg #[.bool false, .bool true, .bool false]) (by simp [results, Tryz.results147, go_sem, e0, e1, e2]) rfl ⟨rfl, g3⟩
theorem modeOf_3 (w : World) : Calls Tryz.prog 147 #[.int .i64 3] w fun e w' => e = .returned (.agg #[.bool false, .bool true, .bool true]) ∧ w.grownBy w' none := by
  obtain ⟨z, hz⟩ : ∃ z, w.heap.size = z := ⟨_, rfl⟩
  have b1 : Blk (w.alloc (.cells #[.bool false, .bool false, .bool false] 38)) z [.bool false, .bool false, .bool false] 38 := by rw [← hz]; exact Blk.new w _ _
  have g1 : w.grownBy (w.alloc (.cells #[.bool false, .bool false, .bool false] 38)) none := World.grownBy_alloc w _ _
  replace hz := Lib.hid hz
  go_enter Tryz.func147, Tryz.ntmps147
  go_upto_region 1 with fail
  try simp only [hz.out]
  generalize (w.alloc (.cells #[.bool false, .bool false, .bool false] 38)) = w1 at b1 g1 ⊢
  have z0 := b1.cell (i := 0) rfl
  have z1 := b1.cell (i := 1) rfl
  have z2 := b1.cell (i := 2) rfl
  have f0 := b1.frozen 0
  have f1 := b1.frozen 1
  have f2 := b1.frozen 2
  have hzl := b1.lt
  replace b1 := Lib.hid b1
  replace g1 := Lib.hid g1
  go_wp2
  have b3 := ((b1.out.set 0 (.bool false)).set 1 (.bool true)).set 2 (.bool true)
  have g3 := grown_setNew (grown_setNew (grown_setNew g1.out (Nat.le_of_eq hz.out) 0 (.bool false)) (Nat.le_of_eq hz.out) 1 (.bool true)) (Nat.le_of_eq hz.out) 2 (.bool true)
  generalize ((w1.setCell ⟨z, 0, none⟩ (.bool false)).setCell ⟨z, 1, none⟩ (.bool true)).setCell ⟨z, 2, none⟩ (.bool true) = w3 at b3 g3 ⊢
  have e0 := b3.cell (i := 0) rfl
  have e1 := b3.cell (i := 1) rfl
  have e2 := b3.cell (i := 2) rfl
  exact bodyPost_ret (v := .agg #[.bool false, .bool true, .bool true]) (by simp [results, Tryz.results147, go_sem, e0, e1, e2]) rfl ⟨rfl, g3⟩
theorem modeOf_4 (w : World) : Calls Tryz.prog 147 #[.int .i64 4] w fun e w' => e = .returned (.agg #[.bool true, .bool true, .bool false]) ∧ w.grownBy w' none := by
  obtain ⟨z, hz⟩ : ∃ z, w.heap.size = z := ⟨_, rfl⟩
  have b1 : Blk (w.alloc (.cells #[.bool false, .bool false, .bool false] 38)) z [.bool false, .bool false, .bool false] 38 := by rw [← hz]; exact Blk.new w _ _
  have g1 : w.grownBy (w.alloc (.cells #[.bool false, .bool false, .bool false] 38)) none := World.grownBy_alloc w _ _
  replace hz := Lib.hid hz
  go_enter Tryz.func147, Tryz.ntmps147
  go_upto_region 1 with fail
  try simp only [hz.out]
  generalize (w.alloc (.cells #[.bool false, .bool false, .bool false] 38)) = w1 at b1 g1 ⊢
  have z0 := b1.cell (i := 0) rfl
  have z1 := b1.cell (i := 1) rfl
  have z2 := b1.cell (i := 2) rfl
  have f0 := b1.frozen 0
  have f1 := b1.frozen 1
  have f2 := b1.frozen 2
  have hzl := b1.lt
  replace b1 := Lib.hid b1
  replace g1 := Lib.hid g1
  go_wp2
  have b3 := ((b1.out.set 0 (.bool true)).set 1 (.bool true)).set 2 (.bool false)
  have g3 := grown_setNew (grown_setNew (grown_setNew g1.out (Nat.le_of_eq hz.out) 0 (.bool true)) (Nat.le_of_eq hz.out) 1 (.bool true)) (Nat.le_of_eq hz.out) 2 (.bool false)
  generalize ((w1.setCell ⟨z, 0, none⟩ (.bool true)).setCell ⟨z, 1, none⟩ (.bool true)).setCell ⟨z, 2, none⟩ (.bool false) = w3 at b3 g3 ⊢
  have e0 := b3.cell (i := 0) rfl
  have e1 := b3.cell (i := 1) rfl
  have e2 := b3.cell (i := 2) rfl
  exact bodyPost_ret (v := .agg #[.bool true, .bool true, .bool false]) (by simp [results, Tryz.results147, go_sem, e0, e1, e2]) rfl ⟨rfl, g3⟩
theorem modeOf_any (k : Nat) (h1 : 1 ≤ k) (h4 : k ≤ 4) (w : World) : Calls Tryz.prog 147 #[.int .i64 (k : Int)] w fun e w' => e = .returned (modeV k) ∧ w.grownBy w' none := by
  rcases (by omega : k = 1 ∨ k = 2 ∨ k = 3 ∨ k = 4) with rfl | rfl | rfl | rfl
  · exact modeOf_1 w
  · exact modeOf_2 w
  · exact modeOf_3 w
  · exact modeOf_4 w
section
variable {fb tb lb pb : Nat} {ps : List Pt} {w : World}
theorem openFile_any (hp : PB w pb fb tb lb ps) {d : Pt} (hd : ps[16]? = some d) (path : ByteArray) (kind : Nat) (h1 : 1 ≤ kind) (h4 : kind ≤ 4) (W1 W2 : Int) (NS : Int → Int → World → Prop) (RF : Int → Int → Int → World → Prop) (R : Int → Int → World → Prop)
    (hW : ∀ w1, w.grownBy w1 none → Calls Tryz.prog 69 #[.pointer (some ⟨fb, 0, none⟩), .int .i64 d.v, .string path, .bool true] w1 fun e w' => e = .returned (.tuple #[.int .i64 W1, .int .i64 W2]) ∧ w.grownBy w' none)
    (hWN : ∀ w', w.grownBy w' none → ¬ (W2 = 10 ∧ kind ≠ 1) → NS W1 W2 w')
    (hM : W2 = 10 → kind ≠ 1 → ∀ w1, w.grownBy w1 none → Calls Tryz.prog 43 #[.pointer (some ⟨fb, 0, none⟩), .int .i64 d.v, .string path, .int .i64 2, .string ⟨#[]⟩] w1 fun e w' => ∃ n er, e = .returned (.tuple #[.int .i64 n, .int .i64 er]) ∧ NS n er w')
    (hNP : ∀ n er w1, NS n er w1 → PB w1 pb fb tb lb ps)
    (hN : ∀ n er w1, NS n er w1 → er ≠ 0 → R 0 er w1)
    (hF : ∀ n w1 w2, NS n 0 w1 → w1.grownBy w2 none → Calls Tryz.prog 34 #[.pointer (some ⟨tb, 0, none⟩), .int .i64 n, modeV kind] w2 fun e w' => ∃ id er, e = .returned (.tuple #[.int .i64 id, .int .i64 er]) ∧ RF n id er w')
    (hFP : ∀ n id er w1, RF n id er w1 → PB w1 pb fb tb lb ps)
    (hC : kind = 2 → ∀ n id w1, RF n id 0 w1 → Calls Tryz.prog 148 #[.pointer (some ⟨fb, 0, none⟩), .int .i64 n, .int .i64 0] w1 fun e w' => (∃ er, e = .returned (.int .i64 er)) ∧ R id 0 w')
    (hR : ∀ n id er w1, RF n id er w1 → er ≠ 0 ∨ kind ≠ 2 → R id er w1) :
    Calls Tryz.prog 117 #[ptrV pb, .string path, .int .i64 (kind : Int)] w fun e w' => ∃ id er, e = .returned (.tuple #[.int .i64 id, .int .i64 er]) ∧ R id er w' := by
  have c0 : w.cell? ⟨pb, 0, none⟩ = some (.pointer (some ⟨fb, 0, none⟩)) := hp.cell (i := 0) rfl
  have c35 : w.cell? ⟨pb, 35, none⟩ = some (.int .i64 d.v) := hp.cell (procC_v (fb := fb) (tb := tb) (lb := lb) hd)
  have hpl := hp.lt
  have hmo := fun w => modeOf_any kind h1 h4 w
  replace hW := Lib.hid hW
  replace hWN := Lib.hid hWN
  replace hM := Lib.hid hM
  replace hNP := Lib.hid hNP
  replace hN := Lib.hid hN
  replace hF := Lib.hid hF
  replace hFP := Lib.hid hFP
  replace hC := Lib.hid hC
  replace hR := Lib.hid hR
  replace hmo := Lib.hid hmo
  replace hp := Lib.hid hp
  unfold ptrV
  go_enter Tryz.func117, Tryz.ntmps117
  go_upto_region 1 with fail
  have g0 : w.grownBy w.drew none := grownBy_drewN (grownBy_re w) 1
  have hW0 := hW.out w.drew g0
  have hk0 : w.drew.cell? ⟨pb, 0, none⟩ = some (.pointer (some ⟨fb, 0, none⟩)) ∧ w.drew.cell? ⟨pb, 35, none⟩ = some (.int .i64 d.v) := ⟨c0, c35⟩
  replace hW0 := Lib.hid hW0
  replace g0 := Lib.hid g0
  go_region_held3 (fun w' => w'.cell? ⟨pb, 0, none⟩ = some (.pointer (some ⟨fb, 0, none⟩)) ∧ w'.cell? ⟨pb, 35, none⟩ = some (.int .i64 d.v))
    (first | go_keep | exact hk0 | exact hkk)
    ((go_at_call 69; refine hW0.out.mono ?_; rintro e w5 ⟨rfl, g5⟩; have hkk : w5.cell? ⟨pb, 0, none⟩ = some (.pointer (some ⟨fb, 0, none⟩)) ∧ w5.cell? ⟨pb, 35, none⟩ = some (.int .i64 d.v) := ⟨(World.cell?_of_block (a := ⟨pb, 0, none⟩) (g5.block pb hpl (by simp))).trans c0, (World.cell?_of_block (a := ⟨pb, 35, none⟩) (g5.block pb hpl (by simp))).trans c35⟩))
  have hp5 : PB w5 pb fb tb lb ps := (g5.block pb hpl (by simp)).trans hp.out
  replace g5 := Lib.hid g5
  replace hp5 := Lib.hid hp5
  clear hk0 hW0 g0 hW c0 c35
  have hpl5 := hp5.out.lt
  obtain ⟨d0, d35⟩ := hkk
  have e10 : (W2 == 10) = decide (W2 = 10) := by
    by_cases h : W2 = 10
    · subst h; rfl
    · rw [decide_eq_false h, beq_eq_false_iff_ne]; exact h
  have ek1 : ((kind : Int) == 1) = decide (kind = 1) := by
    by_cases h : kind = 1
    · subst h; rfl
    · rw [decide_eq_false h, beq_eq_false_iff_ne]; omega
  have ek2 : ((kind : Int) == 2) = decide (kind = 2) := by
    by_cases h : kind = 2
    · subst h; rfl
    · rw [decide_eq_false h, beq_eq_false_iff_ne]; omega
  obtain ⟨cb, hcb⟩ : ∃ cb, decide (W2 = 10 ∧ kind ≠ 1) = cb := ⟨_, rfl⟩
  go_upto_region 2 with fail
  go_cut [30] from 25 to 29 (fun t30 wx => t30 = .bool cb ∧ wx = w5)
  case first =>
    by_cases hc1 : W2 = 10
    · by_cases hc2 : kind = 1
      · obtain rfl : cb = false := by rw [← hcb]; simp [hc2]
        rw [decide_eq_true hc1] at e10
        rw [decide_eq_true hc2] at ek1
        clear hc1 hc2 ek2 hcb
        go_wp2_with fail
        go_meet
        first
          | exact ⟨rfl, rfl⟩
          | exact ⟨by show Value.bool (!((kind : Int) == 1)) = _; rw [ek1]; rfl, rfl⟩
      · obtain rfl : cb = true := by rw [← hcb]; simp [hc1, hc2]
        rw [decide_eq_true hc1] at e10
        rw [decide_eq_false hc2] at ek1
        clear hc1 hc2 ek2 hcb
        go_wp2_with fail
        go_meet
        first
          | exact ⟨rfl, rfl⟩
          | exact ⟨by show Value.bool (!((kind : Int) == 1)) = _; rw [ek1]; rfl, rfl⟩
    · obtain rfl : cb = false := by rw [← hcb]; simp [hc1]
      rw [decide_eq_false hc1] at e10
      clear hc1 ek2 hcb
      go_wp2_with fail
      go_meet
      first
          | exact ⟨rfl, rfl⟩
          | exact ⟨by show Value.bool (!((kind : Int) == 1)) = _; rw [ek1]; rfl, rfl⟩
  case rest =>
  obtain ⟨rfl, hwc⟩ := hcut
  obtain rfl := hwc.symm
  clear hwc
  replace hcb := Lib.hid hcb
  go_upto_if 30 with fail
  go_cut [8, 9] from 31 to 44 (fun t8 t9 wx => ∃ n er, t8 = .int .i64 n ∧ t9 = .int .i64 er ∧ Hid (NS n er wx))
  case first =>
    cases cb with
    | true =>
      have hc := of_decide_eq_true hcb.out
      obtain ⟨hc1, hc2⟩ := hc
      have g6 : w.grownBy w5.drew none := grownBy_drewN g5.out 1
      have hM6 := hM.out hc1 hc2 w5.drew g6
      have hk0 : w5.drew.cell? ⟨pb, 0, none⟩ = some (.pointer (some ⟨fb, 0, none⟩)) ∧ w5.drew.cell? ⟨pb, 35, none⟩ = some (.int .i64 d.v) := ⟨d0, d35⟩
      replace hM6 := Lib.hid hM6
      clear hc1 hc2 ek2 ek1 e10 hM g6
      go_upto_region 3 with fail
      go_region_held3 (fun w' => w'.cell? ⟨pb, 0, none⟩ = some (.pointer (some ⟨fb, 0, none⟩)) ∧ w'.cell? ⟨pb, 35, none⟩ = some (.int .i64 d.v))
        (first | go_keep | exact hk0 | exact hkk)
        ((go_at_call 43; refine hM6.out.mono ?_; rintro e w7 ⟨n, er, rfl, hNS⟩; have hp7 := hNP.out n er w7 hNS; have hkk : w7.cell? ⟨pb, 0, none⟩ = some (.pointer (some ⟨fb, 0, none⟩)) ∧ w7.cell? ⟨pb, 35, none⟩ = some (.int .i64 d.v) := ⟨hp7.cell (i := 0) rfl, hp7.cell (procC_v (fb := fb) (tb := tb) (lb := lb) hd)⟩))
      go_wp2_with fail
      go_meet
      exact ⟨n, er, rfl, rfl, Lib.hid hNS⟩
    | false =>
      have hc := of_decide_eq_false hcb.out
      have hNS := hWN.out w5 g5.out hc
      replace hNS := Lib.hid hNS
      clear hc ek1 ek2 e10
      go_wp2_with fail
      go_meet
      exact ⟨_, _, rfl, rfl, hNS⟩
  case rest =>
    clear hcb
    obtain ⟨n, er, rfl, rfl, hNS⟩ := hcut
    have hpc := hNP.out n er wc hNS.out
    clear hWN hM hpl5 hp5 g5 d0 d35 hpl hp ek1 e10
    by_cases her : er = 0
    · subst her
      have g6 : wc.grownBy wc.drew none := grownBy_drewN (grownBy_re wc) 1
      have c1 : wc.cell? ⟨pb, 1, none⟩ = some (.pointer (some ⟨tb, 0, none⟩)) := hpc.cell (i := 1) rfl
      have hk0 : wc.drew.cell? ⟨pb, 1, none⟩ = some (.pointer (some ⟨tb, 0, none⟩)) := c1
      have hpl := hpc.lt
      replace hpc := Lib.hid hpc
      replace g6 := Lib.hid g6
      go_upto_region 6 with fail
      go_region_held3 (fun w' => w'.cell? ⟨pb, 1, none⟩ = some (.pointer (some ⟨tb, 0, none⟩)))
        (first | go_keep | exact hk0 | exact hkk | exact hkk2)
        (first
          | (go_at_call 147; refine (hmo.out _).mono ?_; rintro e w6 ⟨rfl, g7⟩; have g8 := grownBy_tr g6.out g7; have hkk : w6.cell? ⟨pb, 1, none⟩ = some (.pointer (some ⟨tb, 0, none⟩)) := (World.cell?_of_block (a := ⟨pb, 1, none⟩) (g8.block pb hpl (by simp))).trans c1)
          | (go_at_call 34; refine (hF.out n wc _ hNS.out g8).mono ?_; rintro e w7 ⟨id, er, rfl, hRF⟩; have hp7 := hFP.out n id er w7 hRF; have hkk2 : w7.cell? ⟨pb, 1, none⟩ = some (.pointer (some ⟨tb, 0, none⟩)) := hp7.cell (i := 1) rfl))
      have f0 : w7.cell? ⟨pb, 0, none⟩ = some (.pointer (some ⟨fb, 0, none⟩)) := hp7.cell (i := 0) rfl
      have hpl7 := hp7.lt
      replace hp7 := Lib.hid hp7
      replace hRF := Lib.hid hRF
      clear hk0 hkk hkk2 c1 hpl g7 g8 g6 hF hNS hpc
      by_cases her : er = 0
      · subst her
        by_cases hk2 : kind = 2
        · have hCc := hC.out hk2 n id w7 hRF.out
          rw [decide_eq_true hk2] at ek2
          replace hCc := Lib.hid hCc
          clear hk2
          go_wp2_with fail
          refine hCc.out.mono ?_
          rintro e w8 ⟨⟨er, rfl⟩, hRR⟩
          replace hRR := Lib.hid hRR
          clear f0 hCc
          go_wp2
          go_ret2
          exact ⟨_, _, rfl, hRR.out⟩
        · have hRR := hR.out n id 0 w7 hRF.out (.inr hk2)
          rw [decide_eq_false hk2] at ek2
          replace hRR := Lib.hid hRR
          clear hk2
          go_wp2
          go_ret2
          exact ⟨_, _, rfl, hRR.out⟩
      · have hRR := hR.out n id er w7 hRF.out (.inl her)
        have e0 : (er == 0) = false := by rw [beq_eq_false_iff_ne]; exact her
        replace hRR := Lib.hid hRR
        clear her
        go_wp2
        go_ret2
        exact ⟨_, _, rfl, hRR.out⟩
    · have hRR := hN.out n er wc hNS.out her
      have e0 : (er == 0) = false := by rw [beq_eq_false_iff_ne]; exact her
      replace hRR := Lib.hid hRR
      clear her hpc
      go_wp2
      go_ret2
      exact ⟨_, _, rfl, hRR.out⟩
end
section
variable {fb tb lb pb : Nat} {ps : List Pt} {w : World}
theorem fdE_ne {fd : Int} (h : fd < 0 ∨ 16 ≤ fd) : fdE fd = 18 := if_pos h
theorem fdE_in {i : Nat} (h : i < 16) : fdE (i : Int) = 0 := if_neg (by omega)
theorem PClose_bad (hp : PB w pb fb tb lb ps) (fd x : Int) (t : ByteArray) (hfd : fd < 0 ∨ 16 ≤ fd) : Calls Tryz.prog 24 #[ptrV pb, .int .i64 fd] w fun e w' => e = .returned (.int .i64 18) ∧ w' = w := by
  have hc := checkFd_any hp fd
  rw [fdE_ne hfd] at hc
  unfold ptrV at hc ⊢
  clear hp hfd
  go_enter Tryz.func24, Tryz.ntmps24
  go_wp2_with fail
  refine hc.mono ?_
  rintro e w' ⟨rfl, hw⟩
  obtain rfl := hw.symm
  clear hw
  go_wp2
  go_ret
  exact ⟨rfl, rfl⟩
theorem PPut_bad (hp : PB w pb fb tb lb ps) (fd x : Int) (t : ByteArray) (hfd : fd < 0 ∨ 16 ≤ fd) : Calls Tryz.prog 72 #[ptrV pb, .int .i64 fd, .int .i64 x] w fun e w' => e = .returned (.int .i64 18) ∧ w' = w := by
  have hc := checkFd_any hp fd
  rw [fdE_ne hfd] at hc
  unfold ptrV at hc ⊢
  clear hp hfd
  go_enter Tryz.func72, Tryz.ntmps72
  go_wp2_with fail
  refine hc.mono ?_
  rintro e w' ⟨rfl, hw⟩
  obtain rfl := hw.symm
  clear hw
  go_wp2
  go_ret
  exact ⟨rfl, rfl⟩
theorem PDup_bad (hp : PB w pb fb tb lb ps) (fd x : Int) (t : ByteArray) (hfd : fd < 0 ∨ 16 ≤ fd) : Calls Tryz.prog 73 #[ptrV pb, .int .i64 fd, .int .i64 x] w fun e w' => e = .returned (.int .i64 18) ∧ w' = w := by
  have hc := checkFd_any hp fd
  rw [fdE_ne hfd] at hc
  unfold ptrV at hc ⊢
  clear hp hfd
  go_enter Tryz.func73, Tryz.ntmps73
  go_wp2_with fail
  refine hc.mono ?_
  rintro e w' ⟨rfl, hw⟩
  obtain rfl := hw.symm
  clear hw
  go_wp2
  go_ret
  exact ⟨rfl, rfl⟩
theorem POpen_bad (hp : PB w pb fb tb lb ps) (fd x : Int) (t : ByteArray) (hfd : fd < 0 ∨ 16 ≤ fd) : Calls Tryz.prog 67 #[ptrV pb, .int .i64 fd, .string t, .int .i64 x] w fun e w' => e = .returned (.int .i64 18) ∧ w' = w := by
  have hc := checkFd_any hp fd
  rw [fdE_ne hfd] at hc
  unfold ptrV at hc ⊢
  clear hp hfd
  go_enter Tryz.func67, Tryz.ntmps67
  go_wp2_with fail
  refine hc.mono ?_
  rintro e w' ⟨rfl, hw⟩
  obtain rfl := hw.symm
  clear hw
  go_wp2
  go_ret
  exact ⟨rfl, rfl⟩
theorem POpen_kind (hp : PB w pb fb tb lb ps) {i : Nat} (hi : i < 16) (x : Int) (hx : x < 1 ∨ 4 < x) (t : ByteArray) : Calls Tryz.prog 67 #[ptrV pb, .int .i64 (i : Int), .string t, .int .i64 x] w fun e w' => e = .returned (.int .i64 1) ∧ w' = w := by
  have hc := checkFd_any hp (i : Int)
  rw [fdE_in hi] at hc
  unfold ptrV at hc ⊢
  clear hp
  rcases hx with hx | hx
  · go_enter Tryz.func67, Tryz.ntmps67
    go_wp2_with fail
    refine hc.mono ?_
    rintro e w' ⟨rfl, hw⟩
    obtain rfl := hw.symm
    go_wp2
    go_ret
    exact ⟨rfl, rfl⟩
  · have hx1 : ¬ x < 1 := by omega
    go_enter Tryz.func67, Tryz.ntmps67
    go_wp2_with fail
    refine hc.mono ?_
    rintro e w' ⟨rfl, hw⟩
    obtain rfl := hw.symm
    go_wp2
    go_ret
    exact ⟨rfl, rfl⟩
theorem PClose_any (hp : PB w pb fb tb lb ps) {i : Nat} (hi : i < 16) (R : Int → World → Prop)
    (hch : Calls Tryz.prog 83 #[ptrV pb, partP pb i, .int .i64 0, .func (.func 84) #[ptrV pb] #[]] w fun e w' => ∃ er, e = .returned (.int .i64 er) ∧ R er w') :
    Calls Tryz.prog 24 #[ptrV pb, .int .i64 (i : Int)] w fun e w' => ∃ er, e = .returned (.int .i64 er) ∧ R er w' := by
  have hc := checkFd_any hp (i : Int)
  rw [fdE_in hi] at hc
  unfold ptrV at hc hch ⊢
  unfold partP at hch
  have hpl := hp.lt
  have hi2 : ¬ 16 ≤ i := by omega
  clear hp
  go_enter Tryz.func24, Tryz.ntmps24
  go_wp2_with fail
  refine hc.mono ?_
  rintro e w' ⟨rfl, hw⟩
  obtain rfl := hw.symm
  clear hw
  go_wp2_with fail
  refine hch.mono ?_
  rintro e w' ⟨er, rfl, hR⟩
  replace hR := Lib.hid hR
  go_wp2
  go_ret
  exact ⟨_, rfl, hR.out⟩
theorem POpen_any (hp : PB w pb fb tb lb ps) {i : Nat} (hi : i < 16) (t : ByteArray) (k : Nat) (h1 : 1 ≤ k) (h4 : k ≤ 4) (R1 : Int → Int → World → Prop) (R : Int → World → Prop)
    (hO : Calls Tryz.prog 117 #[ptrV pb, .string t, .int .i64 (k : Int)] w fun e w' => ∃ id er, e = .returned (.tuple #[.int .i64 id, .int .i64 er]) ∧ R1 id er w')
    (h0 : ∀ id er w1, R1 id er w1 → er ≠ 0 → R er w1)
    (hch : ∀ id w1, R1 id 0 w1 → pb < w1.heap.size ∧ Calls Tryz.prog 83 #[ptrV pb, partP pb i, .int .i64 id, .func (.func 84) #[ptrV pb] #[]] w1 fun e w' => ∃ er, e = .returned (.int .i64 er) ∧ R er w') :
    Calls Tryz.prog 67 #[ptrV pb, .int .i64 (i : Int), .string t, .int .i64 (k : Int)] w fun e w' => ∃ er, e = .returned (.int .i64 er) ∧ R er w' := by
  have hc := checkFd_any hp (i : Int)
  rw [fdE_in hi] at hc
  unfold ptrV at hc hch hO ⊢
  unfold partP at hch
  have k1 : ¬ (k : Int) < 1 := by omega
  have k4 : ¬ (4 : Int) < (k : Int) := by omega
  have hi2 : ¬ 16 ≤ i := by omega
  replace hch := Lib.hid hch
  replace h0 := Lib.hid h0
  clear hp
  go_enter Tryz.func67, Tryz.ntmps67
  go_wp2_with fail
  refine hc.mono ?_
  rintro e w' ⟨rfl, hw⟩
  obtain rfl := hw.symm
  clear hw
  go_wp2_with fail
  refine hO.mono ?_
  rintro e w1 ⟨id, er, rfl, hR1⟩
  clear hO hc
  by_cases her : er = 0
  · subst her
    obtain ⟨hpl, hcc⟩ := hch.out id w1 hR1
    replace hR1 := Lib.hid hR1
    go_wp2_with fail
    refine hcc.mono ?_
    rintro e w' ⟨er, rfl, hR⟩
    replace hR := Lib.hid hR
    go_wp2
    go_ret
    exact ⟨_, rfl, hR.out⟩
  · have hR := h0.out id er w1 hR1 her
    have e0 : (er == 0) = false := by rw [beq_eq_false_iff_ne]; exact her
    replace hR := Lib.hid hR
    replace hR1 := Lib.hid hR1
    clear her
    go_wp2
    go_ret
    exact ⟨_, rfl, hR.out⟩
theorem PPut_any (hp : PB w pb fb tb lb ps) {i : Nat} (hi : i < 16) (x : Int) (R1 : Int → World → Prop) (R : Int → World → Prop)
    (hO : Calls Tryz.prog 35 #[.pointer (some ⟨tb, 0, none⟩), .int .i64 x] w fun e w' => ∃ er, e = .returned (.int .i64 er) ∧ R1 er w')
    (h0 : ∀ er w1, R1 er w1 → er ≠ 0 → R 1 w1)
    (hch : ∀ w1, R1 0 w1 → pb < w1.heap.size ∧ Calls Tryz.prog 83 #[ptrV pb, partP pb i, .int .i64 x, .func (.func 84) #[ptrV pb] #[]] w1 fun e w' => ∃ er, e = .returned (.int .i64 er) ∧ R er w') :
    Calls Tryz.prog 72 #[ptrV pb, .int .i64 (i : Int), .int .i64 x] w fun e w' => ∃ er, e = .returned (.int .i64 er) ∧ R er w' := by
  have hc := checkFd_any hp (i : Int)
  rw [fdE_in hi] at hc
  have c1 : w.cell? ⟨pb, 1, none⟩ = some (.pointer (some ⟨tb, 0, none⟩)) := hp.cell (i := 1) rfl
  have hpl := hp.lt
  unfold ptrV at hc hch ⊢
  unfold partP at hch
  have hi2 : ¬ 16 ≤ i := by omega
  replace hch := Lib.hid hch
  replace h0 := Lib.hid h0
  clear hp
  go_enter Tryz.func72, Tryz.ntmps72
  go_wp2_with fail
  refine hc.mono ?_
  rintro e w' ⟨rfl, hw⟩
  obtain rfl := hw.symm
  clear hw
  go_wp2_with fail
  refine hO.mono ?_
  rintro e w1 ⟨er, rfl, hR1⟩
  clear hO hc c1 hpl
  by_cases her : er = 0
  · subst her
    obtain ⟨hpl, hcc⟩ := hch.out w1 hR1
    replace hR1 := Lib.hid hR1
    go_wp2_with fail
    refine hcc.mono ?_
    rintro e w' ⟨er, rfl, hR⟩
    replace hR := Lib.hid hR
    go_wp2
    go_ret
    exact ⟨_, rfl, hR.out⟩
  · have hR := h0.out er w1 hR1 her
    have e0 : (er == 0) = false := by rw [beq_eq_false_iff_ne]; exact her
    replace hR := Lib.hid hR
    replace hR1 := Lib.hid hR1
    clear her
    go_wp2
    go_ret
    exact ⟨_, rfl, hR.out⟩
theorem PDup_no (hp : PB w pb fb tb lb ps) {i : Nat} (hi : i < 16) (x id er : Int) (hf : Calls Tryz.prog 91 #[ptrV pb, .int .i64 x] w fun e w' => e = .returned (.tuple #[.int .i64 id, .int .i64 er]) ∧ w' = w) (hno : er ≠ 0 ∨ (i : Int) = x) :
    Calls Tryz.prog 73 #[ptrV pb, .int .i64 (i : Int), .int .i64 x] w fun e w' => e = .returned (.int .i64 er) ∧ w' = w := by
  have hc := checkFd_any hp (i : Int)
  rw [fdE_in hi] at hc
  unfold ptrV at hc hf ⊢
  clear hp
  by_cases her : er = 0
  · have hx := hno.resolve_left fun h => h her
    subst her
    subst hx
    go_enter Tryz.func73, Tryz.ntmps73
    go_wp2_with fail
    refine hc.mono ?_
    rintro e w' ⟨rfl, hw⟩
    obtain rfl := hw.symm
    clear hw
    go_wp2_with fail
    refine hf.mono ?_
    rintro e w' ⟨rfl, hw⟩
    obtain rfl := hw.symm
    clear hw
    go_wp2
    go_ret
    exact ⟨rfl, rfl⟩
  · have e0 : (er == 0) = false := by rw [beq_eq_false_iff_ne]; exact her
    clear her hno
    go_enter Tryz.func73, Tryz.ntmps73
    go_wp2_with fail
    refine hc.mono ?_
    rintro e w' ⟨rfl, hw⟩
    obtain rfl := hw.symm
    clear hw
    go_wp2_with fail
    refine hf.mono ?_
    rintro e w' ⟨rfl, hw⟩
    obtain rfl := hw.symm
    clear hw
    go_wp2
    go_ret
    exact ⟨rfl, rfl⟩
theorem PDup_put (hp : PB w pb fb tb lb ps) {i : Nat} (hi : i < 16) (x id : Int) (hf : Calls Tryz.prog 91 #[ptrV pb, .int .i64 x] w fun e w' => e = .returned (.tuple #[.int .i64 id, .int .i64 0]) ∧ w' = w) (hx : (i : Int) ≠ x) (R : Int → World → Prop)
    (hO : Calls Tryz.prog 72 #[ptrV pb, .int .i64 (i : Int), .int .i64 id] w fun e w' => ∃ er, e = .returned (.int .i64 er) ∧ R er w') :
    Calls Tryz.prog 73 #[ptrV pb, .int .i64 (i : Int), .int .i64 x] w fun e w' => ∃ er, e = .returned (.int .i64 er) ∧ R er w' := by
  have hc := checkFd_any hp (i : Int)
  rw [fdE_in hi] at hc
  have e0 : ((i : Int) == x) = false := by rw [beq_eq_false_iff_ne]; exact hx
  unfold ptrV at hc hf hO ⊢
  clear hp hx
  go_enter Tryz.func73, Tryz.ntmps73
  go_wp2_with fail
  refine hc.mono ?_
  rintro e w' ⟨rfl, hw⟩
  obtain rfl := hw.symm
  clear hw
  go_wp2_with fail
  refine hf.mono ?_
  rintro e w' ⟨rfl, hw⟩
  obtain rfl := hw.symm
  clear hw
  go_wp2_with fail
  refine hO.mono ?_
  rintro e w1 ⟨er, rfl, hR⟩
  replace hR := Lib.hid hR
  go_wp2
  go_ret
  exact ⟨_, rfl, hR.out⟩
theorem PRead_no (v : Value) (x n id er : Int) (her : er ≠ 0) (hf : Calls Tryz.prog 91 #[v, .int .i64 x] w fun e w' => e = .returned (.tuple #[.int .i64 id, .int .i64 er]) ∧ w' = w) :
    Calls Tryz.prog 74 #[v, .int .i64 x, .int .i64 n] w fun e w' => e = .returned (.tuple #[.string ⟨#[]⟩, .int .i64 er]) ∧ w' = w := by
  have e0 : (er == 0) = false := by rw [beq_eq_false_iff_ne]; exact her
  clear her
  go_enter Tryz.func74, Tryz.ntmps74
  go_wp2_with fail
  refine hf.mono ?_
  rintro e w' ⟨rfl, hw⟩
  obtain rfl := hw.symm
  clear hw
  go_wp2
  go_ret2
  exact ⟨rfl, rfl⟩
theorem PWrite_no (v : Value) (x id er : Int) (t : ByteArray) (her : er ≠ 0) (hf : Calls Tryz.prog 91 #[v, .int .i64 x] w fun e w' => e = .returned (.tuple #[.int .i64 id, .int .i64 er]) ∧ w' = w) :
    Calls Tryz.prog 68 #[v, .int .i64 x, .string t] w fun e w' => e = .returned (.int .i64 er) ∧ w' = w := by
  have e0 : (er == 0) = false := by rw [beq_eq_false_iff_ne]; exact her
  clear her
  go_enter Tryz.func68, Tryz.ntmps68
  go_wp2_with fail
  refine hf.mono ?_
  rintro e w' ⟨rfl, hw⟩
  obtain rfl := hw.symm
  clear hw
  go_wp2
  go_ret
  exact ⟨rfl, rfl⟩
theorem PRead_any (hp : PB w pb fb tb lb ps) (x n id : Int) (hf : Calls Tryz.prog 91 #[ptrV pb, .int .i64 x] w fun e w' => e = .returned (.tuple #[.int .i64 id, .int .i64 0]) ∧ w' = w) (R : ByteArray → Int → World → Prop)
    (hO : Calls Tryz.prog 36 #[.pointer (some ⟨tb, 0, none⟩), .int .i64 id, .int .i64 n] w fun e w' => ∃ t er, e = .returned (.tuple #[.string t, .int .i64 er]) ∧ R t er w') :
    Calls Tryz.prog 74 #[ptrV pb, .int .i64 x, .int .i64 n] w fun e w' => ∃ t er, e = .returned (.tuple #[.string t, .int .i64 er]) ∧ R t er w' := by
  have c1 : w.cell? ⟨pb, 1, none⟩ = some (.pointer (some ⟨tb, 0, none⟩)) := hp.cell (i := 1) rfl
  have hpl := hp.lt
  unfold ptrV at hf ⊢
  clear hp
  go_enter Tryz.func74, Tryz.ntmps74
  go_wp2_with fail
  refine hf.mono ?_
  rintro e w' ⟨rfl, hw⟩
  obtain rfl := hw.symm
  clear hw
  go_wp2_with fail
  refine hO.mono ?_
  rintro e w1 ⟨t, er, rfl, hR⟩
  replace hR := Lib.hid hR
  clear c1 hpl
  go_wp2
  go_ret2
  exact ⟨_, _, rfl, hR.out⟩
theorem PWrite_any (hp : PB w pb fb tb lb ps) (x id : Int) (t : ByteArray) (hf : Calls Tryz.prog 91 #[ptrV pb, .int .i64 x] w fun e w' => e = .returned (.tuple #[.int .i64 id, .int .i64 0]) ∧ w' = w) (R : Int → World → Prop)
    (hO : Calls Tryz.prog 39 #[.pointer (some ⟨tb, 0, none⟩), .int .i64 id, .string t] w fun e w' => ∃ er, e = .returned (.int .i64 er) ∧ R er w') :
    Calls Tryz.prog 68 #[ptrV pb, .int .i64 x, .string t] w fun e w' => ∃ er, e = .returned (.int .i64 er) ∧ R er w' := by
  have c1 : w.cell? ⟨pb, 1, none⟩ = some (.pointer (some ⟨tb, 0, none⟩)) := hp.cell (i := 1) rfl
  have hpl := hp.lt
  unfold ptrV at hf ⊢
  clear hp
  go_enter Tryz.func68, Tryz.ntmps68
  go_wp2_with fail
  refine hf.mono ?_
  rintro e w' ⟨rfl, hw⟩
  obtain rfl := hw.symm
  clear hw
  go_wp2_with fail
  refine hO.mono ?_
  rintro e w1 ⟨er, rfl, hR⟩
  replace hR := Lib.hid hR
  clear c1 hpl
  go_wp2
  go_ret
  exact ⟨_, rfl, hR.out⟩
theorem PHandle_any (v : Value) (x id er : Int) (hf : Calls Tryz.prog 91 #[v, .int .i64 x] w fun e w' => e = .returned (.tuple #[.int .i64 id, .int .i64 er]) ∧ w' = w) :
    Calls Tryz.prog 31 #[v, .int .i64 x] w fun e w' => e = .returned (.tuple #[.int .i64 id, .bool (er == 0)]) ∧ w' = w := by
  go_enter Tryz.func31, Tryz.ntmps31
  go_wp2_with fail
  refine hf.mono ?_
  rintro e w' ⟨rfl, hw⟩
  obtain rfl := hw.symm
  clear hw
  go_wp2
  go_ret2
  exact ⟨rfl, rfl⟩
theorem PDir_any (hp : PB w pb fb tb lb ps) {d : Pt} (hd : ps[16]? = some d) : Calls Tryz.prog 28 #[ptrV pb] w fun e w' => e = .returned (.int .i64 d.v) ∧ w' = w := by
  have hi := pisNil_no hp
  have c1 : w.cell? ⟨pb, 35, none⟩ = some (.int .i64 d.v) := hp.cell (procC_v (fb := fb) (tb := tb) (lb := lb) hd)
  have hpl := hp.lt
  unfold ptrV at hi ⊢
  clear hp
  go_enter Tryz.func28, Tryz.ntmps28
  go_wp2_with fail
  refine hi.mono ?_
  rintro e w' ⟨rfl, hw⟩
  obtain rfl := hw.symm
  clear hw
  go_wp2
  go_ret
  exact ⟨rfl, rfl⟩
theorem PMask_any (hp : PB w pb fb tb lb ps) {d : Pt} (hd : ps[17]? = some d) : Calls Tryz.prog 33 #[ptrV pb] w fun e w' => e = .returned (.int .i64 d.v) ∧ w' = w := by
  have hi := pisNil_no hp
  have c1 : w.cell? ⟨pb, 37, none⟩ = some (.int .i64 d.v) := hp.cell (procC_v (fb := fb) (tb := tb) (lb := lb) hd)
  have hpl := hp.lt
  unfold ptrV at hi ⊢
  clear hp
  go_enter Tryz.func33, Tryz.ntmps33
  go_wp2_with fail
  refine hi.mono ?_
  rintro e w' ⟨rfl, hw⟩
  obtain rfl := hw.symm
  clear hw
  go_wp2
  go_ret
  exact ⟨rfl, rfl⟩
theorem PMark_any (hp : PB w pb fb tb lb ps) (R : Int → Int → World → Prop) (hO : Calls Tryz.prog 80 #[.pointer (some ⟨lb, 0, none⟩)] w fun e w' => ∃ n er, e = .returned (.tuple #[.int .i64 n, .int .i64 er]) ∧ R n er w') :
    Calls Tryz.prog 21 #[ptrV pb] w fun e w' => ∃ n er, e = .returned (.tuple #[.int .i64 n, .int .i64 er]) ∧ R n er w' := by
  have hi := pisNil_no hp
  have c1 : w.cell? ⟨pb, 2, none⟩ = some (.pointer (some ⟨lb, 0, none⟩)) := hp.cell (i := 2) rfl
  have hpl := hp.lt
  unfold ptrV at hi ⊢
  clear hp
  go_enter Tryz.func21, Tryz.ntmps21
  go_wp2_with fail
  refine hi.mono ?_
  rintro e w' ⟨rfl, hw⟩
  obtain rfl := hw.symm
  clear hw
  go_wp2_with fail
  refine hO.mono ?_
  rintro e w1 ⟨n, er, rfl, hR⟩
  replace hR := Lib.hid hR
  clear c1 hpl
  go_wp2
  go_ret2
  exact ⟨_, _, rfl, hR.out⟩
theorem PUndo_any (hp : PB w pb fb tb lb ps) (R : Int → World → Prop) (hO : Calls Tryz.prog 81 #[.pointer (some ⟨lb, 0, none⟩)] w fun e w' => ∃ er, e = .returned (.int .i64 er) ∧ R er w') :
    Calls Tryz.prog 23 #[ptrV pb] w fun e w' => ∃ er, e = .returned (.int .i64 er) ∧ R er w' := by
  have hi := pisNil_no hp
  have c1 : w.cell? ⟨pb, 2, none⟩ = some (.pointer (some ⟨lb, 0, none⟩)) := hp.cell (i := 2) rfl
  have hpl := hp.lt
  unfold ptrV at hi ⊢
  clear hp
  go_enter Tryz.func23, Tryz.ntmps23
  go_wp2_with fail
  refine hi.mono ?_
  rintro e w' ⟨rfl, hw⟩
  obtain rfl := hw.symm
  clear hw
  go_wp2_with fail
  refine hO.mono ?_
  rintro e w1 ⟨er, rfl, hR⟩
  replace hR := Lib.hid hR
  clear c1 hpl
  go_wp2
  go_ret
  exact ⟨_, rfl, hR.out⟩
theorem PSetMask_bad (hp : PB w pb fb tb lb ps) (x : Int) (hx : x < 0 ∨ 511 < x) : Calls Tryz.prog 76 #[ptrV pb, .int .i64 x] w fun e w' => e = .returned (.int .i64 1) ∧ w' = w := by
  have hi := pisNil_no hp
  unfold ptrV at hi ⊢
  clear hp
  rcases hx with hx | hx
  · go_enter Tryz.func76, Tryz.ntmps76
    go_wp2_with fail
    refine hi.mono ?_
    rintro e w' ⟨rfl, hw⟩
    obtain rfl := hw.symm
    go_wp2
    go_ret
    exact ⟨rfl, rfl⟩
  · have hx1 : ¬ x < 0 := by omega
    go_enter Tryz.func76, Tryz.ntmps76
    go_wp2_with fail
    refine hi.mono ?_
    rintro e w' ⟨rfl, hw⟩
    obtain rfl := hw.symm
    go_wp2
    go_ret
    exact ⟨rfl, rfl⟩
theorem PSetMask_any (hp : PB w pb fb tb lb ps) (x : Int) (h0 : 0 ≤ x) (h5 : x ≤ 511) (R : Int → World → Prop) (hO : Calls Tryz.prog 83 #[ptrV pb, partP pb 17, .int .i64 x, .func (.func 122) #[] #[]] w fun e w' => ∃ er, e = .returned (.int .i64 er) ∧ R er w') :
    Calls Tryz.prog 76 #[ptrV pb, .int .i64 x] w fun e w' => ∃ er, e = .returned (.int .i64 er) ∧ R er w' := by
  have hi := pisNil_no hp
  have hpl := hp.lt
  have k1 : ¬ x < 0 := by omega
  have k2 : ¬ 511 < x := by omega
  unfold partP at hO
  unfold ptrV at hi hO ⊢
  clear hp h0 h5
  go_enter Tryz.func76, Tryz.ntmps76
  go_wp2_with fail
  refine hi.mono ?_
  rintro e w' ⟨rfl, hw⟩
  obtain rfl := hw.symm
  clear hw
  go_wp2_with fail
  refine hO.mono ?_
  rintro e w1 ⟨er, rfl, hR⟩
  replace hR := Lib.hid hR
  clear hpl
  go_wp2
  go_ret
  exact ⟨_, rfl, hR.out⟩
end
def rootN (l : List (ByteArray × Nat)) : Pn := { root0 with nms := some l }
def nl1 : List (ByteArray × Nat) := [(nm1 97, 2)]
def nl4 : List (ByteArray × Nat) := [(nm1 97, 2), (nm1 98, 3), (nm1 108, 4), (nm1 100, 5)]
def leafN (kd : Nat) (d : List UInt8) : Pn := ⟨kd, 1, 0, 0, d, none, ⟨#[]⟩⟩
def nds1 : Nds := [(1, rootN nl1), (2, leafN 2 [120, 121, 122])]
theorem Chg.fresh {N : Nat → Prop} {w w' : World} (h : Chg (fun _ => False) N w w') (F : Nat → Prop) : Chg F (fun g => F g ∨ N g) w w' :=
  ⟨h.os, h.tape, h.output, h.size, fun b hb _ => h.block b hb nofun, fun b hb hf hx => hx.elim hf (h.foot b hb nofun)⟩
abbrev hF1 (r a : Nat) : Int × Hd := (1, ⟨r, .file 2 a true false false⟩)
abbrev hR2 : Int × Hd := (2, ⟨1, .rd 0⟩)
def Kp (w : World) (F : Nat → Prop) (z : Nat) (C : List Value) (t : TypeId) : Prop := Blk w z C t ∧ ¬ F z
theorem Kp.chg {w w' : World} {F F' : Nat → Prop} {z : Nat} {C : List Value} {t : TypeId} (h : Kp w F z C t) (c : Chg F F' w w') : Kp w' F' z C t := ⟨h.1.chg c h.2, c.foot z h.1.lt h.2⟩
end Go.Proofs.YtfofpphnglhopaaGreatDoor
