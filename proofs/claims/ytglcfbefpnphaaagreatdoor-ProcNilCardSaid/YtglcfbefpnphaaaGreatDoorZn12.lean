/-
  A path's walk, told by plain functions of a tree's nodes: parts, names, links. Conditions: none.
-/
import Derived.Deep.QuietTactic
import Derived.BigQuiet
import Derived.Test.YtglcfbefpnphaaaGreatDoorZn6
import Derived.Test.YtglcfbefpnphaaaGreatDoorZn11
namespace Go.Proofs.YtglcfbefpnphaaaGreatDoor
open Go Go.RowKit

def cutA (p : List UInt8) : List UInt8 := (Lib.trimLeftB p 47).takeWhile (· != 47)
def cutB (p : List UInt8) : List UInt8 := (Lib.trimLeftB p 47).dropWhile (· != 47)
def findP (l : List (ByteArray × Nat)) (part : List UInt8) : Int × Int :=
  if 32 < part.length ∨ (0 : UInt8) ∈ part then (0, 16) else match look l ⟨part.toArray⟩ with | none => (0, 10) | some n => ((n : Int), 0)
def beginP (a : Int) (p : List UInt8) : Int × Int := if p = [] then (0, 10) else if 256 < p.length then (0, 21) else if p.head? = some 47 then (1, 0) else (a, 0)
def nmsOf (x : Pn) : List (ByteArray × Nat) := x.nms.getD []
def walkP (nds : Nds) (fo : Bool) : Nat → Int → List UInt8 → Nat → Int × Int
  | 0, a, _, _ => (a, 0)
  | f + 1, a, rest, links =>
    if rest = [] then (a, 0) else
    match look nds a with
    | none => (0, 99)
    | some x =>
      if x.kind ≠ 1 then (0, 12)
      else if cutA rest = [] then (a, 0)
      else if cutA rest = [46] then walkP nds fo f a (cutB rest) links
      else if cutA rest = [46, 46] then (if x.par = 0 then (0, 10) else walkP nds fo f (x.par : Int) (cutB rest) links)
      else if (findP (nmsOf x) (cutA rest)).2 ≠ 0 then (0, (findP (nmsOf x) (cutA rest)).2)
      else
        match look nds (findP (nmsOf x) (cutA rest)).1 with
        | none => (0, 99)
        | some y =>
          if y.kind ≠ 3 ∨ (cutB rest = [] ∧ fo = false) then walkP nds fo f (findP (nmsOf x) (cutA rest)).1 (cutB rest) links
          else if links = 8 then (0, 17)
          else if (beginP a y.data).2 ≠ 0 then (0, (beginP a y.data).2)
          else walkP nds fo f (beginP a y.data).1 (y.data ++ cutB rest) (links + 1)
def wM (rest : List UInt8) (links : Nat) : Nat := (8 - links) * 257 + rest.length
def startP (nds : Nds) (a : Int) (p : List UInt8) : Int × Int := match look nds a with | none => (0, 1) | some x => if x.kind ≠ 1 then (0, 1) else beginP a p
def WalkQ (nds : Nds) (a : Int) (p : List UInt8) (fo : Bool) : Int × Int :=
  if (startP nds a p).2 ≠ 0 then (0, (startP nds a p).2) else walkP nds fo (wM p 0 + 1) (startP nds a p).1 p 0
def endP (p : List UInt8) : Nat := (Lib.trimRightB p 47).length
def firstP (p : List UInt8) : Nat := (Lib.lastIndexByte ⟨(p.take (endP p)).toArray⟩ 47 + 1).toNat
def nameP (p : List UInt8) : List UInt8 := (p.take (endP p)).drop (firstP p)
def slashP (p : List UInt8) : Bool := decide (endP p < p.length)
def placeP (nds : Nds) (a : Int) (p : List UInt8) : Int × Int :=
  if (startP nds a p).2 ≠ 0 then (0, (startP nds a p).2) else walkP nds true (wM (p.take (firstP p)) 0 + 1) (startP nds a p).1 (p.take (firstP p)) 0

/-- What stays so of a tree: names name nodes, parents have them; each is named as often as told. -/
def cntE (k : Int) (x : Pn) : Nat := ((nmsOf x).filter fun e => decide ((e.2 : Int) = k)).length
structure TOk (nds : Nds) : Prop where
  root : ∃ x, look nds 1 = some x ∧ x.kind = 1 ∧ x.par = 1
  kind : ∀ k x, look nds k = some x → x.kind = 1 ∨ x.kind = 2 ∨ x.kind = 3
  dir : ∀ k x, look nds k = some x → x.kind = 1 → ∃ l, x.nms = some l
  leaf : ∀ k x, look nds k = some x → x.kind ≠ 1 → x.nms = none
  ent : ∀ k x, look nds k = some x → ∀ e ∈ nmsOf x, (e.2 : Int) ≠ 1 ∧ ∃ y, look nds (e.2 : Int) = some y
  par : ∀ k x, look nds k = some x → x.kind = 1 → x.par ≠ 0 → ∃ p, look nds (x.par : Int) = some p ∧ p.kind = 1 ∧ (k ≠ 1 → ∃ j : Nat, (j : Int) = k ∧ (x.name, j) ∈ nmsOf p)
  dead : ∀ k x, look nds k = some x → x.kind = 1 → k ≠ 1 → x.par = 0 → nmsOf x = []
  cnt : ∀ k x, look nds k = some x → k ≠ 1 → x.named = total (cntE k) nds
  gone : ∀ k x, look nds k = some x → x.kind = 1 → k ≠ 1 → x.named = 0 → x.par = 0

def walkE (e : Int) : Prop := e = 0 ∨ e = 10 ∨ e = 12 ∨ e = 16 ∨ e = 17 ∨ e = 21
theorem findP_e (l : List (ByteArray × Nat)) (p : List UInt8) : ((findP l p).2 = 0 ∧ ∃ n : Nat, (findP l p).1 = n ∧ (⟨p.toArray⟩, n) ∈ l) ∨ ((findP l p).1 = 0 ∧ ((findP l p).2 = 10 ∨ (findP l p).2 = 16)) := by
  unfold findP
  split
  · exact .inr ⟨rfl, .inr rfl⟩
  · split
    · exact .inr ⟨rfl, .inl rfl⟩
    · rename_i h; exact .inl ⟨rfl, _, rfl, look_mem h⟩
theorem beginP_e (a : Int) (p : List UInt8) : ((beginP a p).2 = 0 ∧ ((beginP a p).1 = 1 ∨ (beginP a p).1 = a) ∧ p.length ≤ 256) ∨ ((beginP a p).1 = 0 ∧ ((beginP a p).2 = 10 ∨ (beginP a p).2 = 21)) := by
  unfold beginP
  split
  · exact .inr ⟨rfl, .inl rfl⟩
  · split
    · exact .inr ⟨rfl, .inr rfl⟩
    · split
      · exact .inl ⟨rfl, .inl rfl, by omega⟩
      · exact .inl ⟨rfl, .inr rfl, by omega⟩
theorem dropWhile_len (q : UInt8 → Bool) (p : List UInt8) : (p.dropWhile q).length ≤ p.length := by
  induction p with
  | nil => exact Nat.le_refl _
  | cons a l ih => rw [List.dropWhile_cons]; split <;> simp only [List.length_cons] <;> omega
theorem cutB_lt {p : List UInt8} (hp : p ≠ []) : (cutB p).length < p.length := by
  unfold cutB Lib.trimLeftB
  cases p with
  | nil => exact absurd rfl hp
  | cons a l =>
    rw [List.dropWhile_cons]
    split
    · have h1 := dropWhile_len (fun x => x == 47) l
      have h2 := dropWhile_len (fun x => x != 47) (l.dropWhile fun x => x == 47)
      simp only [List.length_cons]; omega
    · rename_i h
      rw [List.dropWhile_cons, if_pos (by simpa using h)]
      have := dropWhile_len (fun x => x != 47) l
      simp only [List.length_cons]; omega
theorem wM_step {rest rest' : List UInt8} (h : rest'.length < rest.length) (links : Nat) : wM rest' links < wM rest links := by unfold wM; omega
theorem wM_link {rest rest' t : List UInt8} (h : rest'.length < rest.length) (ht : t.length ≤ 256) {links : Nat} (hl : links < 8) : wM (t ++ rest') (links + 1) < wM rest links := by
  unfold wM
  rw [List.length_append]
  omega
theorem TOk.dirAt {nds : Nds} (T : TOk nds) {k : Int} {x : Pn} (hx : look nds k = some x) (hk : x.kind = 1) : x.nms = some (nmsOf x) := by
  obtain ⟨l, hl⟩ := T.dir k x hx hk
  unfold nmsOf
  rw [hl]; rfl
/-- It ends with a /. -/
def endsS (p : List UInt8) : Prop := p.getLast? = some 47
end Go.Proofs.YtglcfbefpnphaaaGreatDoor
/-
  strings.TrimLeft, met by the shelf's contract, and a path's first part. Conditions: texts of the size that a machine has.
-/
namespace Go.Proofs.YtglcfbefpnphaaaGreatDoor
open Go Go.Shelf Go.RowKit

def shRenL : Ren := ⟨fun | 119 => 218 | 149 => 138 | 222 => 164 | 120 => 208 | 137 => 152 | 151 => 192 | 152 => 210 | 162 => 137 | 161 => 176 | 231 => 198 | 233 => 199 | 235 => 200 | 165 => 214 | 166 => 145 | 169 => 115 | 197 => 209 | 217 => 177 | 224 => 219 | 225 => 220 | 227 => 161 | 228 => 190 | 232 => 160 | 234 => 162 | 236 => 163 | 240 => 173 | 241 => 232 | 260 => 217 | 266 => 201 | 271 => 191 | 276 => 196 | 277 => 238 | n => n, fun | 0 => 0 | 3 => 3 | 4 => 4 | 5 => 5 | 9 => 9 | 20 => 20 | 21 => 21 | 37 => 153 | 46 => 252 | 70 => 212 | 72 => 214 | 75 => 241 | 80 => 105 | 105 => 291 | 116 => 260 | 117 => 261 | 119 => 318 | 124 => 264 | 127 => 245 | 138 => 320 | 139 => 321 | 164 => 295 | n => n, fun | 3 => 1 | 4 => 2 | n => n⟩
theorem sh161 : Lays.n161 Tryz.prog shRenL := {
  mixed := by kernel_rfl
  f119 := Tryz.func218.trans (congrArg some (by kernel_rfl))
  f137 := Tryz.func152.trans (congrArg some (by kernel_rfl))
  f151 := Tryz.func192.trans (congrArg some (by kernel_rfl))
  f152 := Tryz.func210.trans (congrArg some (by kernel_rfl))
  f161 := Tryz.func176.trans (congrArg some (by kernel_rfl))
  f197 := Tryz.func209.trans (congrArg some (by kernel_rfl))
  f217 := Tryz.func177.trans (congrArg some (by kernel_rfl))
  f224 := Tryz.func219.trans (congrArg some (by kernel_rfl))
  f225 := Tryz.func220.trans (congrArg some (by kernel_rfl))
  f227 := Tryz.func161.trans (congrArg some (by kernel_rfl))
  f228 := Tryz.func190.trans (congrArg some (by kernel_rfl))
  f231 := Tryz.func198.trans (congrArg some (by kernel_rfl))
  f233 := Tryz.func199.trans (congrArg some (by kernel_rfl))
  f235 := Tryz.func200.trans (congrArg some (by kernel_rfl))
  f260 := Tryz.func217.trans (congrArg some (by kernel_rfl))
  f266 := Tryz.func201.trans (congrArg some (by kernel_rfl))
  t0 := Tryz.underlying0
  a0 := Tryz.isAgg0
  z0 := Tryz.sizeOf0
  v0 := Tryz.zeroValue0
  t3 := Tryz.underlying3
  a3 := Tryz.isAgg3
  z3 := Tryz.sizeOf3
  v3 := Tryz.zeroValue3
  t4 := Tryz.underlying4
  a4 := Tryz.isAgg4
  z4 := Tryz.sizeOf4
  v4 := Tryz.zeroValue4
  t5 := Tryz.underlying5
  a5 := Tryz.isAgg5
  z5 := Tryz.sizeOf5
  v5 := Tryz.zeroValue5
  t9 := Tryz.underlying9
  a9 := Tryz.isAgg9
  z9 := Tryz.sizeOf9
  v9 := Tryz.zeroValue9
  t21 := Tryz.underlying21
  a21 := Tryz.isAgg21
  z21 := Tryz.sizeOf21
  v21 := Tryz.zeroValue21
  t46 := Tryz.underlying252
  a46 := Tryz.isAgg252
  z46 := Tryz.sizeOf252
  v46 := Tryz.zeroValue252
  t105 := Tryz.underlying291
  a105 := Tryz.isAgg291
  z105 := Tryz.sizeOf291
  v105 := Tryz.zeroValue291
  t116 := Tryz.underlying260
  a116 := Tryz.isAgg260
  z116 := Tryz.sizeOf260
  t117 := Tryz.underlying261
  a117 := Tryz.isAgg261
  z117 := Tryz.sizeOf261
  v117 := Tryz.zeroValue261
  t119 := Tryz.underlying318
  a119 := Tryz.isAgg318
  z119 := Tryz.sizeOf318
  t124 := Tryz.underlying264
  a124 := Tryz.isAgg264
  z124 := Tryz.sizeOf264
  v124 := Tryz.zeroValue264
  t138 := Tryz.underlying320
  a138 := Tryz.isAgg320
  z138 := Tryz.sizeOf320
  v138 := Tryz.zeroValue320
  t139 := Tryz.underlying321
  a139 := Tryz.isAgg321
  z139 := Tryz.sizeOf321
  v139 := Tryz.zeroValue321
  g3 := by kernel_rfl
  g4 := by kernel_rfl }
theorem trimLeft (s : ByteArray) (c : UInt8) (hc : c.toNat < 128) (w : World) :
    Calls Tryz.prog 176 #[.string s, .string ⟨#[c]⟩] w fun e w' => e = .returned (.string ⟨(Lib.trimLeftB s.data.toList c).toArray⟩) ∧ w' = w :=
  Any.strings_TrimLeft_one sh161 s c hc w
theorem tlw_upto (s : ByteArray) (k : Nat) : tl (s.extract 0 k) = (tl s).take k := by simp [tl, ByteArray.data_extract]
theorem tlw_from (s : ByteArray) (k : Nat) : tl (s.extract k s.size) = (tl s).drop k := tl_from s k
theorem tw_idx {l : List UInt8} {i : Nat} (h : Lib.indexByte l 47 = (i : Int)) : l.takeWhile (· != 47) = l.take i ∧ l.dropWhile (· != 47) = l.drop i := by
  obtain ⟨h1, h2⟩ := Lib.indexByte_some h
  clear h
  induction l generalizing i with
  | nil => simp at h1
  | cons a l ih =>
    cases i with
    | zero =>
      have : a = 47 := by simpa using h1
      subst this
      exact ⟨rfl, rfl⟩
    | succ i =>
      have ha : a ≠ 47 := fun e => h2 0 (Nat.succ_pos _) (by rw [e]; rfl)
      have := ih (i := i) (by simpa using h1) (fun k hk => by have := h2 (k + 1) (by omega); simpa using this)
      rw [List.takeWhile_cons, if_pos (by simpa using ha), List.dropWhile_cons, if_pos (by simpa using ha), this.1, this.2]
      exact ⟨rfl, rfl⟩
theorem tw_none {l : List UInt8} (h : Lib.indexByte l 47 = -1) : l.takeWhile (· != 47) = l ∧ l.dropWhile (· != 47) = [] := by
  have h2 := Lib.indexByte_none h
  clear h
  induction l with
  | nil => exact ⟨rfl, rfl⟩
  | cons a l ih =>
    have ha : a ≠ 47 := fun e => h2 0 (by rw [e]; rfl)
    have := ih fun k => by have := h2 (k + 1); simpa using this
    rw [List.takeWhile_cons, if_pos (by simpa using ha), List.dropWhile_cons, if_pos (by simpa using ha), this.1, this.2]
    exact ⟨rfl, rfl⟩
set_option maxHeartbeats 1000000 in
set_option maxRecDepth 100000 in
theorem cutPart_any (s : ByteArray) (w : World) :
    Calls Tryz.prog 150 #[.string s] w fun e w' => (∃ P Q : ByteArray, e = .returned (.tuple #[.string P, .string Q]) ∧ tl P = cutA (tl s) ∧ tl Q = cutB (tl s)) ∧ w.grownBy w' none := by
  have ht := trimLeft s 47 (by decide) w
  obtain ⟨T, hT⟩ : ∃ T : ByteArray, (⟨(Lib.trimLeftB s.data.toList 47).toArray⟩ : ByteArray) = T := ⟨_, rfl⟩
  have hTl : tl T = Lib.trimLeftB (tl s) 47 := by rw [← hT]; rfl
  rw [hT] at ht
  have hi := indexByte T 47 w
  rw [show (47 : Int).toNat.toUInt8 = 47 from rfl, show T.data.toList = tl T from rfl] at hi
  rcases Lib.indexByte_ge (tl T) 47 |> fun h => (show Lib.indexByte (tl T) 47 = -1 ∨ ∃ i : Nat, Lib.indexByte (tl T) 47 = (i : Int) by
      by_cases h1 : Lib.indexByte (tl T) 47 = -1
      · exact .inl h1
      · exact .inr ⟨(Lib.indexByte (tl T) 47).toNat, by omega⟩) with hx | ⟨i, hx⟩
  · rw [hx] at hi
    have q := tw_none hx
    rw [hTl] at q
    clear hx hT
    go_enter Tryz.func150, Tryz.ntmps150
    go_wp2_with fail
    refine ht.mono ?_
    rintro e w' ⟨rfl, hw⟩
    obtain rfl := hw.symm
    clear ht hw
    go_wp2_with fail
    refine hi.mono ?_
    rintro e w' ⟨rfl, hw⟩
    obtain rfl := hw.symm
    clear hi hw
    go_wp2
    go_ret2
    exact ⟨⟨_, _, rfl, by rw [hTl]; exact q.1.symm, by show [] = _; exact q.2.symm⟩, grownBy_re _⟩
  · rw [hx] at hi
    have hlt : i < T.size := by
      have := (Lib.indexByte_some hx).1
      have := (List.getElem?_eq_some_iff.1 this).1
      rwa [tl_len] at this
    have q := tw_idx hx
    rw [hTl] at q
    have z1 := tlw_upto T i
    have z2 := tlw_from T i
    rw [hTl] at z1 z2
    rw [← q.1] at z1
    rw [← q.2] at z2
    have hge : (0 : Int) ≤ (i : Int) := by omega
    replace z1 := Lib.hid z1
    replace z2 := Lib.hid z2
    clear hx hT q hTl
    go_enter Tryz.func150, Tryz.ntmps150
    go_wp2_with fail
    refine ht.mono ?_
    rintro e w' ⟨rfl, hw⟩
    obtain rfl := hw.symm
    clear ht hw
    go_wp2_with fail
    refine hi.mono ?_
    rintro e w' ⟨rfl, hw⟩
    obtain rfl := hw.symm
    clear hi hw
    go_wp2_with fail
    go_quiet (fail)
    go_wp2
    go_ret2
    exact ⟨⟨_, _, rfl, z1.out, z2.out⟩, grownBy_drewN (grownBy_re _) _⟩
theorem tl_empty (s : ByteArray) : s.toList.isEmpty = decide (tl s = []) := by
  rw [ByteArray.toList_eq]
  unfold tl
  cases s.data.toList <;> rfl
theorem tl_size0 (s : ByteArray) : tl s = [] ↔ s.size = 0 := by rw [← tl_len, List.length_eq_zero_iff]
set_option maxRecDepth 100000 in
theorem begin_any (d : Int) (s : ByteArray) (w : World) :
    Calls Tryz.prog 149 #[.int .i64 d, .string s] w fun e w' => e = .returned (.tuple #[.int .i64 (beginP d (tl s)).1, .int .i64 (beginP d (tl s)).2]) ∧ w' = w := by
  obtain ⟨R, hR⟩ : ∃ R, beginP d (tl s) = R := ⟨_, rfl⟩
  rw [hR]
  unfold beginP at hR
  have he := tl_empty s
  by_cases h0 : tl s = []
  · rw [if_pos h0] at hR
    subst hR
    rw [decide_eq_true h0] at he
    go_enter Tryz.func149, Tryz.ntmps149
    go_wp2
    go_ret2
    exact ⟨rfl, rfl⟩
  rw [if_neg h0] at hR
  rw [decide_eq_false h0] at he
  have hl := tl_len s
  by_cases h1 : 256 < (tl s).length
  · rw [if_pos h1] at hR
    subst hR
    have hi : (256 : Int) < (s.size : Int) := by omega
    clear hl h0 h1
    go_enter Tryz.func149, Tryz.ntmps149
    go_wp2
    go_ret2
    exact ⟨rfl, rfl⟩
  rw [if_neg h1] at hR
  have hi : ¬ (256 : Int) < (s.size : Int) := by omega
  have hpos : 0 < s.size := Nat.pos_of_ne_zero fun e => h0 ((tl_size0 s).2 e)
  obtain ⟨c, hc⟩ : ∃ c, s[0]'hpos = c := ⟨_, rfl⟩
  have hc2 : s.data[0]? = some c := by rw [← hc]; exact Array.getElem?_eq_getElem _
  have hh : (tl s).head? = some c := by
    rw [List.head?_eq_getElem?]
    unfold tl
    rw [Array.getElem?_toList]
    exact hc2
  rw [hh] at hR
  by_cases h2 : c = 47
  · subst h2
    rw [if_pos rfl] at hR
    subst hR
    have e1 : (((47 : UInt8).toNat : Int) == 47) = true := rfl
    clear hl h0 h1 hh
    go_enter Tryz.func149, Tryz.ntmps149
    go_wp2
    go_ret2
    exact ⟨rfl, rfl⟩
  · rw [if_neg (by simpa using h2)] at hR
    subst hR
    have e1 : ((c.toNat : Int) == 47) = false := by
      simp only [beq_eq_false_iff_ne, ne_eq]
      intro h
      exact h2 (UInt8.toNat_inj.1 (by show c.toNat = 47; omega))
    clear hl h0 h1 hh h2
    go_enter Tryz.func149, Tryz.ntmps149
    go_wp2
    go_ret2
    exact ⟨rfl, rfl⟩
section
variable {w : World} {lab : Nat → TL} {F : Nat → Prop} {fb most room mb : Nat} {nds : Nds} {mem : Int → NM}
set_option maxRecDepth 100000 in
theorem start_any (h : TreeR w lab fb most room nds mb mem) (a : Int) (s : ByteArray) :
    Calls Tryz.prog 118 #[.pointer (some ⟨fb, 0, none⟩), .int .i64 a, .string s] w fun e w' => e = .returned (.tuple #[.int .i64 (startP nds a (tl s)).1, .int .i64 (startP nds a (tl s)).2]) ∧ w' = w := by
  have hb := begin_any a s w
  obtain ⟨R, hR⟩ : ∃ R, startP nds a (tl s) = R := ⟨_, rfl⟩
  rw [hR]
  unfold startP at hR
  have f0 := h.fs.cell (i := 0) rfl
  have hfl := h.fs.lt
  cases hx : look nds a with
  | none =>
    rw [hx] at hR
    simp only at hR
    subst hR
    have hf := h.find_none hx
    clear h hx hb
    go_enter Tryz.func118, Tryz.ntmps118
    go_wp2
    go_ret2
    exact ⟨rfl, rfl⟩
  | some x =>
    rw [hx] at hR
    simp only at hR
    have hf := h.find_some hx
    have c0 := (h.nd a x hx).blk.cell (show (bodyC x (mem a))[0]? = some _ from rfl)
    have hlt := (h.nd a x hx).blk.lt
    generalize (mem a).blk = kb at hf c0 hlt
    by_cases hk : x.kind ≠ 1
    · rw [if_pos hk] at hR
      subst hR
      have e1 : ((x.kind : Int) == 1) = false := by simp; omega
      clear h hx hb hk
      go_enter Tryz.func118, Tryz.ntmps118
      go_wp2
      go_ret2
      exact ⟨rfl, rfl⟩
    · rw [if_neg hk] at hR
      rw [hR] at hb
      obtain ⟨R1, R2⟩ := R
      simp only [Decidable.not_not] at hk
      rw [hk] at c0
      clear h hx hk hR
      go_enter Tryz.func118, Tryz.ntmps118
      go_wp2_with fail
      refine hb.mono ?_
      rintro e w' ⟨rfl, hw⟩
      obtain rfl := hw.symm
      clear hb hw
      go_wp2
      go_ret2
      exact ⟨rfl, rfl⟩
set_option maxRecDepth 100000 in
/-- What a directory's names have of a part. -/
theorem findD_any (h : TreeR w lab fb most room nds mb mem) {k : Int} {x : Pn} {l : List (ByteArray × Nat)} (hx : look nds k = some x) (hn : x.nms = some l) (s : ByteArray) :
    Calls Tryz.prog 124 #[.pointer (some ⟨(mem k).blk, 0, none⟩), .string s] w fun e w' => e = .returned (.tuple #[.int .i64 (findP l (tl s)).1, .int .i64 (findP l (tl s)).2]) ∧ w' = w := by
  obtain ⟨R, hR⟩ : ∃ R, findP l (tl s) = R := ⟨_, rfl⟩
  rw [hR]
  unfold findP at hR
  have hN := h.nd k x hx
  obtain ⟨nb, h1, _, h3⟩ := hN.nms l hn
  have c4 := hN.blk.cell (show (bodyC x (mem k))[4]? = some _ from rfl)
  have hlt := hN.blk.lt
  rw [h1] at c4
  have hl := tl_len s
  have hix := indexByte s 0 w
  rw [show (0 : Int).toNat.toUInt8 = 0 from rfl, show s.data.toList = tl s from rfl] at hix
  by_cases h32 : 32 < s.size
  · rw [if_pos (.inl (by omega))] at hR
    subst hR
    have hi : (32 : Int) < (s.size : Int) := by omega
    generalize (mem k).blk = kb at c4 hlt ⊢
    clear h hN hx hn hl h3 h1 hix h32
    go_enter Tryz.func124, Tryz.ntmps124
    go_wp2
    go_ret2
    exact ⟨rfl, rfl⟩
  have hi : ¬ (32 : Int) < (s.size : Int) := by omega
  by_cases h0 : (0 : UInt8) ∈ tl s
  · rw [if_pos (.inr h0)] at hR
    subst hR
    obtain ⟨i, hx2⟩ : ∃ i : Nat, Lib.indexByte (tl s) 0 = (i : Int) := by
      have := Lib.indexByte_ge (tl s) 0
      by_cases h9 : Lib.indexByte (tl s) 0 = -1
      · obtain ⟨j, hj, he⟩ := List.getElem_of_mem h0
        exact absurd (by rw [List.getElem?_eq_getElem hj, he]) (Lib.indexByte_none h9 j)
      · exact ⟨(Lib.indexByte (tl s) 0).toNat, by omega⟩
    rw [hx2] at hix
    have hge : (0 : Int) ≤ (i : Int) := by omega
    generalize (mem k).blk = kb at c4 hlt ⊢
    clear h hN hx hn hl h3 h1 h32 h0 hx2
    go_enter Tryz.func124, Tryz.ntmps124
    go_wp2_with fail
    refine hix.mono ?_
    rintro e w' ⟨rfl, hw⟩
    obtain rfl := hw.symm
    clear hix hw
    go_wp2
    go_ret2
    exact ⟨rfl, rfl⟩
  rw [if_neg (fun q => q.elim (fun q => by omega) h0)] at hR
  have hx2 : Lib.indexByte (tl s) 0 = -1 := by
    have := Lib.indexByte_ge (tl s) 0
    refine Classical.byContradiction fun h9 => ?_
    obtain ⟨i, hi2⟩ : ∃ i : Nat, Lib.indexByte (tl s) 0 = (i : Int) := ⟨(Lib.indexByte (tl s) 0).toNat, by omega⟩
    exact h0 (List.mem_of_getElem? (Lib.indexByte_some hi2).1)
  rw [hx2] at hix
  rw [show (⟨(tl s).toArray⟩ : ByteArray) = s by unfold tl; simp] at hR
  have hfi := h3.find keyS Tryz.underlying154 Tryz.underlying9 (Tryz.zeroValue3 w) true s
  rw [look_map (fun n : Nat => Value.int .i64 (n : Int))] at hfi
  cases hlk : look l s with
  | none =>
    rw [hlk] at hfi hR
    simp only at hR
    subst hR
    replace hfi : (Instr.lookup 154 (.map (some nb)) (.string s) true).run Tryz.prog w = .ok (.tuple #[.int .i64 0, .bool false]) w := hfi
    generalize (mem k).blk = kb at c4 hlt ⊢
    clear h hN hx hn hl h3 h1 h32 h0 hx2
    go_enter Tryz.func124, Tryz.ntmps124
    go_wp2_with fail
    refine hix.mono ?_
    rintro e w' ⟨rfl, hw⟩
    obtain rfl := hw.symm
    clear hix hw
    go_wp2
    go_ret2
    exact ⟨rfl, rfl⟩
  | some n =>
    rw [hlk] at hfi hR
    simp only at hR
    subst hR
    replace hfi : (Instr.lookup 154 (.map (some nb)) (.string s) true).run Tryz.prog w = .ok (.tuple #[.int .i64 (n : Int), .bool true]) w := hfi
    generalize (mem k).blk = kb at c4 hlt ⊢
    clear h hN hx hn hl h3 h1 h32 h0 hx2
    go_enter Tryz.func124, Tryz.ntmps124
    go_wp2_with fail
    refine hix.mono ?_
    rintro e w' ⟨rfl, hw⟩
    obtain rfl := hw.symm
    clear hix hw
    go_wp2
    go_ret2
    exact ⟨rfl, rfl⟩
end
end Go.Proofs.YtglcfbefpnphaaaGreatDoor
