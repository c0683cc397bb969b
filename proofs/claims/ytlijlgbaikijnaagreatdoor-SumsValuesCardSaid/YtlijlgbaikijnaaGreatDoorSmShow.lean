/-
  How an expression is told, by the package: show, over a builder. Conditions: names of at most a million bytes; numbers of 64 bits.
-/
import Derived.Test.YtlijlgbaikijnaaGreatDoorSmCheck
namespace Go.Proofs.YtlijlgbaikijnaaGreatDoor
open Go Go.RowKit

theorem check_all : ∀ (n : Nat) (x : E), sizeE x ≤ n → Checks x
  | 0, .mk _ _ _ _, h => by unfold sizeE at h; omega
  | n + 1, .mk op num name kids, h => by
    unfold sizeE at h
    exact check_step op name num kids fun x hx => check_all n x (by have := sizeL.mem x hx; omega)

def bodyS (asg : Bool) (op name : List UInt8) : List (List UInt8) → List UInt8
  | [a] => (if asg then name ++ op else markV op) ++ a
  | [a, b] => a ++ op ++ b
  | [a, b, c] => a ++ [63] ++ b ++ [58] ++ c
  | _ => []
mutual
/-- How an expression is told. -/
def showE : E → List UInt8
  | .mk op num name kids =>
    if op = [110, 117, 109] then Lib.itoa num
    else if op = [110, 97, 109, 101] then name
    else [40] ++ bodyS (asgV op) op name (showL kids) ++ [41]
def showL : List E → List (List UInt8)
  | [] => []
  | e :: es => showE e :: showL es
end

theorem isB_below {B b : Nat} {bs : List Value} {w w' : World} (h : IsB B b bs w) (hb : Below w.heap.size w w') : IsB B b bs w' := by
  have aux : ∀ p, AtB B b p bs w → AtB B b p bs w' := by
    rintro p ⟨hB, v, hbk, hown, hne⟩
    refine ⟨hB, v, ?_, ⟨hown.1, ?_⟩, hne⟩
    · rw [hb.block b (Array.getElem?_eq_some_iff.1 hbk).1]; exact hbk
    · rcases hown.2 with h | ⟨g, cap, cur, fz, hv, hg, hgk, r⟩
      · exact .inl h
      · exact .inr ⟨g, cap, cur, fz, hv, hg, by rw [hb.block g (Array.getElem?_eq_some_iff.1 hgk).1]; exact hgk, r⟩
  exact h.imp (aux _) (aux _)
theorem kept_below {b : Nat} {w w' : World} (hb : Below w.heap.size w w') : Kept b w w' := fun k o hk _ _ => by rw [hb.block k (Array.getElem?_eq_some_iff.1 hk).1]; exact hk

/-- In the midst of show: the builder, what has been told, the expression's own variable. -/
structure ShSt (B b : Nat) (w0 w : World) (z : Nat) (cs : Array Value) (out : List UInt8) : Prop where
  isb : IsB B b (Lib.byteCells out) w
  bel : Below B w0 w
  kep : Kept b w0 w
  box : w.heap[z]? = some (.cells cs 30 (0, 0))
  siz : B ≤ w.heap.size
  zb : z ≠ b
  few : out.length ≤ 4096
def StepR (B b : Nat) (w0 : World) (z : Nat) (cs : Array Value) (out txt : List UInt8) (e : Ending) (w' : World) : Prop :=
  if out.length + txt.length ≤ 4096 then (∃ u, e = .returned u) ∧ ShSt B b w0 w' z cs (out ++ txt) else e = thrown 21 0 ∧ Below B w0 w'
theorem ShSt.next {B b : Nat} {w0 w w' : World} {z : Nat} {cs : Array Value} {out txt : List UInt8} {e : Ending} (h : ShSt B b w0 w z cs out) (k : PutR B b w out txt e w') : StepR B b w0 z cs out txt e w' := by
  unfold PutR at k
  unfold StepR
  by_cases hf : out.length + txt.length ≤ 4096
  · rw [if_pos hf] at k ⊢
    obtain ⟨hu, hi, hb, hk⟩ := k
    exact ⟨hu, hi, h.bel.trans hb, h.kep.trans hk, hk z _ h.box (by simp; exact h.zb) (by intro c fz he; injection he with _ h2 _; exact absurd h2 (by decide)), Nat.le_trans h.siz hb.size, h.zb, by rw [List.length_append]; exact hf⟩
  · rw [if_neg hf] at k ⊢
    exact ⟨k.1, h.bel.trans k.2⟩
theorem ShSt.cell {B b : Nat} {w0 w : World} {z : Nat} {cs : Array Value} {out : List UInt8} (h : ShSt B b w0 w z cs out) (j : Nat) (v : Value) (hj : cs[j]? = some v) : w.cell? ⟨z, j, none⟩ = some v := by
  rw [cell_of_row w z j _ _ _ h.box]; exact hj
theorem ShSt.below {B b : Nat} {w0 w w' : World} {z : Nat} {cs : Array Value} {out : List UInt8} (h : ShSt B b w0 w z cs out) (hb : Below w.heap.size w w') : ShSt B b w0 w' z cs out :=
  ⟨isB_below h.isb hb, h.bel.trans (hb.mono h.siz), h.kep.trans (kept_below hb), by rw [hb.block z (Array.getElem?_eq_some_iff.1 h.box).1]; exact h.box, Nat.le_trans h.siz hb.size, h.zb, h.few⟩

theorem markV_len (op : List UInt8) : (markV op).length ≤ 1 := by
  unfold markV
  have h : ∀ (c : Bool) (x y : List UInt8), x.length ≤ 1 → y.length ≤ 1 → (if c = true then x else y).length ≤ 1 := by intro c x y hx hy; cases c <;> simp [hx, hy]
  exact h _ _ _ (by decide) (h _ _ _ (by decide) (h _ _ _ (by decide) (h _ _ _ (by decide) (by decide))))
def PowP (B : Nat) (w : World) : Prop := ∀ w' : World, Below B w w' → Tab w'
def Shows (B b : Nat) (x : E) : Prop :=
  ∀ (v : Value) (ok : Nat → Prop) (w : World) (out : List UInt8), ExR w ok x v → (∀ g, ok g → g < B) → IsB B b (Lib.byteCells out) w → B ≤ w.heap.size → PowP B w → rightE x = true → NumE x → ShortE x → out.length ≤ 4096 →
    Calls Tryz.prog 37 #[.pointer (some ⟨b, 0, none⟩), v] w (PutR B b w out (showE x))
theorem st_put {B b : Nat} {w0 w : World} {z : Nat} {cs : Array Value} {out : List UInt8} (h : ShSt B b w0 w z cs out) (s : ByteArray) (hs : s.size ≤ 2000000) :
    Calls Tryz.prog 64 #[.pointer (some ⟨b, 0, none⟩), .string s] w (StepR B b w0 z cs out (tl s)) :=
  (put_any B b out s w h.isb h.siz h.few hs).mono fun _ _ k => h.next k
theorem st_show {B b : Nat} {w0 w : World} {z : Nat} {cs : Array Value} {out : List UInt8} (h : ShSt B b w0 w z cs out) {x : E} {v : Value} {ok : Nat → Prop} (ih : Shows B b x) (hx : ExR w0 ok x v) (hok : ∀ g, ok g → g < B) (hp : PowP B w0) (hr : rightE x = true) (hn : NumE x) (hs : ShortE x) :
    Calls Tryz.prog 37 #[.pointer (some ⟨b, 0, none⟩), v] w (StepR B b w0 z cs out (showE x)) :=
  (ih v ok w out (hx.keep (fun _ h => h) (fun g hg => h.bel.block g (hok g hg))) hok h.isb h.siz (fun w' hb => hp w' (h.bel.trans hb)) hr hn hs h.few).mono fun _ _ k => h.next k

set_option maxHeartbeats 4000000 in
set_option maxRecDepth 100000 in
theorem show_num (B b : Nat) (op name : List UInt8) (num : Int) (hr : rightE (.mk op num name []) = true) (ho : op = [110, 117, 109]) : Shows B b (.mk op num name []) := by
  intro v ok w out hx hok hib hB hpw _ hnum hsh hout
  have hzb := (isB_lt hib).2
  obtain ⟨A, cc, rfl, hcc, hcm, hkr⟩ := hx.form
  obtain ⟨x, hxx⟩ : ∃ x : ByteArray, (⟨op.toArray⟩ : ByteArray) = x := ⟨_, rfl⟩
  obtain ⟨nx, hnx⟩ : ∃ nx : ByteArray, (⟨name.toArray⟩ : ByteArray) = nx := ⟨_, rfl⟩
  have hxt : tl x = op := by rw [← hxx]; rfl
  have hnt : tl nx = name := by rw [← hnx]; rfl
  have hxl : x.toList = op := by rw [Lib.toList_data]; exact hxt
  unfold ShortE at hsh
  replace hsh := And.intro (right_short hr) hsh
  unfold NumE at hnum
  have hxs : x.size = op.length := by rw [← tl_len, hxt]
  have hns : nx.size = name.length := by rw [← tl_len, hnt]
  have hall : rightL [] = true := by rw [rightE, Bool.and_eq_true] at hr; exact hr.2
  have hsp := fun W zz cs ot s (h : ShSt B b w W zz cs ot) (hs : s.size ≤ 2000000) => st_put h s hs
  simp only [List.length_nil] at hcc ⊢
  have hR : Hid (showE (.mk op num name []) = Lib.itoa num) := by
    rw [Hid, showE]
    rw [if_pos ho]
  obtain ⟨RR, hRR⟩ : ∃ RR, showE (.mk op num name []) = RR := ⟨_, rfl⟩
  rw [hRR] at hR ⊢
  rw [hxx, hnx]
  have g1 : (x.toList == [110, 117, 109]) = true := by rw [hxl, ho]; rfl
  have hlen := itoa_small hnum.1.1 hnum.1.2
  unfold maxLen at hcm
  have hib := Lib.hid hib
  clear hx ho hkr hxx hnx hxt hxl hRR hall hr hsh
  have i0 : (0 : Int) ≤ (cc : Int) := by omega
  go_enter Tryz.func37, Tryz.ntmps37
  go_upto_region 1 with fail
  have hst : ShSt B b w (w.alloc (.cells #[.string x, .int .i64 num, .string nx, .slice A 0 cc] 30)) w.heap.size #[.string x, .int .i64 num, .string nx, .slice A 0 cc] out :=
    ⟨hib.out.alloc _, (Below.refl _ w).alloc hB _, kept_below ((Below.refl _ w).alloc (Nat.le_refl _) _), heap_alloc_new w _, by simp; omega, by omega, hout⟩
  generalize w.alloc (.cells #[.string x, .int .i64 num, .string nx, .slice A 0 cc] 30) = w2 at hst ⊢
  generalize w.heap.size = z at hst ⊢
  have hst0 := Lib.hid hst
  have q0 := hst.cell 0 _ rfl
  have q1 := hst.cell 1 _ rfl
  have q2 := hst.cell 2 _ rfl
  have q3 := hst.cell 3 _ rfl
  clear hst
  go_wp2_with fail
  refine (text_any num hnum.1.1 hnum.1.2 _ (hpw _ hst0.out.bel)).mono ?_
  rintro e wt ⟨rfl, hbt⟩
  have hst := hst0.out.below hbt
  clear hst0 q0 q1 q2 q3
  have hst0 := Lib.hid hst
  have q0 := hst.cell 0 _ rfl
  have q1 := hst.cell 1 _ rfl
  have q2 := hst.cell 2 _ rfl
  have q3 := hst.cell 3 _ rfl
  clear hst hbt
  go_wp2_with fail
  refine (hsp _ _ _ _ ⟨(Lib.itoa num).toArray⟩ hst0.out (by show (Lib.itoa num).toArray.size ≤ _; simp; omega)).mono ?_
  intro e w3 h
  unfold StepR at h
  rw [show tl ⟨(Lib.itoa num).toArray⟩ = Lib.itoa num from rfl] at h
  by_cases hf0 : (out : List UInt8).length + (Lib.itoa num : List UInt8).length ≤ 4096
  case neg =>
    rw [if_neg hf0] at h
    obtain ⟨rfl, hb⟩ := h
    refine ⟨rfl, ?_⟩
    unfold PutR
    rw [if_neg (by rw [hR.out]; (try simp only [List.length_append, List.length_cons, List.length_nil] at hf0); (try simp only [List.length_append, List.length_cons, List.length_nil]); omega)]
    exact ⟨rfl, hb⟩
  rw [if_pos hf0] at h
  obtain ⟨⟨u0, rfl⟩, hst⟩ := h
  clear q0 q1 q2 q3 hst0
  have hst1 := Lib.hid hst
  have q0 := hst.cell 0 _ rfl
  have q1 := hst.cell 1 _ rfl
  have q2 := hst.cell 2 _ rfl
  have q3 := hst.cell 3 _ rfl
  clear hst
  replace hf0 := Lib.hid hf0
  clear q0 q1 q2 q3
  go_wp2
  go_end0
  have he := hst1.out
  unfold PutR
  rw [if_pos (by rw [hR.out]; have := hf0.out; (try simp only [List.length_append, List.length_cons, List.length_nil] at this); (try simp only [List.length_append, List.length_cons, List.length_nil]); omega)]
  exact ⟨⟨_, rfl⟩, by rw [hR.out]; simpa using he.isb, he.bel, he.kep⟩

set_option maxHeartbeats 4000000 in
set_option maxRecDepth 100000 in
theorem show_name (B b : Nat) (op name : List UInt8) (num : Int) (hr : rightE (.mk op num name []) = true) (ho : op = [110, 97, 109, 101]) : Shows B b (.mk op num name []) := by
  intro v ok w out hx hok hib hB hpw _ hnum hsh hout
  have hzb := (isB_lt hib).2
  obtain ⟨A, cc, rfl, hcc, hcm, hkr⟩ := hx.form
  obtain ⟨x, hxx⟩ : ∃ x : ByteArray, (⟨op.toArray⟩ : ByteArray) = x := ⟨_, rfl⟩
  obtain ⟨nx, hnx⟩ : ∃ nx : ByteArray, (⟨name.toArray⟩ : ByteArray) = nx := ⟨_, rfl⟩
  have hxt : tl x = op := by rw [← hxx]; rfl
  have hnt : tl nx = name := by rw [← hnx]; rfl
  have hxl : x.toList = op := by rw [Lib.toList_data]; exact hxt
  unfold ShortE at hsh
  replace hsh := And.intro (right_short hr) hsh
  unfold NumE at hnum
  have hxs : x.size = op.length := by rw [← tl_len, hxt]
  have hns : nx.size = name.length := by rw [← tl_len, hnt]
  have hall : rightL [] = true := by rw [rightE, Bool.and_eq_true] at hr; exact hr.2
  have hsp := fun W zz cs ot s (h : ShSt B b w W zz cs ot) (hs : s.size ≤ 2000000) => st_put h s hs
  simp only [List.length_nil] at hcc ⊢
  have hR : Hid (showE (.mk op num name []) = name) := by
    rw [Hid, showE]
    rw [if_neg (by rw [ho]; decide), if_pos ho]
  obtain ⟨RR, hRR⟩ : ∃ RR, showE (.mk op num name []) = RR := ⟨_, rfl⟩
  rw [hRR] at hR ⊢
  rw [hxx, hnx]
  have g1 : (x.toList == [110, 117, 109]) = false := by rw [hxl, ho]; rfl
  have g2 : (x.toList == [110, 97, 109, 101]) = true := by rw [hxl, ho]; rfl
  have hsn : nx.size ≤ 2000000 := by rw [hns]; have := hsh.2.1; omega
  unfold maxLen at hcm
  have hib := Lib.hid hib
  clear hx ho hkr hxx hnx hxt hxl hRR hall hr hsh
  have i0 : (0 : Int) ≤ (cc : Int) := by omega
  go_enter Tryz.func37, Tryz.ntmps37
  go_upto_region 1 with fail
  have hst : ShSt B b w (w.alloc (.cells #[.string x, .int .i64 num, .string nx, .slice A 0 cc] 30)) w.heap.size #[.string x, .int .i64 num, .string nx, .slice A 0 cc] out :=
    ⟨hib.out.alloc _, (Below.refl _ w).alloc hB _, kept_below ((Below.refl _ w).alloc (Nat.le_refl _) _), heap_alloc_new w _, by simp; omega, by omega, hout⟩
  generalize w.alloc (.cells #[.string x, .int .i64 num, .string nx, .slice A 0 cc] 30) = w2 at hst ⊢
  generalize w.heap.size = z at hst ⊢
  have hst0 := Lib.hid hst
  have q0 := hst.cell 0 _ rfl
  have q1 := hst.cell 1 _ rfl
  have q2 := hst.cell 2 _ rfl
  have q3 := hst.cell 3 _ rfl
  clear hst
  go_wp2_with fail
  refine (hsp _ _ _ _ nx hst0.out (by exact hsn)).mono ?_
  intro e w3 h
  unfold StepR at h
  rw [show tl nx = name from hnt] at h
  by_cases hf0 : (out : List UInt8).length + (name : List UInt8).length ≤ 4096
  case neg =>
    rw [if_neg hf0] at h
    obtain ⟨rfl, hb⟩ := h
    refine ⟨rfl, ?_⟩
    unfold PutR
    rw [if_neg (by rw [hR.out]; (try simp only [List.length_append, List.length_cons, List.length_nil] at hf0); (try simp only [List.length_append, List.length_cons, List.length_nil]); omega)]
    exact ⟨rfl, hb⟩
  rw [if_pos hf0] at h
  obtain ⟨⟨u0, rfl⟩, hst⟩ := h
  clear q0 q1 q2 q3 hst0
  have hst1 := Lib.hid hst
  have q0 := hst.cell 0 _ rfl
  have q1 := hst.cell 1 _ rfl
  have q2 := hst.cell 2 _ rfl
  have q3 := hst.cell 3 _ rfl
  clear hst
  replace hf0 := Lib.hid hf0
  clear q0 q1 q2 q3
  go_wp2
  go_end0
  have he := hst1.out
  unfold PutR
  rw [if_pos (by rw [hR.out]; have := hf0.out; (try simp only [List.length_append, List.length_cons, List.length_nil] at this); (try simp only [List.length_append, List.length_cons, List.length_nil]); omega)]
  exact ⟨⟨_, rfl⟩, by rw [hR.out]; simpa using he.isb, he.bel, he.kep⟩

set_option maxHeartbeats 4000000 in
set_option maxRecDepth 100000 in
theorem show_mark (B b : Nat) (op name : List UInt8) (num : Int) (a1 : E) (hr : rightE (.mk op num name [a1]) = true) (iha : Shows B b a1)(hn1 : op ≠ [110, 117, 109]) (hn2 : op ≠ [110, 97, 109, 101]) (hA : asgV op = false) : Shows B b (.mk op num name [a1]) := by
  intro v ok w out hx hok hib hB hpw _ hnum hsh hout
  have hzb := (isB_lt hib).2
  obtain ⟨A, cc, rfl, hcc, hcm, hkr⟩ := hx.form
  obtain ⟨x, hxx⟩ : ∃ x : ByteArray, (⟨op.toArray⟩ : ByteArray) = x := ⟨_, rfl⟩
  obtain ⟨nx, hnx⟩ : ∃ nx : ByteArray, (⟨name.toArray⟩ : ByteArray) = nx := ⟨_, rfl⟩
  have hxt : tl x = op := by rw [← hxx]; rfl
  have hnt : tl nx = name := by rw [← hnx]; rfl
  have hxl : x.toList = op := by rw [Lib.toList_data]; exact hxt
  unfold ShortE at hsh
  replace hsh := And.intro (right_short hr) hsh
  unfold NumE at hnum
  have hxs : x.size = op.length := by rw [← tl_len, hxt]
  have hns : nx.size = name.length := by rw [← tl_len, hnt]
  have hall : rightL [a1] = true := by rw [rightE, Bool.and_eq_true] at hr; exact hr.2
  obtain ⟨g, off, rfl, hgo, hkr⟩ := hkr.resolve_left (by simp)
  have hgB := hok g hgo
  obtain ⟨ak0, ak1, ak2, ak3, ca0, ca1, ca2, ca3, hka⟩ := hkr.at_ 0 (by simp)
  simp only [List.getElem_cons_zero, Nat.zero_mul, Nat.add_zero] at ca0 ca1 ca2 ca3 hka
  have hsa := fun W zz ot (h : ShSt B b w W zz #[.string x, .int .i64 num, .string nx, .slice (some ⟨g, off, none⟩) 1 cc] ot) => st_show h iha hka hok hpw (rightL_iff.1 hall a1 (by simp)) (hnum.2.mem a1 (by simp)) (hsh.2.2.mem a1 (by simp))
  have hsp := fun W zz cs ot s (h : ShSt B b w W zz cs ot) (hs : s.size ≤ 2000000) => st_put h s hs
  simp only [List.length_cons, List.length_nil, Nat.zero_add] at hcc ⊢
  have hR : Hid (showE (.mk op num name [a1]) = [40] ++ markV op ++ showE a1 ++ [41]) := by
    rw [Hid, showE]
    rw [if_neg hn1, if_neg hn2, showL, showL, bodyS, hA]; simp
  obtain ⟨RR, hRR⟩ : ∃ RR, showE (.mk op num name [a1]) = RR := ⟨_, rfl⟩
  rw [hRR] at hR ⊢
  rw [hxx, hnx]
  have g1 : (x.toList == [110, 117, 109]) = false := by rw [hxl]; simpa using hn1
  have g2 : (x.toList == [110, 97, 109, 101]) = false := by rw [hxl]; simpa using hn2
  have hsx : x.size ≤ 1000000 := by rw [hxs]; exact hsh.1
  have hsn : nx.size ≤ 1000000 := by rw [hns]; exact hsh.2.1
  have has := fun W => assigns_any x W
  have hma := fun W => markAhead_any x W
  rw [hxt] at has hma
  have hbr : ∀ c : UInt8, (⟨#[c]⟩ : ByteArray).size ≤ 2000000 := fun c => by simp [ByteArray.size]
  have hmk := markV_len op
  rw [hA] at has
  unfold maxLen at hcm
  have hib := Lib.hid hib
  clear hn1 hn2 hA hx hkr hxx hnx hxt hxl hRR hall hr hsh hka iha
  have i0 : (1 : Int) ≤ (cc : Int) := by omega
  go_enter Tryz.func37, Tryz.ntmps37
  go_upto_region 1 with fail
  have hst : ShSt B b w (w.alloc (.cells #[.string x, .int .i64 num, .string nx, .slice (some ⟨g, off, none⟩) 1 cc] 30)) w.heap.size #[.string x, .int .i64 num, .string nx, .slice (some ⟨g, off, none⟩) 1 cc] out :=
    ⟨hib.out.alloc _, (Below.refl _ w).alloc hB _, kept_below ((Below.refl _ w).alloc (Nat.le_refl _) _), heap_alloc_new w _, by simp; omega, by omega, hout⟩
  generalize w.alloc (.cells #[.string x, .int .i64 num, .string nx, .slice (some ⟨g, off, none⟩) 1 cc] 30) = w2 at hst ⊢
  generalize w.heap.size = z at hst ⊢
  have hst0 := Lib.hid hst
  have q0 := hst.cell 0 _ rfl
  have q1 := hst.cell 1 _ rfl
  have q2 := hst.cell 2 _ rfl
  have q3 := hst.cell 3 _ rfl
  clear hst
  go_wp2_with fail
  refine (hsp _ _ _ _ ⟨#[40]⟩ hst0.out (by exact hbr _)).mono ?_
  intro e w3 h
  unfold StepR at h
  rw [show tl ⟨#[40]⟩ = [40] from rfl] at h
  by_cases hf0 : (out : List UInt8).length + ([40] : List UInt8).length ≤ 4096
  case neg =>
    rw [if_neg hf0] at h
    obtain ⟨rfl, hb⟩ := h
    refine ⟨rfl, ?_⟩
    unfold PutR
    rw [if_neg (by rw [hR.out]; (try simp only [List.length_cons, List.length_nil] at hf0); (try simp only [List.length_append, List.length_cons, List.length_nil]); omega)]
    exact ⟨rfl, hb⟩
  rw [if_pos hf0] at h
  obtain ⟨⟨u0, rfl⟩, hst⟩ := h
  clear q0 q1 q2 q3 hst0
  have hst1 := Lib.hid hst
  have q0 := hst.cell 0 _ rfl
  have q1 := hst.cell 1 _ rfl
  have q2 := hst.cell 2 _ rfl
  have q3 := hst.cell 3 _ rfl
  clear hst
  replace hf0 := Lib.hid hf0
  go_wp2_with fail
  refine (has _).mono ?_
  rintro e wa ⟨rfl, hwa⟩
  obtain rfl := hwa.symm
  go_wp2_with fail
  refine (hma _).mono ?_
  rintro e wa ⟨rfl, hwa⟩
  obtain rfl := hwa.symm
  go_wp2_with fail
  refine (hsp _ _ _ _ ⟨(markV op).toArray⟩ hst1.out (by show (markV op).toArray.size ≤ _; simp; omega)).mono ?_
  intro e w4 h
  unfold StepR at h
  rw [show tl ⟨(markV op).toArray⟩ = markV op from rfl] at h
  by_cases hf1 : (out ++ [40] : List UInt8).length + (markV op : List UInt8).length ≤ 4096
  case neg =>
    rw [if_neg hf1] at h
    obtain ⟨rfl, hb⟩ := h
    refine ⟨rfl, ?_⟩
    unfold PutR
    rw [if_neg (by rw [hR.out]; (try simp only [List.length_append, List.length_cons, List.length_nil] at hf1); (try simp only [List.length_append, List.length_cons, List.length_nil]); omega)]
    exact ⟨rfl, hb⟩
  rw [if_pos hf1] at h
  obtain ⟨⟨u1, rfl⟩, hst⟩ := h
  clear q0 q1 q2 q3 hst1
  have hst2 := Lib.hid hst
  have q0 := hst.cell 0 _ rfl
  have q1 := hst.cell 1 _ rfl
  have q2 := hst.cell 2 _ rfl
  have q3 := hst.cell 3 _ rfl
  clear hst
  replace hf1 := Lib.hid hf1
  have da0 := (World.cell?_of_block (a := ⟨g, off, none⟩) (hst2.out.bel.block g hgB)).trans ca0
  have da1 := (World.cell?_of_block (a := ⟨g, off + 1, none⟩) (hst2.out.bel.block g hgB)).trans ca1
  have da2 := (World.cell?_of_block (a := ⟨g, off + 2, none⟩) (hst2.out.bel.block g hgB)).trans ca2
  have da3 := (World.cell?_of_block (a := ⟨g, off + 3, none⟩) (hst2.out.bel.block g hgB)).trans ca3
  go_wp2_with fail
  refine (hsa _ _ _ hst2.out).mono ?_
  intro e w5 h
  unfold StepR at h
  by_cases hf2 : (out ++ [40] ++ markV op : List UInt8).length + (showE a1 : List UInt8).length ≤ 4096
  case neg =>
    rw [if_neg hf2] at h
    obtain ⟨rfl, hb⟩ := h
    refine ⟨rfl, ?_⟩
    unfold PutR
    rw [if_neg (by rw [hR.out]; (try simp only [List.length_append, List.length_cons, List.length_nil] at hf2); (try simp only [List.length_append, List.length_cons, List.length_nil]); omega)]
    exact ⟨rfl, hb⟩
  rw [if_pos hf2] at h
  obtain ⟨⟨u2, rfl⟩, hst⟩ := h
  clear q0 q1 q2 q3 da0 da1 da2 da3 hst2
  have hst3 := Lib.hid hst
  have q0 := hst.cell 0 _ rfl
  have q1 := hst.cell 1 _ rfl
  have q2 := hst.cell 2 _ rfl
  have q3 := hst.cell 3 _ rfl
  clear hst
  replace hf2 := Lib.hid hf2
  go_wp2_with fail
  refine (hsp _ _ _ _ ⟨#[41]⟩ hst3.out (by exact hbr _)).mono ?_
  intro e w6 h
  unfold StepR at h
  rw [show tl ⟨#[41]⟩ = [41] from rfl] at h
  by_cases hf3 : (out ++ [40] ++ markV op ++ showE a1 : List UInt8).length + ([41] : List UInt8).length ≤ 4096
  case neg =>
    rw [if_neg hf3] at h
    obtain ⟨rfl, hb⟩ := h
    refine ⟨rfl, ?_⟩
    unfold PutR
    rw [if_neg (by rw [hR.out]; (try simp only [List.length_append, List.length_cons, List.length_nil] at hf3); (try simp only [List.length_append, List.length_cons, List.length_nil]); omega)]
    exact ⟨rfl, hb⟩
  rw [if_pos hf3] at h
  obtain ⟨⟨u3, rfl⟩, hst⟩ := h
  clear q0 q1 q2 q3 hst3
  have hst4 := Lib.hid hst
  have q0 := hst.cell 0 _ rfl
  have q1 := hst.cell 1 _ rfl
  have q2 := hst.cell 2 _ rfl
  have q3 := hst.cell 3 _ rfl
  clear hst
  replace hf3 := Lib.hid hf3
  clear q0 q1 q2 q3
  go_wp2
  go_end0
  have he := hst4.out
  unfold PutR
  rw [if_pos (by rw [hR.out]; have := hf3.out; (try simp only [List.length_append, List.length_cons, List.length_nil] at this); (try simp only [List.length_append, List.length_cons, List.length_nil]); omega)]
  exact ⟨⟨_, rfl⟩, by rw [hR.out]; simpa using he.isb, he.bel, he.kep⟩

set_option maxHeartbeats 4000000 in
set_option maxRecDepth 100000 in
theorem show_asg (B b : Nat) (op name : List UInt8) (num : Int) (a1 : E) (hr : rightE (.mk op num name [a1]) = true) (iha : Shows B b a1)(hn1 : op ≠ [110, 117, 109]) (hn2 : op ≠ [110, 97, 109, 101]) (hA : asgV op = true) : Shows B b (.mk op num name [a1]) := by
  intro v ok w out hx hok hib hB hpw _ hnum hsh hout
  have hzb := (isB_lt hib).2
  obtain ⟨A, cc, rfl, hcc, hcm, hkr⟩ := hx.form
  obtain ⟨x, hxx⟩ : ∃ x : ByteArray, (⟨op.toArray⟩ : ByteArray) = x := ⟨_, rfl⟩
  obtain ⟨nx, hnx⟩ : ∃ nx : ByteArray, (⟨name.toArray⟩ : ByteArray) = nx := ⟨_, rfl⟩
  have hxt : tl x = op := by rw [← hxx]; rfl
  have hnt : tl nx = name := by rw [← hnx]; rfl
  have hxl : x.toList = op := by rw [Lib.toList_data]; exact hxt
  unfold ShortE at hsh
  replace hsh := And.intro (right_short hr) hsh
  unfold NumE at hnum
  have hxs : x.size = op.length := by rw [← tl_len, hxt]
  have hns : nx.size = name.length := by rw [← tl_len, hnt]
  have hall : rightL [a1] = true := by rw [rightE, Bool.and_eq_true] at hr; exact hr.2
  obtain ⟨g, off, rfl, hgo, hkr⟩ := hkr.resolve_left (by simp)
  have hgB := hok g hgo
  obtain ⟨ak0, ak1, ak2, ak3, ca0, ca1, ca2, ca3, hka⟩ := hkr.at_ 0 (by simp)
  simp only [List.getElem_cons_zero, Nat.zero_mul, Nat.add_zero] at ca0 ca1 ca2 ca3 hka
  have hsa := fun W zz ot (h : ShSt B b w W zz #[.string x, .int .i64 num, .string nx, .slice (some ⟨g, off, none⟩) 1 cc] ot) => st_show h iha hka hok hpw (rightL_iff.1 hall a1 (by simp)) (hnum.2.mem a1 (by simp)) (hsh.2.2.mem a1 (by simp))
  have hsp := fun W zz cs ot s (h : ShSt B b w W zz cs ot) (hs : s.size ≤ 2000000) => st_put h s hs
  simp only [List.length_cons, List.length_nil, Nat.zero_add] at hcc ⊢
  have hR : Hid (showE (.mk op num name [a1]) = [40] ++ (name ++ op) ++ showE a1 ++ [41]) := by
    rw [Hid, showE]
    rw [if_neg hn1, if_neg hn2, showL, showL, bodyS, hA]; simp
  obtain ⟨RR, hRR⟩ : ∃ RR, showE (.mk op num name [a1]) = RR := ⟨_, rfl⟩
  rw [hRR] at hR ⊢
  rw [hxx, hnx]
  have g1 : (x.toList == [110, 117, 109]) = false := by rw [hxl]; simpa using hn1
  have g2 : (x.toList == [110, 97, 109, 101]) = false := by rw [hxl]; simpa using hn2
  have hsx : x.size ≤ 1000000 := by rw [hxs]; exact hsh.1
  have hsn : nx.size ≤ 1000000 := by rw [hns]; exact hsh.2.1
  have has := fun W => assigns_any x W
  have hma := fun W => markAhead_any x W
  rw [hxt] at has hma
  have hbr : ∀ c : UInt8, (⟨#[c]⟩ : ByteArray).size ≤ 2000000 := fun c => by simp [ByteArray.size]
  have hmk := markV_len op
  rw [hA] at has
  have hsz : (nx ++ x).size ≤ 2000000 := by rw [ByteArray.size_append]; omega
  have hat : tl (nx ++ x) = name ++ op := by unfold tl; rw [ByteArray.data_append, Array.toList_append]; show tl nx ++ tl x = _; rw [hnt, hxt]
  unfold maxLen at hcm
  have hib := Lib.hid hib
  clear hn1 hn2 hA hx hkr hxx hnx hxt hxl hRR hall hr hsh hka iha
  have i0 : (1 : Int) ≤ (cc : Int) := by omega
  go_enter Tryz.func37, Tryz.ntmps37
  go_upto_region 1 with fail
  have hst : ShSt B b w (w.alloc (.cells #[.string x, .int .i64 num, .string nx, .slice (some ⟨g, off, none⟩) 1 cc] 30)) w.heap.size #[.string x, .int .i64 num, .string nx, .slice (some ⟨g, off, none⟩) 1 cc] out :=
    ⟨hib.out.alloc _, (Below.refl _ w).alloc hB _, kept_below ((Below.refl _ w).alloc (Nat.le_refl _) _), heap_alloc_new w _, by simp; omega, by omega, hout⟩
  generalize w.alloc (.cells #[.string x, .int .i64 num, .string nx, .slice (some ⟨g, off, none⟩) 1 cc] 30) = w2 at hst ⊢
  generalize w.heap.size = z at hst ⊢
  have hst0 := Lib.hid hst
  have q0 := hst.cell 0 _ rfl
  have q1 := hst.cell 1 _ rfl
  have q2 := hst.cell 2 _ rfl
  have q3 := hst.cell 3 _ rfl
  clear hst
  go_wp2_with fail
  refine (hsp _ _ _ _ ⟨#[40]⟩ hst0.out (by exact hbr _)).mono ?_
  intro e w3 h
  unfold StepR at h
  rw [show tl ⟨#[40]⟩ = [40] from rfl] at h
  by_cases hf0 : (out : List UInt8).length + ([40] : List UInt8).length ≤ 4096
  case neg =>
    rw [if_neg hf0] at h
    obtain ⟨rfl, hb⟩ := h
    refine ⟨rfl, ?_⟩
    unfold PutR
    rw [if_neg (by rw [hR.out]; (try simp only [List.length_cons, List.length_nil] at hf0); (try simp only [List.length_append, List.length_cons, List.length_nil]); omega)]
    exact ⟨rfl, hb⟩
  rw [if_pos hf0] at h
  obtain ⟨⟨u0, rfl⟩, hst⟩ := h
  clear q0 q1 q2 q3 hst0
  have hst1 := Lib.hid hst
  have q0 := hst.cell 0 _ rfl
  have q1 := hst.cell 1 _ rfl
  have q2 := hst.cell 2 _ rfl
  have q3 := hst.cell 3 _ rfl
  clear hst
  replace hf0 := Lib.hid hf0
  go_wp2_with fail
  refine (has _).mono ?_
  rintro e wa ⟨rfl, hwa⟩
  obtain rfl := hwa.symm
  go_wp2_with fail
  refine (hsp _ _ _ _ (nx ++ x) hst1.out (by exact hsz)).mono ?_
  intro e w4 h
  unfold StepR at h
  rw [show tl (nx ++ x) = (name ++ op) from hat] at h
  by_cases hf1 : (out ++ [40] : List UInt8).length + ((name ++ op) : List UInt8).length ≤ 4096
  case neg =>
    rw [if_neg hf1] at h
    obtain ⟨rfl, hb⟩ := h
    refine ⟨rfl, ?_⟩
    unfold PutR
    rw [if_neg (by rw [hR.out]; (try simp only [List.length_append, List.length_cons, List.length_nil] at hf1); (try simp only [List.length_append, List.length_cons, List.length_nil]); omega)]
    exact ⟨rfl, hb⟩
  rw [if_pos hf1] at h
  obtain ⟨⟨u1, rfl⟩, hst⟩ := h
  clear q0 q1 q2 q3 hst1
  have hst2 := Lib.hid hst
  have q0 := hst.cell 0 _ rfl
  have q1 := hst.cell 1 _ rfl
  have q2 := hst.cell 2 _ rfl
  have q3 := hst.cell 3 _ rfl
  clear hst
  replace hf1 := Lib.hid hf1
  have da0 := (World.cell?_of_block (a := ⟨g, off, none⟩) (hst2.out.bel.block g hgB)).trans ca0
  have da1 := (World.cell?_of_block (a := ⟨g, off + 1, none⟩) (hst2.out.bel.block g hgB)).trans ca1
  have da2 := (World.cell?_of_block (a := ⟨g, off + 2, none⟩) (hst2.out.bel.block g hgB)).trans ca2
  have da3 := (World.cell?_of_block (a := ⟨g, off + 3, none⟩) (hst2.out.bel.block g hgB)).trans ca3
  go_wp2_with fail
  refine (hsa _ _ _ hst2.out).mono ?_
  intro e w5 h
  unfold StepR at h
  by_cases hf2 : (out ++ [40] ++ (name ++ op) : List UInt8).length + (showE a1 : List UInt8).length ≤ 4096
  case neg =>
    rw [if_neg hf2] at h
    obtain ⟨rfl, hb⟩ := h
    refine ⟨rfl, ?_⟩
    unfold PutR
    rw [if_neg (by rw [hR.out]; (try simp only [List.length_append, List.length_cons, List.length_nil] at hf2); (try simp only [List.length_append, List.length_cons, List.length_nil]); omega)]
    exact ⟨rfl, hb⟩
  rw [if_pos hf2] at h
  obtain ⟨⟨u2, rfl⟩, hst⟩ := h
  clear q0 q1 q2 q3 da0 da1 da2 da3 hst2
  have hst3 := Lib.hid hst
  have q0 := hst.cell 0 _ rfl
  have q1 := hst.cell 1 _ rfl
  have q2 := hst.cell 2 _ rfl
  have q3 := hst.cell 3 _ rfl
  clear hst
  replace hf2 := Lib.hid hf2
  go_wp2_with fail
  refine (hsp _ _ _ _ ⟨#[41]⟩ hst3.out (by exact hbr _)).mono ?_
  intro e w6 h
  unfold StepR at h
  rw [show tl ⟨#[41]⟩ = [41] from rfl] at h
  by_cases hf3 : (out ++ [40] ++ (name ++ op) ++ showE a1 : List UInt8).length + ([41] : List UInt8).length ≤ 4096
  case neg =>
    rw [if_neg hf3] at h
    obtain ⟨rfl, hb⟩ := h
    refine ⟨rfl, ?_⟩
    unfold PutR
    rw [if_neg (by rw [hR.out]; (try simp only [List.length_append, List.length_cons, List.length_nil] at hf3); (try simp only [List.length_append, List.length_cons, List.length_nil]); omega)]
    exact ⟨rfl, hb⟩
  rw [if_pos hf3] at h
  obtain ⟨⟨u3, rfl⟩, hst⟩ := h
  clear q0 q1 q2 q3 hst3
  have hst4 := Lib.hid hst
  have q0 := hst.cell 0 _ rfl
  have q1 := hst.cell 1 _ rfl
  have q2 := hst.cell 2 _ rfl
  have q3 := hst.cell 3 _ rfl
  clear hst
  replace hf3 := Lib.hid hf3
  clear q0 q1 q2 q3
  go_wp2
  go_end0
  have he := hst4.out
  unfold PutR
  rw [if_pos (by rw [hR.out]; have := hf3.out; (try simp only [List.length_append, List.length_cons, List.length_nil] at this); (try simp only [List.length_append, List.length_cons, List.length_nil]); omega)]
  exact ⟨⟨_, rfl⟩, by rw [hR.out]; simpa using he.isb, he.bel, he.kep⟩

set_option maxHeartbeats 4000000 in
set_option maxRecDepth 100000 in
theorem show_two (B b : Nat) (op name : List UInt8) (num : Int) (a1 b1 : E) (hr : rightE (.mk op num name [a1, b1]) = true) (iha : Shows B b a1) (ihb : Shows B b b1)(hn1 : op ≠ [110, 117, 109]) (hn2 : op ≠ [110, 97, 109, 101])  : Shows B b (.mk op num name [a1, b1]) := by
  intro v ok w out hx hok hib hB hpw _ hnum hsh hout
  have hzb := (isB_lt hib).2
  obtain ⟨A, cc, rfl, hcc, hcm, hkr⟩ := hx.form
  obtain ⟨x, hxx⟩ : ∃ x : ByteArray, (⟨op.toArray⟩ : ByteArray) = x := ⟨_, rfl⟩
  obtain ⟨nx, hnx⟩ : ∃ nx : ByteArray, (⟨name.toArray⟩ : ByteArray) = nx := ⟨_, rfl⟩
  have hxt : tl x = op := by rw [← hxx]; rfl
  have hnt : tl nx = name := by rw [← hnx]; rfl
  have hxl : x.toList = op := by rw [Lib.toList_data]; exact hxt
  unfold ShortE at hsh
  replace hsh := And.intro (right_short hr) hsh
  unfold NumE at hnum
  have hxs : x.size = op.length := by rw [← tl_len, hxt]
  have hns : nx.size = name.length := by rw [← tl_len, hnt]
  have hall : rightL [a1, b1] = true := by rw [rightE, Bool.and_eq_true] at hr; exact hr.2
  obtain ⟨g, off, rfl, hgo, hkr⟩ := hkr.resolve_left (by simp)
  have hgB := hok g hgo
  obtain ⟨ak0, ak1, ak2, ak3, ca0, ca1, ca2, ca3, hka⟩ := hkr.at_ 0 (by simp)
  obtain ⟨bk0, bk1, bk2, bk3, cb0, cb1, cb2, cb3, hkb⟩ := hkr.at_ 1 (by simp)
  simp only [List.getElem_cons_zero, List.getElem_cons_succ, Nat.zero_mul, Nat.add_zero, Nat.one_mul] at ca0 ca1 ca2 ca3 cb0 cb1 cb2 cb3 hka hkb
  have hsa := fun W zz ot (h : ShSt B b w W zz #[.string x, .int .i64 num, .string nx, .slice (some ⟨g, off, none⟩) 2 cc] ot) => st_show h iha hka hok hpw (rightL_iff.1 hall a1 (by simp)) (hnum.2.mem a1 (by simp)) (hsh.2.2.mem a1 (by simp))
  have hsb := fun W zz ot (h : ShSt B b w W zz #[.string x, .int .i64 num, .string nx, .slice (some ⟨g, off, none⟩) 2 cc] ot) => st_show h ihb hkb hok hpw (rightL_iff.1 hall b1 (by simp)) (hnum.2.mem b1 (by simp)) (hsh.2.2.mem b1 (by simp))
  have hsp := fun W zz cs ot s (h : ShSt B b w W zz cs ot) (hs : s.size ≤ 2000000) => st_put h s hs
  simp only [List.length_cons, List.length_nil, Nat.zero_add, Nat.reduceAdd] at hcc ⊢
  have hR : Hid (showE (.mk op num name [a1, b1]) = [40] ++ showE a1 ++ op ++ showE b1 ++ [41]) := by
    rw [Hid, showE]
    rw [if_neg hn1, if_neg hn2, showL, showL, showL, bodyS]; simp
  obtain ⟨RR, hRR⟩ : ∃ RR, showE (.mk op num name [a1, b1]) = RR := ⟨_, rfl⟩
  rw [hRR] at hR ⊢
  rw [hxx, hnx]
  have g1 : (x.toList == [110, 117, 109]) = false := by rw [hxl]; simpa using hn1
  have g2 : (x.toList == [110, 97, 109, 101]) = false := by rw [hxl]; simpa using hn2
  have hsx : x.size ≤ 1000000 := by rw [hxs]; exact hsh.1
  have hsn : nx.size ≤ 1000000 := by rw [hns]; exact hsh.2.1
  have has := fun W => assigns_any x W
  have hma := fun W => markAhead_any x W
  rw [hxt] at has hma
  have hbr : ∀ c : UInt8, (⟨#[c]⟩ : ByteArray).size ≤ 2000000 := fun c => by simp [ByteArray.size]
  have hmk := markV_len op
  have hxt2 : tl x = op := hxt
  unfold maxLen at hcm
  have hib := Lib.hid hib
  clear hn1 hn2 hx hkr hxx hnx hxt hxl hRR hall hr hsh hka iha hkb ihb
  have i0 : (2 : Int) ≤ (cc : Int) := by omega
  go_enter Tryz.func37, Tryz.ntmps37
  go_upto_region 1 with fail
  have hst : ShSt B b w (w.alloc (.cells #[.string x, .int .i64 num, .string nx, .slice (some ⟨g, off, none⟩) 2 cc] 30)) w.heap.size #[.string x, .int .i64 num, .string nx, .slice (some ⟨g, off, none⟩) 2 cc] out :=
    ⟨hib.out.alloc _, (Below.refl _ w).alloc hB _, kept_below ((Below.refl _ w).alloc (Nat.le_refl _) _), heap_alloc_new w _, by simp; omega, by omega, hout⟩
  generalize w.alloc (.cells #[.string x, .int .i64 num, .string nx, .slice (some ⟨g, off, none⟩) 2 cc] 30) = w2 at hst ⊢
  generalize w.heap.size = z at hst ⊢
  have hst0 := Lib.hid hst
  have q0 := hst.cell 0 _ rfl
  have q1 := hst.cell 1 _ rfl
  have q2 := hst.cell 2 _ rfl
  have q3 := hst.cell 3 _ rfl
  clear hst
  go_wp2_with fail
  refine (hsp _ _ _ _ ⟨#[40]⟩ hst0.out (by exact hbr _)).mono ?_
  intro e w3 h
  unfold StepR at h
  rw [show tl ⟨#[40]⟩ = [40] from rfl] at h
  by_cases hf0 : (out : List UInt8).length + ([40] : List UInt8).length ≤ 4096
  case neg =>
    rw [if_neg hf0] at h
    obtain ⟨rfl, hb⟩ := h
    refine ⟨rfl, ?_⟩
    unfold PutR
    rw [if_neg (by rw [hR.out]; (try simp only [List.length_cons, List.length_nil] at hf0); (try simp only [List.length_append, List.length_cons, List.length_nil]); omega)]
    exact ⟨rfl, hb⟩
  rw [if_pos hf0] at h
  obtain ⟨⟨u0, rfl⟩, hst⟩ := h
  clear q0 q1 q2 q3 hst0
  have hst1 := Lib.hid hst
  have q0 := hst.cell 0 _ rfl
  have q1 := hst.cell 1 _ rfl
  have q2 := hst.cell 2 _ rfl
  have q3 := hst.cell 3 _ rfl
  clear hst
  replace hf0 := Lib.hid hf0
  have da0 := (World.cell?_of_block (a := ⟨g, off, none⟩) (hst1.out.bel.block g hgB)).trans ca0
  have da1 := (World.cell?_of_block (a := ⟨g, off + 1, none⟩) (hst1.out.bel.block g hgB)).trans ca1
  have da2 := (World.cell?_of_block (a := ⟨g, off + 2, none⟩) (hst1.out.bel.block g hgB)).trans ca2
  have da3 := (World.cell?_of_block (a := ⟨g, off + 3, none⟩) (hst1.out.bel.block g hgB)).trans ca3
  go_wp2_with fail
  refine (hsa _ _ _ hst1.out).mono ?_
  intro e w4 h
  unfold StepR at h
  by_cases hf1 : (out ++ [40] : List UInt8).length + (showE a1 : List UInt8).length ≤ 4096
  case neg =>
    rw [if_neg hf1] at h
    obtain ⟨rfl, hb⟩ := h
    refine ⟨rfl, ?_⟩
    unfold PutR
    rw [if_neg (by rw [hR.out]; (try simp only [List.length_append, List.length_cons, List.length_nil] at hf1); (try simp only [List.length_append, List.length_cons, List.length_nil]); omega)]
    exact ⟨rfl, hb⟩
  rw [if_pos hf1] at h
  obtain ⟨⟨u1, rfl⟩, hst⟩ := h
  clear q0 q1 q2 q3 da0 da1 da2 da3 hst1
  have hst2 := Lib.hid hst
  have q0 := hst.cell 0 _ rfl
  have q1 := hst.cell 1 _ rfl
  have q2 := hst.cell 2 _ rfl
  have q3 := hst.cell 3 _ rfl
  clear hst
  replace hf1 := Lib.hid hf1
  go_wp2_with fail
  refine (hsp _ _ _ _ x hst2.out (by omega)).mono ?_
  intro e w5 h
  unfold StepR at h
  rw [show tl x = op from hxt2] at h
  by_cases hf2 : (out ++ [40] ++ showE a1 : List UInt8).length + (op : List UInt8).length ≤ 4096
  case neg =>
    rw [if_neg hf2] at h
    obtain ⟨rfl, hb⟩ := h
    refine ⟨rfl, ?_⟩
    unfold PutR
    rw [if_neg (by rw [hR.out]; (try simp only [List.length_append, List.length_cons, List.length_nil] at hf2); (try simp only [List.length_append, List.length_cons, List.length_nil]); omega)]
    exact ⟨rfl, hb⟩
  rw [if_pos hf2] at h
  obtain ⟨⟨u2, rfl⟩, hst⟩ := h
  clear q0 q1 q2 q3 hst2
  have hst3 := Lib.hid hst
  have q0 := hst.cell 0 _ rfl
  have q1 := hst.cell 1 _ rfl
  have q2 := hst.cell 2 _ rfl
  have q3 := hst.cell 3 _ rfl
  clear hst
  replace hf2 := Lib.hid hf2
  have db0 := (World.cell?_of_block (a := ⟨g, off + 4, none⟩) (hst3.out.bel.block g hgB)).trans cb0
  have db1 := (World.cell?_of_block (a := ⟨g, off + 4 + 1, none⟩) (hst3.out.bel.block g hgB)).trans cb1
  have db2 := (World.cell?_of_block (a := ⟨g, off + 4 + 2, none⟩) (hst3.out.bel.block g hgB)).trans cb2
  have db3 := (World.cell?_of_block (a := ⟨g, off + 4 + 3, none⟩) (hst3.out.bel.block g hgB)).trans cb3
  go_wp2_with fail
  refine (hsb _ _ _ hst3.out).mono ?_
  intro e w6 h
  unfold StepR at h
  by_cases hf3 : (out ++ [40] ++ showE a1 ++ op : List UInt8).length + (showE b1 : List UInt8).length ≤ 4096
  case neg =>
    rw [if_neg hf3] at h
    obtain ⟨rfl, hb⟩ := h
    refine ⟨rfl, ?_⟩
    unfold PutR
    rw [if_neg (by rw [hR.out]; (try simp only [List.length_append, List.length_cons, List.length_nil] at hf3); (try simp only [List.length_append, List.length_cons, List.length_nil]); omega)]
    exact ⟨rfl, hb⟩
  rw [if_pos hf3] at h
  obtain ⟨⟨u3, rfl⟩, hst⟩ := h
  clear q0 q1 q2 q3 db0 db1 db2 db3 hst3
  have hst4 := Lib.hid hst
  have q0 := hst.cell 0 _ rfl
  have q1 := hst.cell 1 _ rfl
  have q2 := hst.cell 2 _ rfl
  have q3 := hst.cell 3 _ rfl
  clear hst
  replace hf3 := Lib.hid hf3
  go_wp2_with fail
  refine (hsp _ _ _ _ ⟨#[41]⟩ hst4.out (by exact hbr _)).mono ?_
  intro e w7 h
  unfold StepR at h
  rw [show tl ⟨#[41]⟩ = [41] from rfl] at h
  by_cases hf4 : (out ++ [40] ++ showE a1 ++ op ++ showE b1 : List UInt8).length + ([41] : List UInt8).length ≤ 4096
  case neg =>
    rw [if_neg hf4] at h
    obtain ⟨rfl, hb⟩ := h
    refine ⟨rfl, ?_⟩
    unfold PutR
    rw [if_neg (by rw [hR.out]; (try simp only [List.length_append, List.length_cons, List.length_nil] at hf4); (try simp only [List.length_append, List.length_cons, List.length_nil]); omega)]
    exact ⟨rfl, hb⟩
  rw [if_pos hf4] at h
  obtain ⟨⟨u4, rfl⟩, hst⟩ := h
  clear q0 q1 q2 q3 hst4
  have hst5 := Lib.hid hst
  have q0 := hst.cell 0 _ rfl
  have q1 := hst.cell 1 _ rfl
  have q2 := hst.cell 2 _ rfl
  have q3 := hst.cell 3 _ rfl
  clear hst
  replace hf4 := Lib.hid hf4
  clear q0 q1 q2 q3
  go_wp2
  go_end0
  have he := hst5.out
  unfold PutR
  rw [if_pos (by rw [hR.out]; have := hf4.out; (try simp only [List.length_append, List.length_cons, List.length_nil] at this); (try simp only [List.length_append, List.length_cons, List.length_nil]); omega)]
  exact ⟨⟨_, rfl⟩, by rw [hR.out]; simpa using he.isb, he.bel, he.kep⟩

set_option maxHeartbeats 4000000 in
set_option maxRecDepth 100000 in
theorem show_three (B b : Nat) (op name : List UInt8) (num : Int) (a1 b1 c1 : E) (hr : rightE (.mk op num name [a1, b1, c1]) = true) (iha : Shows B b a1) (ihb : Shows B b b1) (ihc : Shows B b c1)(hn1 : op ≠ [110, 117, 109]) (hn2 : op ≠ [110, 97, 109, 101])  : Shows B b (.mk op num name [a1, b1, c1]) := by
  intro v ok w out hx hok hib hB hpw _ hnum hsh hout
  have hzb := (isB_lt hib).2
  obtain ⟨A, cc, rfl, hcc, hcm, hkr⟩ := hx.form
  obtain ⟨x, hxx⟩ : ∃ x : ByteArray, (⟨op.toArray⟩ : ByteArray) = x := ⟨_, rfl⟩
  obtain ⟨nx, hnx⟩ : ∃ nx : ByteArray, (⟨name.toArray⟩ : ByteArray) = nx := ⟨_, rfl⟩
  have hxt : tl x = op := by rw [← hxx]; rfl
  have hnt : tl nx = name := by rw [← hnx]; rfl
  have hxl : x.toList = op := by rw [Lib.toList_data]; exact hxt
  unfold ShortE at hsh
  replace hsh := And.intro (right_short hr) hsh
  unfold NumE at hnum
  have hxs : x.size = op.length := by rw [← tl_len, hxt]
  have hns : nx.size = name.length := by rw [← tl_len, hnt]
  have hall : rightL [a1, b1, c1] = true := by rw [rightE, Bool.and_eq_true] at hr; exact hr.2
  obtain ⟨g, off, rfl, hgo, hkr⟩ := hkr.resolve_left (by simp)
  have hgB := hok g hgo
  obtain ⟨ak0, ak1, ak2, ak3, ca0, ca1, ca2, ca3, hka⟩ := hkr.at_ 0 (by simp)
  obtain ⟨bk0, bk1, bk2, bk3, cb0, cb1, cb2, cb3, hkb⟩ := hkr.at_ 1 (by simp)
  obtain ⟨ck0, ck1, ck2, ck3, cc0, cc1, cc2, cc3, hkc⟩ := hkr.at_ 2 (by simp)
  simp only [List.getElem_cons_zero, List.getElem_cons_succ, Nat.zero_mul, Nat.add_zero, Nat.one_mul, Nat.reduceMul] at ca0 ca1 ca2 ca3 cb0 cb1 cb2 cb3 cc0 cc1 cc2 cc3 hka hkb hkc
  have hsa := fun W zz ot (h : ShSt B b w W zz #[.string x, .int .i64 num, .string nx, .slice (some ⟨g, off, none⟩) 3 cc] ot) => st_show h iha hka hok hpw (rightL_iff.1 hall a1 (by simp)) (hnum.2.mem a1 (by simp)) (hsh.2.2.mem a1 (by simp))
  have hsb := fun W zz ot (h : ShSt B b w W zz #[.string x, .int .i64 num, .string nx, .slice (some ⟨g, off, none⟩) 3 cc] ot) => st_show h ihb hkb hok hpw (rightL_iff.1 hall b1 (by simp)) (hnum.2.mem b1 (by simp)) (hsh.2.2.mem b1 (by simp))
  have hsc := fun W zz ot (h : ShSt B b w W zz #[.string x, .int .i64 num, .string nx, .slice (some ⟨g, off, none⟩) 3 cc] ot) => st_show h ihc hkc hok hpw (rightL_iff.1 hall c1 (by simp)) (hnum.2.mem c1 (by simp)) (hsh.2.2.mem c1 (by simp))
  have hsp := fun W zz cs ot s (h : ShSt B b w W zz cs ot) (hs : s.size ≤ 2000000) => st_put h s hs
  simp only [List.length_cons, List.length_nil, Nat.zero_add, Nat.reduceAdd] at hcc ⊢
  have hR : Hid (showE (.mk op num name [a1, b1, c1]) = [40] ++ showE a1 ++ [63] ++ showE b1 ++ [58] ++ showE c1 ++ [41]) := by
    rw [Hid, showE]
    rw [if_neg hn1, if_neg hn2, showL, showL, showL, showL, bodyS]; simp
  obtain ⟨RR, hRR⟩ : ∃ RR, showE (.mk op num name [a1, b1, c1]) = RR := ⟨_, rfl⟩
  rw [hRR] at hR ⊢
  rw [hxx, hnx]
  have g1 : (x.toList == [110, 117, 109]) = false := by rw [hxl]; simpa using hn1
  have g2 : (x.toList == [110, 97, 109, 101]) = false := by rw [hxl]; simpa using hn2
  have hsx : x.size ≤ 1000000 := by rw [hxs]; exact hsh.1
  have hsn : nx.size ≤ 1000000 := by rw [hns]; exact hsh.2.1
  have has := fun W => assigns_any x W
  have hma := fun W => markAhead_any x W
  rw [hxt] at has hma
  have hbr : ∀ c : UInt8, (⟨#[c]⟩ : ByteArray).size ≤ 2000000 := fun c => by simp [ByteArray.size]
  have hmk := markV_len op
  unfold maxLen at hcm
  have hib := Lib.hid hib
  clear hn1 hn2 hx hkr hxx hnx hxt hxl hRR hall hr hsh hka iha hkb ihb hkc ihc
  have i0 : (3 : Int) ≤ (cc : Int) := by omega
  go_enter Tryz.func37, Tryz.ntmps37
  go_upto_region 1 with fail
  have hst : ShSt B b w (w.alloc (.cells #[.string x, .int .i64 num, .string nx, .slice (some ⟨g, off, none⟩) 3 cc] 30)) w.heap.size #[.string x, .int .i64 num, .string nx, .slice (some ⟨g, off, none⟩) 3 cc] out :=
    ⟨hib.out.alloc _, (Below.refl _ w).alloc hB _, kept_below ((Below.refl _ w).alloc (Nat.le_refl _) _), heap_alloc_new w _, by simp; omega, by omega, hout⟩
  generalize w.alloc (.cells #[.string x, .int .i64 num, .string nx, .slice (some ⟨g, off, none⟩) 3 cc] 30) = w2 at hst ⊢
  generalize w.heap.size = z at hst ⊢
  have hst0 := Lib.hid hst
  have q0 := hst.cell 0 _ rfl
  have q1 := hst.cell 1 _ rfl
  have q2 := hst.cell 2 _ rfl
  have q3 := hst.cell 3 _ rfl
  clear hst
  go_wp2_with fail
  refine (hsp _ _ _ _ ⟨#[40]⟩ hst0.out (by exact hbr _)).mono ?_
  intro e w3 h
  unfold StepR at h
  rw [show tl ⟨#[40]⟩ = [40] from rfl] at h
  by_cases hf0 : (out : List UInt8).length + ([40] : List UInt8).length ≤ 4096
  case neg =>
    rw [if_neg hf0] at h
    obtain ⟨rfl, hb⟩ := h
    refine ⟨rfl, ?_⟩
    unfold PutR
    rw [if_neg (by rw [hR.out]; (try simp only [List.length_cons, List.length_nil] at hf0); (try simp only [List.length_append, List.length_cons, List.length_nil]); omega)]
    exact ⟨rfl, hb⟩
  rw [if_pos hf0] at h
  obtain ⟨⟨u0, rfl⟩, hst⟩ := h
  clear q0 q1 q2 q3 hst0
  have hst1 := Lib.hid hst
  have q0 := hst.cell 0 _ rfl
  have q1 := hst.cell 1 _ rfl
  have q2 := hst.cell 2 _ rfl
  have q3 := hst.cell 3 _ rfl
  clear hst
  replace hf0 := Lib.hid hf0
  have da0 := (World.cell?_of_block (a := ⟨g, off, none⟩) (hst1.out.bel.block g hgB)).trans ca0
  have da1 := (World.cell?_of_block (a := ⟨g, off + 1, none⟩) (hst1.out.bel.block g hgB)).trans ca1
  have da2 := (World.cell?_of_block (a := ⟨g, off + 2, none⟩) (hst1.out.bel.block g hgB)).trans ca2
  have da3 := (World.cell?_of_block (a := ⟨g, off + 3, none⟩) (hst1.out.bel.block g hgB)).trans ca3
  go_wp2_with fail
  refine (hsa _ _ _ hst1.out).mono ?_
  intro e w4 h
  unfold StepR at h
  by_cases hf1 : (out ++ [40] : List UInt8).length + (showE a1 : List UInt8).length ≤ 4096
  case neg =>
    rw [if_neg hf1] at h
    obtain ⟨rfl, hb⟩ := h
    refine ⟨rfl, ?_⟩
    unfold PutR
    rw [if_neg (by rw [hR.out]; (try simp only [List.length_append, List.length_cons, List.length_nil] at hf1); (try simp only [List.length_append, List.length_cons, List.length_nil]); omega)]
    exact ⟨rfl, hb⟩
  rw [if_pos hf1] at h
  obtain ⟨⟨u1, rfl⟩, hst⟩ := h
  clear q0 q1 q2 q3 da0 da1 da2 da3 hst1
  have hst2 := Lib.hid hst
  have q0 := hst.cell 0 _ rfl
  have q1 := hst.cell 1 _ rfl
  have q2 := hst.cell 2 _ rfl
  have q3 := hst.cell 3 _ rfl
  clear hst
  replace hf1 := Lib.hid hf1
  go_wp2_with fail
  refine (hsp _ _ _ _ ⟨#[63]⟩ hst2.out (by exact hbr _)).mono ?_
  intro e w5 h
  unfold StepR at h
  rw [show tl ⟨#[63]⟩ = [63] from rfl] at h
  by_cases hf2 : (out ++ [40] ++ showE a1 : List UInt8).length + ([63] : List UInt8).length ≤ 4096
  case neg =>
    rw [if_neg hf2] at h
    obtain ⟨rfl, hb⟩ := h
    refine ⟨rfl, ?_⟩
    unfold PutR
    rw [if_neg (by rw [hR.out]; (try simp only [List.length_append, List.length_cons, List.length_nil] at hf2); (try simp only [List.length_append, List.length_cons, List.length_nil]); omega)]
    exact ⟨rfl, hb⟩
  rw [if_pos hf2] at h
  obtain ⟨⟨u2, rfl⟩, hst⟩ := h
  clear q0 q1 q2 q3 hst2
  have hst3 := Lib.hid hst
  have q0 := hst.cell 0 _ rfl
  have q1 := hst.cell 1 _ rfl
  have q2 := hst.cell 2 _ rfl
  have q3 := hst.cell 3 _ rfl
  clear hst
  replace hf2 := Lib.hid hf2
  have db0 := (World.cell?_of_block (a := ⟨g, off + 4, none⟩) (hst3.out.bel.block g hgB)).trans cb0
  have db1 := (World.cell?_of_block (a := ⟨g, off + 4 + 1, none⟩) (hst3.out.bel.block g hgB)).trans cb1
  have db2 := (World.cell?_of_block (a := ⟨g, off + 4 + 2, none⟩) (hst3.out.bel.block g hgB)).trans cb2
  have db3 := (World.cell?_of_block (a := ⟨g, off + 4 + 3, none⟩) (hst3.out.bel.block g hgB)).trans cb3
  go_wp2_with fail
  refine (hsb _ _ _ hst3.out).mono ?_
  intro e w6 h
  unfold StepR at h
  by_cases hf3 : (out ++ [40] ++ showE a1 ++ [63] : List UInt8).length + (showE b1 : List UInt8).length ≤ 4096
  case neg =>
    rw [if_neg hf3] at h
    obtain ⟨rfl, hb⟩ := h
    refine ⟨rfl, ?_⟩
    unfold PutR
    rw [if_neg (by rw [hR.out]; (try simp only [List.length_append, List.length_cons, List.length_nil] at hf3); (try simp only [List.length_append, List.length_cons, List.length_nil]); omega)]
    exact ⟨rfl, hb⟩
  rw [if_pos hf3] at h
  obtain ⟨⟨u3, rfl⟩, hst⟩ := h
  clear q0 q1 q2 q3 db0 db1 db2 db3 hst3
  have hst4 := Lib.hid hst
  have q0 := hst.cell 0 _ rfl
  have q1 := hst.cell 1 _ rfl
  have q2 := hst.cell 2 _ rfl
  have q3 := hst.cell 3 _ rfl
  clear hst
  replace hf3 := Lib.hid hf3
  go_wp2_with fail
  refine (hsp _ _ _ _ ⟨#[58]⟩ hst4.out (by exact hbr _)).mono ?_
  intro e w7 h
  unfold StepR at h
  rw [show tl ⟨#[58]⟩ = [58] from rfl] at h
  by_cases hf4 : (out ++ [40] ++ showE a1 ++ [63] ++ showE b1 : List UInt8).length + ([58] : List UInt8).length ≤ 4096
  case neg =>
    rw [if_neg hf4] at h
    obtain ⟨rfl, hb⟩ := h
    refine ⟨rfl, ?_⟩
    unfold PutR
    rw [if_neg (by rw [hR.out]; (try simp only [List.length_append, List.length_cons, List.length_nil] at hf4); (try simp only [List.length_append, List.length_cons, List.length_nil]); omega)]
    exact ⟨rfl, hb⟩
  rw [if_pos hf4] at h
  obtain ⟨⟨u4, rfl⟩, hst⟩ := h
  clear q0 q1 q2 q3 hst4
  have hst5 := Lib.hid hst
  have q0 := hst.cell 0 _ rfl
  have q1 := hst.cell 1 _ rfl
  have q2 := hst.cell 2 _ rfl
  have q3 := hst.cell 3 _ rfl
  clear hst
  replace hf4 := Lib.hid hf4
  have dc0 := (World.cell?_of_block (a := ⟨g, off + 8, none⟩) (hst5.out.bel.block g hgB)).trans cc0
  have dc1 := (World.cell?_of_block (a := ⟨g, off + 8 + 1, none⟩) (hst5.out.bel.block g hgB)).trans cc1
  have dc2 := (World.cell?_of_block (a := ⟨g, off + 8 + 2, none⟩) (hst5.out.bel.block g hgB)).trans cc2
  have dc3 := (World.cell?_of_block (a := ⟨g, off + 8 + 3, none⟩) (hst5.out.bel.block g hgB)).trans cc3
  go_wp2_with fail
  refine (hsc _ _ _ hst5.out).mono ?_
  intro e w8 h
  unfold StepR at h
  by_cases hf5 : (out ++ [40] ++ showE a1 ++ [63] ++ showE b1 ++ [58] : List UInt8).length + (showE c1 : List UInt8).length ≤ 4096
  case neg =>
    rw [if_neg hf5] at h
    obtain ⟨rfl, hb⟩ := h
    refine ⟨rfl, ?_⟩
    unfold PutR
    rw [if_neg (by rw [hR.out]; (try simp only [List.length_append, List.length_cons, List.length_nil] at hf5); (try simp only [List.length_append, List.length_cons, List.length_nil]); omega)]
    exact ⟨rfl, hb⟩
  rw [if_pos hf5] at h
  obtain ⟨⟨u5, rfl⟩, hst⟩ := h
  clear q0 q1 q2 q3 dc0 dc1 dc2 dc3 hst5
  have hst6 := Lib.hid hst
  have q0 := hst.cell 0 _ rfl
  have q1 := hst.cell 1 _ rfl
  have q2 := hst.cell 2 _ rfl
  have q3 := hst.cell 3 _ rfl
  clear hst
  replace hf5 := Lib.hid hf5
  go_wp2_with fail
  refine (hsp _ _ _ _ ⟨#[41]⟩ hst6.out (by exact hbr _)).mono ?_
  intro e w9 h
  unfold StepR at h
  rw [show tl ⟨#[41]⟩ = [41] from rfl] at h
  by_cases hf6 : (out ++ [40] ++ showE a1 ++ [63] ++ showE b1 ++ [58] ++ showE c1 : List UInt8).length + ([41] : List UInt8).length ≤ 4096
  case neg =>
    rw [if_neg hf6] at h
    obtain ⟨rfl, hb⟩ := h
    refine ⟨rfl, ?_⟩
    unfold PutR
    rw [if_neg (by rw [hR.out]; (try simp only [List.length_append, List.length_cons, List.length_nil] at hf6); (try simp only [List.length_append, List.length_cons, List.length_nil]); omega)]
    exact ⟨rfl, hb⟩
  rw [if_pos hf6] at h
  obtain ⟨⟨u6, rfl⟩, hst⟩ := h
  clear q0 q1 q2 q3 hst6
  have hst7 := Lib.hid hst
  have q0 := hst.cell 0 _ rfl
  have q1 := hst.cell 1 _ rfl
  have q2 := hst.cell 2 _ rfl
  have q3 := hst.cell 3 _ rfl
  clear hst
  replace hf6 := Lib.hid hf6
  clear q0 q1 q2 q3
  go_wp2
  go_end0
  have he := hst7.out
  unfold PutR
  rw [if_pos (by rw [hR.out]; have := hf6.out; (try simp only [List.length_append, List.length_cons, List.length_nil] at this); (try simp only [List.length_append, List.length_cons, List.length_nil]); omega)]
  exact ⟨⟨_, rfl⟩, by rw [hR.out]; simpa using he.isb, he.bel, he.kep⟩
end Go.Proofs.YtlijlgbaikijnaaGreatDoor
