/-
  Expressions in plain words, how they lie in memory, and how a text is parsed in plain words. Conditions: none.
-/
import Derived.Test.YtlijlgbaikijnaaGreatDoorSmStep
namespace Go.Proofs.YtlijlgbaikijnaaGreatDoor
open Go Go.RowKit

/-- An expression: its Op, its number, its name, its Kids. -/
inductive E where
  | mk (op : List UInt8) (num : Int) (name : List UInt8) (kids : List E)
def E.op : E → List UInt8 | .mk o _ _ _ => o
def E.num : E → Int | .mk _ n _ _ => n
def E.name : E → List UInt8 | .mk _ _ n _ => n
def E.kids : E → List E | .mk _ _ _ k => k

/-- The four cells of an expression. -/
def exC (op : List UInt8) (num : Int) (name : List UInt8) (k : Value) : Array Value := #[.string ⟨op.toArray⟩, .int .i64 num, .string ⟨name.toArray⟩, k]

mutual
/-- A value reads as an expression; the rows of its Kids lie in blocks that meet ok. -/
def ExR (w : World) (ok : Nat → Prop) : E → Value → Prop
  | .mk op num name kids, v => ∃ (A : Option Addr) (c : Nat), v = .agg (exC op num name (.slice A kids.length c)) ∧ kids.length ≤ c ∧ c ≤ maxLen ∧
      (kids = [] ∨ ∃ g off : Nat, A = some ⟨g, off, none⟩ ∧ ok g ∧ KidsR w ok g off kids)
/-- A row's cells from a place on read as these expressions. -/
def KidsR (w : World) (ok : Nat → Prop) (g : Nat) : Nat → List E → Prop
  | _, [] => True
  | off, e :: es => (∃ cs : Array Value, cs.size = 4 ∧ (∀ j (hj : j < cs.size), w.cell? ⟨g, off + j, none⟩ = some cs[j]) ∧ ExR w ok e (.agg cs)) ∧ KidsR w ok g (off + 4) es
end

mutual
theorem ExR.keep {w w' : World} {ok ok' : Nat → Prop} (hok : ∀ g, ok g → ok' g) (hk : ∀ g, ok g → w'.heap[g]? = w.heap[g]?) : ∀ {e : E} {v : Value}, ExR w ok e v → ExR w' ok' e v
  | .mk op num name kids, v, h => by
    unfold ExR at h ⊢
    obtain ⟨A, c, hv, hc, hm, h⟩ := h
    refine ⟨A, c, hv, hc, hm, ?_⟩
    rcases h with h | ⟨g, off, hA, hg, h⟩
    · exact .inl h
    · exact .inr ⟨g, off, hA, hok g hg, KidsR.keep hok hk hg h⟩
theorem KidsR.keep {w w' : World} {ok ok' : Nat → Prop} (hok : ∀ g, ok g → ok' g) (hk : ∀ g, ok g → w'.heap[g]? = w.heap[g]?) {g : Nat} (hg : ok g) : ∀ {off : Nat} {l : List E}, KidsR w ok g off l → KidsR w' ok' g off l
  | _, [], _ => trivial
  | off, e :: es, h => by
    unfold KidsR at h ⊢
    obtain ⟨⟨cs, hs, hc, he⟩, hr⟩ := h
    exact ⟨⟨cs, hs, fun j hj => (World.cell?_of_block (a := ⟨g, off + j, none⟩) (hk g hg)).trans (hc j hj), ExR.keep hok hk he⟩, KidsR.keep hok hk hg hr⟩
end

/-- What a text is parsed as, or what is wrong, and where. -/
inductive Res where
  | ok (e : E) (t : Th)
  | no (c : Int) (n : Nat)
  | out
def goT (s : List UInt8) (a : Nat) (k : Th → Res) : Res := match lookP s a with | some t => k t | none => .no 23 (a + blanks (s.drop a))
def stepT (s : List UInt8) (t : Th) (k : Th → Res) : Res := goT s (t.place + t.text.length) k
def needT (m : List UInt8) (s : List UInt8) (t : Th) (k : Th → Res) : Res := if t.text = m then stepT s t k else .no 31 t.place
def enterT (s : List UInt8) (t : Th) (d : Nat) (k : Th → Res) : Res := if d = 40 then .no 32 t.place else stepT s t k
def Res.next (r : Res) (k : E → Th → Res) : Res := match r with | .ok e t => k e t | .no c n => .no c n | .out => .out

mutual
def assignP : Nat → List UInt8 → Th → Nat → Res
  | 0, _, _, _ => .out
  | n + 1, s, t, d => (choiceP n s t d).next fun e t1 =>
      if asgV t1.text = false then .ok e t1
      else if t.kind ≠ 2 ∨ e.op ≠ [110, 97, 109, 101] then .no 25 t1.place
      else enterT s t1 d fun t2 => (assignP n s t2 (d + 1)).next fun k t3 => .ok (.mk t1.text 0 e.name [k]) t3
def choiceP : Nat → List UInt8 → Th → Nat → Res
  | 0, _, _, _ => .out
  | n + 1, s, t, d => (betweenP n s 1 t d).next fun e t1 =>
      if t1.text ≠ [63] then .ok e t1
      else enterT s t1 d fun t2 => (assignP n s t2 (d + 1)).next fun y t3 => needT [58] s t3 fun t4 => (choiceP n s t4 (d + 1)).next fun o t5 => .ok (.mk [63] 0 [] [e, y, o]) t5
def betweenP : Nat → List UInt8 → Nat → Th → Nat → Res
  | 0, _, _, _, _ => .out
  | n + 1, s, least, t, d => (operandP n s t d).next fun e t1 => loopP n s least e t1 d
def loopP : Nat → List UInt8 → Nat → E → Th → Nat → Res
  | 0, _, _, _, _, _ => .out
  | n + 1, s, least, e, t, d =>
      if rowV t.text < least then .ok e t
      else stepT s t fun t1 => (betweenP n s (rowV t.text + 1) t1 d).next fun k t2 => loopP n s least (.mk t.text 0 [] [e, k]) t2 d
def operandP : Nat → List UInt8 → Th → Nat → Res
  | 0, _, _, _ => .out
  | n + 1, s, t, d =>
      if t.kind = 1 then stepT s t fun t1 => .ok (.mk [110, 117, 109] t.num [] []) t1
      else if t.kind = 2 then stepT s t fun t1 => .ok (.mk [110, 97, 109, 101] 0 t.text []) t1
      else if t.text = [40] then enterT s t d fun t1 => (assignP n s t1 (d + 1)).next fun e t2 => needT [41] s t2 fun t3 => .ok e t3
      else if opV t.text ≠ [] then enterT s t d fun t1 => (operandP n s t1 (d + 1)).next fun e t2 => .ok (.mk (opV t.text) 0 [] [e]) t2
      else .no 31 t.place
end
/-- The whole of a text, with so much fuel. -/
def parseP (n : Nat) (s : List UInt8) : Res :=
  goT s 0 fun t => if t.kind = 0 then .ok (.mk [110, 117, 109] 0 [] []) t else (assignP n s t 0).next fun e t1 => if t1.kind ≠ 0 then .no 31 t1.place else .ok e t1

theorem longFrom_le (l : List UInt8) : ∀ n, (longFrom n l).length ≤ l.length
  | 0 => by rw [longFrom, List.length_take]; omega
  | 1 => by rw [longFrom, List.length_take]; omega
  | n + 2 => by
    rw [longFrom]
    split
    · rw [List.length_take]; omega
    · exact longFrom_le l (n + 1)
theorem longV_le (l : List UInt8) : (longV l).length ≤ l.length := longFrom_le l _
theorem digitsP_le (R : List UInt8) : (digitsP R).2 ≤ R.length := by
  unfold digitsP
  have h2 := (List.takeWhile_sublist (fun b => decide (digV b < (headB R).1)) (l := R.drop (headB R).2)).length_le
  rw [List.length_drop] at h2
  have h3 : (headB R).2 ≤ R.length := by rcases headB_cases R with h | h | ⟨h, h4⟩ <;> rw [h] <;> simp <;> omega
  unfold digRun
  simp only
  omega
theorem lookP_place {s : List UInt8} {a : Nat} {t : Th} (h : lookP s a = some t) (ha : a ≤ s.length) : a ≤ t.place ∧ t.place + t.text.length ≤ s.length := by
  unfold lookP at h
  have hb : blanks (s.drop a) ≤ (s.drop a).length := (List.takeWhile_sublist _).length_le
  rw [List.length_drop] at hb
  obtain ⟨K, hK⟩ : ∃ K, a + blanks (s.drop a) = K := ⟨_, rfl⟩
  rw [hK] at h
  have hl : (s.drop K).length = s.length - K := List.length_drop
  obtain ⟨R, hR⟩ : ∃ R, s.drop K = R := ⟨_, rfl⟩
  rw [hR] at h hl
  have hd := digitsP_le R
  have hn := nameLen_le R
  have hv := longV_le R
  unfold thingP at h
  split at h
  · obtain rfl := Option.some.inj h; exact ⟨by show a ≤ K; omega, by show K + 0 ≤ _; omega⟩
  · split at h
    · obtain rfl := Option.some.inj h; exact ⟨by show a ≤ K; omega, by show K + (R.take (nameLen R)).length ≤ _; rw [List.length_take]; omega⟩
    · split at h
      · split at h
        · cases h
        · obtain rfl := Option.some.inj h; exact ⟨by show a ≤ K; omega, by show K + (R.take (digitsP R).2).length ≤ _; rw [List.length_take]; omega⟩
      · obtain rfl := Option.some.inj h; exact ⟨by show a ≤ K; omega, by show K + (longV R).length ≤ _; omega⟩
theorem parse_ex1 : (match parseP 40 [48, 124, 124, 120, 61, 49] with | .no c n => (c, n) | _ => (0, 0)) = (25, 4) := by decide +kernel
theorem parse_ex2 : (match parseP 40 [48, 56] with | .no c n => (c, n) | _ => (0, 0)) = (23, 0) := by decide +kernel
theorem parse_ex3 : parseP 40 [120, 61, 121, 43, 61, 50] = .ok (.mk [61] 0 [120] [.mk [43, 61] 0 [121] [.mk [110, 117, 109] 2 [] []]]) ⟨0, [], 0, 6⟩ := by kernel_rfl
end Go.Proofs.YtlijlgbaikijnaaGreatDoor
