/-
  Rows of words and of lists that a call makes: whose things they are, and how they are put one behind the other. Conditions: none.
-/
import Derived.Test.YtmchfoedjajbdaaGreatProg
import Derived.Deep.AppendSrc
import Derived.Maps.AppendAt
import Derived.Deep.RegionHeld3
import Derived.Deep.QuietTactic
import Derived.BigQuiet
import Derived.Deep.CutRange
import Derived.Deep.LoopGhost
import Derived.Test.YtmchfoedjajbdaaGreatZq0
set_option linter.unusedSimpArgs false
set_option linter.unusedVariables false
namespace Go.Proofs.YtmchfoedjajbdaaGreat
open Go Go.RowKit Go.ChangeMaps

theorem own_formT {w : World} {base : Nat} {e : TypeId} {size m : Nat} {v : Value} {xs : List Value} (h : w.ownsRow base e size v m xs) : ∃ A c, v = .slice A m c ∧ m ≤ c ∧ c ≤ maxLen := by
  rcases h.2 with ⟨rfl, rfl⟩ | ⟨g, cap, cur, rfl, hb, hg, h1, h2, _⟩
  · exact ⟨none, 0, rfl, Nat.le_refl _, Nat.zero_le _⟩
  · exact ⟨_, cap, rfl, h1, h2⟩
/-- A row of so many cells behind another. -/
theorem own_cat {T TS : TypeId} {zero : Value} {bytes : Nat} (hinf : (Tryz.prog.info? T).map (fun i => (i.zero, i.size, i.bytes)) = some (some zero, 1, bytes)) (hun : Tryz.prog.underlying TS = some (.slice T)) (hzs : zero.cells.size = 1) (hby : bytes ≤ 100)
    {w W : World} {z m k cs : Nat} {v : Value} {As : Option Addr} {us vs : List Value} (h : W.ownsRow z T 1 v m us) (hb : Below z w W) (hz : z ≤ W.heap.size) (hk : m ≤ 10000000 ∧ k ≤ 10000000) (hv : vs.length = k)
    (hcell : ∀ j u, vs[j]? = some u → ∃ b off, As = some ⟨b, off, none⟩ ∧ W.cell? ⟨b, off + j, none⟩ = some u) (h1 : ∀ u ∈ vs, u.oneCell' = true) :
    ∃ A' c' W', (Builtin.append_ #[TS, TS] TS #[v, .slice As k cs]).run Tryz.prog W = .ok (.slice A' (m + k) c') W' ∧ W'.ownsRow z T 1 (.slice A' (m + k) c') (m + k) (us ++ vs) ∧ Below z w W' := by
  obtain ⟨i0, hi, hz0, hz1, hz2⟩ := info_parts hinf
  cases As with
  | some ad =>
    have hnews : ∀ j u, vs[j]? = some u → W.cell? (ad.add j) = some u := fun j u hu => by
      obtain ⟨b, off, e, hc⟩ := hcell j u hu
      cases e
      rw [show (⟨b, off, none⟩ : Addr).add j = ⟨b, off + j, none⟩ from by simp [Addr.add]]
      exact hc
    obtain ⟨v', w', hr, h2, h3, _, _⟩ := run_append_own_at (P := Tryz.prog) W z TS TS T i0 _ 1 bytes hun hi hz0 hz1 hz2 hzs (by decide) v m _ h ad k cs vs (by rw [hv, Nat.mul_one]) hnews h1 (Nat.le_trans (by omega : m + k ≤ 20000000) (by decide)) (by
      have := Nat.mul_le_mul (show m + k ≤ 20000000 by omega) hby
      omega) hz
    obtain ⟨A', c', rfl, _, _⟩ := own_formT h2
    exact ⟨A', c', w', hr, h2, ⟨h3.os.trans hb.os, h3.tape.trans hb.tape, h3.output.trans hb.output, Nat.le_trans hb.size h3.size, fun q hq => (h3.block q (Nat.lt_of_lt_of_le hq hz) (fun e => by have := (h.lt q e.symm).1; omega)).trans (hb.block q hq)⟩⟩
  | none =>
    have h0 : vs = [] := by
      cases vs with
      | nil => rfl
      | cons u us =>
        obtain ⟨b, off, e, _⟩ := hcell 0 u rfl
        cases e
    subst h0
    obtain rfl : k = 0 := hv.symm
    rw [List.append_nil, Nat.add_zero]
    rcases h.2 with ⟨rfl, rfl⟩ | ⟨g, cp, cur, rfl, h3⟩
    · exact ⟨none, 0, W, by simp [Builtin.append_, run_underlying hun, sizeOf, typeInfo, hi, Builtin.lenOf, Builtin.firstCells], h, hb⟩
    · have hr := run_append_room_src (P := Tryz.prog) W TS TS TS T i0 hun hi g 0 m cp (.slice none 0 cs) 0 [] (Src.ofNil (P := Tryz.prog) W (size := i0.size) hun cs) (by have := h3.2.2.1; omega) (fun j hj => absurd hj (Nat.not_lt_zero j)) (fun j hj => absurd hj (Nat.not_lt_zero j))
      exact ⟨_, _, W, hr, h, hb⟩
/-- One cell more. -/
theorem own_put {T TS : TypeId} {zero : Value} {bytes : Nat} (hinf : (Tryz.prog.info? T).map (fun i => (i.zero, i.size, i.bytes)) = some (some zero, 1, bytes)) (hun : Tryz.prog.underlying TS = some (.slice T)) (hzs : zero.cells.size = 1) (hby : bytes ≤ 100)
    {w W : World} {z m : Nat} {v u : Value} {us : List Value} (h : W.ownsRow z T 1 v m us) (hb : Below z w W) (hz : z ≤ W.heap.size) (hk : m ≤ 10000000) (h1 : u.oneCell' = true) :
    ∃ A' c' W', (Builtin.append_ #[TS, TS] TS #[v, .slice (some ⟨W.heap.size, 0, none⟩) 1 1]).run Tryz.prog (W.alloc (.cells #[u] T)) = .ok (.slice A' (m + 1) c') W' ∧ W'.ownsRow z T 1 (.slice A' (m + 1) c') (m + 1) (us ++ [u]) ∧ Below z w W' := by
  have hbl : Blk (W.alloc (.cells #[u] T)) W.heap.size [u] T := Blk.new W _ _
  refine own_cat hinf hun hzs hby (h.alloc _) (hb.alloc hz _) (by simp; omega) ⟨hk, by decide⟩ (vs := [u]) rfl (fun j x hx => ⟨W.heap.size, 0, rfl, ?_⟩) (fun x hx => by rw [List.mem_singleton.1 hx]; exact h1)
  rw [Nat.zero_add]
  exact hbl.cell hx
/-- Rows, one behind the other. -/
def app : F → F → F
  | .row x r, g => .row x (app r g)
  | .nil, g => g
  | .node _ _ _ _ _ _ _ _ _ _, g => g
  | .piece _ _ _ _ _ _ _, g => g
  | .set _ _ _, g => g
  | .redir _ _ _ _, g => g
  | .case _ _ _, g => g
def setW : F → F
  | .set _ x r => .row x (setW r)
  | .nil => .nil
  | .node _ _ _ _ _ _ _ _ _ _ => .nil
  | .piece _ _ _ _ _ _ _ => .nil
  | .redir _ _ _ _ => .nil
  | .case _ _ _ => .nil
  | .row _ _ => .nil
def redW : F → F
  | .redir _ _ x r => .row x (redW r)
  | .nil => .nil
  | .node _ _ _ _ _ _ _ _ _ _ => .nil
  | .piece _ _ _ _ _ _ _ => .nil
  | .set _ _ _ => .nil
  | .case _ _ _ => .nil
  | .row _ _ => .nil
def casW : F → F
  | .case W _ r => app W (casW r)
  | .nil => .nil
  | .node _ _ _ _ _ _ _ _ _ _ => .nil
  | .piece _ _ _ _ _ _ _ => .nil
  | .set _ _ _ => .nil
  | .redir _ _ _ _ => .nil
  | .row _ _ => .nil
def casB : F → F
  | .case _ Y r => .row Y (casB r)
  | .nil => .nil
  | .node _ _ _ _ _ _ _ _ _ _ => .nil
  | .piece _ _ _ _ _ _ _ => .nil
  | .set _ _ _ => .nil
  | .redir _ _ _ _ => .nil
  | .row _ _ => .nil
theorem app_assoc : ∀ a b c : F, app (app a b) c = app a (app b c) := fun a => by
  induction a with
  | row x r _ ih => intro b c; simp only [app, ih]
  | _ => intro b c; rfl
theorem app_nil {t : Nat} (ht : t = 5 ∨ t = 6) : ∀ {a : F}, Ty a t → app a .nil = a := fun {a} => by
  induction a with
  | nil => exact fun _ => rfl
  | row x r _ ih =>
    intro h
    simp only [app]
    rcases h with ⟨rfl, _, h⟩ | ⟨rfl, _, h⟩ <;> rw [ih h]
  | node => intro h; rcases ht with rfl | rfl <;> exact absurd h.1 (by decide)
  | piece => intro h; rcases ht with rfl | rfl <;> exact absurd h.1 (by decide)
  | set => intro h; rcases ht with rfl | rfl <;> exact absurd h.1 (by decide)
  | redir => intro h; rcases ht with rfl | rfl <;> exact absurd h.1 (by decide)
  | case => intro h; rcases ht with rfl | rfl <;> exact absurd h.1 (by decide)
theorem app_ty {t : Nat} : ∀ {a b : F}, Ty a t → Ty b t → Ty (app a b) t := fun {a} => by
  induction a with
  | row x r _ ih =>
    intro b h hb
    rcases h with ⟨rfl, h1, h2⟩ | ⟨rfl, h1, h2⟩
    · exact .inl ⟨rfl, h1, ih h2 hb⟩
    · exact .inr ⟨rfl, h1, ih h2 hb⟩
  | _ => intro b _ hb; exact hb
theorem setW_ty : ∀ {a : F}, Ty a 2 → Ty (setW a) 5 := fun {a} => by
  induction a with
  | set n x r _ ih => intro h; exact .inl ⟨rfl, h.2.1, ih h.2.2⟩
  | _ => intro _; exact trivial
theorem redW_ty : ∀ {a : F}, Ty a 3 → Ty (redW a) 5 := fun {a} => by
  induction a with
  | redir d k x r _ ih => intro h; exact .inl ⟨rfl, h.2.2.2.1, ih h.2.2.2.2⟩
  | _ => intro _; exact trivial
theorem casW_ty : ∀ {a : F}, Ty a 4 → Ty (casW a) 5 := fun {a} => by
  induction a with
  | case W Y r _ _ ih => intro h; exact app_ty h.2.1 (ih h.2.2.2)
  | _ => intro _; exact trivial
theorem casB_ty : ∀ {a : F}, Ty a 4 → Ty (casB a) 6 := fun {a} => by
  induction a with
  | case W Y r _ _ ih => intro h; exact .inr ⟨rfl, h.2.2.1, ih h.2.2.2⟩
  | _ => intro _; exact trivial
theorem app_wt : ∀ a b : F, wt (app a b) ≤ wt a + wt b := fun a => by
  induction a with
  | row x r _ ih => intro b; have := ih b; simp only [app, wt]; omega
  | _ => intro b; simp only [app]; omega
theorem setW_wt : ∀ a : F, wt (setW a) ≤ wt a := fun a => by
  induction a with
  | set n x r _ ih => simp only [setW, wt]; omega
  | _ => simp [setW, wt]
theorem redW_wt : ∀ a : F, wt (redW a) ≤ wt a := fun a => by
  induction a with
  | redir d k x r _ ih => simp only [redW, wt]; omega
  | _ => simp [redW, wt]
theorem cas_wt : ∀ a : F, wt (casW a) + wt (casB a) ≤ wt a := fun a => by
  induction a with
  | case W Y r _ _ ih => have := app_wt W (casW r); simp only [casW, casB, wt]; omega
  | _ => simp [casW, casB, wt]
theorem app_sz {t : Nat} (ht : t = 5 ∨ t = 6) : ∀ {a : F} (b : F), Ty a t → szF (app a b) = szF a + szF b := fun {a} => by
  induction a with
  | nil => intro b _; simp [app, szF]
  | row x r _ ih =>
    intro b h
    have := ih b (by rcases h with ⟨rfl, _, h⟩ | ⟨rfl, _, h⟩ <;> exact h)
    simp only [app, szF]; omega
  | node => intro b h; rcases ht with rfl | rfl <;> exact absurd h.1 (by decide)
  | piece => intro b h; rcases ht with rfl | rfl <;> exact absurd h.1 (by decide)
  | set => intro b h; rcases ht with rfl | rfl <;> exact absurd h.1 (by decide)
  | redir => intro b h; rcases ht with rfl | rfl <;> exact absurd h.1 (by decide)
  | case => intro b h; rcases ht with rfl | rfl <;> exact absurd h.1 (by decide)
theorem app_dp {t : Nat} (ht : t = 5 ∨ t = 6) : ∀ {a : F} (b : F), Ty a t → dpF (app a b) = max (dpF a) (dpF b) := fun {a} => by
  induction a with
  | nil => intro b _; simp [app, dpF]
  | row x r _ ih =>
    intro b h
    have := ih b (by rcases h with ⟨rfl, _, h⟩ | ⟨rfl, _, h⟩ <;> exact h)
    simp only [app, dpF]; omega
  | node => intro b h; rcases ht with rfl | rfl <;> exact absurd h.1 (by decide)
  | piece => intro b h; rcases ht with rfl | rfl <;> exact absurd h.1 (by decide)
  | set => intro b h; rcases ht with rfl | rfl <;> exact absurd h.1 (by decide)
  | redir => intro b h; rcases ht with rfl | rfl <;> exact absurd h.1 (by decide)
  | case => intro b h; rcases ht with rfl | rfl <;> exact absurd h.1 (by decide)
theorem setW_sz : ∀ {a : F}, Ty a 2 → szF (setW a) = szF a ∧ dpF (setW a) = dpF a := fun {a} => by
  induction a with
  | nil => intro _; exact ⟨rfl, rfl⟩
  | set n x r _ ih => intro h; have := ih h.2.2; simp only [setW, szF, dpF]; omega
  | node => intro h; exact absurd h.1 (by decide)
  | piece => intro h; exact absurd h.1 (by decide)
  | redir => intro h; exact absurd h.1 (by decide)
  | case => intro h; exact absurd h.1 (by decide)
  | row => intro h; rcases h with h | h <;> exact absurd h.1 (by decide)
theorem redW_sz : ∀ {a : F}, Ty a 3 → szF (redW a) = szF a ∧ dpF (redW a) = dpF a := fun {a} => by
  induction a with
  | nil => intro _; exact ⟨rfl, rfl⟩
  | redir d k x r _ ih => intro h; have := ih h.2.2.2.2; simp only [redW, szF, dpF]; omega
  | node => intro h; exact absurd h.1 (by decide)
  | piece => intro h; exact absurd h.1 (by decide)
  | set => intro h; exact absurd h.1 (by decide)
  | case => intro h; exact absurd h.1 (by decide)
  | row => intro h; rcases h with h | h <;> exact absurd h.1 (by decide)
theorem cas_sz : ∀ {a : F}, Ty a 4 → szF (casW a) + szF (casB a) = szF a ∧ max (dpF (casW a)) (dpF (casB a)) = dpF a := fun {a} => by
  induction a with
  | nil => intro _; exact ⟨rfl, rfl⟩
  | case W Y r _ _ ih =>
    intro h
    have h1 := ih h.2.2.2
    have h2 := app_sz (.inl rfl) (casW r) h.2.1
    have h3 := app_dp (.inl rfl) (casW r) h.2.1
    simp only [casW, casB, szF, dpF, h2, h3]; omega
  | node => intro h; exact absurd h.1 (by decide)
  | piece => intro h; exact absurd h.1 (by decide)
  | set => intro h; exact absurd h.1 (by decide)
  | redir => intro h; exact absurd h.1 (by decide)
  | row => intro h; rcases h with h | h <;> exact absurd h.1 (by decide)
/-- The values of a row of rows. -/
def Vals (w : World) : F → List Value → Prop
  | .row x r, u :: us => (∃ A c, u = .slice A x.len c ∧ Slc w A c x) ∧ Vals w r us
  | .nil, [] => True
  | _, _ => False
section
variable {w w' : World}
theorem Vals.app : ∀ {a b : F} {us vs : List Value}, Vals w a us → Vals w b vs → Vals w (app a b) (us ++ vs) := fun {a} => by
  induction a with
  | nil => intro b us vs h hb; cases us with
    | nil => exact hb
    | cons => exact h.elim
  | row x r _ ih => intro b us vs h hb; cases us with
    | nil => exact h.elim
    | cons u us => exact ⟨h.1, ih h.2 hb⟩
  | _ => intro b us vs h hb; cases us <;> exact h.elim
theorem Vals.len : ∀ {a : F} {us : List Value}, Vals w a us → us.length = a.len := fun {a} => by
  induction a with
  | nil => intro us h; cases us with
    | nil => rfl
    | cons => exact h.elim
  | row x r _ ih => intro us h; cases us with
    | nil => exact h.elim
    | cons u us => simp only [List.length_cons, F.len, ih h.2]
  | _ => intro us h; cases us <;> exact h.elim
theorem Vals.below (hb : Below w.heap.size w w') : ∀ {a : F} {us : List Value}, Vals w a us → Vals w' a us := fun {a} => by
  induction a with
  | nil => intro us h; cases us with
    | nil => exact trivial
    | cons => exact h.elim
  | row x r _ ih => intro us h; cases us with
    | nil => exact h.elim
    | cons u us => obtain ⟨⟨A, c, e, hs⟩, h2⟩ := h; exact ⟨⟨A, c, e, hs.below hb⟩, ih h2⟩
  | _ => intro us h; cases us <;> exact h.elim
theorem Vals.one : ∀ {a : F} {us : List Value}, Vals w a us → ∀ u ∈ us, u.oneCell' = true := fun {a} => by
  induction a with
  | nil => intro us h; cases us with
    | nil => intro u hu; cases hu
    | cons => exact h.elim
  | row x r _ ih => intro us h; cases us with
    | nil => exact h.elim
    | cons u us =>
      obtain ⟨⟨A, c, rfl, hs⟩, h2⟩ := h
      intro v hv
      rcases List.mem_cons.1 hv with rfl | hv
      · rfl
      · exact ih h2 v hv
  | _ => intro us h; cases us <;> exact h.elim
theorem Vals.rw : ∀ {a : F} {us : List Value} {B o : Nat}, Vals w a us → (∀ j u, us[j]? = some u → w.cell? ⟨B, o + j, none⟩ = some u) → Rw w a B o := fun {a} => by
  induction a with
  | nil => intro us B o _ _; exact trivial
  | row x r _ ih => intro us B o h hc; cases us with
    | nil => exact h.elim
    | cons u us =>
      obtain ⟨⟨A, c, rfl, hs⟩, h2⟩ := h
      exact rw_row.2 ⟨⟨A, c, hc 0 _ rfl, hs⟩, ih h2 fun j u hu => by
        have := hc (j + 1) u hu
        rwa [show o + 1 + j = o + (j + 1) by omega]⟩
  | _ => intro us B o h; cases us <;> exact h.elim
theorem rw_vals {t : Nat} (ht : t = 5 ∨ t = 6) : ∀ {a : F} {B o : Nat}, Ty a t → Rw w a B o → ∃ us, Vals w a us ∧ ∀ j u, us[j]? = some u → w.cell? ⟨B, o + j, none⟩ = some u := fun {a} => by
  induction a with
  | nil => intro B o _ _; exact ⟨[], trivial, fun j u h => by cases h⟩
  | row x r _ ih =>
    intro B o h hr
    obtain ⟨⟨A, c, e, hs⟩, h2⟩ := rw_row.1 hr
    obtain ⟨us, h3, h4⟩ := ih (by rcases h with ⟨rfl, _, h⟩ | ⟨rfl, _, h⟩ <;> exact h) h2
    refine ⟨.slice A x.len c :: us, ⟨⟨A, c, rfl, hs⟩, h3⟩, fun j u hu => ?_⟩
    cases j with
    | zero => cases hu; exact e
    | succ j => have := h4 j u hu; rwa [show o + (j + 1) = o + 1 + j by omega]
  | node => intro B o h; rcases ht with rfl | rfl <;> exact absurd h.1 (by decide)
  | piece => intro B o h; rcases ht with rfl | rfl <;> exact absurd h.1 (by decide)
  | set => intro B o h; rcases ht with rfl | rfl <;> exact absurd h.1 (by decide)
  | redir => intro B o h; rcases ht with rfl | rfl <;> exact absurd h.1 (by decide)
  | case => intro B o h; rcases ht with rfl | rfl <;> exact absurd h.1 (by decide)
/-- A row that the call owns is a slice of rows. -/
theorem own_slc {z n c : Nat} {A : Option Addr} {T : TypeId} {a : F} {us : List Value} (h : w'.ownsRow z T 1 (.slice A n c) n us) (hv : Vals w' a us) : n = a.len ∧ Slc w' A c a := by
  have hn : n = a.len := by rw [← hv.len, h.1, Nat.mul_one]
  refine ⟨hn, ?_⟩
  rcases h.2 with ⟨e, _⟩ | ⟨g, cp, cur, e, hb, hg, h1, h2, h3, h4⟩
  · cases e
    exact ⟨by omega, Nat.zero_le _, fun hp => absurd hp (by omega)⟩
  · cases e
    refine ⟨by omega, h2, fun hp => ⟨g, 0, rfl, (Array.getElem?_eq_some_iff.1 hg).1, hv.rw fun j u hu => ?_⟩⟩
    rw [Nat.zero_add]
    have hbk : Blk w' g cur.toList T := by unfold Blk; simpa using hg
    refine hbk.cell ?_
    rw [← h4] at hu
    obtain ⟨hl, hu2⟩ := List.getElem?_eq_some_iff.1 hu
    have hj : j < n * 1 := by
      have := List.length_take (i := n * 1) (l := cur.toList)
      omega
    exact (List.getElem?_take_of_lt hj).symm.trans hu
end
end Go.Proofs.YtmchfoedjajbdaaGreat
/-
  whelkref12's words and lists: all words, and all lists, of a command. Conditions: not too great.
-/
set_option linter.unusedSimpArgs false
set_option linter.unusedVariables false
namespace Go.Proofs.YtmchfoedjajbdaaGreat
open Go Go.RowKit Go.ChangeMaps

theorem wpList_append_of {P : Program} {w : World} {ops : Array Oper} {rest : List Oper} {o : Oper} {a : Act} {Q : Exit → Act → World → Prop} (hgd : o.guard = none) (s x : Operand) (t tx : TypeId)
    (ho : o.op = .call { callee := .builtin .append, args := #[s, x], argTypes := #[t, tx] }) (v y r : Value) (w1 : World) (hs : a.eval s = v) (hx : a.eval x = y)
    (hrun : (Builtin.append_ #[t, tx] o.type #[v, y]).run P w = .ok r w1) (h : wpList P ops Q rest (a.put o.dst r) w1) : wpList P ops Q (o :: rest) a w :=
  wpList_plain hgd fun _ hK => by
    unfold Oper.wp execOp
    simp only [ho, resolve, invoke, builtin, Sem.run_bind, Sem.run_pure, Result.andThen_ok, List.map_toArray, List.map_cons, List.map_nil, hs, hx, hrun]
    exact hK _ _ h
theorem infoWd : (Tryz.prog.info? 29).map (fun i => (i.zero, i.size, i.bytes)) = some (some (.slice none 0 0), 1, 24) := by kernel_rfl
theorem infoLi : (Tryz.prog.info? 22).map (fun i => (i.zero, i.size, i.bytes)) = some (some (.slice none 0 0), 1, 24) := by kernel_rfl
theorem app_len {t : Nat} (ht : t = 5 ∨ t = 6) : ∀ {a : F} (b : F), Ty a t → (app a b).len = a.len + b.len := fun {a} => by
  induction a with
  | nil => intro b _; simp [app, F.len]
  | row x r _ ih =>
    intro b h
    have := ih b (by rcases h with ⟨rfl, _, h⟩ | ⟨rfl, _, h⟩ <;> exact h)
    simp only [app, F.len]; omega
  | node => intro b h; rcases ht with rfl | rfl <;> exact absurd h.1 (by decide)
  | piece => intro b h; rcases ht with rfl | rfl <;> exact absurd h.1 (by decide)
  | set => intro b h; rcases ht with rfl | rfl <;> exact absurd h.1 (by decide)
  | redir => intro b h; rcases ht with rfl | rfl <;> exact absurd h.1 (by decide)
  | case => intro b h; rcases ht with rfl | rfl <;> exact absurd h.1 (by decide)
theorem drop_end (f : F) {j : Nat} (h : j = f.len) : f.drop j = .nil := len0 (by rw [drop_len]; omega)
def wordsF : F → F
  | .node _ _ _ _ S W R _ C _ => app (setW S) (app W (app (redW R) (casW C)))
  | _ => .nil
def listsF : F → F
  | .node _ _ _ _ _ _ _ L C _ => app L (casB C)
  | _ => .nil
theorem wordsF_ty {g : F} (h : Ty g 0) : Ty (wordsF g) 5 := by
  cases g with
  | node => obtain ⟨_, _, h1, h2, h3, h4, h5, _⟩ := h; exact app_ty (setW_ty h1) (app_ty h2 (app_ty (redW_ty h3) (casW_ty h5)))
  | _ => exact trivial
theorem listsF_ty {g : F} (h : Ty g 0) : Ty (listsF g) 6 := by
  cases g with
  | node => obtain ⟨_, _, h1, h2, h3, h4, h5, _⟩ := h; exact app_ty h4 (casB_ty h5)
  | _ => exact trivial
/-- The words and the lists of a command are all that it has. -/
theorem node_parts {k : Int} {b g : Bool} {n : ByteArray} {S W R L C r : F} (h : Ty (.node k b n g S W R L C r) 0) :
    szF (wordsF (.node k b n g S W R L C r)) + szF (listsF (.node k b n g S W R L C r)) = szF S + szF W + szF R + szF L + szF C ∧
    max (dpF (wordsF (.node k b n g S W R L C r))) (dpF (listsF (.node k b n g S W R L C r))) = max (dpF S) (max (dpF W) (max (dpF R) (max (dpF L) (dpF C)))) ∧
    wt (wordsF (.node k b n g S W R L C r)) + wt (listsF (.node k b n g S W R L C r)) ≤ wt S + wt W + wt R + wt L + wt C := by
  obtain ⟨_, _, h1, h2, h3, h4, h5, _⟩ := h
  have a1 := setW_sz h1
  have a2 := redW_sz h3
  have a3 := cas_sz h5
  have b1 := app_sz (.inl rfl) (app W (app (redW R) (casW C))) (setW_ty h1)
  have b2 := app_sz (.inl rfl) (app (redW R) (casW C)) h2
  have b3 := app_sz (.inl rfl) (casW C) (redW_ty h3)
  have b4 := app_sz (.inr rfl) (casB C) h4
  have c1 := app_dp (.inl rfl) (app W (app (redW R) (casW C))) (setW_ty h1)
  have c2 := app_dp (.inl rfl) (app (redW R) (casW C)) h2
  have c3 := app_dp (.inl rfl) (casW C) (redW_ty h3)
  have c4 := app_dp (.inr rfl) (casB C) h4
  have d1 := app_wt (setW S) (app W (app (redW R) (casW C)))
  have d2 := app_wt W (app (redW R) (casW C))
  have d3 := app_wt (redW R) (casW C)
  have d4 := app_wt L (casB C)
  have e1 := setW_wt S
  have e2 := redW_wt R
  have e3 := cas_wt C
  simp only [wordsF, listsF]
  omega
section
variable {w W : World}
/-- A slice of rows as a source. -/
theorem vals_src {t : Nat} (ht : t = 5 ∨ t = 6) {a : F} {A : Option Addr} {c : Nat} (hty : Ty a t) (h : Slc w A c a) (hb : Below w.heap.size w W) : ∃ vs, Vals w a vs ∧ ∀ j u, vs[j]? = some u → ∃ b off, A = some ⟨b, off, none⟩ ∧ W.cell? ⟨b, off + j, none⟩ = some u := by
  by_cases hp : 0 < a.len
  · obtain ⟨B, o, rfl, hl, hr⟩ := h.2.2 hp
    obtain ⟨us, h1, h2⟩ := rw_vals ht hty hr
    exact ⟨us, h1, fun j u hu => ⟨B, o, rfl, cell_below hb hl (h2 j u hu)⟩⟩
  · obtain rfl := len0 (f := a) (by omega)
    exact ⟨[], trivial, fun j u hu => by cases hu⟩
end
set_option maxRecDepth 100000 in
set_option maxHeartbeats 8000000 in
theorem lists_any {g0 : F} (ht : Ty g0 0) (hg : 0 < g0.len) (hw : wt g0 ≤ 2097152) (w : World) (v : Value) (hv : ElV w g0 v) :
    Calls Tryz.prog 30 #[v] w fun e w' => ∃ A c, e = .returned (.slice A (listsF g0).len c) ∧ Slc w' A c (listsF g0) ∧ Below w.heap.size w w' := by
  have hrt := listsF_ty ht
  obtain ⟨k, b, n, g, S, W, R, L, C, r, rfl, _, htS, htW, htR, htL, htC, _⟩ := at_node ht hg
  have hparts := (node_parts ht).2.2
  obtain ⟨AS, cS, AW, cW, AR, cR, AL, cL, AC, cC, rfl, hsS, hsW, hsR, hsL, hsC⟩ := hv
  simp only [wt] at hw
  have hTl := len_wt (listsF (.node k b n g S W R L C r))
  obtain ⟨TT, hTT⟩ : ∃ T, listsF (.node k b n g S W R L C r) = T := ⟨_, rfl⟩
  have hT0 : listsF (.node k b n g S W R L C r) = TT := hTT
  rw [hTT] at hTl hparts hrt ⊢
  have hTb : TT.len ≤ 2097152 := by omega
  simp only [listsF] at hT0
  clear hTT
  have hmS := hsS.1
  have hcmS := hsS.2.1
  obtain ⟨mS, hNS⟩ : ∃ N, S.len = N := ⟨_, rfl⟩
  rw [hNS] at hmS ⊢
  unfold maxLen at hcmS
  have hbS : Hid (wt S ≤ 2097152) := Lib.hid (by omega)
  have hmW := hsW.1
  have hcmW := hsW.2.1
  obtain ⟨mW, hNW⟩ : ∃ N, W.len = N := ⟨_, rfl⟩
  rw [hNW] at hmW ⊢
  unfold maxLen at hcmW
  have hbW : Hid (wt W ≤ 2097152) := Lib.hid (by omega)
  have hmR := hsR.1
  have hcmR := hsR.2.1
  obtain ⟨mR, hNR⟩ : ∃ N, R.len = N := ⟨_, rfl⟩
  rw [hNR] at hmR ⊢
  unfold maxLen at hcmR
  have hbR : Hid (wt R ≤ 2097152) := Lib.hid (by omega)
  have hmL := hsL.1
  have hcmL := hsL.2.1
  obtain ⟨mL, hNL⟩ : ∃ N, L.len = N := ⟨_, rfl⟩
  rw [hNL] at hmL ⊢
  unfold maxLen at hcmL
  have hbL : Hid (wt L ≤ 2097152) := Lib.hid (by omega)
  have hmC := hsC.1
  have hcmC := hsC.2.1
  obtain ⟨mC, hNC⟩ : ∃ N, C.len = N := ⟨_, rfl⟩
  rw [hNC] at hmC ⊢
  unfold maxLen at hcmC
  have hbC : Hid (wt C ≤ 2097152) := Lib.hid (by omega)
  have hb0 : Below w.heap.size w (w.alloc (.cells #[.int .i64 k, .bool b, .string n, .bool g, .slice AS mS cS, .slice AW mW cW, .slice AR mR cR, .slice AL mL cL, .slice AC mC cC] 43)) := (Below.refl _ w).alloc (Nat.le_refl _) _
  have bY : Blk (w.alloc (.cells #[.int .i64 k, .bool b, .string n, .bool g, .slice AS mS cS, .slice AW mW cW, .slice AR mR cR, .slice AL mL cL, .slice AC mC cC] 43)) w.heap.size [.int .i64 k, .bool b, .string n, .bool g, .slice AS mS cS, .slice AW mW cW, .slice AR mR cR, .slice AL mL cL, .slice AC mC cC] 43 := Blk.new w _ _
  obtain ⟨w1, hw1⟩ : ∃ w1, w.alloc (.cells #[.int .i64 k, .bool b, .string n, .bool g, .slice AS mS cS, .slice AW mW cW, .slice AR mR cR, .slice AL mL cL, .slice AC mC cC] 43) = w1 := ⟨_, rfl⟩
  obtain ⟨y, hy⟩ : ∃ y, w.heap.size = y := ⟨_, rfl⟩
  rw [hw1] at hb0 bY
  replace hsS := Lib.hid (hsS.below hb0)
  replace htS := Lib.hid htS
  replace hNS := Lib.hid hNS
  replace hsW := Lib.hid (hsW.below hb0)
  replace htW := Lib.hid htW
  replace hNW := Lib.hid hNW
  replace hsR := Lib.hid (hsR.below hb0)
  replace htR := Lib.hid htR
  replace hNR := Lib.hid hNR
  replace hsL := Lib.hid (hsL.below hb0)
  replace htL := Lib.hid htL
  replace hNL := Lib.hid hNL
  replace hsC := Lib.hid (hsC.below hb0)
  replace htC := Lib.hid htC
  replace hNC := Lib.hid hNC
  rw [hy] at bY
  have hG0 : Hid (w1.ownsRow w1.heap.size 22 1 (.slice none 0 0) 0 []) := Lib.hid (World.ownsRow_nil _ _ _ _)
  have hB0 : Hid (Below w1.heap.size w1 w1) := Lib.hid (Below.refl _ _)
  have hV0 : Hid (Vals w1 .nil []) := Lib.hid trivial
  have hI0 : Hid (Ty .nil 6) := Lib.hid trivial
  replace bY := Lib.hid bY
  replace hb0 := Lib.hid hb0
  replace hrt := Lib.hid hrt
  replace hT0 := Lib.hid hT0
  replace hw1 := Lib.hid hw1
  replace hy := Lib.hid hy
  clear hTl hparts hw ht hg
  have hGT : ∀ (G X : F), Ty G 6 → app G X = TT → G.len ≤ 2097152 := fun G X hG e => by
    have := app_len (.inr rfl) X hG
    rw [e] at this
    omega
  replace hGT := Lib.hid hGT
  go_enter Tryz.func30, Tryz.ntmps30
  go_upto_region 1 with fail
  rw [hw1.out]
  try rw [hy.out]
  have hlow := hb0
  clear hw1
  have hE0 : Hid (app .nil (app (L) (casB C)) = TT) := Lib.hid hT0.out
  clear hT0
  obtain ⟨vsL, hvL, hcL⟩ : ∃ vs, Vals w1 L vs ∧ ∀ j u, vs[j]? = some u → ∃ b off, AL = some ⟨b, off, none⟩ ∧ w1.cell? ⟨b, off + j, none⟩ = some u := vals_src (.inr rfl) htL.out hsL.out hB0.out
  have hgl := hGT.out _ _ hI0.out hE0.out
  have hm2 : vsL.length = mL := by rw [hvL.len, hNL.out]
  have hml : mL ≤ 2097152 := by have := len_wt L; have := hbL.out; rw [hNL.out] at *; omega
  obtain ⟨A2, c2, W2, hrun, hrow, hbl⟩ := own_cat infoLi Tryz.underlying40 rfl (by decide) (cs := cL) hG0.out hB0.out hB0.out.size ⟨by omega, by omega⟩ hm2 hcL (hvL.one)
  have bYc : Blk w1 y _ _ := (hB0.out.block y bY.out.lt).trans bY.out
  have y7 := bYc.cell (i := 7) rfl
  have yl := bYc.lt
  clear bYc
  replace hrun := Lib.hid hrun
  replace hrow := Lib.hid hrow
  replace hbl := Lib.hid hbl
  go_wp2_with (at_builtin; refine wpList_append_of rfl _ _ 40 40 rfl _ _ _ W2 rfl rfl hrun.out ?_)
  have hVc : Hid (Vals w1 (app .nil L) ([] ++ vsL)) := Lib.hid (hV0.out.app hvL)
  have hIc : Hid (Ty (app .nil L) 6) := Lib.hid (app_ty hI0.out htL.out)
  have hEc : Hid (app (app .nil L) (casB C) = TT) := Lib.hid (by rw [app_assoc]; exact hE0.out)
  obtain ⟨G0, hGe0⟩ : ∃ GG, app .nil L = GG := ⟨_, rfl⟩
  obtain ⟨us0, hus0⟩ : ∃ uu, [] ++ vsL = uu := ⟨_, rfl⟩
  obtain ⟨n0, hn0⟩ : ∃ nn, 0 + mL = nn := ⟨_, rfl⟩
  rw [hGe0] at hVc hIc hEc
  rw [hus0] at hVc hrow
  rw [hn0] at hrow
  try rw [hn0]
  have hn0 : mL = n0 := by omega
  try rw [hn0]
  clear hrun y7 yl hcL hgl hm2 hml hvL hGe0 hus0 hn0 hG0 hB0 hV0 hI0 hE0
  replace hn0 := Lib.hid hn0
  have hLL : Hid (n0 = G0.len) := Lib.hid (by have h1 := hrow.out.1; have h2 := hVc.out.len; omega)
  have hE1 : Hid (app G0 (casB (C.drop 0)) = TT) := hEc
  go_wp2
  go_loopw [3, 4] (fun ov iv wr => ∃ (j n9 : Nat) (G : F) (us : List Value), j ≤ mC ∧ iv = .int .i64 (j : Int) ∧ Hid (wr.ownsRow w1.heap.size 22 1 ov n9 us) ∧ Hid (Vals w1 G us) ∧ Hid (Ty G 6) ∧ Hid (n9 = G.len) ∧ Hid (Below w1.heap.size w1 wr) ∧ Hid (app G (casB (C.drop j)) = TT)) (fun _ iv _ => mC - (intOf iv).toNat)
  case atStart => exact ⟨0, _, _, _, Nat.zero_le _, rfl, hrow, hVc, hIc, hLL, hbl, hE1⟩
  case round =>
    clear hrow hVc hIc hLL hbl hE1 hEc
    obtain ⟨j, n9, G, us, hj, rfl, hR, hV, hI, hL, hB, hE⟩ := hrel
    obtain ⟨Ao, co, rfl, hco, hcom⟩ := own_formT hR.out
    unfold maxLen at hcom
    have bYr : Blk wr y _ _ := (hB.out.block y bY.out.lt).trans bY.out
    have y8 := bYr.cell (i := 8) rfl
    have yl := bYr.lt
    by_cases hlt : j < mC
    · skip
      have hj1 : (0 : Int) ≤ (j : Int) := by omega
      have hj2 : (j : Int) < (mC : Int) := by omega
      obtain ⟨B, o, rfl, hBl, hrw⟩ := hsC.out.2.2 (by rw [hNC.out]; omega)
      have hrd := rw_drop j htC.out (by rw [hNC.out]; omega) hrw
      have htd := ty_drop j htC.out
      have hpd : 0 < (C.drop j).len := by rw [drop_len, hNC.out]; omega
      have hnx := drop_tl j C
      have hwd := Nat.le_trans (wt_drop j C) hbC.out
      obtain ⟨W1, Y1, r1, hfd, htx, htY, _⟩ := at_case htd hpd
      rw [hfd] at hrd hnx hE hwd
      rw [show szT 4 = 2 from rfl] at hrd
      obtain ⟨⟨Ax, cx, e1, hsx⟩, ⟨Ay, cy, e2, hsy⟩, _⟩ := rw_case.1 hrd
      have ec := cell_below hB.out hBl e2
      have hl : B < wr.heap.size := Nat.lt_of_lt_of_le hBl hB.out.size
      have hgl := hGT.out _ _ hI.out hE.out
      simp only [wt] at hwd
      have hxl : Y1.len ≤ 2097152 := by have := len_wt Y1; omega
      obtain ⟨A2, c2, W2, hrun, hrow, hbl⟩ := own_put infoLi Tryz.underlying40 rfl (by decide) (u := .slice Ay Y1.len cy) hR.out hB.out hB.out.size (by have := hL.out; omega) rfl
      have hVc : Hid (Vals w1 (app G (.row Y1 .nil)) (us ++ [.slice Ay Y1.len cy])) := Lib.hid (hV.out.app ⟨⟨_, _, rfl, hsy⟩, trivial⟩)
      have hIc : Hid (Ty (app G (.row Y1 .nil)) 6) := Lib.hid (app_ty hI.out (.inr ⟨rfl, htY, trivial⟩))
      have hLc : Hid (n9 + 1 = (app G (.row Y1 .nil)).len) := Lib.hid (by rw [app_len (.inr rfl) _ hI.out, ← hL.out]; rfl)
      have hEc : Hid (app (app G (.row Y1 .nil)) (casB (C.drop (j + 1))) = TT) := Lib.hid (by rw [app_assoc, ← hnx]; exact hE.out)
      replace hrun := Lib.hid hrun
      replace hrow := Lib.hid hrow
      replace hbl := Lib.hid hbl
      skip
      clear hrw hrd htd hpd hnx hfd hwd hgl hR hV hI hL hB hE bYr hBl e1 e2
      go_wp2_with (at_builtin; refine wpList_append_of rfl _ _ 40 40 rfl _ _ _ W2 rfl rfl hrun.out ?_)
      clear hrun ec hl yl y8 hco hcom hxl
      go_roundw
      case rel => exact ⟨j + 1, n9 + 1, _, _, by omega, by go_num, hrow, hVc, hIc, hLc, hbl, hEc⟩
      case measure => simp [intOf]; omega
    · skip
      obtain rfl : j = mC := by omega
      have hj3 : ¬ (j : Int) < (j : Int) := by omega
      rw [drop_end C hNC.out.symm] at hE
      have hE9 : G = TT := by have := hE.out; simp only [casB] at this; rw [app_nil (.inr rfl) hI.out] at this; exact this
      subst hE9
      obtain ⟨hn9, hslc⟩ := own_slc hR.out (hV.out.below hB.out)
      subst hn9
      have hfin := Lib.hid (And.intro hslc (hlow.out.trans (hB.out.mono hlow.out.size)))
      clear hslc hR hV hI hL hB hE
      go_wp2
      go_ret
      exact ⟨_, _, rfl, hfin.out.1, hfin.out.2⟩
set_option maxRecDepth 100000 in
set_option maxHeartbeats 8000000 in
theorem words_any {g0 : F} (ht : Ty g0 0) (hg : 0 < g0.len) (hw : wt g0 ≤ 2097152) (w : World) (v : Value) (hv : ElV w g0 v) :
    Calls Tryz.prog 28 #[v] w fun e w' => ∃ A c, e = .returned (.slice A (wordsF g0).len c) ∧ Slc w' A c (wordsF g0) ∧ Below w.heap.size w w' := by
  have hrt := wordsF_ty ht
  obtain ⟨k, b, n, g, S, W, R, L, C, r, rfl, _, htS, htW, htR, htL, htC, _⟩ := at_node ht hg
  have hparts := (node_parts ht).2.2
  obtain ⟨AS, cS, AW, cW, AR, cR, AL, cL, AC, cC, rfl, hsS, hsW, hsR, hsL, hsC⟩ := hv
  simp only [wt] at hw
  have hTl := len_wt (wordsF (.node k b n g S W R L C r))
  obtain ⟨TT, hTT⟩ : ∃ T, wordsF (.node k b n g S W R L C r) = T := ⟨_, rfl⟩
  have hT0 : wordsF (.node k b n g S W R L C r) = TT := hTT
  rw [hTT] at hTl hparts hrt ⊢
  have hTb : TT.len ≤ 2097152 := by omega
  simp only [wordsF] at hT0
  clear hTT
  have hmS := hsS.1
  have hcmS := hsS.2.1
  obtain ⟨mS, hNS⟩ : ∃ N, S.len = N := ⟨_, rfl⟩
  rw [hNS] at hmS ⊢
  unfold maxLen at hcmS
  have hbS : Hid (wt S ≤ 2097152) := Lib.hid (by omega)
  have hmW := hsW.1
  have hcmW := hsW.2.1
  obtain ⟨mW, hNW⟩ : ∃ N, W.len = N := ⟨_, rfl⟩
  rw [hNW] at hmW ⊢
  unfold maxLen at hcmW
  have hbW : Hid (wt W ≤ 2097152) := Lib.hid (by omega)
  have hmR := hsR.1
  have hcmR := hsR.2.1
  obtain ⟨mR, hNR⟩ : ∃ N, R.len = N := ⟨_, rfl⟩
  rw [hNR] at hmR ⊢
  unfold maxLen at hcmR
  have hbR : Hid (wt R ≤ 2097152) := Lib.hid (by omega)
  have hmL := hsL.1
  have hcmL := hsL.2.1
  obtain ⟨mL, hNL⟩ : ∃ N, L.len = N := ⟨_, rfl⟩
  rw [hNL] at hmL ⊢
  unfold maxLen at hcmL
  have hbL : Hid (wt L ≤ 2097152) := Lib.hid (by omega)
  have hmC := hsC.1
  have hcmC := hsC.2.1
  obtain ⟨mC, hNC⟩ : ∃ N, C.len = N := ⟨_, rfl⟩
  rw [hNC] at hmC ⊢
  unfold maxLen at hcmC
  have hbC : Hid (wt C ≤ 2097152) := Lib.hid (by omega)
  have hb0 : Below w.heap.size w (w.alloc (.cells #[.int .i64 k, .bool b, .string n, .bool g, .slice AS mS cS, .slice AW mW cW, .slice AR mR cR, .slice AL mL cL, .slice AC mC cC] 43)) := (Below.refl _ w).alloc (Nat.le_refl _) _
  have bY : Blk (w.alloc (.cells #[.int .i64 k, .bool b, .string n, .bool g, .slice AS mS cS, .slice AW mW cW, .slice AR mR cR, .slice AL mL cL, .slice AC mC cC] 43)) w.heap.size [.int .i64 k, .bool b, .string n, .bool g, .slice AS mS cS, .slice AW mW cW, .slice AR mR cR, .slice AL mL cL, .slice AC mC cC] 43 := Blk.new w _ _
  obtain ⟨w1, hw1⟩ : ∃ w1, w.alloc (.cells #[.int .i64 k, .bool b, .string n, .bool g, .slice AS mS cS, .slice AW mW cW, .slice AR mR cR, .slice AL mL cL, .slice AC mC cC] 43) = w1 := ⟨_, rfl⟩
  obtain ⟨y, hy⟩ : ∃ y, w.heap.size = y := ⟨_, rfl⟩
  rw [hw1] at hb0 bY
  replace hsS := Lib.hid (hsS.below hb0)
  replace htS := Lib.hid htS
  replace hNS := Lib.hid hNS
  replace hsW := Lib.hid (hsW.below hb0)
  replace htW := Lib.hid htW
  replace hNW := Lib.hid hNW
  replace hsR := Lib.hid (hsR.below hb0)
  replace htR := Lib.hid htR
  replace hNR := Lib.hid hNR
  replace hsL := Lib.hid (hsL.below hb0)
  replace htL := Lib.hid htL
  replace hNL := Lib.hid hNL
  replace hsC := Lib.hid (hsC.below hb0)
  replace htC := Lib.hid htC
  replace hNC := Lib.hid hNC
  rw [hy] at bY
  have hG0 : Hid (w1.ownsRow w1.heap.size 29 1 (.slice none 0 0) 0 []) := Lib.hid (World.ownsRow_nil _ _ _ _)
  have hB0 : Hid (Below w1.heap.size w1 w1) := Lib.hid (Below.refl _ _)
  have hV0 : Hid (Vals w1 .nil []) := Lib.hid trivial
  have hI0 : Hid (Ty .nil 5) := Lib.hid trivial
  replace bY := Lib.hid bY
  replace hb0 := Lib.hid hb0
  replace hrt := Lib.hid hrt
  replace hT0 := Lib.hid hT0
  replace hw1 := Lib.hid hw1
  replace hy := Lib.hid hy
  clear hTl hparts hw ht hg
  have hGT : ∀ (G X : F), Ty G 5 → app G X = TT → G.len ≤ 2097152 := fun G X hG e => by
    have := app_len (.inl rfl) X hG
    rw [e] at this
    omega
  replace hGT := Lib.hid hGT
  go_enter Tryz.func28, Tryz.ntmps28
  go_upto_region 1 with fail
  rw [hw1.out]
  try rw [hy.out]
  have hlow := hb0
  clear hw1
  have hE0 : Hid (app .nil (app (setW S) (app (W) (app (redW R) (casW C)))) = TT) := Lib.hid hT0.out
  clear hT0
  have hLL : Hid ((0 : Nat) = (.nil : F).len) := Lib.hid rfl
  have hE1 : Hid (app .nil (app (setW (S.drop 0)) (app (W) (app (redW R) (casW C)))) = TT) := hE0
  go_wp2
  go_loopw [3, 4] (fun ov iv wr => ∃ (j n9 : Nat) (G : F) (us : List Value), j ≤ mS ∧ iv = .int .i64 (j : Int) ∧ Hid (wr.ownsRow w1.heap.size 29 1 ov n9 us) ∧ Hid (Vals w1 G us) ∧ Hid (Ty G 5) ∧ Hid (n9 = G.len) ∧ Hid (Below w1.heap.size w1 wr) ∧ Hid (app G (app (setW (S.drop j)) (app (W) (app (redW R) (casW C)))) = TT)) (fun _ iv _ => mS - (intOf iv).toNat)
  case atStart => exact ⟨0, _, _, _, Nat.zero_le _, rfl, hG0, hV0, hI0, hLL, hB0, hE1⟩
  case round =>
    clear hG0 hV0 hI0 hLL hB0 hE1 hE0
    obtain ⟨j, n9, G, us, hj, rfl, hR, hV, hI, hL, hB, hE⟩ := hrel
    obtain ⟨Ao, co, rfl, hco, hcom⟩ := own_formT hR.out
    unfold maxLen at hcom
    have bYr : Blk wr y _ _ := (hB.out.block y bY.out.lt).trans bY.out
    have y4 := bYr.cell (i := 4) rfl
    have yl := bYr.lt
    by_cases hlt : j < mS
    · skip
      have hj1 : (0 : Int) ≤ (j : Int) := by omega
      have hj2 : (j : Int) < (mS : Int) := by omega
      obtain ⟨B, o, rfl, hBl, hrw⟩ := hsS.out.2.2 (by rw [hNS.out]; omega)
      have hrd := rw_drop j htS.out (by rw [hNS.out]; omega) hrw
      have htd := ty_drop j htS.out
      have hpd : 0 < (S.drop j).len := by rw [drop_len, hNS.out]; omega
      have hnx := drop_tl j S
      have hwd := Nat.le_trans (wt_drop j S) hbS.out
      obtain ⟨n1, x1, r1, hfd, htx, _⟩ := at_set htd hpd
      rw [hfd] at hrd hnx hE hwd
      rw [show szT 2 = 2 from rfl] at hrd
      obtain ⟨_, ⟨Ax, cx, e1, hsx⟩, _⟩ := rw_set.1 hrd
      have ec := cell_below hB.out hBl e1
      have hl : B < wr.heap.size := Nat.lt_of_lt_of_le hBl hB.out.size
      have hgl := hGT.out _ _ hI.out hE.out
      simp only [wt] at hwd
      have hxl : x1.len ≤ 2097152 := by have := len_wt x1; omega
      obtain ⟨A2, c2, W2, hrun, hrow, hbl⟩ := own_put infoWd Tryz.underlying38 rfl (by decide) (u := .slice Ax x1.len cx) hR.out hB.out hB.out.size (by have := hL.out; omega) rfl
      have hVc : Hid (Vals w1 (app G (.row x1 .nil)) (us ++ [.slice Ax x1.len cx])) := Lib.hid (hV.out.app ⟨⟨_, _, rfl, hsx⟩, trivial⟩)
      have hIc : Hid (Ty (app G (.row x1 .nil)) 5) := Lib.hid (app_ty hI.out (.inl ⟨rfl, htx, trivial⟩))
      have hLc : Hid (n9 + 1 = (app G (.row x1 .nil)).len) := Lib.hid (by rw [app_len (.inl rfl) _ hI.out, ← hL.out]; rfl)
      have hEc : Hid (app (app G (.row x1 .nil)) (app (setW (S.drop (j + 1))) (app (W) (app (redW R) (casW C)))) = TT) := Lib.hid (by rw [app_assoc, ← hnx]; exact hE.out)
      replace hrun := Lib.hid hrun
      replace hrow := Lib.hid hrow
      replace hbl := Lib.hid hbl
      skip
      clear hrw hrd htd hpd hnx hfd hwd hgl hR hV hI hL hB hE bYr hBl e1
      go_wp2_with (at_builtin; refine wpList_append_of rfl _ _ 38 38 rfl _ _ _ W2 rfl rfl hrun.out ?_)
      clear hrun ec hl yl y4 hco hcom hxl
      go_roundw
      case rel => exact ⟨j + 1, n9 + 1, _, _, by omega, by go_num, hrow, hVc, hIc, hLc, hbl, hEc⟩
      case measure => simp [intOf]; omega
    · skip
      obtain rfl : j = mS := by omega
      have hj3 : ¬ (j : Int) < (j : Int) := by omega
      rw [drop_end S hNS.out.symm] at hE
      have hE9 : Hid (app G (app (W) (app (redW R) (casW C))) = TT) := hE
      clear hE
      clear bYr hlt hj
      obtain ⟨vsW, hvW, hcW⟩ : ∃ vs, Vals w1 W vs ∧ ∀ j u, vs[j]? = some u → ∃ b off, AW = some ⟨b, off, none⟩ ∧ wr.cell? ⟨b, off + j, none⟩ = some u := vals_src (.inl rfl) htW.out hsW.out hB.out
      have hgl := hGT.out _ _ hI.out hE9.out
      have hm2 : vsW.length = mW := by rw [hvW.len, hNW.out]
      have hml : mW ≤ 2097152 := by have := len_wt W; have := hbW.out; rw [hNW.out] at *; omega
      obtain ⟨A2, c2, W2, hrun, hrow, hbl⟩ := own_cat infoWd Tryz.underlying38 rfl (by decide) (cs := cW) hR.out hB.out hB.out.size ⟨by have := hL.out; omega, by omega⟩ hm2 hcW (hvW.one)
      have bYc : Blk wr y _ _ := (hB.out.block y bY.out.lt).trans bY.out
      have y5 := bYc.cell (i := 5) rfl
      have yl := bYc.lt
      clear bYc
      replace hrun := Lib.hid hrun
      replace hrow := Lib.hid hrow
      replace hbl := Lib.hid hbl
      go_wp2_with (at_builtin; refine wpList_append_of rfl _ _ 38 38 rfl _ _ _ W2 rfl rfl hrun.out ?_)
      have hVc : Hid (Vals w1 (app G W) (us ++ vsW)) := Lib.hid (hV.out.app hvW)
      have hIc : Hid (Ty (app G W) 5) := Lib.hid (app_ty hI.out htW.out)
      have hEc : Hid (app (app G W) (app (redW R) (casW C)) = TT) := Lib.hid (by rw [app_assoc]; exact hE9.out)
      obtain ⟨G1, hGe1⟩ : ∃ GG, app G W = GG := ⟨_, rfl⟩
      obtain ⟨us1, hus1⟩ : ∃ uu, us ++ vsW = uu := ⟨_, rfl⟩
      obtain ⟨n1, hn1⟩ : ∃ nn, n9 + mW = nn := ⟨_, rfl⟩
      rw [hGe1] at hVc hIc hEc
      rw [hus1] at hVc hrow
      rw [hn1] at hrow
      try rw [hn1]
      clear hrun y5 yl hcW hgl hm2 hml hvW hGe1 hus1 hR hB hV hI hE9
      replace hn1 := Lib.hid hn1
      have hLL : Hid (n1 = G1.len) := Lib.hid (by have h1 := hrow.out.1; have h2 := hVc.out.len; omega)
      have hE1 : Hid (app G1 (app (redW (R.drop 0)) (casW C)) = TT) := hEc
      go_wp2
      go_loopw [3, 5] (fun ov iv wr => ∃ (i n9 : Nat) (G : F) (us : List Value), i ≤ mR ∧ iv = .int .i64 (i : Int) ∧ Hid (wr.ownsRow w1.heap.size 29 1 ov n9 us) ∧ Hid (Vals w1 G us) ∧ Hid (Ty G 5) ∧ Hid (n9 = G.len) ∧ Hid (Below w1.heap.size w1 wr) ∧ Hid (app G (app (redW (R.drop i)) (casW C)) = TT)) (fun _ iv _ => mR - (intOf iv).toNat)
      case atStart => exact ⟨0, _, _, _, Nat.zero_le _, rfl, hrow, hVc, hIc, hLL, hbl, hE1⟩
      case round =>
        clear hrow hVc hIc hLL hbl hE1 hEc
        obtain ⟨i, n9, G, us, hj, rfl, hR, hV, hI, hL, hB, hE⟩ := hrel
        obtain ⟨Ao, co, rfl, hco, hcom⟩ := own_formT hR.out
        unfold maxLen at hcom
        have bYr : Blk wr y _ _ := (hB.out.block y bY.out.lt).trans bY.out
        have y6 := bYr.cell (i := 6) rfl
        have yl := bYr.lt
        by_cases hlt : i < mR
        · skip
          have hj1 : (0 : Int) ≤ (i : Int) := by omega
          have hj2 : (i : Int) < (mR : Int) := by omega
          obtain ⟨B, o, rfl, hBl, hrw⟩ := hsR.out.2.2 (by rw [hNR.out]; omega)
          have hrd := rw_drop i htR.out (by rw [hNR.out]; omega) hrw
          have htd := ty_drop i htR.out
          have hpd : 0 < (R.drop i).len := by rw [drop_len, hNR.out]; omega
          have hnx := drop_tl i R
          have hwd := Nat.le_trans (wt_drop i R) hbR.out
          obtain ⟨d1, k1, x1, r1, hfd, _, _, htx, _⟩ := at_redir htd hpd
          rw [hfd] at hrd hnx hE hwd
          rw [show szT 3 = 3 from rfl] at hrd
          obtain ⟨_, _, ⟨Ax, cx, e1, hsx⟩, _⟩ := rw_redir.1 hrd
          have ec := cell_below hB.out hBl e1
          have hl : B < wr.heap.size := Nat.lt_of_lt_of_le hBl hB.out.size
          have hgl := hGT.out _ _ hI.out hE.out
          simp only [wt] at hwd
          have hxl : x1.len ≤ 2097152 := by have := len_wt x1; omega
          obtain ⟨A2, c2, W2, hrun, hrow, hbl⟩ := own_put infoWd Tryz.underlying38 rfl (by decide) (u := .slice Ax x1.len cx) hR.out hB.out hB.out.size (by have := hL.out; omega) rfl
          have hVc : Hid (Vals w1 (app G (.row x1 .nil)) (us ++ [.slice Ax x1.len cx])) := Lib.hid (hV.out.app ⟨⟨_, _, rfl, hsx⟩, trivial⟩)
          have hIc : Hid (Ty (app G (.row x1 .nil)) 5) := Lib.hid (app_ty hI.out (.inl ⟨rfl, htx, trivial⟩))
          have hLc : Hid (n9 + 1 = (app G (.row x1 .nil)).len) := Lib.hid (by rw [app_len (.inl rfl) _ hI.out, ← hL.out]; rfl)
          have hEc : Hid (app (app G (.row x1 .nil)) (app (redW (R.drop (i + 1))) (casW C)) = TT) := Lib.hid (by rw [app_assoc, ← hnx]; exact hE.out)
          replace hrun := Lib.hid hrun
          replace hrow := Lib.hid hrow
          replace hbl := Lib.hid hbl
          skip
          clear hrw hrd htd hpd hnx hfd hwd hgl hR hV hI hL hB hE bYr hBl e1
          go_wp2_with (at_builtin; refine wpList_append_of rfl _ _ 38 38 rfl _ _ _ W2 rfl rfl hrun.out ?_)
          clear hrun ec hl yl y6 hco hcom hxl
          go_roundw
          case rel => exact ⟨i + 1, n9 + 1, _, _, by omega, by go_num, hrow, hVc, hIc, hLc, hbl, hEc⟩
          case measure => simp [intOf]; omega
        · skip
          obtain rfl : i = mR := by omega
          have hj3 : ¬ (i : Int) < (i : Int) := by omega
          rw [drop_end R hNR.out.symm] at hE
          have hE9 : Hid (app G (casW C) = TT) := hE
          clear hE
          clear bYr hlt hj
          have hLL : Hid (n9 = G.len) := Lib.hid (by have h1 := hR.out.1; have h2 := hV.out.len; omega)
          have hE1 : Hid (app G (casW (C.drop 0)) = TT) := hE9
          go_wp2
          go_loopw [3, 6] (fun ov iv wr => ∃ (q n9 : Nat) (G : F) (us : List Value), q ≤ mC ∧ iv = .int .i64 (q : Int) ∧ Hid (wr.ownsRow w1.heap.size 29 1 ov n9 us) ∧ Hid (Vals w1 G us) ∧ Hid (Ty G 5) ∧ Hid (n9 = G.len) ∧ Hid (Below w1.heap.size w1 wr) ∧ Hid (app G (casW (C.drop q)) = TT)) (fun _ iv _ => mC - (intOf iv).toNat)
          case atStart => exact ⟨0, _, _, _, Nat.zero_le _, rfl, hR, hV, hI, hLL, hB, hE1⟩
          case round =>
            clear hR hV hI hLL hB hE1 hE9
            obtain ⟨q, n9, G, us, hj, rfl, hR, hV, hI, hL, hB, hE⟩ := hrel
            obtain ⟨Ao, co, rfl, hco, hcom⟩ := own_formT hR.out
            unfold maxLen at hcom
            have bYr : Blk wr y _ _ := (hB.out.block y bY.out.lt).trans bY.out
            have y8 := bYr.cell (i := 8) rfl
            have yl := bYr.lt
            by_cases hlt : q < mC
            · skip
              have hj1 : (0 : Int) ≤ (q : Int) := by omega
              have hj2 : (q : Int) < (mC : Int) := by omega
              obtain ⟨B, o, rfl, hBl, hrw⟩ := hsC.out.2.2 (by rw [hNC.out]; omega)
              have hrd := rw_drop q htC.out (by rw [hNC.out]; omega) hrw
              have htd := ty_drop q htC.out
              have hpd : 0 < (C.drop q).len := by rw [drop_len, hNC.out]; omega
              have hnx := drop_tl q C
              have hwd := Nat.le_trans (wt_drop q C) hbC.out
              obtain ⟨W1, Y1, r1, hfd, htx, htY, _⟩ := at_case htd hpd
              rw [hfd] at hrd hnx hE hwd
              rw [show szT 4 = 2 from rfl] at hrd
              obtain ⟨⟨Ax, cx, e1, hsx⟩, ⟨Ay, cy, e2, hsy⟩, _⟩ := rw_case.1 hrd
              have ec := cell_below hB.out hBl e1
              have hl : B < wr.heap.size := Nat.lt_of_lt_of_le hBl hB.out.size
              have hgl := hGT.out _ _ hI.out hE.out
              simp only [wt] at hwd
              have hxl : W1.len ≤ 2097152 := by have := len_wt W1; omega
              obtain ⟨vs, hvs, hcs⟩ := vals_src (.inl rfl) htx hsx hB.out
              obtain ⟨A2, c2, W2, hrun, hrow, hbl⟩ := own_cat infoWd Tryz.underlying38 rfl (by decide) (cs := cx) hR.out hB.out hB.out.size ⟨by have := hL.out; omega, Nat.le_trans hxl (by decide)⟩ hvs.len hcs (hvs.one)
              have hVc : Hid (Vals w1 (app G W1) (us ++ vs)) := Lib.hid (hV.out.app hvs)
              have hIc : Hid (Ty (app G W1) 5) := Lib.hid (app_ty hI.out htx)
              have hLc : Hid (n9 + W1.len = (app G W1).len) := Lib.hid (by rw [app_len (.inl rfl) _ hI.out, ← hL.out])
              have hEc : Hid (app (app G W1) (casW (C.drop (q + 1))) = TT) := Lib.hid (by rw [app_assoc, ← hnx]; exact hE.out)
              replace hrun := Lib.hid hrun
              replace hrow := Lib.hid hrow
              replace hbl := Lib.hid hbl
              skip
              clear hrw hrd htd hpd hnx hfd hwd hgl hR hV hI hL hB hE bYr hBl e1 e2 hvs hcs
              go_wp2_with (at_builtin; refine wpList_append_of rfl _ _ 38 38 rfl _ _ _ W2 rfl rfl hrun.out ?_)
              clear hrun ec hl yl y8 hco hcom hxl
              go_roundw
              case rel => exact ⟨q + 1, n9 + W1.len, _, _, by omega, by go_num, hrow, hVc, hIc, hLc, hbl, hEc⟩
              case measure => simp [intOf]; omega
            · skip
              obtain rfl : q = mC := by omega
              have hj3 : ¬ (q : Int) < (q : Int) := by omega
              rw [drop_end C hNC.out.symm] at hE
              have hE9 : G = TT := by have := hE.out; simp only [casW] at this; rw [app_nil (.inl rfl) hI.out] at this; exact this
              subst hE9
              obtain ⟨hn9, hslc⟩ := own_slc hR.out (hV.out.below hB.out)
              subst hn9
              have hfin := Lib.hid (And.intro hslc (hlow.out.trans (hB.out.mono hlow.out.size)))
              clear hslc hR hV hI hL hB hE
              go_wp2
              go_ret
              exact ⟨_, _, rfl, hfin.out.1, hfin.out.2⟩
end Go.Proofs.YtmchfoedjajbdaaGreat
