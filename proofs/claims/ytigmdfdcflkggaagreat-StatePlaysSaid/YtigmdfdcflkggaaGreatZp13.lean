/-
  The document's answer in memory: a name put into its place. Conditions: fewer than ninety thousand names.
-/
import Derived.Test.YtigmdfdcflkggaaGreatZp12
set_option linter.unusedSimpArgs false
set_option linter.unusedVariables false
namespace Go.Proofs.YtigmdfdcflkggaaGreat
open Go Go.RowKit Go.ChangeMaps

/-- k's thing in the place of the first one that is not less. -/
def insG {α : Type} (k : ByteArray) (x : α) : Es α → Es α
  | [] => [(k, x)]
  | p :: l => if bytesOf p.1 < bytesOf k then p :: insG k x l else (k, x) :: dropK (p :: l) k
def oneK {α : Type} (k : ByteArray) (p : ByteArray × α) : Es α := if p.1 = k then [] else [p]
theorem dropK_app {α : Type} (l : Es α) (k : ByteArray) (p : ByteArray × α) : dropK (l ++ [p]) k = dropK l k ++ oneK k p := by
  unfold dropK oneK
  rw [List.filter_append]
  congr 1
  by_cases e : p.1 = k
  · rw [if_pos e, List.filter_cons_of_neg (by simpa using e)]; rfl
  · rw [if_neg e, List.filter_cons_of_pos (by simpa using e)]; rfl
theorem insG_less {α : Type} {k : ByteArray} {x : α} : ∀ {l : Es α}, (∀ p ∈ l, bytesOf p.1 < bytesOf k) → insG k x l = l ++ [(k, x)]
  | [], _ => rfl
  | p :: l, h => by
    unfold insG
    rw [if_pos (h p (List.mem_cons_self ..)), insG_less fun q hq => h q (List.mem_cons_of_mem _ hq)]; rfl
theorem insG_ge {α : Type} {k : ByteArray} {x : α} {p : ByteArray × α} (hp : ¬ bytesOf p.1 < bytesOf k) : ∀ {l : Es α}, (∀ p ∈ l, bytesOf p.1 < bytesOf k) → insG k x (l ++ [p]) = l ++ [(k, x)] ++ oneK k p
  | [], _ => by
    show insG k x [p] = _
    unfold insG
    rw [if_neg hp]
    have := dropK_app ([] : Es α) k p
    show (k, x) :: dropK ([] ++ [p]) k = _
    rw [this]; rfl
  | q :: l, h => by
    show insG k x (q :: (l ++ [p])) = _
    unfold insG
    rw [if_pos (h q (List.mem_cons_self ..)), insG_ge hp fun r hr => h r (List.mem_cons_of_mem _ hr)]; rfl
theorem insG_later {α : Type} {k : ByteArray} {x : α} {p : ByteArray × α} : ∀ {l : Es α}, (∃ q ∈ l, ¬ bytesOf q.1 < bytesOf k) → insG k x (l ++ [p]) = insG k x l ++ oneK k p
  | [], h => by obtain ⟨_, h, _⟩ := h; cases h
  | q :: l, h => by
    show insG k x (q :: (l ++ [p])) = insG k x (q :: l) ++ oneK k p
    unfold insG
    by_cases hq : bytesOf q.1 < bytesOf k
    · rw [if_pos hq, if_pos hq, insG_later (l := l) (by
        obtain ⟨y, hy, hg⟩ := h
        rcases List.mem_cons.1 hy with rfl | hy
        · exact absurd hq hg
        · exact ⟨y, hy, hg⟩)]
      rfl
    · rw [if_neg hq, if_neg hq]
      have := dropK_app (q :: l) k p
      rw [List.cons_append] at this
      rw [this]; rfl
/-- What stands in out, and whether k's thing does. -/
inductive InsI {α : Type} (no : Bool) (k : ByteArray) (x : α) (l M : Es α) : Bool → Prop
  | none (h : no = true) (hM : M = dropK l k) : InsI no k x l M true
  | wait (h : no = false) (hl : ∀ p ∈ l, bytesOf p.1 < bytesOf k) (hM : M = l) : InsI no k x l M false
  | done (h : no = false) (hl : ∃ q ∈ l, ¬ bytesOf q.1 < bytesOf k) (hM : M = insG k x l) : InsI no k x l M true
def putL {α : Type} (no : Bool) (k : ByteArray) (x : α) (l : Es α) : Es α := if no then dropK l k else insG k x l
section
variable {α : Type} {no : Bool} {k : ByteArray} {x : α} {l M : Es α} {p : ByteArray × α}
theorem InsI.later (h : InsI no k x l M true) : InsI no k x (l ++ [p]) (M ++ oneK k p) true := by
  cases h with
  | none h hM => exact .none h (by rw [dropK_app, hM])
  | done h hl hM =>
    obtain ⟨q, hq, hg⟩ := hl
    exact .done h ⟨q, List.mem_append_left _ hq, hg⟩ (by rw [insG_later ⟨q, hq, hg⟩, hM])
theorem InsI.skip (h : InsI no k x l M true) (hp : p.1 = k) : InsI no k x (l ++ [p]) M true := by
  have := h.later (p := p)
  unfold oneK at this
  rwa [if_pos hp, List.append_nil] at this
theorem InsI.more (h : InsI no k x l M true) (hp : p.1 ≠ k) : InsI no k x (l ++ [p]) (M ++ [p]) true := by
  have := h.later (p := p)
  unfold oneK at this
  rwa [if_neg hp] at this
theorem InsI.lt (h : InsI no k x l M false) (hp : bytesOf p.1 < bytesOf k) : InsI no k x (l ++ [p]) (M ++ [p]) false := by
  cases h with
  | wait h hl hM =>
    refine .wait h (fun q hq => ?_) (by rw [hM])
    rcases List.mem_append.1 hq with hq | hq
    · exact hl q hq
    · rw [List.mem_singleton.1 hq]; exact hp
theorem InsI.ge (h : InsI no k x l M false) (hp : ¬ bytesOf p.1 < bytesOf k) : InsI no k x (l ++ [p]) (M ++ [(k, x)] ++ oneK k p) true := by
  cases h with
  | wait h hl hM => exact .done h ⟨p, List.mem_append_right _ (List.mem_singleton.2 rfl), hp⟩ (by rw [insG_ge hp hl, hM])
theorem InsI.eq (h : InsI no k x l M false) (hp : p.1 = k) : InsI no k x (l ++ [p]) (M ++ [(k, x)]) true := by
  have := h.ge (p := p) (by rw [hp]; exact List.lt_irrefl _)
  unfold oneK at this
  rwa [if_pos hp, List.append_nil] at this
theorem InsI.gt (h : InsI no k x l M false) (hp : ¬ bytesOf p.1 < bytesOf k) (hn : p.1 ≠ k) : InsI no k x (l ++ [p]) (M ++ [(k, x)] ++ [p]) true := by
  have := h.ge hp
  unfold oneK at this
  rwa [if_neg hn] at this
theorem InsI.start (no : Bool) (k : ByteArray) (x : α) : InsI no k x [] [] no := by
  cases no
  · exact .wait rfl (fun p hp => by cases hp) rfl
  · exact .none rfl rfl
theorem InsI.end1 (h : InsI no k x l M true) : M = putL no k x l := by
  unfold putL
  cases h with
  | none h hM => rw [if_pos h, hM]
  | done h hl hM => rw [h, hM]; rfl
theorem InsI.end0 (h : InsI no k x l M false) : M ++ [(k, x)] = putL no k x l := by
  unfold putL
  cases h with
  | wait h hl hM => rw [h, hM]; exact (insG_less hl).symm
theorem InsI.len {d : Bool} (h : InsI no k x l M d) : M.length ≤ l.length + 1 := by
  cases h with
  | none h hM => rw [hM]; have := List.length_filter_le (fun p : ByteArray × α => p.1 ≠ k) l; unfold dropK; omega
  | wait h hl hM => rw [hM]; omega
  | done h hl hM =>
    rw [hM]
    clear hM hl h
    induction l with
    | nil => exact Nat.le_refl _
    | cons q l ih =>
      unfold insG
      split
      · simp only [List.length_cons]; omega
      · have := List.length_filter_le (fun p : ByteArray × α => p.1 ≠ k) (q :: l)
        unfold dropK
        simp only [List.length_cons] at this ⊢; omega
end
theorem lt_of_not {a b : ByteArray} (h : ¬ bytesOf a < bytesOf b) (hn : a ≠ b) : bytesOf b < bytesOf a := Classical.byContradiction fun h2 => hn (bytesOf_inj (List.le_antisymm (List.not_lt.1 h2) (List.not_lt.1 h)))
section
variable {W w w' : World} {rb : Nat} {r : Rf}
set_option maxRecDepth 100000 in
set_option maxHeartbeats 16000000 in
theorem with_any {y n0 c : Nat} {A : Option Addr} {L0 : Es ByteArray} (h : W.ownsRow y 95 2 (.slice A n0 c) n0 (flat eP L0)) (hn : L0.length = n0) (hl : n0 ≤ 89999) (k x : ByteArray) :
    Calls Tryz.prog 111 #[.slice A n0 c, .agg #[.string k, .string x]] W fun e w' => ∃ A' m' c', e = .returned (.slice A' m' c') ∧ w'.ownsRow 0 95 2 (.slice A' m' c') m' (flat eP (putL false k x (dropK L0 k))) ∧ (putL false k x (dropK L0 k)).length = m' ∧ Below W.heap.size W w' := by
  obtain ⟨zb, hzb⟩ : ∃ z, W.heap.size = z := ⟨_, rfl⟩
  have bX : Blk (W.alloc (.cells #[.string k, .string x] 95)) zb [.string k, .string x] 95 := by rw [← hzb]; exact Blk.new W _ _
  have hbA : Below W.heap.size W (W.alloc (.cells #[.string k, .string x] 95)) := Below.of_alloc W _
  have hwo := without_any (ownBelow h hbA) hn (by omega) k
  have hne0 : ∀ p ∈ dropK L0 k, p.1 ≠ k := fun p hp => by
    have := (List.mem_filter.1 hp).2
    simpa using this
  have hln := dropK_length L0 k
  replace bX := Lib.hid bX
  clear h
  go_enter Tryz.func111, Tryz.ntmps111
  go_upto_region 1 with fail
  try rw [hzb]
  generalize (W.alloc (.cells #[.string k, .string x] 95)) = wA at bX hbA hwo ⊢
  have y0 := bX.out.cell (i := 0) rfl
  have y1 := bX.out.cell (i := 1) rfl
  have yl := bX.out.lt
  go_wp2_with fail
  refine hwo.mono ?_
  rintro e w0 ⟨A1, c1, rfl, hrow0, hb1⟩
  have bX0 := (hb1.block zb yl).trans bX.out
  have hzbz0 : zb < w0.heap.size := Nat.lt_of_lt_of_le yl hb1.size
  clear bX y0 y1 yl hwo
  have bX : Hid (Blk w0 zb [.string k, .string x] 95) := Lib.hid bX0
  obtain ⟨_, c9, e9, hc, hcm⟩ := own_form hrow0
  cases e9
  unfold maxLen at hcm
  obtain ⟨L, hL⟩ : ∃ L, dropK L0 k = L := ⟨_, rfl⟩
  rw [hL] at hrow0 hne0 hln hc ⊢
  obtain ⟨n, hnL⟩ : ∃ n, L.length = n := ⟨_, rfl⟩
  rw [hnL] at hrow0 hln hc ⊢
  obtain ⟨z, hz⟩ : ∃ z, w0.heap.size = z := ⟨_, rfl⟩
  have hzbz : zb < z := by omega
  have hat0 := fun (w2 : World) (hb : Below z w0 w2) => ownBelow hrow0 (hz ▸ hb)
  have hbW : Hid (Below W.heap.size W w0) := Lib.hid (hbA.trans (hb1.mono hbA.size))
  have hn := Lib.hid hnL
  replace hz := Lib.hid hz
  replace hat0 := Lib.hid hat0
  have hne := Lib.hid hne0
  replace hL := Lib.hid hL
  clear hrow0 hb1 hbA bX0 hne0 hnL
  have hn89 : n ≤ 89999 := by omega
  have hP0 : Hid (w0.ownsRow z 95 2 (.slice none 0 0) 0 (flat eP ([] : Es ByteArray))) := Lib.hid (World.ownsRow_nil _ _ _ _)
  have hI0 : Hid (InsI false k x (L.take 0) [] false) := Lib.hid (InsI.start false k x)
  have hb0 : Hid (Below z w0 w0) := Lib.hid (Below.refl _ _)
  go_wp2
  go_loopw [5, 6, 7] (fun ov dv nv wr => ∃ (j m : Nat) (M : Es ByteArray) (d : Bool), j ≤ n ∧ nv = .int .i64 (j : Int) ∧ dv = .bool d ∧ Hid (wr.ownsRow z 95 2 ov m (flat eP M)) ∧ Hid (M.length = m) ∧ Hid (InsI false k x (L.take j) M d) ∧ Hid (Below z w0 wr)) (fun _ _ nv _ => n - (intOf nv).toNat)
  case atStart => exact ⟨0, 0, [], false, Nat.zero_le _, rfl, rfl, hP0, Lib.hid rfl, hI0, hb0⟩
  case round =>
    clear hP0 hb0 hI0
    obtain ⟨j, m, M, d, hj, rfl, rfl, hP, hm, hI, hb⟩ := hrel
    obtain ⟨AO, cO, hov, hcO, hcOm⟩ := own_form hP.out
    subst hov
    unfold maxLen at hcOm
    have hml : m ≤ 90001 := by
      have := hI.out.len
      rw [List.length_take, hm.out] at this
      omega
    by_cases hlt : j < n
    · have hjn : j < L.length := by rw [hn.out]; exact hlt
      have hjl := List.getElem?_eq_getElem hjn
      obtain ⟨g, rfl, _, _, _⟩ := own_flat eP_len (hat0.out wr hb.out) (by omega)
      have hj1 : (0 : Int) ≤ (j : Int) := by omega
      have hj2 : (j : Int) < (n : Int) := by omega
      have htk : L.take (j + 1) = L.take j ++ [L[j]] := List.take_succ_eq_append_getElem hjn
      have hmem : L[j] ∈ L := List.getElem_mem hjn
      obtain ⟨p, hpe⟩ : ∃ p, L[j] = p := ⟨_, rfl⟩
      rw [hpe] at htk hmem
      obtain ⟨k1, x1⟩ := p
      replace htk := Lib.hid htk
      replace hpe := Lib.hid hpe
      have hle := less_eq k1 k
      have hle2 := less_eq k k1
      have hk : k1 ≠ k := hne.out _ hmem
      cases d
      · by_cases hlt3 : bytesOf k1 < bytesOf k
        · have hl1 : Op.bytesLess k1.toList k.toList = true := by rw [hle]; exact decide_eq_true hlt3
          have hs := str_ne hk
          clear hle hle2 hmem
          have hrowwr := hat0.out wr hb.out
          obtain ⟨_, ge, _, _, hatwr⟩ := own_flat eP_len hrowwr (by omega)
          cases ge
          have c0wr : wr.cell? ⟨g, j * 2, none⟩ = some (.string k1) := by have := hatwr j _ hjl 0 _ rfl; rw [hpe.out] at this; exact this
          have c1wr : wr.cell? ⟨g, j * 2 + 1, none⟩ = some (.string x1) := by have := hatwr j _ hjl 1 _ rfl; rw [hpe.out] at this; exact this
          have glwr : g < wr.heap.size := World.block_lt_of_cell? _ _ c0wr
          have bXwr : Blk wr zb [.string k, .string x] 95 := (hb.out.block zb hzbz).trans bX.out
          have y0wr := bXwr.cell (i := 0) rfl
          have y1wr := bXwr.cell (i := 1) rfl
          have ylwr := bXwr.lt
          clear hrowwr hatwr bXwr
          have hlw := hb.out.size
          go_upto_region 7 with fail
          go_quiet (fail)
          obtain ⟨q1, hWq⟩ : ∃ w1, wr.drewN nq = w1 := ⟨_, rfl⟩
          have hPq1 := ownBelow hP.out (drewN_below wr nq)
          have hbq1 := drewB hb.out nq
          rw [hWq] at hPq1 hbq1
          try rw [hWq]
          clear hWq
          clear c0wr c1wr y0wr y1wr glwr ylwr
          have hrowq1 := hat0.out q1 hbq1
          obtain ⟨_, ge, _, _, hatq1⟩ := own_flat eP_len hrowq1 (by omega)
          cases ge
          have c0q1 : q1.cell? ⟨g, j * 2, none⟩ = some (.string k1) := by have := hatq1 j _ hjl 0 _ rfl; rw [hpe.out] at this; exact this
          have c1q1 : q1.cell? ⟨g, j * 2 + 1, none⟩ = some (.string x1) := by have := hatq1 j _ hjl 1 _ rfl; rw [hpe.out] at this; exact this
          have glq1 : g < q1.heap.size := World.block_lt_of_cell? _ _ c0q1
          have bXq1 : Blk q1 zb [.string k, .string x] 95 := (hbq1.block zb hzbz).trans bX.out
          have y0q1 := bXq1.cell (i := 0) rfl
          have y1q1 := bXq1.cell (i := 1) rfl
          have ylq1 := bXq1.lt
          clear hrowq1 hatq1 bXq1
          obtain ⟨AY, cY, u3, hrun, hPY, hbY⟩ := row_p hPq1 hm.out (by omega) hbq1 (by have := hbq1.size; have := hz.out; omega) k1 x1
          have hcY : m + 1 ≤ cY ∧ cY ≤ 2 ^ 63 - 1 := by
            obtain ⟨_, _, e9, q1, q2⟩ := own_form hPY
            cases e9
            exact ⟨q1, q2⟩
          replace hrun := Lib.hid hrun
          have hIE : Hid (InsI false k x (L.take (j + 1)) _ _) := Lib.hid (by rw [htk.out]; exact hI.out.lt (p := (k1, x1)) hlt3)
          have hmE : Hid ((M ++ [(k1, x1)]).length = _) := Lib.hid (by rw [List.length_append, hm.out] <;> rfl)
          have hPE := Lib.hid hPY
          have hbE := Lib.hid hbY
          clear hI hm hP hb
          go_wp2_with (at_builtin; refine wpList_append_of rfl _ _ 74 74 rfl _ _ _ u3 rfl rfl hrun.out ?_)
          clear hrun
          go_roundw
          case rel => exact ⟨j + 1, _, _, _, by omega, by go_num, rfl, hPE, hmE, hIE, hbE⟩
          case measure => simp [intOf]; omega
        · have hl1 : Op.bytesLess k1.toList k.toList = false := by rw [hle]; exact decide_eq_false hlt3
          have hs := str_ne hk
          clear hle hle2 hmem
          have hrowwr := hat0.out wr hb.out
          obtain ⟨_, ge, _, _, hatwr⟩ := own_flat eP_len hrowwr (by omega)
          cases ge
          have c0wr : wr.cell? ⟨g, j * 2, none⟩ = some (.string k1) := by have := hatwr j _ hjl 0 _ rfl; rw [hpe.out] at this; exact this
          have c1wr : wr.cell? ⟨g, j * 2 + 1, none⟩ = some (.string x1) := by have := hatwr j _ hjl 1 _ rfl; rw [hpe.out] at this; exact this
          have glwr : g < wr.heap.size := World.block_lt_of_cell? _ _ c0wr
          have bXwr : Blk wr zb [.string k, .string x] 95 := (hb.out.block zb hzbz).trans bX.out
          have y0wr := bXwr.cell (i := 0) rfl
          have y1wr := bXwr.cell (i := 1) rfl
          have ylwr := bXwr.lt
          clear hrowwr hatwr bXwr
          have hlw := hb.out.size
          go_upto_region 7 with fail
          go_quiet (fail)
          obtain ⟨q1, hWq⟩ : ∃ w1, wr.drewN nq = w1 := ⟨_, rfl⟩
          have hPq1 := ownBelow hP.out (drewN_below wr nq)
          have hbq1 := drewB hb.out nq
          rw [hWq] at hPq1 hbq1
          try rw [hWq]
          clear hWq
          clear c0wr c1wr y0wr y1wr glwr ylwr
          have hrowq1 := hat0.out q1 hbq1
          obtain ⟨_, ge, _, _, hatq1⟩ := own_flat eP_len hrowq1 (by omega)
          cases ge
          have c0q1 : q1.cell? ⟨g, j * 2, none⟩ = some (.string k1) := by have := hatq1 j _ hjl 0 _ rfl; rw [hpe.out] at this; exact this
          have c1q1 : q1.cell? ⟨g, j * 2 + 1, none⟩ = some (.string x1) := by have := hatq1 j _ hjl 1 _ rfl; rw [hpe.out] at this; exact this
          have glq1 : g < q1.heap.size := World.block_lt_of_cell? _ _ c0q1
          have bXq1 : Blk q1 zb [.string k, .string x] 95 := (hbq1.block zb hzbz).trans bX.out
          have y0q1 := bXq1.cell (i := 0) rfl
          have y1q1 := bXq1.cell (i := 1) rfl
          have ylq1 := bXq1.lt
          clear hrowq1 hatq1 bXq1
          obtain ⟨AX, cX, u2, hrun, hPX, hbX⟩ := row_p hPq1 hm.out (by omega) hbq1 (by have := hbq1.size; have := hz.out; omega) k x
          have hcX : m + 1 ≤ cX ∧ cX ≤ 2 ^ 63 - 1 := by
            obtain ⟨_, _, e9, q1, q2⟩ := own_form hPX
            cases e9
            exact ⟨q1, q2⟩
          replace hrun := Lib.hid hrun
          have hmX : (M ++ [(k, x)]).length = m + 1 := by rw [List.length_append, hm.out]; rfl
          have hrowu2 := hat0.out u2 hbX
          obtain ⟨_, ge, _, _, hatu2⟩ := own_flat eP_len hrowu2 (by omega)
          cases ge
          have c0u2 : u2.cell? ⟨g, j * 2, none⟩ = some (.string k1) := by have := hatu2 j _ hjl 0 _ rfl; rw [hpe.out] at this; exact this
          have c1u2 : u2.cell? ⟨g, j * 2 + 1, none⟩ = some (.string x1) := by have := hatu2 j _ hjl 1 _ rfl; rw [hpe.out] at this; exact this
          have glu2 : g < u2.heap.size := World.block_lt_of_cell? _ _ c0u2
          have bXu2 : Blk u2 zb [.string k, .string x] 95 := (hbX.block zb hzbz).trans bX.out
          have y0u2 := bXu2.cell (i := 0) rfl
          have y1u2 := bXu2.cell (i := 1) rfl
          have ylu2 := bXu2.lt
          clear hrowu2 hatu2 bXu2
          replace hPX := Lib.hid hPX
          go_upto_region 10 with (at_builtin; refine wpList_append_of rfl _ _ 74 74 rfl _ _ _ u2 rfl rfl hrun.out ?_)
          clear hrun
          clear c0q1 c1q1 y0q1 y1q1 glq1 ylq1
          obtain ⟨AY, cY, u3, hrun, hPY, hbY⟩ := row_p hPX.out hmX (by omega) hbX (by have := hbX.size; have := hz.out; omega) k1 x1
          have hcY : m + 1 + 1 ≤ cY ∧ cY ≤ 2 ^ 63 - 1 := by
            obtain ⟨_, _, e9, q1, q2⟩ := own_form hPY
            cases e9
            exact ⟨q1, q2⟩
          replace hrun := Lib.hid hrun
          have hIE : Hid (InsI false k x (L.take (j + 1)) _ _) := Lib.hid (by rw [htk.out]; exact hI.out.gt (p := (k1, x1)) hlt3 hk)
          have hmE : Hid ((M ++ [(k, x)] ++ [(k1, x1)]).length = _) := Lib.hid (by rw [List.length_append, hmX] <;> rfl)
          have hPE := Lib.hid hPY
          have hbE := Lib.hid hbY
          clear hI hm hP hb
          go_wp2_with (at_builtin; refine wpList_append_of rfl _ _ 74 74 rfl _ _ _ u3 rfl rfl hrun.out ?_)
          clear hrun
          go_roundw
          case rel => exact ⟨j + 1, _, _, _, by omega, by go_num, rfl, hPE, hmE, hIE, hbE⟩
          case measure => simp [intOf]; omega
      · clear hle hle2 hmem
        have hrowwr := hat0.out wr hb.out
        obtain ⟨_, ge, _, _, hatwr⟩ := own_flat eP_len hrowwr (by omega)
        cases ge
        have c0wr : wr.cell? ⟨g, j * 2, none⟩ = some (.string k1) := by have := hatwr j _ hjl 0 _ rfl; rw [hpe.out] at this; exact this
        have c1wr : wr.cell? ⟨g, j * 2 + 1, none⟩ = some (.string x1) := by have := hatwr j _ hjl 1 _ rfl; rw [hpe.out] at this; exact this
        have glwr : g < wr.heap.size := World.block_lt_of_cell? _ _ c0wr
        have bXwr : Blk wr zb [.string k, .string x] 95 := (hb.out.block zb hzbz).trans bX.out
        have y0wr := bXwr.cell (i := 0) rfl
        have y1wr := bXwr.cell (i := 1) rfl
        have ylwr := bXwr.lt
        clear hrowwr hatwr bXwr
        have hlw := hb.out.size
        go_upto_region 7 with fail
        go_quiet (fail)
        obtain ⟨q1, hWq⟩ : ∃ w1, wr.drewN nq = w1 := ⟨_, rfl⟩
        have hPq1 := ownBelow hP.out (drewN_below wr nq)
        have hbq1 := drewB hb.out nq
        rw [hWq] at hPq1 hbq1
        try rw [hWq]
        clear hWq
        clear c0wr c1wr y0wr y1wr glwr ylwr
        have hrowq1 := hat0.out q1 hbq1
        obtain ⟨_, ge, _, _, hatq1⟩ := own_flat eP_len hrowq1 (by omega)
        cases ge
        have c0q1 : q1.cell? ⟨g, j * 2, none⟩ = some (.string k1) := by have := hatq1 j _ hjl 0 _ rfl; rw [hpe.out] at this; exact this
        have c1q1 : q1.cell? ⟨g, j * 2 + 1, none⟩ = some (.string x1) := by have := hatq1 j _ hjl 1 _ rfl; rw [hpe.out] at this; exact this
        have glq1 : g < q1.heap.size := World.block_lt_of_cell? _ _ c0q1
        have bXq1 : Blk q1 zb [.string k, .string x] 95 := (hbq1.block zb hzbz).trans bX.out
        have y0q1 := bXq1.cell (i := 0) rfl
        have y1q1 := bXq1.cell (i := 1) rfl
        have ylq1 := bXq1.lt
        clear hrowq1 hatq1 bXq1
        obtain ⟨AY, cY, u3, hrun, hPY, hbY⟩ := row_p hPq1 hm.out (by omega) hbq1 (by have := hbq1.size; have := hz.out; omega) k1 x1
        have hcY : m + 1 ≤ cY ∧ cY ≤ 2 ^ 63 - 1 := by
          obtain ⟨_, _, e9, q1, q2⟩ := own_form hPY
          cases e9
          exact ⟨q1, q2⟩
        replace hrun := Lib.hid hrun
        have hIE : Hid (InsI false k x (L.take (j + 1)) _ _) := Lib.hid (by rw [htk.out]; exact hI.out.more (p := (k1, x1)) hk)
        have hmE : Hid ((M ++ [(k1, x1)]).length = _) := Lib.hid (by rw [List.length_append, hm.out] <;> rfl)
        have hPE := Lib.hid hPY
        have hbE := Lib.hid hbY
        clear hI hm hP hb
        go_wp2_with (at_builtin; refine wpList_append_of rfl _ _ 74 74 rfl _ _ _ u3 rfl rfl hrun.out ?_)
        clear hrun
        go_roundw
        case rel => exact ⟨j + 1, _, _, _, by omega, by go_num, rfl, hPE, hmE, hIE, hbE⟩
        case measure => simp [intOf]; omega
    · obtain rfl : j = n := by omega
      have hj2 : ¬ (j : Int) < (j : Int) := by omega
      have hfull : L.take j = L := by rw [← hn.out]; exact List.take_length
      rw [hfull] at hI
      cases d
      · have bXr : Blk wr zb [.string k, .string x] 95 := (hb.out.block zb hzbz).trans bX.out
        have y0 := bXr.cell (i := 0) rfl
        have y1 := bXr.cell (i := 1) rfl
        have yl := bXr.lt
        obtain ⟨A3, c3, u3, hrun, hP3, hb3⟩ := row_p hP.out hm.out (by omega) hb.out (by have := hb.out.size; have := hz.out; omega) k x
        have hE := hI.out.end0
        have hlE : (putL false k x L).length = m + 1 := by rw [← hE, List.length_append, hm.out]; rfl
        rw [hE] at hP3
        have hfin : Hid (u3.ownsRow z 95 2 (.slice A3 (m + 1) c3) (m + 1) (flat eP (putL false k x L)) ∧ (putL false k x L).length = m + 1 ∧ Below W.heap.size W u3) := Lib.hid ⟨hP3, hlE, hbW.out.trans (hb3.mono (by have := hbW.out.size; have := hz.out; omega))⟩
        replace hrun := Lib.hid hrun
        clear hP hm hb hI hP3 hb3 hE hlE bXr
        go_wp2_with (at_builtin; refine wpList_append_of rfl _ _ 74 74 rfl _ _ _ u3 rfl rfl hrun.out ?_)
        go_ret
        exact ⟨_, _, _, rfl, own_base (by rw [hL.out]; exact hfin.out.1) (Nat.zero_le _), by rw [hL.out, ← hzb]; exact hfin.out.2⟩
      · have hE := hI.out.end1
        have hlE : (putL false k x L).length = m := by rw [← hE, hm.out]
        have hP3 := hP.out
        rw [hE] at hP3
        have hfin : Hid (wr.ownsRow z 95 2 (.slice AO m cO) m (flat eP (putL false k x L)) ∧ (putL false k x L).length = m ∧ Below W.heap.size W wr) := Lib.hid ⟨hP3, hlE, hbW.out.trans (hb.out.mono (by have := hbW.out.size; have := hz.out; omega))⟩
        clear hP hm hb hI hP3 hE hlE
        go_wp2
        go_ret
        exact ⟨_, _, _, rfl, own_base (by rw [hL.out]; exact hfin.out.1) (Nat.zero_le _), by rw [hL.out, ← hzb]; exact hfin.out.2⟩
set_option maxRecDepth 100000 in
set_option maxHeartbeats 16000000 in
theorem put_set (h : RfA W rb r) (hl : r.v.length ≤ 89999) (k x : ByteArray) (b2 b3 : Bool) :
    Calls Tryz.prog 104 #[ptrV rb, .agg #[.string k, .string x, .bool true, .bool b2, .bool b3]] W fun e w' => e = .returned (.tuple #[]) ∧ RfA w' rb { r with v := putL false k (⟨x, true, b2, b3⟩ : Vr) r.v } ∧ Stp (fun b => b = rb) W w' := by
  obtain ⟨sv, sf, sa, st, h⟩ := h
  obtain ⟨A, c, hst, hc, hcm⟩ := own_form h.rv
  subst hst
  obtain ⟨n, hnL⟩ : ∃ n, r.v.length = n := ⟨_, rfl⟩
  obtain ⟨L, hL⟩ : ∃ L, r.v = L := ⟨_, rfl⟩
  rw [hL]
  unfold maxLen at hcm
  obtain ⟨zb, hzb⟩ : ∃ z, W.heap.size = z := ⟨_, rfl⟩
  have bX : Blk (W.alloc (.cells #[.string k, .string x, .bool true, .bool b2, .bool b3] 80)) zb [.string k, .string x, .bool true, .bool b2, .bool b3] 80 := by rw [← hzb]; exact Blk.new W _ _
  have hbA : Below W.heap.size W (W.alloc (.cells #[.string k, .string x, .bool true, .bool b2, .bool b3] 80)) := Below.of_alloc W _
  have hA0 := h.below hbA
  unfold ptrV
  replace bX := Lib.hid bX
  replace hzb := Lib.hid hzb
  clear h
  go_enter Tryz.func104, Tryz.ntmps104
  go_upto_region 1 with fail
  try rw [hzb.out]
  generalize (W.alloc (.cells #[.string k, .string x, .bool true, .bool b2, .bool b3] 80)) = w0 at hbA hA0 bX ⊢
  obtain ⟨z, hz⟩ : ∃ z, w0.heap.size = z := ⟨_, rfl⟩
  have hrb : rb < z := by have := hA0.blk.lt; omega
  have hzbz : zb < z := by have := bX.out.lt; omega
  have hall := fun (w2 : World) (hb : Below z w0 w2) => hA0.below (hz ▸ hb)
  have hat0 := fun (w2 : World) (hb : Below z w0 w2) => (hall w2 hb).rv
  have hc0 : ∀ (w2 : World), Below z w0 w2 → w2.cell? ⟨rb, 0, none⟩ = some (.slice A r.v.length c) := fun w2 hb => (hall w2 hb).blk.cell (i := 0) rfl
  have hbW : Hid (Below W.heap.size W w0) := Lib.hid hbA
  have hn89 : n ≤ 89999 := by omega
  rw [hnL] at hc hat0 hc0
  rw [hL] at hat0 hnL
  have y0 := bX.out.cell (i := 0) rfl
  have y1 := bX.out.cell (i := 1) rfl
  have y2 := bX.out.cell (i := 2) rfl
  have y3 := bX.out.cell (i := 3) rfl
  have y4 := bX.out.cell (i := 4) rfl
  have yl := bX.out.lt
  replace hall := Lib.hid hall
  replace hat0 := Lib.hid hat0
  replace hc0 := Lib.hid hc0
  have hn := Lib.hid hnL
  replace hz := Lib.hid hz
  replace hL := Lib.hid hL
  clear hA0 hbA hnL
  go_upto_region 3 with fail
  clear y0 y1 y2 y3 y4 yl
  have hP0 : Hid (w0.ownsRow z 80 5 (.slice none 0 0) 0 (flat eV ([] : Es Vr))) := Lib.hid (World.ownsRow_nil _ _ _ _)
  have hI0 : Hid (InsI false k (⟨x, true, b2, b3⟩ : Vr) (L.take 0) [] false) := Lib.hid (InsI.start false k (⟨x, true, b2, b3⟩ : Vr))
  have hb0 : Hid (Below z w0 w0) := Lib.hid (Below.refl _ _)
  go_wp2
  go_loopw [4, 5, 6] (fun ov dv nv wr => ∃ (j m : Nat) (M : Es Vr) (d : Bool), j ≤ n ∧ nv = .int .i64 (j : Int) ∧ dv = .bool d ∧ Hid (wr.ownsRow z 80 5 ov m (flat eV M)) ∧ Hid (M.length = m) ∧ Hid (InsI false k (⟨x, true, b2, b3⟩ : Vr) (L.take j) M d) ∧ Hid (Below z w0 wr)) (fun _ _ nv _ => n - (intOf nv).toNat)
  case atStart => exact ⟨0, 0, [], false, Nat.zero_le _, rfl, rfl, hP0, Lib.hid rfl, hI0, hb0⟩
  case round =>
    clear hP0 hb0 hI0
    obtain ⟨j, m, M, d, hj, rfl, rfl, hP, hm, hI, hb⟩ := hrel
    obtain ⟨AO, cO, hov, hcO, hcOm⟩ := own_form hP.out
    subst hov
    unfold maxLen at hcOm
    have hml : m ≤ 90001 := by
      have := hI.out.len
      rw [List.length_take, hm.out] at this
      omega
    by_cases hlt : j < n
    · have hjn : j < L.length := by rw [hn.out]; exact hlt
      have hjl := List.getElem?_eq_getElem hjn
      obtain ⟨g, rfl, _, _, _⟩ := own_flat eV_len (hat0.out wr hb.out) (by omega)
      have hj1 : (0 : Int) ≤ (j : Int) := by omega
      have hj2 : (j : Int) < (n : Int) := by omega
      have htk : L.take (j + 1) = L.take j ++ [L[j]] := List.take_succ_eq_append_getElem hjn
      have hmem : L[j] ∈ L := List.getElem_mem hjn
      obtain ⟨p, hpe⟩ : ∃ p, L[j] = p := ⟨_, rfl⟩
      rw [hpe] at htk hmem
      obtain ⟨k1, ⟨x0, x1, x2, x3⟩⟩ := p
      replace htk := Lib.hid htk
      replace hpe := Lib.hid hpe
      have hle := less_eq k1 k
      have hle2 := less_eq k k1
      cases d
      · by_cases hk : k1 = k
        · have hs := str_eq hk
          have hl1 : Op.bytesLess k1.toList k.toList = false := by rw [hle, hk]; exact decide_eq_false (List.lt_irrefl _)
          clear hle hle2 hmem
          replace hk := Lib.hid hk
          have hrowwr := hat0.out wr hb.out
          obtain ⟨_, ge, _, _, hatwr⟩ := own_flat eV_len hrowwr (by omega)
          cases ge
          have c0wr : wr.cell? ⟨g, j * 5, none⟩ = some (.string k1) := by have := hatwr j _ hjl 0 _ rfl; rw [hpe.out] at this; exact this
          have c1wr : wr.cell? ⟨g, j * 5 + 1, none⟩ = some (.string x0) := by have := hatwr j _ hjl 1 _ rfl; rw [hpe.out] at this; exact this
          have c2wr : wr.cell? ⟨g, j * 5 + 2, none⟩ = some (.bool x1) := by have := hatwr j _ hjl 2 _ rfl; rw [hpe.out] at this; exact this
          have c3wr : wr.cell? ⟨g, j * 5 + 3, none⟩ = some (.bool x2) := by have := hatwr j _ hjl 3 _ rfl; rw [hpe.out] at this; exact this
          have c4wr : wr.cell? ⟨g, j * 5 + 4, none⟩ = some (.bool x3) := by have := hatwr j _ hjl 4 _ rfl; rw [hpe.out] at this; exact this
          have glwr : g < wr.heap.size := World.block_lt_of_cell? _ _ c0wr
          have bXwr : Blk wr zb [.string k, .string x, .bool true, .bool b2, .bool b3] 80 := (hb.out.block zb hzbz).trans bX.out
          have y0wr := bXwr.cell (i := 0) rfl
          have y1wr := bXwr.cell (i := 1) rfl
          have y2wr := bXwr.cell (i := 2) rfl
          have y3wr := bXwr.cell (i := 3) rfl
          have y4wr := bXwr.cell (i := 4) rfl
          have ylwr := bXwr.lt
          have crwr := hc0.out wr hb.out
          have crlwr : rb < wr.heap.size := World.block_lt_of_cell? _ _ crwr
          clear hrowwr hatwr bXwr
          have hlw := hb.out.size
          go_upto_region 6 with fail
          go_quiet (fail)
          obtain ⟨q1, hWq⟩ : ∃ w1, wr.drewN nq = w1 := ⟨_, rfl⟩
          have hPq1 := ownBelow hP.out (drewN_below wr nq)
          have hbq1 := drewB hb.out nq
          rw [hWq] at hPq1 hbq1
          try rw [hWq]
          clear hWq
          clear c0wr c1wr c2wr c3wr c4wr y0wr y1wr y2wr y3wr y4wr glwr ylwr crwr crlwr
          have hrowq1 := hat0.out q1 hbq1
          obtain ⟨_, ge, _, _, hatq1⟩ := own_flat eV_len hrowq1 (by omega)
          cases ge
          have c0q1 : q1.cell? ⟨g, j * 5, none⟩ = some (.string k1) := by have := hatq1 j _ hjl 0 _ rfl; rw [hpe.out] at this; exact this
          have c1q1 : q1.cell? ⟨g, j * 5 + 1, none⟩ = some (.string x0) := by have := hatq1 j _ hjl 1 _ rfl; rw [hpe.out] at this; exact this
          have c2q1 : q1.cell? ⟨g, j * 5 + 2, none⟩ = some (.bool x1) := by have := hatq1 j _ hjl 2 _ rfl; rw [hpe.out] at this; exact this
          have c3q1 : q1.cell? ⟨g, j * 5 + 3, none⟩ = some (.bool x2) := by have := hatq1 j _ hjl 3 _ rfl; rw [hpe.out] at this; exact this
          have c4q1 : q1.cell? ⟨g, j * 5 + 4, none⟩ = some (.bool x3) := by have := hatq1 j _ hjl 4 _ rfl; rw [hpe.out] at this; exact this
          have glq1 : g < q1.heap.size := World.block_lt_of_cell? _ _ c0q1
          have bXq1 : Blk q1 zb [.string k, .string x, .bool true, .bool b2, .bool b3] 80 := (hbq1.block zb hzbz).trans bX.out
          have y0q1 := bXq1.cell (i := 0) rfl
          have y1q1 := bXq1.cell (i := 1) rfl
          have y2q1 := bXq1.cell (i := 2) rfl
          have y3q1 := bXq1.cell (i := 3) rfl
          have y4q1 := bXq1.cell (i := 4) rfl
          have ylq1 := bXq1.lt
          have crq1 := hc0.out q1 hbq1
          have crlq1 : rb < q1.heap.size := World.block_lt_of_cell? _ _ crq1
          clear hrowq1 hatq1 bXq1
          obtain ⟨AX, cX, u2, hrun, hPX, hbX⟩ := row_v hPq1 hm.out (by omega) hbq1 (by have := hbq1.size; have := hz.out; omega) k x true b2 b3
          have hcX : m + 1 ≤ cX ∧ cX ≤ 2 ^ 63 - 1 := by
            obtain ⟨_, _, e9, q1, q2⟩ := own_form hPX
            cases e9
            exact ⟨q1, q2⟩
          replace hrun := Lib.hid hrun
          have hmX : (M ++ [(k, (⟨x, true, b2, b3⟩ : Vr))]).length = m + 1 := by rw [List.length_append, hm.out]; rfl
          have hrowu2 := hat0.out u2 hbX
          obtain ⟨_, ge, _, _, hatu2⟩ := own_flat eV_len hrowu2 (by omega)
          cases ge
          have c0u2 : u2.cell? ⟨g, j * 5, none⟩ = some (.string k1) := by have := hatu2 j _ hjl 0 _ rfl; rw [hpe.out] at this; exact this
          have c1u2 : u2.cell? ⟨g, j * 5 + 1, none⟩ = some (.string x0) := by have := hatu2 j _ hjl 1 _ rfl; rw [hpe.out] at this; exact this
          have c2u2 : u2.cell? ⟨g, j * 5 + 2, none⟩ = some (.bool x1) := by have := hatu2 j _ hjl 2 _ rfl; rw [hpe.out] at this; exact this
          have c3u2 : u2.cell? ⟨g, j * 5 + 3, none⟩ = some (.bool x2) := by have := hatu2 j _ hjl 3 _ rfl; rw [hpe.out] at this; exact this
          have c4u2 : u2.cell? ⟨g, j * 5 + 4, none⟩ = some (.bool x3) := by have := hatu2 j _ hjl 4 _ rfl; rw [hpe.out] at this; exact this
          have glu2 : g < u2.heap.size := World.block_lt_of_cell? _ _ c0u2
          have bXu2 : Blk u2 zb [.string k, .string x, .bool true, .bool b2, .bool b3] 80 := (hbX.block zb hzbz).trans bX.out
          have y0u2 := bXu2.cell (i := 0) rfl
          have y1u2 := bXu2.cell (i := 1) rfl
          have y2u2 := bXu2.cell (i := 2) rfl
          have y3u2 := bXu2.cell (i := 3) rfl
          have y4u2 := bXu2.cell (i := 4) rfl
          have ylu2 := bXu2.lt
          have cru2 := hc0.out u2 hbX
          have crlu2 : rb < u2.heap.size := World.block_lt_of_cell? _ _ cru2
          clear hrowu2 hatu2 bXu2
          replace hPX := Lib.hid hPX
          go_upto_region 9 with (at_builtin; refine wpList_append_of rfl _ _ 72 72 rfl _ _ _ u2 rfl rfl hrun.out ?_)
          clear hrun
          clear c0q1 c1q1 c2q1 c3q1 c4q1 y0q1 y1q1 y2q1 y3q1 y4q1 glq1 ylq1 crq1 crlq1
          go_upto_region 9 with fail
          go_quiet (fail)
          obtain ⟨q2, hWq⟩ : ∃ w1, u2.drewN nq = w1 := ⟨_, rfl⟩
          have hPq2 := ownBelow hPX.out (drewN_below u2 nq)
          have hbq2 := drewB hbX nq
          rw [hWq] at hPq2 hbq2
          try rw [hWq]
          clear hWq
          clear c0u2 c1u2 c2u2 c3u2 c4u2 y0u2 y1u2 y2u2 y3u2 y4u2 glu2 ylu2 cru2 crlu2
          have hIE : Hid (InsI false k (⟨x, true, b2, b3⟩ : Vr) (L.take (j + 1)) _ _) := Lib.hid (by rw [htk.out]; exact hI.out.eq (p := (k1, (⟨x0, x1, x2, x3⟩ : Vr))) hk.out)
          have hPE := Lib.hid hPq2
          have hmE := Lib.hid hmX
          have hbE := Lib.hid hbq2
          clear hI hm hP hb
          go_wp2
          go_roundw
          case rel => exact ⟨j + 1, _, _, _, by omega, by go_num, rfl, hPE, hmE, hIE, hbE⟩
          case measure => simp [intOf]; omega
        · have hs := str_ne hk
          by_cases hlt3 : bytesOf k1 < bytesOf k
          · have hl1 : Op.bytesLess k1.toList k.toList = true := by rw [hle]; exact decide_eq_true hlt3
            clear hle hle2 hmem
            have hrowwr := hat0.out wr hb.out
            obtain ⟨_, ge, _, _, hatwr⟩ := own_flat eV_len hrowwr (by omega)
            cases ge
            have c0wr : wr.cell? ⟨g, j * 5, none⟩ = some (.string k1) := by have := hatwr j _ hjl 0 _ rfl; rw [hpe.out] at this; exact this
            have c1wr : wr.cell? ⟨g, j * 5 + 1, none⟩ = some (.string x0) := by have := hatwr j _ hjl 1 _ rfl; rw [hpe.out] at this; exact this
            have c2wr : wr.cell? ⟨g, j * 5 + 2, none⟩ = some (.bool x1) := by have := hatwr j _ hjl 2 _ rfl; rw [hpe.out] at this; exact this
            have c3wr : wr.cell? ⟨g, j * 5 + 3, none⟩ = some (.bool x2) := by have := hatwr j _ hjl 3 _ rfl; rw [hpe.out] at this; exact this
            have c4wr : wr.cell? ⟨g, j * 5 + 4, none⟩ = some (.bool x3) := by have := hatwr j _ hjl 4 _ rfl; rw [hpe.out] at this; exact this
            have glwr : g < wr.heap.size := World.block_lt_of_cell? _ _ c0wr
            have bXwr : Blk wr zb [.string k, .string x, .bool true, .bool b2, .bool b3] 80 := (hb.out.block zb hzbz).trans bX.out
            have y0wr := bXwr.cell (i := 0) rfl
            have y1wr := bXwr.cell (i := 1) rfl
            have y2wr := bXwr.cell (i := 2) rfl
            have y3wr := bXwr.cell (i := 3) rfl
            have y4wr := bXwr.cell (i := 4) rfl
            have ylwr := bXwr.lt
            have crwr := hc0.out wr hb.out
            have crlwr : rb < wr.heap.size := World.block_lt_of_cell? _ _ crwr
            clear hrowwr hatwr bXwr
            have hlw := hb.out.size
            go_upto_region 6 with fail
            go_quiet (fail)
            obtain ⟨q1, hWq⟩ : ∃ w1, wr.drewN nq = w1 := ⟨_, rfl⟩
            have hPq1 := ownBelow hP.out (drewN_below wr nq)
            have hbq1 := drewB hb.out nq
            rw [hWq] at hPq1 hbq1
            try rw [hWq]
            clear hWq
            clear c0wr c1wr c2wr c3wr c4wr y0wr y1wr y2wr y3wr y4wr glwr ylwr crwr crlwr
            have hrowq1 := hat0.out q1 hbq1
            obtain ⟨_, ge, _, _, hatq1⟩ := own_flat eV_len hrowq1 (by omega)
            cases ge
            have c0q1 : q1.cell? ⟨g, j * 5, none⟩ = some (.string k1) := by have := hatq1 j _ hjl 0 _ rfl; rw [hpe.out] at this; exact this
            have c1q1 : q1.cell? ⟨g, j * 5 + 1, none⟩ = some (.string x0) := by have := hatq1 j _ hjl 1 _ rfl; rw [hpe.out] at this; exact this
            have c2q1 : q1.cell? ⟨g, j * 5 + 2, none⟩ = some (.bool x1) := by have := hatq1 j _ hjl 2 _ rfl; rw [hpe.out] at this; exact this
            have c3q1 : q1.cell? ⟨g, j * 5 + 3, none⟩ = some (.bool x2) := by have := hatq1 j _ hjl 3 _ rfl; rw [hpe.out] at this; exact this
            have c4q1 : q1.cell? ⟨g, j * 5 + 4, none⟩ = some (.bool x3) := by have := hatq1 j _ hjl 4 _ rfl; rw [hpe.out] at this; exact this
            have glq1 : g < q1.heap.size := World.block_lt_of_cell? _ _ c0q1
            have bXq1 : Blk q1 zb [.string k, .string x, .bool true, .bool b2, .bool b3] 80 := (hbq1.block zb hzbz).trans bX.out
            have y0q1 := bXq1.cell (i := 0) rfl
            have y1q1 := bXq1.cell (i := 1) rfl
            have y2q1 := bXq1.cell (i := 2) rfl
            have y3q1 := bXq1.cell (i := 3) rfl
            have y4q1 := bXq1.cell (i := 4) rfl
            have ylq1 := bXq1.lt
            have crq1 := hc0.out q1 hbq1
            have crlq1 : rb < q1.heap.size := World.block_lt_of_cell? _ _ crq1
            clear hrowq1 hatq1 bXq1
            go_upto_region 9 with fail
            go_quiet (fail)
            obtain ⟨q2, hWq⟩ : ∃ w1, q1.drewN nq = w1 := ⟨_, rfl⟩
            have hPq2 := ownBelow hPq1 (drewN_below q1 nq)
            have hbq2 := drewB hbq1 nq
            rw [hWq] at hPq2 hbq2
            try rw [hWq]
            clear hWq
            clear c0q1 c1q1 c2q1 c3q1 c4q1 y0q1 y1q1 y2q1 y3q1 y4q1 glq1 ylq1 crq1 crlq1
            have hrowq2 := hat0.out q2 hbq2
            obtain ⟨_, ge, _, _, hatq2⟩ := own_flat eV_len hrowq2 (by omega)
            cases ge
            have c0q2 : q2.cell? ⟨g, j * 5, none⟩ = some (.string k1) := by have := hatq2 j _ hjl 0 _ rfl; rw [hpe.out] at this; exact this
            have c1q2 : q2.cell? ⟨g, j * 5 + 1, none⟩ = some (.string x0) := by have := hatq2 j _ hjl 1 _ rfl; rw [hpe.out] at this; exact this
            have c2q2 : q2.cell? ⟨g, j * 5 + 2, none⟩ = some (.bool x1) := by have := hatq2 j _ hjl 2 _ rfl; rw [hpe.out] at this; exact this
            have c3q2 : q2.cell? ⟨g, j * 5 + 3, none⟩ = some (.bool x2) := by have := hatq2 j _ hjl 3 _ rfl; rw [hpe.out] at this; exact this
            have c4q2 : q2.cell? ⟨g, j * 5 + 4, none⟩ = some (.bool x3) := by have := hatq2 j _ hjl 4 _ rfl; rw [hpe.out] at this; exact this
            have glq2 : g < q2.heap.size := World.block_lt_of_cell? _ _ c0q2
            have bXq2 : Blk q2 zb [.string k, .string x, .bool true, .bool b2, .bool b3] 80 := (hbq2.block zb hzbz).trans bX.out
            have y0q2 := bXq2.cell (i := 0) rfl
            have y1q2 := bXq2.cell (i := 1) rfl
            have y2q2 := bXq2.cell (i := 2) rfl
            have y3q2 := bXq2.cell (i := 3) rfl
            have y4q2 := bXq2.cell (i := 4) rfl
            have ylq2 := bXq2.lt
            have crq2 := hc0.out q2 hbq2
            have crlq2 : rb < q2.heap.size := World.block_lt_of_cell? _ _ crq2
            clear hrowq2 hatq2 bXq2
            obtain ⟨AY, cY, u3, hrun, hPY, hbY⟩ := row_v hPq2 hm.out (by omega) hbq2 (by have := hbq2.size; have := hz.out; omega) k1 x0 x1 x2 x3
            have hcY : m + 1 ≤ cY ∧ cY ≤ 2 ^ 63 - 1 := by
              obtain ⟨_, _, e9, q1, q2⟩ := own_form hPY
              cases e9
              exact ⟨q1, q2⟩
            replace hrun := Lib.hid hrun
            have hIE : Hid (InsI false k (⟨x, true, b2, b3⟩ : Vr) (L.take (j + 1)) _ _) := Lib.hid (by rw [htk.out]; exact hI.out.lt (p := (k1, (⟨x0, x1, x2, x3⟩ : Vr))) hlt3)
            have hmE : Hid ((M ++ [(k1, (⟨x0, x1, x2, x3⟩ : Vr))]).length = _) := Lib.hid (by rw [List.length_append, hm.out] <;> rfl)
            have hPE := Lib.hid hPY
            have hbE := Lib.hid hbY
            clear hI hm hP hb
            go_wp2_with (at_builtin; refine wpList_append_of rfl _ _ 72 72 rfl _ _ _ u3 rfl rfl hrun.out ?_)
            clear hrun
            go_roundw
            case rel => exact ⟨j + 1, _, _, _, by omega, by go_num, rfl, hPE, hmE, hIE, hbE⟩
            case measure => simp [intOf]; omega
          · have hl1 : Op.bytesLess k1.toList k.toList = false := by rw [hle]; exact decide_eq_false hlt3
            clear hle hle2 hmem
            have hrowwr := hat0.out wr hb.out
            obtain ⟨_, ge, _, _, hatwr⟩ := own_flat eV_len hrowwr (by omega)
            cases ge
            have c0wr : wr.cell? ⟨g, j * 5, none⟩ = some (.string k1) := by have := hatwr j _ hjl 0 _ rfl; rw [hpe.out] at this; exact this
            have c1wr : wr.cell? ⟨g, j * 5 + 1, none⟩ = some (.string x0) := by have := hatwr j _ hjl 1 _ rfl; rw [hpe.out] at this; exact this
            have c2wr : wr.cell? ⟨g, j * 5 + 2, none⟩ = some (.bool x1) := by have := hatwr j _ hjl 2 _ rfl; rw [hpe.out] at this; exact this
            have c3wr : wr.cell? ⟨g, j * 5 + 3, none⟩ = some (.bool x2) := by have := hatwr j _ hjl 3 _ rfl; rw [hpe.out] at this; exact this
            have c4wr : wr.cell? ⟨g, j * 5 + 4, none⟩ = some (.bool x3) := by have := hatwr j _ hjl 4 _ rfl; rw [hpe.out] at this; exact this
            have glwr : g < wr.heap.size := World.block_lt_of_cell? _ _ c0wr
            have bXwr : Blk wr zb [.string k, .string x, .bool true, .bool b2, .bool b3] 80 := (hb.out.block zb hzbz).trans bX.out
            have y0wr := bXwr.cell (i := 0) rfl
            have y1wr := bXwr.cell (i := 1) rfl
            have y2wr := bXwr.cell (i := 2) rfl
            have y3wr := bXwr.cell (i := 3) rfl
            have y4wr := bXwr.cell (i := 4) rfl
            have ylwr := bXwr.lt
            have crwr := hc0.out wr hb.out
            have crlwr : rb < wr.heap.size := World.block_lt_of_cell? _ _ crwr
            clear hrowwr hatwr bXwr
            have hlw := hb.out.size
            go_upto_region 6 with fail
            go_quiet (fail)
            obtain ⟨q1, hWq⟩ : ∃ w1, wr.drewN nq = w1 := ⟨_, rfl⟩
            have hPq1 := ownBelow hP.out (drewN_below wr nq)
            have hbq1 := drewB hb.out nq
            rw [hWq] at hPq1 hbq1
            try rw [hWq]
            clear hWq
            clear c0wr c1wr c2wr c3wr c4wr y0wr y1wr y2wr y3wr y4wr glwr ylwr crwr crlwr
            have hrowq1 := hat0.out q1 hbq1
            obtain ⟨_, ge, _, _, hatq1⟩ := own_flat eV_len hrowq1 (by omega)
            cases ge
            have c0q1 : q1.cell? ⟨g, j * 5, none⟩ = some (.string k1) := by have := hatq1 j _ hjl 0 _ rfl; rw [hpe.out] at this; exact this
            have c1q1 : q1.cell? ⟨g, j * 5 + 1, none⟩ = some (.string x0) := by have := hatq1 j _ hjl 1 _ rfl; rw [hpe.out] at this; exact this
            have c2q1 : q1.cell? ⟨g, j * 5 + 2, none⟩ = some (.bool x1) := by have := hatq1 j _ hjl 2 _ rfl; rw [hpe.out] at this; exact this
            have c3q1 : q1.cell? ⟨g, j * 5 + 3, none⟩ = some (.bool x2) := by have := hatq1 j _ hjl 3 _ rfl; rw [hpe.out] at this; exact this
            have c4q1 : q1.cell? ⟨g, j * 5 + 4, none⟩ = some (.bool x3) := by have := hatq1 j _ hjl 4 _ rfl; rw [hpe.out] at this; exact this
            have glq1 : g < q1.heap.size := World.block_lt_of_cell? _ _ c0q1
            have bXq1 : Blk q1 zb [.string k, .string x, .bool true, .bool b2, .bool b3] 80 := (hbq1.block zb hzbz).trans bX.out
            have y0q1 := bXq1.cell (i := 0) rfl
            have y1q1 := bXq1.cell (i := 1) rfl
            have y2q1 := bXq1.cell (i := 2) rfl
            have y3q1 := bXq1.cell (i := 3) rfl
            have y4q1 := bXq1.cell (i := 4) rfl
            have ylq1 := bXq1.lt
            have crq1 := hc0.out q1 hbq1
            have crlq1 : rb < q1.heap.size := World.block_lt_of_cell? _ _ crq1
            clear hrowq1 hatq1 bXq1
            obtain ⟨AX, cX, u2, hrun, hPX, hbX⟩ := row_v hPq1 hm.out (by omega) hbq1 (by have := hbq1.size; have := hz.out; omega) k x true b2 b3
            have hcX : m + 1 ≤ cX ∧ cX ≤ 2 ^ 63 - 1 := by
              obtain ⟨_, _, e9, q1, q2⟩ := own_form hPX
              cases e9
              exact ⟨q1, q2⟩
            replace hrun := Lib.hid hrun
            have hmX : (M ++ [(k, (⟨x, true, b2, b3⟩ : Vr))]).length = m + 1 := by rw [List.length_append, hm.out]; rfl
            have hrowu2 := hat0.out u2 hbX
            obtain ⟨_, ge, _, _, hatu2⟩ := own_flat eV_len hrowu2 (by omega)
            cases ge
            have c0u2 : u2.cell? ⟨g, j * 5, none⟩ = some (.string k1) := by have := hatu2 j _ hjl 0 _ rfl; rw [hpe.out] at this; exact this
            have c1u2 : u2.cell? ⟨g, j * 5 + 1, none⟩ = some (.string x0) := by have := hatu2 j _ hjl 1 _ rfl; rw [hpe.out] at this; exact this
            have c2u2 : u2.cell? ⟨g, j * 5 + 2, none⟩ = some (.bool x1) := by have := hatu2 j _ hjl 2 _ rfl; rw [hpe.out] at this; exact this
            have c3u2 : u2.cell? ⟨g, j * 5 + 3, none⟩ = some (.bool x2) := by have := hatu2 j _ hjl 3 _ rfl; rw [hpe.out] at this; exact this
            have c4u2 : u2.cell? ⟨g, j * 5 + 4, none⟩ = some (.bool x3) := by have := hatu2 j _ hjl 4 _ rfl; rw [hpe.out] at this; exact this
            have glu2 : g < u2.heap.size := World.block_lt_of_cell? _ _ c0u2
            have bXu2 : Blk u2 zb [.string k, .string x, .bool true, .bool b2, .bool b3] 80 := (hbX.block zb hzbz).trans bX.out
            have y0u2 := bXu2.cell (i := 0) rfl
            have y1u2 := bXu2.cell (i := 1) rfl
            have y2u2 := bXu2.cell (i := 2) rfl
            have y3u2 := bXu2.cell (i := 3) rfl
            have y4u2 := bXu2.cell (i := 4) rfl
            have ylu2 := bXu2.lt
            have cru2 := hc0.out u2 hbX
            have crlu2 : rb < u2.heap.size := World.block_lt_of_cell? _ _ cru2
            clear hrowu2 hatu2 bXu2
            replace hPX := Lib.hid hPX
            go_upto_region 9 with (at_builtin; refine wpList_append_of rfl _ _ 72 72 rfl _ _ _ u2 rfl rfl hrun.out ?_)
            clear hrun
            clear c0q1 c1q1 c2q1 c3q1 c4q1 y0q1 y1q1 y2q1 y3q1 y4q1 glq1 ylq1 crq1 crlq1
            go_upto_region 9 with fail
            go_quiet (fail)
            obtain ⟨q2, hWq⟩ : ∃ w1, u2.drewN nq = w1 := ⟨_, rfl⟩
            have hPq2 := ownBelow hPX.out (drewN_below u2 nq)
            have hbq2 := drewB hbX nq
            rw [hWq] at hPq2 hbq2
            try rw [hWq]
            clear hWq
            clear c0u2 c1u2 c2u2 c3u2 c4u2 y0u2 y1u2 y2u2 y3u2 y4u2 glu2 ylu2 cru2 crlu2
            have hrowq2 := hat0.out q2 hbq2
            obtain ⟨_, ge, _, _, hatq2⟩ := own_flat eV_len hrowq2 (by omega)
            cases ge
            have c0q2 : q2.cell? ⟨g, j * 5, none⟩ = some (.string k1) := by have := hatq2 j _ hjl 0 _ rfl; rw [hpe.out] at this; exact this
            have c1q2 : q2.cell? ⟨g, j * 5 + 1, none⟩ = some (.string x0) := by have := hatq2 j _ hjl 1 _ rfl; rw [hpe.out] at this; exact this
            have c2q2 : q2.cell? ⟨g, j * 5 + 2, none⟩ = some (.bool x1) := by have := hatq2 j _ hjl 2 _ rfl; rw [hpe.out] at this; exact this
            have c3q2 : q2.cell? ⟨g, j * 5 + 3, none⟩ = some (.bool x2) := by have := hatq2 j _ hjl 3 _ rfl; rw [hpe.out] at this; exact this
            have c4q2 : q2.cell? ⟨g, j * 5 + 4, none⟩ = some (.bool x3) := by have := hatq2 j _ hjl 4 _ rfl; rw [hpe.out] at this; exact this
            have glq2 : g < q2.heap.size := World.block_lt_of_cell? _ _ c0q2
            have bXq2 : Blk q2 zb [.string k, .string x, .bool true, .bool b2, .bool b3] 80 := (hbq2.block zb hzbz).trans bX.out
            have y0q2 := bXq2.cell (i := 0) rfl
            have y1q2 := bXq2.cell (i := 1) rfl
            have y2q2 := bXq2.cell (i := 2) rfl
            have y3q2 := bXq2.cell (i := 3) rfl
            have y4q2 := bXq2.cell (i := 4) rfl
            have ylq2 := bXq2.lt
            have crq2 := hc0.out q2 hbq2
            have crlq2 : rb < q2.heap.size := World.block_lt_of_cell? _ _ crq2
            clear hrowq2 hatq2 bXq2
            obtain ⟨AY, cY, u3, hrun, hPY, hbY⟩ := row_v hPq2 hmX (by omega) hbq2 (by have := hbq2.size; have := hz.out; omega) k1 x0 x1 x2 x3
            have hcY : m + 1 + 1 ≤ cY ∧ cY ≤ 2 ^ 63 - 1 := by
              obtain ⟨_, _, e9, q1, q2⟩ := own_form hPY
              cases e9
              exact ⟨q1, q2⟩
            replace hrun := Lib.hid hrun
            have hIE : Hid (InsI false k (⟨x, true, b2, b3⟩ : Vr) (L.take (j + 1)) _ _) := Lib.hid (by rw [htk.out]; exact hI.out.gt (p := (k1, (⟨x0, x1, x2, x3⟩ : Vr))) hlt3 hk)
            have hmE : Hid ((M ++ [(k, (⟨x, true, b2, b3⟩ : Vr))] ++ [(k1, (⟨x0, x1, x2, x3⟩ : Vr))]).length = _) := Lib.hid (by rw [List.length_append, hmX] <;> rfl)
            have hPE := Lib.hid hPY
            have hbE := Lib.hid hbY
            clear hI hm hP hb
            go_wp2_with (at_builtin; refine wpList_append_of rfl _ _ 72 72 rfl _ _ _ u3 rfl rfl hrun.out ?_)
            clear hrun
            go_roundw
            case rel => exact ⟨j + 1, _, _, _, by omega, by go_num, rfl, hPE, hmE, hIE, hbE⟩
            case measure => simp [intOf]; omega
      · by_cases hk : k1 = k
        · have hs := str_eq hk
          clear hle hle2 hmem
          replace hk := Lib.hid hk
          have hrowwr := hat0.out wr hb.out
          obtain ⟨_, ge, _, _, hatwr⟩ := own_flat eV_len hrowwr (by omega)
          cases ge
          have c0wr : wr.cell? ⟨g, j * 5, none⟩ = some (.string k1) := by have := hatwr j _ hjl 0 _ rfl; rw [hpe.out] at this; exact this
          have c1wr : wr.cell? ⟨g, j * 5 + 1, none⟩ = some (.string x0) := by have := hatwr j _ hjl 1 _ rfl; rw [hpe.out] at this; exact this
          have c2wr : wr.cell? ⟨g, j * 5 + 2, none⟩ = some (.bool x1) := by have := hatwr j _ hjl 2 _ rfl; rw [hpe.out] at this; exact this
          have c3wr : wr.cell? ⟨g, j * 5 + 3, none⟩ = some (.bool x2) := by have := hatwr j _ hjl 3 _ rfl; rw [hpe.out] at this; exact this
          have c4wr : wr.cell? ⟨g, j * 5 + 4, none⟩ = some (.bool x3) := by have := hatwr j _ hjl 4 _ rfl; rw [hpe.out] at this; exact this
          have glwr : g < wr.heap.size := World.block_lt_of_cell? _ _ c0wr
          have bXwr : Blk wr zb [.string k, .string x, .bool true, .bool b2, .bool b3] 80 := (hb.out.block zb hzbz).trans bX.out
          have y0wr := bXwr.cell (i := 0) rfl
          have y1wr := bXwr.cell (i := 1) rfl
          have y2wr := bXwr.cell (i := 2) rfl
          have y3wr := bXwr.cell (i := 3) rfl
          have y4wr := bXwr.cell (i := 4) rfl
          have ylwr := bXwr.lt
          have crwr := hc0.out wr hb.out
          have crlwr : rb < wr.heap.size := World.block_lt_of_cell? _ _ crwr
          clear hrowwr hatwr bXwr
          have hlw := hb.out.size
          go_upto_region 6 with fail
          go_quiet (fail)
          obtain ⟨q1, hWq⟩ : ∃ w1, wr.drewN nq = w1 := ⟨_, rfl⟩
          have hPq1 := ownBelow hP.out (drewN_below wr nq)
          have hbq1 := drewB hb.out nq
          rw [hWq] at hPq1 hbq1
          try rw [hWq]
          clear hWq
          clear c0wr c1wr c2wr c3wr c4wr y0wr y1wr y2wr y3wr y4wr glwr ylwr crwr crlwr
          have hrowq1 := hat0.out q1 hbq1
          obtain ⟨_, ge, _, _, hatq1⟩ := own_flat eV_len hrowq1 (by omega)
          cases ge
          have c0q1 : q1.cell? ⟨g, j * 5, none⟩ = some (.string k1) := by have := hatq1 j _ hjl 0 _ rfl; rw [hpe.out] at this; exact this
          have c1q1 : q1.cell? ⟨g, j * 5 + 1, none⟩ = some (.string x0) := by have := hatq1 j _ hjl 1 _ rfl; rw [hpe.out] at this; exact this
          have c2q1 : q1.cell? ⟨g, j * 5 + 2, none⟩ = some (.bool x1) := by have := hatq1 j _ hjl 2 _ rfl; rw [hpe.out] at this; exact this
          have c3q1 : q1.cell? ⟨g, j * 5 + 3, none⟩ = some (.bool x2) := by have := hatq1 j _ hjl 3 _ rfl; rw [hpe.out] at this; exact this
          have c4q1 : q1.cell? ⟨g, j * 5 + 4, none⟩ = some (.bool x3) := by have := hatq1 j _ hjl 4 _ rfl; rw [hpe.out] at this; exact this
          have glq1 : g < q1.heap.size := World.block_lt_of_cell? _ _ c0q1
          have bXq1 : Blk q1 zb [.string k, .string x, .bool true, .bool b2, .bool b3] 80 := (hbq1.block zb hzbz).trans bX.out
          have y0q1 := bXq1.cell (i := 0) rfl
          have y1q1 := bXq1.cell (i := 1) rfl
          have y2q1 := bXq1.cell (i := 2) rfl
          have y3q1 := bXq1.cell (i := 3) rfl
          have y4q1 := bXq1.cell (i := 4) rfl
          have ylq1 := bXq1.lt
          have crq1 := hc0.out q1 hbq1
          have crlq1 : rb < q1.heap.size := World.block_lt_of_cell? _ _ crq1
          clear hrowq1 hatq1 bXq1
          go_upto_region 9 with fail
          go_quiet (fail)
          obtain ⟨q2, hWq⟩ : ∃ w1, q1.drewN nq = w1 := ⟨_, rfl⟩
          have hPq2 := ownBelow hPq1 (drewN_below q1 nq)
          have hbq2 := drewB hbq1 nq
          rw [hWq] at hPq2 hbq2
          try rw [hWq]
          clear hWq
          clear c0q1 c1q1 c2q1 c3q1 c4q1 y0q1 y1q1 y2q1 y3q1 y4q1 glq1 ylq1 crq1 crlq1
          have hIE : Hid (InsI false k (⟨x, true, b2, b3⟩ : Vr) (L.take (j + 1)) _ _) := Lib.hid (by rw [htk.out]; exact hI.out.skip (p := (k1, (⟨x0, x1, x2, x3⟩ : Vr))) hk.out)
          have hPE := Lib.hid hPq2
          have hmE := hm
          have hbE := Lib.hid hbq2
          clear hI hm hP hb
          go_wp2
          go_roundw
          case rel => exact ⟨j + 1, _, _, _, by omega, by go_num, rfl, hPE, hmE, hIE, hbE⟩
          case measure => simp [intOf]; omega
        · have hs := str_ne hk
          clear hle hle2 hmem
          have hrowwr := hat0.out wr hb.out
          obtain ⟨_, ge, _, _, hatwr⟩ := own_flat eV_len hrowwr (by omega)
          cases ge
          have c0wr : wr.cell? ⟨g, j * 5, none⟩ = some (.string k1) := by have := hatwr j _ hjl 0 _ rfl; rw [hpe.out] at this; exact this
          have c1wr : wr.cell? ⟨g, j * 5 + 1, none⟩ = some (.string x0) := by have := hatwr j _ hjl 1 _ rfl; rw [hpe.out] at this; exact this
          have c2wr : wr.cell? ⟨g, j * 5 + 2, none⟩ = some (.bool x1) := by have := hatwr j _ hjl 2 _ rfl; rw [hpe.out] at this; exact this
          have c3wr : wr.cell? ⟨g, j * 5 + 3, none⟩ = some (.bool x2) := by have := hatwr j _ hjl 3 _ rfl; rw [hpe.out] at this; exact this
          have c4wr : wr.cell? ⟨g, j * 5 + 4, none⟩ = some (.bool x3) := by have := hatwr j _ hjl 4 _ rfl; rw [hpe.out] at this; exact this
          have glwr : g < wr.heap.size := World.block_lt_of_cell? _ _ c0wr
          have bXwr : Blk wr zb [.string k, .string x, .bool true, .bool b2, .bool b3] 80 := (hb.out.block zb hzbz).trans bX.out
          have y0wr := bXwr.cell (i := 0) rfl
          have y1wr := bXwr.cell (i := 1) rfl
          have y2wr := bXwr.cell (i := 2) rfl
          have y3wr := bXwr.cell (i := 3) rfl
          have y4wr := bXwr.cell (i := 4) rfl
          have ylwr := bXwr.lt
          have crwr := hc0.out wr hb.out
          have crlwr : rb < wr.heap.size := World.block_lt_of_cell? _ _ crwr
          clear hrowwr hatwr bXwr
          have hlw := hb.out.size
          go_upto_region 6 with fail
          go_quiet (fail)
          obtain ⟨q1, hWq⟩ : ∃ w1, wr.drewN nq = w1 := ⟨_, rfl⟩
          have hPq1 := ownBelow hP.out (drewN_below wr nq)
          have hbq1 := drewB hb.out nq
          rw [hWq] at hPq1 hbq1
          try rw [hWq]
          clear hWq
          clear c0wr c1wr c2wr c3wr c4wr y0wr y1wr y2wr y3wr y4wr glwr ylwr crwr crlwr
          have hrowq1 := hat0.out q1 hbq1
          obtain ⟨_, ge, _, _, hatq1⟩ := own_flat eV_len hrowq1 (by omega)
          cases ge
          have c0q1 : q1.cell? ⟨g, j * 5, none⟩ = some (.string k1) := by have := hatq1 j _ hjl 0 _ rfl; rw [hpe.out] at this; exact this
          have c1q1 : q1.cell? ⟨g, j * 5 + 1, none⟩ = some (.string x0) := by have := hatq1 j _ hjl 1 _ rfl; rw [hpe.out] at this; exact this
          have c2q1 : q1.cell? ⟨g, j * 5 + 2, none⟩ = some (.bool x1) := by have := hatq1 j _ hjl 2 _ rfl; rw [hpe.out] at this; exact this
          have c3q1 : q1.cell? ⟨g, j * 5 + 3, none⟩ = some (.bool x2) := by have := hatq1 j _ hjl 3 _ rfl; rw [hpe.out] at this; exact this
          have c4q1 : q1.cell? ⟨g, j * 5 + 4, none⟩ = some (.bool x3) := by have := hatq1 j _ hjl 4 _ rfl; rw [hpe.out] at this; exact this
          have glq1 : g < q1.heap.size := World.block_lt_of_cell? _ _ c0q1
          have bXq1 : Blk q1 zb [.string k, .string x, .bool true, .bool b2, .bool b3] 80 := (hbq1.block zb hzbz).trans bX.out
          have y0q1 := bXq1.cell (i := 0) rfl
          have y1q1 := bXq1.cell (i := 1) rfl
          have y2q1 := bXq1.cell (i := 2) rfl
          have y3q1 := bXq1.cell (i := 3) rfl
          have y4q1 := bXq1.cell (i := 4) rfl
          have ylq1 := bXq1.lt
          have crq1 := hc0.out q1 hbq1
          have crlq1 : rb < q1.heap.size := World.block_lt_of_cell? _ _ crq1
          clear hrowq1 hatq1 bXq1
          go_upto_region 9 with fail
          go_quiet (fail)
          obtain ⟨q2, hWq⟩ : ∃ w1, q1.drewN nq = w1 := ⟨_, rfl⟩
          have hPq2 := ownBelow hPq1 (drewN_below q1 nq)
          have hbq2 := drewB hbq1 nq
          rw [hWq] at hPq2 hbq2
          try rw [hWq]
          clear hWq
          clear c0q1 c1q1 c2q1 c3q1 c4q1 y0q1 y1q1 y2q1 y3q1 y4q1 glq1 ylq1 crq1 crlq1
          have hrowq2 := hat0.out q2 hbq2
          obtain ⟨_, ge, _, _, hatq2⟩ := own_flat eV_len hrowq2 (by omega)
          cases ge
          have c0q2 : q2.cell? ⟨g, j * 5, none⟩ = some (.string k1) := by have := hatq2 j _ hjl 0 _ rfl; rw [hpe.out] at this; exact this
          have c1q2 : q2.cell? ⟨g, j * 5 + 1, none⟩ = some (.string x0) := by have := hatq2 j _ hjl 1 _ rfl; rw [hpe.out] at this; exact this
          have c2q2 : q2.cell? ⟨g, j * 5 + 2, none⟩ = some (.bool x1) := by have := hatq2 j _ hjl 2 _ rfl; rw [hpe.out] at this; exact this
          have c3q2 : q2.cell? ⟨g, j * 5 + 3, none⟩ = some (.bool x2) := by have := hatq2 j _ hjl 3 _ rfl; rw [hpe.out] at this; exact this
          have c4q2 : q2.cell? ⟨g, j * 5 + 4, none⟩ = some (.bool x3) := by have := hatq2 j _ hjl 4 _ rfl; rw [hpe.out] at this; exact this
          have glq2 : g < q2.heap.size := World.block_lt_of_cell? _ _ c0q2
          have bXq2 : Blk q2 zb [.string k, .string x, .bool true, .bool b2, .bool b3] 80 := (hbq2.block zb hzbz).trans bX.out
          have y0q2 := bXq2.cell (i := 0) rfl
          have y1q2 := bXq2.cell (i := 1) rfl
          have y2q2 := bXq2.cell (i := 2) rfl
          have y3q2 := bXq2.cell (i := 3) rfl
          have y4q2 := bXq2.cell (i := 4) rfl
          have ylq2 := bXq2.lt
          have crq2 := hc0.out q2 hbq2
          have crlq2 : rb < q2.heap.size := World.block_lt_of_cell? _ _ crq2
          clear hrowq2 hatq2 bXq2
          obtain ⟨AY, cY, u3, hrun, hPY, hbY⟩ := row_v hPq2 hm.out (by omega) hbq2 (by have := hbq2.size; have := hz.out; omega) k1 x0 x1 x2 x3
          have hcY : m + 1 ≤ cY ∧ cY ≤ 2 ^ 63 - 1 := by
            obtain ⟨_, _, e9, q1, q2⟩ := own_form hPY
            cases e9
            exact ⟨q1, q2⟩
          replace hrun := Lib.hid hrun
          have hIE : Hid (InsI false k (⟨x, true, b2, b3⟩ : Vr) (L.take (j + 1)) _ _) := Lib.hid (by rw [htk.out]; exact hI.out.more (p := (k1, (⟨x0, x1, x2, x3⟩ : Vr))) hk)
          have hmE : Hid ((M ++ [(k1, (⟨x0, x1, x2, x3⟩ : Vr))]).length = _) := Lib.hid (by rw [List.length_append, hm.out] <;> rfl)
          have hPE := Lib.hid hPY
          have hbE := Lib.hid hbY
          clear hI hm hP hb
          go_wp2_with (at_builtin; refine wpList_append_of rfl _ _ 72 72 rfl _ _ _ u3 rfl rfl hrun.out ?_)
          clear hrun
          go_roundw
          case rel => exact ⟨j + 1, _, _, _, by omega, by go_num, rfl, hPE, hmE, hIE, hbE⟩
          case measure => simp [intOf]; omega
    · obtain rfl : j = n := by omega
      have hj2 : ¬ (j : Int) < (j : Int) := by omega
      have hfull : L.take j = L := by rw [← hn.out]; exact List.take_length
      rw [hfull] at hI
      have crw := hc0.out wr hb.out
      have crlw : rb < wr.heap.size := World.block_lt_of_cell? _ _ crw
      cases d
      · have bXr : Blk wr zb [.string k, .string x, .bool true, .bool b2, .bool b3] 80 := (hb.out.block zb hzbz).trans bX.out
        have y0 := bXr.cell (i := 0) rfl
        have y1 := bXr.cell (i := 1) rfl
        have y2 := bXr.cell (i := 2) rfl
        have y3 := bXr.cell (i := 3) rfl
        have y4 := bXr.cell (i := 4) rfl
        have yl := bXr.lt
        obtain ⟨A3, c3, u3, hrun, hP3, hb3⟩ := row_v hP.out hm.out (by omega) hb.out (by have := hb.out.size; have := hz.out; omega) k x true b2 b3
        have hE := hI.out.end0
        have hlE : (putL false k (⟨x, true, b2, b3⟩ : Vr) L).length = m + 1 := by rw [← hE, List.length_append, hm.out] <;> rfl
        rw [hE] at hP3
        have hA := hall.out u3 hb3
        have hfz := hA.blk.frozen 0
        have cr3 := hc0.out u3 hb3
        have crl3 := hA.blk.lt
        obtain ⟨hR, hS⟩ := hA.set (r' := { r with v := putL false k (⟨x, true, b2, b3⟩ : Vr) L }) (sv' := .slice A3 (m + 1) c3) 0 (.slice A3 (m + 1) c3) rfl (by show u3.ownsRow 0 _ 5 _ (putL false k (⟨x, true, b2, b3⟩ : Vr) L).length _; rw [hlE]; exact own_base hP3 (Nat.zero_le _)) hA.rf hA.ra hA.rt hA.ga
        have hbZ : Below W.heap.size W u3 := hbW.out.trans (hb3.mono (by have := hbW.out.size; have := hz.out; omega))
        have hSt : Stp (fun b => b = rb) W (u3.setCell ⟨rb, 0, none⟩ (.slice A3 (m + 1) c3)) := Stp.trans (S := fun b => b = rb) (S' := fun b => b = rb) (Stp.mono (S := fun _ => False) ⟨hbZ.os, hbZ.tape, hbZ.output, hbZ.size, fun b hb' _ => hbZ.block b hb'⟩ (fun _ _ h => h.elim)) hS (fun _ _ h => h)
        have hfin := Lib.hid (And.intro hR hSt)
        replace hrun := Lib.hid hrun
        clear hA hR hS hSt hbZ hP hm hb hI hP3 hb3 hE hlE bXr
        go_wp2_with (at_builtin; refine wpList_append_of rfl _ _ 72 72 rfl _ _ _ u3 rfl rfl hrun.out ?_)
        exact bodyPost_end (v := .tuple #[]) (results_none rfl _ _ _) rfl ⟨rfl, ⟨_, _, _, _, hfin.out.1⟩, hfin.out.2⟩
      · have hE := hI.out.end1
        have hlE : (putL false k (⟨x, true, b2, b3⟩ : Vr) L).length = m := by rw [← hE, hm.out]
        have hP3 := hP.out
        rw [hE] at hP3
        have hA := hall.out wr hb.out
        have hfz := hA.blk.frozen 0
        have cr3 := hc0.out wr hb.out
        have crl3 := hA.blk.lt
        obtain ⟨hR, hS⟩ := hA.set (r' := { r with v := putL false k (⟨x, true, b2, b3⟩ : Vr) L }) (sv' := .slice AO m cO) 0 (.slice AO m cO) rfl (by show wr.ownsRow 0 _ 5 _ (putL false k (⟨x, true, b2, b3⟩ : Vr) L).length _; rw [hlE]; exact own_base hP3 (Nat.zero_le _)) hA.rf hA.ra hA.rt hA.ga
        have hbZ : Below W.heap.size W wr := hbW.out.trans (hb.out.mono (by have := hbW.out.size; have := hz.out; omega))
        have hSt : Stp (fun b => b = rb) W (wr.setCell ⟨rb, 0, none⟩ (.slice AO m cO)) := Stp.trans (S := fun b => b = rb) (S' := fun b => b = rb) (Stp.mono (S := fun _ => False) ⟨hbZ.os, hbZ.tape, hbZ.output, hbZ.size, fun b hb' _ => hbZ.block b hb'⟩ (fun _ _ h => h.elim)) hS (fun _ _ h => h)
        have hfin := Lib.hid (And.intro hR hSt)
        clear hA hR hS hSt hbZ hP hm hb hI hP3 hE hlE
        go_wp2
        exact bodyPost_end (v := .tuple #[]) (results_none rfl _ _ _) rfl ⟨rfl, ⟨_, _, _, _, hfin.out.1⟩, hfin.out.2⟩
set_option maxRecDepth 100000 in
set_option maxHeartbeats 16000000 in
theorem put_exp (h : RfA W rb r) (hl : r.v.length ≤ 89999) (k x : ByteArray) (b3 : Bool) :
    Calls Tryz.prog 104 #[ptrV rb, .agg #[.string k, .string x, .bool false, .bool true, .bool b3]] W fun e w' => e = .returned (.tuple #[]) ∧ RfA w' rb { r with v := putL false k (⟨x, false, true, b3⟩ : Vr) r.v } ∧ Stp (fun b => b = rb) W w' := by
  obtain ⟨sv, sf, sa, st, h⟩ := h
  obtain ⟨A, c, hst, hc, hcm⟩ := own_form h.rv
  subst hst
  obtain ⟨n, hnL⟩ : ∃ n, r.v.length = n := ⟨_, rfl⟩
  obtain ⟨L, hL⟩ : ∃ L, r.v = L := ⟨_, rfl⟩
  rw [hL]
  unfold maxLen at hcm
  obtain ⟨zb, hzb⟩ : ∃ z, W.heap.size = z := ⟨_, rfl⟩
  have bX : Blk (W.alloc (.cells #[.string k, .string x, .bool false, .bool true, .bool b3] 80)) zb [.string k, .string x, .bool false, .bool true, .bool b3] 80 := by rw [← hzb]; exact Blk.new W _ _
  have hbA : Below W.heap.size W (W.alloc (.cells #[.string k, .string x, .bool false, .bool true, .bool b3] 80)) := Below.of_alloc W _
  have hA0 := h.below hbA
  unfold ptrV
  replace bX := Lib.hid bX
  replace hzb := Lib.hid hzb
  clear h
  go_enter Tryz.func104, Tryz.ntmps104
  go_upto_region 1 with fail
  try rw [hzb.out]
  generalize (W.alloc (.cells #[.string k, .string x, .bool false, .bool true, .bool b3] 80)) = w0 at hbA hA0 bX ⊢
  obtain ⟨z, hz⟩ : ∃ z, w0.heap.size = z := ⟨_, rfl⟩
  have hrb : rb < z := by have := hA0.blk.lt; omega
  have hzbz : zb < z := by have := bX.out.lt; omega
  have hall := fun (w2 : World) (hb : Below z w0 w2) => hA0.below (hz ▸ hb)
  have hat0 := fun (w2 : World) (hb : Below z w0 w2) => (hall w2 hb).rv
  have hc0 : ∀ (w2 : World), Below z w0 w2 → w2.cell? ⟨rb, 0, none⟩ = some (.slice A r.v.length c) := fun w2 hb => (hall w2 hb).blk.cell (i := 0) rfl
  have hbW : Hid (Below W.heap.size W w0) := Lib.hid hbA
  have hn89 : n ≤ 89999 := by omega
  rw [hnL] at hc hat0 hc0
  rw [hL] at hat0 hnL
  have y0 := bX.out.cell (i := 0) rfl
  have y1 := bX.out.cell (i := 1) rfl
  have y2 := bX.out.cell (i := 2) rfl
  have y3 := bX.out.cell (i := 3) rfl
  have y4 := bX.out.cell (i := 4) rfl
  have yl := bX.out.lt
  replace hall := Lib.hid hall
  replace hat0 := Lib.hid hat0
  replace hc0 := Lib.hid hc0
  have hn := Lib.hid hnL
  replace hz := Lib.hid hz
  replace hL := Lib.hid hL
  clear hA0 hbA hnL
  go_upto_region 3 with fail
  clear y0 y1 y2 y3 y4 yl
  have hP0 : Hid (w0.ownsRow z 80 5 (.slice none 0 0) 0 (flat eV ([] : Es Vr))) := Lib.hid (World.ownsRow_nil _ _ _ _)
  have hI0 : Hid (InsI false k (⟨x, false, true, b3⟩ : Vr) (L.take 0) [] false) := Lib.hid (InsI.start false k (⟨x, false, true, b3⟩ : Vr))
  have hb0 : Hid (Below z w0 w0) := Lib.hid (Below.refl _ _)
  go_wp2
  go_loopw [4, 5, 6] (fun ov dv nv wr => ∃ (j m : Nat) (M : Es Vr) (d : Bool), j ≤ n ∧ nv = .int .i64 (j : Int) ∧ dv = .bool d ∧ Hid (wr.ownsRow z 80 5 ov m (flat eV M)) ∧ Hid (M.length = m) ∧ Hid (InsI false k (⟨x, false, true, b3⟩ : Vr) (L.take j) M d) ∧ Hid (Below z w0 wr)) (fun _ _ nv _ => n - (intOf nv).toNat)
  case atStart => exact ⟨0, 0, [], false, Nat.zero_le _, rfl, rfl, hP0, Lib.hid rfl, hI0, hb0⟩
  case round =>
    clear hP0 hb0 hI0
    obtain ⟨j, m, M, d, hj, rfl, rfl, hP, hm, hI, hb⟩ := hrel
    obtain ⟨AO, cO, hov, hcO, hcOm⟩ := own_form hP.out
    subst hov
    unfold maxLen at hcOm
    have hml : m ≤ 90001 := by
      have := hI.out.len
      rw [List.length_take, hm.out] at this
      omega
    by_cases hlt : j < n
    · have hjn : j < L.length := by rw [hn.out]; exact hlt
      have hjl := List.getElem?_eq_getElem hjn
      obtain ⟨g, rfl, _, _, _⟩ := own_flat eV_len (hat0.out wr hb.out) (by omega)
      have hj1 : (0 : Int) ≤ (j : Int) := by omega
      have hj2 : (j : Int) < (n : Int) := by omega
      have htk : L.take (j + 1) = L.take j ++ [L[j]] := List.take_succ_eq_append_getElem hjn
      have hmem : L[j] ∈ L := List.getElem_mem hjn
      obtain ⟨p, hpe⟩ : ∃ p, L[j] = p := ⟨_, rfl⟩
      rw [hpe] at htk hmem
      obtain ⟨k1, ⟨x0, x1, x2, x3⟩⟩ := p
      replace htk := Lib.hid htk
      replace hpe := Lib.hid hpe
      have hle := less_eq k1 k
      have hle2 := less_eq k k1
      cases d
      · by_cases hk : k1 = k
        · have hs := str_eq hk
          have hl1 : Op.bytesLess k1.toList k.toList = false := by rw [hle, hk]; exact decide_eq_false (List.lt_irrefl _)
          clear hle hle2 hmem
          replace hk := Lib.hid hk
          have hrowwr := hat0.out wr hb.out
          obtain ⟨_, ge, _, _, hatwr⟩ := own_flat eV_len hrowwr (by omega)
          cases ge
          have c0wr : wr.cell? ⟨g, j * 5, none⟩ = some (.string k1) := by have := hatwr j _ hjl 0 _ rfl; rw [hpe.out] at this; exact this
          have c1wr : wr.cell? ⟨g, j * 5 + 1, none⟩ = some (.string x0) := by have := hatwr j _ hjl 1 _ rfl; rw [hpe.out] at this; exact this
          have c2wr : wr.cell? ⟨g, j * 5 + 2, none⟩ = some (.bool x1) := by have := hatwr j _ hjl 2 _ rfl; rw [hpe.out] at this; exact this
          have c3wr : wr.cell? ⟨g, j * 5 + 3, none⟩ = some (.bool x2) := by have := hatwr j _ hjl 3 _ rfl; rw [hpe.out] at this; exact this
          have c4wr : wr.cell? ⟨g, j * 5 + 4, none⟩ = some (.bool x3) := by have := hatwr j _ hjl 4 _ rfl; rw [hpe.out] at this; exact this
          have glwr : g < wr.heap.size := World.block_lt_of_cell? _ _ c0wr
          have bXwr : Blk wr zb [.string k, .string x, .bool false, .bool true, .bool b3] 80 := (hb.out.block zb hzbz).trans bX.out
          have y0wr := bXwr.cell (i := 0) rfl
          have y1wr := bXwr.cell (i := 1) rfl
          have y2wr := bXwr.cell (i := 2) rfl
          have y3wr := bXwr.cell (i := 3) rfl
          have y4wr := bXwr.cell (i := 4) rfl
          have ylwr := bXwr.lt
          have crwr := hc0.out wr hb.out
          have crlwr : rb < wr.heap.size := World.block_lt_of_cell? _ _ crwr
          clear hrowwr hatwr bXwr
          have hlw := hb.out.size
          go_upto_region 6 with fail
          go_quiet (fail)
          obtain ⟨q1, hWq⟩ : ∃ w1, wr.drewN nq = w1 := ⟨_, rfl⟩
          have hPq1 := ownBelow hP.out (drewN_below wr nq)
          have hbq1 := drewB hb.out nq
          rw [hWq] at hPq1 hbq1
          try rw [hWq]
          clear hWq
          clear c0wr c1wr c2wr c3wr c4wr y0wr y1wr y2wr y3wr y4wr glwr ylwr crwr crlwr
          have hrowq1 := hat0.out q1 hbq1
          obtain ⟨_, ge, _, _, hatq1⟩ := own_flat eV_len hrowq1 (by omega)
          cases ge
          have c0q1 : q1.cell? ⟨g, j * 5, none⟩ = some (.string k1) := by have := hatq1 j _ hjl 0 _ rfl; rw [hpe.out] at this; exact this
          have c1q1 : q1.cell? ⟨g, j * 5 + 1, none⟩ = some (.string x0) := by have := hatq1 j _ hjl 1 _ rfl; rw [hpe.out] at this; exact this
          have c2q1 : q1.cell? ⟨g, j * 5 + 2, none⟩ = some (.bool x1) := by have := hatq1 j _ hjl 2 _ rfl; rw [hpe.out] at this; exact this
          have c3q1 : q1.cell? ⟨g, j * 5 + 3, none⟩ = some (.bool x2) := by have := hatq1 j _ hjl 3 _ rfl; rw [hpe.out] at this; exact this
          have c4q1 : q1.cell? ⟨g, j * 5 + 4, none⟩ = some (.bool x3) := by have := hatq1 j _ hjl 4 _ rfl; rw [hpe.out] at this; exact this
          have glq1 : g < q1.heap.size := World.block_lt_of_cell? _ _ c0q1
          have bXq1 : Blk q1 zb [.string k, .string x, .bool false, .bool true, .bool b3] 80 := (hbq1.block zb hzbz).trans bX.out
          have y0q1 := bXq1.cell (i := 0) rfl
          have y1q1 := bXq1.cell (i := 1) rfl
          have y2q1 := bXq1.cell (i := 2) rfl
          have y3q1 := bXq1.cell (i := 3) rfl
          have y4q1 := bXq1.cell (i := 4) rfl
          have ylq1 := bXq1.lt
          have crq1 := hc0.out q1 hbq1
          have crlq1 : rb < q1.heap.size := World.block_lt_of_cell? _ _ crq1
          clear hrowq1 hatq1 bXq1
          obtain ⟨AX, cX, u2, hrun, hPX, hbX⟩ := row_v hPq1 hm.out (by omega) hbq1 (by have := hbq1.size; have := hz.out; omega) k x false true b3
          have hcX : m + 1 ≤ cX ∧ cX ≤ 2 ^ 63 - 1 := by
            obtain ⟨_, _, e9, q1, q2⟩ := own_form hPX
            cases e9
            exact ⟨q1, q2⟩
          replace hrun := Lib.hid hrun
          have hmX : (M ++ [(k, (⟨x, false, true, b3⟩ : Vr))]).length = m + 1 := by rw [List.length_append, hm.out]; rfl
          have hrowu2 := hat0.out u2 hbX
          obtain ⟨_, ge, _, _, hatu2⟩ := own_flat eV_len hrowu2 (by omega)
          cases ge
          have c0u2 : u2.cell? ⟨g, j * 5, none⟩ = some (.string k1) := by have := hatu2 j _ hjl 0 _ rfl; rw [hpe.out] at this; exact this
          have c1u2 : u2.cell? ⟨g, j * 5 + 1, none⟩ = some (.string x0) := by have := hatu2 j _ hjl 1 _ rfl; rw [hpe.out] at this; exact this
          have c2u2 : u2.cell? ⟨g, j * 5 + 2, none⟩ = some (.bool x1) := by have := hatu2 j _ hjl 2 _ rfl; rw [hpe.out] at this; exact this
          have c3u2 : u2.cell? ⟨g, j * 5 + 3, none⟩ = some (.bool x2) := by have := hatu2 j _ hjl 3 _ rfl; rw [hpe.out] at this; exact this
          have c4u2 : u2.cell? ⟨g, j * 5 + 4, none⟩ = some (.bool x3) := by have := hatu2 j _ hjl 4 _ rfl; rw [hpe.out] at this; exact this
          have glu2 : g < u2.heap.size := World.block_lt_of_cell? _ _ c0u2
          have bXu2 : Blk u2 zb [.string k, .string x, .bool false, .bool true, .bool b3] 80 := (hbX.block zb hzbz).trans bX.out
          have y0u2 := bXu2.cell (i := 0) rfl
          have y1u2 := bXu2.cell (i := 1) rfl
          have y2u2 := bXu2.cell (i := 2) rfl
          have y3u2 := bXu2.cell (i := 3) rfl
          have y4u2 := bXu2.cell (i := 4) rfl
          have ylu2 := bXu2.lt
          have cru2 := hc0.out u2 hbX
          have crlu2 : rb < u2.heap.size := World.block_lt_of_cell? _ _ cru2
          clear hrowu2 hatu2 bXu2
          replace hPX := Lib.hid hPX
          go_upto_region 9 with (at_builtin; refine wpList_append_of rfl _ _ 72 72 rfl _ _ _ u2 rfl rfl hrun.out ?_)
          clear hrun
          clear c0q1 c1q1 c2q1 c3q1 c4q1 y0q1 y1q1 y2q1 y3q1 y4q1 glq1 ylq1 crq1 crlq1
          go_upto_region 9 with fail
          go_quiet (fail)
          obtain ⟨q2, hWq⟩ : ∃ w1, u2.drewN nq = w1 := ⟨_, rfl⟩
          have hPq2 := ownBelow hPX.out (drewN_below u2 nq)
          have hbq2 := drewB hbX nq
          rw [hWq] at hPq2 hbq2
          try rw [hWq]
          clear hWq
          clear c0u2 c1u2 c2u2 c3u2 c4u2 y0u2 y1u2 y2u2 y3u2 y4u2 glu2 ylu2 cru2 crlu2
          have hIE : Hid (InsI false k (⟨x, false, true, b3⟩ : Vr) (L.take (j + 1)) _ _) := Lib.hid (by rw [htk.out]; exact hI.out.eq (p := (k1, (⟨x0, x1, x2, x3⟩ : Vr))) hk.out)
          have hPE := Lib.hid hPq2
          have hmE := Lib.hid hmX
          have hbE := Lib.hid hbq2
          clear hI hm hP hb
          go_wp2
          go_roundw
          case rel => exact ⟨j + 1, _, _, _, by omega, by go_num, rfl, hPE, hmE, hIE, hbE⟩
          case measure => simp [intOf]; omega
        · have hs := str_ne hk
          by_cases hlt3 : bytesOf k1 < bytesOf k
          · have hl1 : Op.bytesLess k1.toList k.toList = true := by rw [hle]; exact decide_eq_true hlt3
            clear hle hle2 hmem
            have hrowwr := hat0.out wr hb.out
            obtain ⟨_, ge, _, _, hatwr⟩ := own_flat eV_len hrowwr (by omega)
            cases ge
            have c0wr : wr.cell? ⟨g, j * 5, none⟩ = some (.string k1) := by have := hatwr j _ hjl 0 _ rfl; rw [hpe.out] at this; exact this
            have c1wr : wr.cell? ⟨g, j * 5 + 1, none⟩ = some (.string x0) := by have := hatwr j _ hjl 1 _ rfl; rw [hpe.out] at this; exact this
            have c2wr : wr.cell? ⟨g, j * 5 + 2, none⟩ = some (.bool x1) := by have := hatwr j _ hjl 2 _ rfl; rw [hpe.out] at this; exact this
            have c3wr : wr.cell? ⟨g, j * 5 + 3, none⟩ = some (.bool x2) := by have := hatwr j _ hjl 3 _ rfl; rw [hpe.out] at this; exact this
            have c4wr : wr.cell? ⟨g, j * 5 + 4, none⟩ = some (.bool x3) := by have := hatwr j _ hjl 4 _ rfl; rw [hpe.out] at this; exact this
            have glwr : g < wr.heap.size := World.block_lt_of_cell? _ _ c0wr
            have bXwr : Blk wr zb [.string k, .string x, .bool false, .bool true, .bool b3] 80 := (hb.out.block zb hzbz).trans bX.out
            have y0wr := bXwr.cell (i := 0) rfl
            have y1wr := bXwr.cell (i := 1) rfl
            have y2wr := bXwr.cell (i := 2) rfl
            have y3wr := bXwr.cell (i := 3) rfl
            have y4wr := bXwr.cell (i := 4) rfl
            have ylwr := bXwr.lt
            have crwr := hc0.out wr hb.out
            have crlwr : rb < wr.heap.size := World.block_lt_of_cell? _ _ crwr
            clear hrowwr hatwr bXwr
            have hlw := hb.out.size
            go_upto_region 6 with fail
            go_quiet (fail)
            obtain ⟨q1, hWq⟩ : ∃ w1, wr.drewN nq = w1 := ⟨_, rfl⟩
            have hPq1 := ownBelow hP.out (drewN_below wr nq)
            have hbq1 := drewB hb.out nq
            rw [hWq] at hPq1 hbq1
            try rw [hWq]
            clear hWq
            clear c0wr c1wr c2wr c3wr c4wr y0wr y1wr y2wr y3wr y4wr glwr ylwr crwr crlwr
            have hrowq1 := hat0.out q1 hbq1
            obtain ⟨_, ge, _, _, hatq1⟩ := own_flat eV_len hrowq1 (by omega)
            cases ge
            have c0q1 : q1.cell? ⟨g, j * 5, none⟩ = some (.string k1) := by have := hatq1 j _ hjl 0 _ rfl; rw [hpe.out] at this; exact this
            have c1q1 : q1.cell? ⟨g, j * 5 + 1, none⟩ = some (.string x0) := by have := hatq1 j _ hjl 1 _ rfl; rw [hpe.out] at this; exact this
            have c2q1 : q1.cell? ⟨g, j * 5 + 2, none⟩ = some (.bool x1) := by have := hatq1 j _ hjl 2 _ rfl; rw [hpe.out] at this; exact this
            have c3q1 : q1.cell? ⟨g, j * 5 + 3, none⟩ = some (.bool x2) := by have := hatq1 j _ hjl 3 _ rfl; rw [hpe.out] at this; exact this
            have c4q1 : q1.cell? ⟨g, j * 5 + 4, none⟩ = some (.bool x3) := by have := hatq1 j _ hjl 4 _ rfl; rw [hpe.out] at this; exact this
            have glq1 : g < q1.heap.size := World.block_lt_of_cell? _ _ c0q1
            have bXq1 : Blk q1 zb [.string k, .string x, .bool false, .bool true, .bool b3] 80 := (hbq1.block zb hzbz).trans bX.out
            have y0q1 := bXq1.cell (i := 0) rfl
            have y1q1 := bXq1.cell (i := 1) rfl
            have y2q1 := bXq1.cell (i := 2) rfl
            have y3q1 := bXq1.cell (i := 3) rfl
            have y4q1 := bXq1.cell (i := 4) rfl
            have ylq1 := bXq1.lt
            have crq1 := hc0.out q1 hbq1
            have crlq1 : rb < q1.heap.size := World.block_lt_of_cell? _ _ crq1
            clear hrowq1 hatq1 bXq1
            go_upto_region 9 with fail
            go_quiet (fail)
            obtain ⟨q2, hWq⟩ : ∃ w1, q1.drewN nq = w1 := ⟨_, rfl⟩
            have hPq2 := ownBelow hPq1 (drewN_below q1 nq)
            have hbq2 := drewB hbq1 nq
            rw [hWq] at hPq2 hbq2
            try rw [hWq]
            clear hWq
            clear c0q1 c1q1 c2q1 c3q1 c4q1 y0q1 y1q1 y2q1 y3q1 y4q1 glq1 ylq1 crq1 crlq1
            have hrowq2 := hat0.out q2 hbq2
            obtain ⟨_, ge, _, _, hatq2⟩ := own_flat eV_len hrowq2 (by omega)
            cases ge
            have c0q2 : q2.cell? ⟨g, j * 5, none⟩ = some (.string k1) := by have := hatq2 j _ hjl 0 _ rfl; rw [hpe.out] at this; exact this
            have c1q2 : q2.cell? ⟨g, j * 5 + 1, none⟩ = some (.string x0) := by have := hatq2 j _ hjl 1 _ rfl; rw [hpe.out] at this; exact this
            have c2q2 : q2.cell? ⟨g, j * 5 + 2, none⟩ = some (.bool x1) := by have := hatq2 j _ hjl 2 _ rfl; rw [hpe.out] at this; exact this
            have c3q2 : q2.cell? ⟨g, j * 5 + 3, none⟩ = some (.bool x2) := by have := hatq2 j _ hjl 3 _ rfl; rw [hpe.out] at this; exact this
            have c4q2 : q2.cell? ⟨g, j * 5 + 4, none⟩ = some (.bool x3) := by have := hatq2 j _ hjl 4 _ rfl; rw [hpe.out] at this; exact this
            have glq2 : g < q2.heap.size := World.block_lt_of_cell? _ _ c0q2
            have bXq2 : Blk q2 zb [.string k, .string x, .bool false, .bool true, .bool b3] 80 := (hbq2.block zb hzbz).trans bX.out
            have y0q2 := bXq2.cell (i := 0) rfl
            have y1q2 := bXq2.cell (i := 1) rfl
            have y2q2 := bXq2.cell (i := 2) rfl
            have y3q2 := bXq2.cell (i := 3) rfl
            have y4q2 := bXq2.cell (i := 4) rfl
            have ylq2 := bXq2.lt
            have crq2 := hc0.out q2 hbq2
            have crlq2 : rb < q2.heap.size := World.block_lt_of_cell? _ _ crq2
            clear hrowq2 hatq2 bXq2
            obtain ⟨AY, cY, u3, hrun, hPY, hbY⟩ := row_v hPq2 hm.out (by omega) hbq2 (by have := hbq2.size; have := hz.out; omega) k1 x0 x1 x2 x3
            have hcY : m + 1 ≤ cY ∧ cY ≤ 2 ^ 63 - 1 := by
              obtain ⟨_, _, e9, q1, q2⟩ := own_form hPY
              cases e9
              exact ⟨q1, q2⟩
            replace hrun := Lib.hid hrun
            have hIE : Hid (InsI false k (⟨x, false, true, b3⟩ : Vr) (L.take (j + 1)) _ _) := Lib.hid (by rw [htk.out]; exact hI.out.lt (p := (k1, (⟨x0, x1, x2, x3⟩ : Vr))) hlt3)
            have hmE : Hid ((M ++ [(k1, (⟨x0, x1, x2, x3⟩ : Vr))]).length = _) := Lib.hid (by rw [List.length_append, hm.out] <;> rfl)
            have hPE := Lib.hid hPY
            have hbE := Lib.hid hbY
            clear hI hm hP hb
            go_wp2_with (at_builtin; refine wpList_append_of rfl _ _ 72 72 rfl _ _ _ u3 rfl rfl hrun.out ?_)
            clear hrun
            go_roundw
            case rel => exact ⟨j + 1, _, _, _, by omega, by go_num, rfl, hPE, hmE, hIE, hbE⟩
            case measure => simp [intOf]; omega
          · have hl1 : Op.bytesLess k1.toList k.toList = false := by rw [hle]; exact decide_eq_false hlt3
            clear hle hle2 hmem
            have hrowwr := hat0.out wr hb.out
            obtain ⟨_, ge, _, _, hatwr⟩ := own_flat eV_len hrowwr (by omega)
            cases ge
            have c0wr : wr.cell? ⟨g, j * 5, none⟩ = some (.string k1) := by have := hatwr j _ hjl 0 _ rfl; rw [hpe.out] at this; exact this
            have c1wr : wr.cell? ⟨g, j * 5 + 1, none⟩ = some (.string x0) := by have := hatwr j _ hjl 1 _ rfl; rw [hpe.out] at this; exact this
            have c2wr : wr.cell? ⟨g, j * 5 + 2, none⟩ = some (.bool x1) := by have := hatwr j _ hjl 2 _ rfl; rw [hpe.out] at this; exact this
            have c3wr : wr.cell? ⟨g, j * 5 + 3, none⟩ = some (.bool x2) := by have := hatwr j _ hjl 3 _ rfl; rw [hpe.out] at this; exact this
            have c4wr : wr.cell? ⟨g, j * 5 + 4, none⟩ = some (.bool x3) := by have := hatwr j _ hjl 4 _ rfl; rw [hpe.out] at this; exact this
            have glwr : g < wr.heap.size := World.block_lt_of_cell? _ _ c0wr
            have bXwr : Blk wr zb [.string k, .string x, .bool false, .bool true, .bool b3] 80 := (hb.out.block zb hzbz).trans bX.out
            have y0wr := bXwr.cell (i := 0) rfl
            have y1wr := bXwr.cell (i := 1) rfl
            have y2wr := bXwr.cell (i := 2) rfl
            have y3wr := bXwr.cell (i := 3) rfl
            have y4wr := bXwr.cell (i := 4) rfl
            have ylwr := bXwr.lt
            have crwr := hc0.out wr hb.out
            have crlwr : rb < wr.heap.size := World.block_lt_of_cell? _ _ crwr
            clear hrowwr hatwr bXwr
            have hlw := hb.out.size
            go_upto_region 6 with fail
            go_quiet (fail)
            obtain ⟨q1, hWq⟩ : ∃ w1, wr.drewN nq = w1 := ⟨_, rfl⟩
            have hPq1 := ownBelow hP.out (drewN_below wr nq)
            have hbq1 := drewB hb.out nq
            rw [hWq] at hPq1 hbq1
            try rw [hWq]
            clear hWq
            clear c0wr c1wr c2wr c3wr c4wr y0wr y1wr y2wr y3wr y4wr glwr ylwr crwr crlwr
            have hrowq1 := hat0.out q1 hbq1
            obtain ⟨_, ge, _, _, hatq1⟩ := own_flat eV_len hrowq1 (by omega)
            cases ge
            have c0q1 : q1.cell? ⟨g, j * 5, none⟩ = some (.string k1) := by have := hatq1 j _ hjl 0 _ rfl; rw [hpe.out] at this; exact this
            have c1q1 : q1.cell? ⟨g, j * 5 + 1, none⟩ = some (.string x0) := by have := hatq1 j _ hjl 1 _ rfl; rw [hpe.out] at this; exact this
            have c2q1 : q1.cell? ⟨g, j * 5 + 2, none⟩ = some (.bool x1) := by have := hatq1 j _ hjl 2 _ rfl; rw [hpe.out] at this; exact this
            have c3q1 : q1.cell? ⟨g, j * 5 + 3, none⟩ = some (.bool x2) := by have := hatq1 j _ hjl 3 _ rfl; rw [hpe.out] at this; exact this
            have c4q1 : q1.cell? ⟨g, j * 5 + 4, none⟩ = some (.bool x3) := by have := hatq1 j _ hjl 4 _ rfl; rw [hpe.out] at this; exact this
            have glq1 : g < q1.heap.size := World.block_lt_of_cell? _ _ c0q1
            have bXq1 : Blk q1 zb [.string k, .string x, .bool false, .bool true, .bool b3] 80 := (hbq1.block zb hzbz).trans bX.out
            have y0q1 := bXq1.cell (i := 0) rfl
            have y1q1 := bXq1.cell (i := 1) rfl
            have y2q1 := bXq1.cell (i := 2) rfl
            have y3q1 := bXq1.cell (i := 3) rfl
            have y4q1 := bXq1.cell (i := 4) rfl
            have ylq1 := bXq1.lt
            have crq1 := hc0.out q1 hbq1
            have crlq1 : rb < q1.heap.size := World.block_lt_of_cell? _ _ crq1
            clear hrowq1 hatq1 bXq1
            obtain ⟨AX, cX, u2, hrun, hPX, hbX⟩ := row_v hPq1 hm.out (by omega) hbq1 (by have := hbq1.size; have := hz.out; omega) k x false true b3
            have hcX : m + 1 ≤ cX ∧ cX ≤ 2 ^ 63 - 1 := by
              obtain ⟨_, _, e9, q1, q2⟩ := own_form hPX
              cases e9
              exact ⟨q1, q2⟩
            replace hrun := Lib.hid hrun
            have hmX : (M ++ [(k, (⟨x, false, true, b3⟩ : Vr))]).length = m + 1 := by rw [List.length_append, hm.out]; rfl
            have hrowu2 := hat0.out u2 hbX
            obtain ⟨_, ge, _, _, hatu2⟩ := own_flat eV_len hrowu2 (by omega)
            cases ge
            have c0u2 : u2.cell? ⟨g, j * 5, none⟩ = some (.string k1) := by have := hatu2 j _ hjl 0 _ rfl; rw [hpe.out] at this; exact this
            have c1u2 : u2.cell? ⟨g, j * 5 + 1, none⟩ = some (.string x0) := by have := hatu2 j _ hjl 1 _ rfl; rw [hpe.out] at this; exact this
            have c2u2 : u2.cell? ⟨g, j * 5 + 2, none⟩ = some (.bool x1) := by have := hatu2 j _ hjl 2 _ rfl; rw [hpe.out] at this; exact this
            have c3u2 : u2.cell? ⟨g, j * 5 + 3, none⟩ = some (.bool x2) := by have := hatu2 j _ hjl 3 _ rfl; rw [hpe.out] at this; exact this
            have c4u2 : u2.cell? ⟨g, j * 5 + 4, none⟩ = some (.bool x3) := by have := hatu2 j _ hjl 4 _ rfl; rw [hpe.out] at this; exact this
            have glu2 : g < u2.heap.size := World.block_lt_of_cell? _ _ c0u2
            have bXu2 : Blk u2 zb [.string k, .string x, .bool false, .bool true, .bool b3] 80 := (hbX.block zb hzbz).trans bX.out
            have y0u2 := bXu2.cell (i := 0) rfl
            have y1u2 := bXu2.cell (i := 1) rfl
            have y2u2 := bXu2.cell (i := 2) rfl
            have y3u2 := bXu2.cell (i := 3) rfl
            have y4u2 := bXu2.cell (i := 4) rfl
            have ylu2 := bXu2.lt
            have cru2 := hc0.out u2 hbX
            have crlu2 : rb < u2.heap.size := World.block_lt_of_cell? _ _ cru2
            clear hrowu2 hatu2 bXu2
            replace hPX := Lib.hid hPX
            go_upto_region 9 with (at_builtin; refine wpList_append_of rfl _ _ 72 72 rfl _ _ _ u2 rfl rfl hrun.out ?_)
            clear hrun
            clear c0q1 c1q1 c2q1 c3q1 c4q1 y0q1 y1q1 y2q1 y3q1 y4q1 glq1 ylq1 crq1 crlq1
            go_upto_region 9 with fail
            go_quiet (fail)
            obtain ⟨q2, hWq⟩ : ∃ w1, u2.drewN nq = w1 := ⟨_, rfl⟩
            have hPq2 := ownBelow hPX.out (drewN_below u2 nq)
            have hbq2 := drewB hbX nq
            rw [hWq] at hPq2 hbq2
            try rw [hWq]
            clear hWq
            clear c0u2 c1u2 c2u2 c3u2 c4u2 y0u2 y1u2 y2u2 y3u2 y4u2 glu2 ylu2 cru2 crlu2
            have hrowq2 := hat0.out q2 hbq2
            obtain ⟨_, ge, _, _, hatq2⟩ := own_flat eV_len hrowq2 (by omega)
            cases ge
            have c0q2 : q2.cell? ⟨g, j * 5, none⟩ = some (.string k1) := by have := hatq2 j _ hjl 0 _ rfl; rw [hpe.out] at this; exact this
            have c1q2 : q2.cell? ⟨g, j * 5 + 1, none⟩ = some (.string x0) := by have := hatq2 j _ hjl 1 _ rfl; rw [hpe.out] at this; exact this
            have c2q2 : q2.cell? ⟨g, j * 5 + 2, none⟩ = some (.bool x1) := by have := hatq2 j _ hjl 2 _ rfl; rw [hpe.out] at this; exact this
            have c3q2 : q2.cell? ⟨g, j * 5 + 3, none⟩ = some (.bool x2) := by have := hatq2 j _ hjl 3 _ rfl; rw [hpe.out] at this; exact this
            have c4q2 : q2.cell? ⟨g, j * 5 + 4, none⟩ = some (.bool x3) := by have := hatq2 j _ hjl 4 _ rfl; rw [hpe.out] at this; exact this
            have glq2 : g < q2.heap.size := World.block_lt_of_cell? _ _ c0q2
            have bXq2 : Blk q2 zb [.string k, .string x, .bool false, .bool true, .bool b3] 80 := (hbq2.block zb hzbz).trans bX.out
            have y0q2 := bXq2.cell (i := 0) rfl
            have y1q2 := bXq2.cell (i := 1) rfl
            have y2q2 := bXq2.cell (i := 2) rfl
            have y3q2 := bXq2.cell (i := 3) rfl
            have y4q2 := bXq2.cell (i := 4) rfl
            have ylq2 := bXq2.lt
            have crq2 := hc0.out q2 hbq2
            have crlq2 : rb < q2.heap.size := World.block_lt_of_cell? _ _ crq2
            clear hrowq2 hatq2 bXq2
            obtain ⟨AY, cY, u3, hrun, hPY, hbY⟩ := row_v hPq2 hmX (by omega) hbq2 (by have := hbq2.size; have := hz.out; omega) k1 x0 x1 x2 x3
            have hcY : m + 1 + 1 ≤ cY ∧ cY ≤ 2 ^ 63 - 1 := by
              obtain ⟨_, _, e9, q1, q2⟩ := own_form hPY
              cases e9
              exact ⟨q1, q2⟩
            replace hrun := Lib.hid hrun
            have hIE : Hid (InsI false k (⟨x, false, true, b3⟩ : Vr) (L.take (j + 1)) _ _) := Lib.hid (by rw [htk.out]; exact hI.out.gt (p := (k1, (⟨x0, x1, x2, x3⟩ : Vr))) hlt3 hk)
            have hmE : Hid ((M ++ [(k, (⟨x, false, true, b3⟩ : Vr))] ++ [(k1, (⟨x0, x1, x2, x3⟩ : Vr))]).length = _) := Lib.hid (by rw [List.length_append, hmX] <;> rfl)
            have hPE := Lib.hid hPY
            have hbE := Lib.hid hbY
            clear hI hm hP hb
            go_wp2_with (at_builtin; refine wpList_append_of rfl _ _ 72 72 rfl _ _ _ u3 rfl rfl hrun.out ?_)
            clear hrun
            go_roundw
            case rel => exact ⟨j + 1, _, _, _, by omega, by go_num, rfl, hPE, hmE, hIE, hbE⟩
            case measure => simp [intOf]; omega
      · by_cases hk : k1 = k
        · have hs := str_eq hk
          clear hle hle2 hmem
          replace hk := Lib.hid hk
          have hrowwr := hat0.out wr hb.out
          obtain ⟨_, ge, _, _, hatwr⟩ := own_flat eV_len hrowwr (by omega)
          cases ge
          have c0wr : wr.cell? ⟨g, j * 5, none⟩ = some (.string k1) := by have := hatwr j _ hjl 0 _ rfl; rw [hpe.out] at this; exact this
          have c1wr : wr.cell? ⟨g, j * 5 + 1, none⟩ = some (.string x0) := by have := hatwr j _ hjl 1 _ rfl; rw [hpe.out] at this; exact this
          have c2wr : wr.cell? ⟨g, j * 5 + 2, none⟩ = some (.bool x1) := by have := hatwr j _ hjl 2 _ rfl; rw [hpe.out] at this; exact this
          have c3wr : wr.cell? ⟨g, j * 5 + 3, none⟩ = some (.bool x2) := by have := hatwr j _ hjl 3 _ rfl; rw [hpe.out] at this; exact this
          have c4wr : wr.cell? ⟨g, j * 5 + 4, none⟩ = some (.bool x3) := by have := hatwr j _ hjl 4 _ rfl; rw [hpe.out] at this; exact this
          have glwr : g < wr.heap.size := World.block_lt_of_cell? _ _ c0wr
          have bXwr : Blk wr zb [.string k, .string x, .bool false, .bool true, .bool b3] 80 := (hb.out.block zb hzbz).trans bX.out
          have y0wr := bXwr.cell (i := 0) rfl
          have y1wr := bXwr.cell (i := 1) rfl
          have y2wr := bXwr.cell (i := 2) rfl
          have y3wr := bXwr.cell (i := 3) rfl
          have y4wr := bXwr.cell (i := 4) rfl
          have ylwr := bXwr.lt
          have crwr := hc0.out wr hb.out
          have crlwr : rb < wr.heap.size := World.block_lt_of_cell? _ _ crwr
          clear hrowwr hatwr bXwr
          have hlw := hb.out.size
          go_upto_region 6 with fail
          go_quiet (fail)
          obtain ⟨q1, hWq⟩ : ∃ w1, wr.drewN nq = w1 := ⟨_, rfl⟩
          have hPq1 := ownBelow hP.out (drewN_below wr nq)
          have hbq1 := drewB hb.out nq
          rw [hWq] at hPq1 hbq1
          try rw [hWq]
          clear hWq
          clear c0wr c1wr c2wr c3wr c4wr y0wr y1wr y2wr y3wr y4wr glwr ylwr crwr crlwr
          have hrowq1 := hat0.out q1 hbq1
          obtain ⟨_, ge, _, _, hatq1⟩ := own_flat eV_len hrowq1 (by omega)
          cases ge
          have c0q1 : q1.cell? ⟨g, j * 5, none⟩ = some (.string k1) := by have := hatq1 j _ hjl 0 _ rfl; rw [hpe.out] at this; exact this
          have c1q1 : q1.cell? ⟨g, j * 5 + 1, none⟩ = some (.string x0) := by have := hatq1 j _ hjl 1 _ rfl; rw [hpe.out] at this; exact this
          have c2q1 : q1.cell? ⟨g, j * 5 + 2, none⟩ = some (.bool x1) := by have := hatq1 j _ hjl 2 _ rfl; rw [hpe.out] at this; exact this
          have c3q1 : q1.cell? ⟨g, j * 5 + 3, none⟩ = some (.bool x2) := by have := hatq1 j _ hjl 3 _ rfl; rw [hpe.out] at this; exact this
          have c4q1 : q1.cell? ⟨g, j * 5 + 4, none⟩ = some (.bool x3) := by have := hatq1 j _ hjl 4 _ rfl; rw [hpe.out] at this; exact this
          have glq1 : g < q1.heap.size := World.block_lt_of_cell? _ _ c0q1
          have bXq1 : Blk q1 zb [.string k, .string x, .bool false, .bool true, .bool b3] 80 := (hbq1.block zb hzbz).trans bX.out
          have y0q1 := bXq1.cell (i := 0) rfl
          have y1q1 := bXq1.cell (i := 1) rfl
          have y2q1 := bXq1.cell (i := 2) rfl
          have y3q1 := bXq1.cell (i := 3) rfl
          have y4q1 := bXq1.cell (i := 4) rfl
          have ylq1 := bXq1.lt
          have crq1 := hc0.out q1 hbq1
          have crlq1 : rb < q1.heap.size := World.block_lt_of_cell? _ _ crq1
          clear hrowq1 hatq1 bXq1
          go_upto_region 9 with fail
          go_quiet (fail)
          obtain ⟨q2, hWq⟩ : ∃ w1, q1.drewN nq = w1 := ⟨_, rfl⟩
          have hPq2 := ownBelow hPq1 (drewN_below q1 nq)
          have hbq2 := drewB hbq1 nq
          rw [hWq] at hPq2 hbq2
          try rw [hWq]
          clear hWq
          clear c0q1 c1q1 c2q1 c3q1 c4q1 y0q1 y1q1 y2q1 y3q1 y4q1 glq1 ylq1 crq1 crlq1
          have hIE : Hid (InsI false k (⟨x, false, true, b3⟩ : Vr) (L.take (j + 1)) _ _) := Lib.hid (by rw [htk.out]; exact hI.out.skip (p := (k1, (⟨x0, x1, x2, x3⟩ : Vr))) hk.out)
          have hPE := Lib.hid hPq2
          have hmE := hm
          have hbE := Lib.hid hbq2
          clear hI hm hP hb
          go_wp2
          go_roundw
          case rel => exact ⟨j + 1, _, _, _, by omega, by go_num, rfl, hPE, hmE, hIE, hbE⟩
          case measure => simp [intOf]; omega
        · have hs := str_ne hk
          clear hle hle2 hmem
          have hrowwr := hat0.out wr hb.out
          obtain ⟨_, ge, _, _, hatwr⟩ := own_flat eV_len hrowwr (by omega)
          cases ge
          have c0wr : wr.cell? ⟨g, j * 5, none⟩ = some (.string k1) := by have := hatwr j _ hjl 0 _ rfl; rw [hpe.out] at this; exact this
          have c1wr : wr.cell? ⟨g, j * 5 + 1, none⟩ = some (.string x0) := by have := hatwr j _ hjl 1 _ rfl; rw [hpe.out] at this; exact this
          have c2wr : wr.cell? ⟨g, j * 5 + 2, none⟩ = some (.bool x1) := by have := hatwr j _ hjl 2 _ rfl; rw [hpe.out] at this; exact this
          have c3wr : wr.cell? ⟨g, j * 5 + 3, none⟩ = some (.bool x2) := by have := hatwr j _ hjl 3 _ rfl; rw [hpe.out] at this; exact this
          have c4wr : wr.cell? ⟨g, j * 5 + 4, none⟩ = some (.bool x3) := by have := hatwr j _ hjl 4 _ rfl; rw [hpe.out] at this; exact this
          have glwr : g < wr.heap.size := World.block_lt_of_cell? _ _ c0wr
          have bXwr : Blk wr zb [.string k, .string x, .bool false, .bool true, .bool b3] 80 := (hb.out.block zb hzbz).trans bX.out
          have y0wr := bXwr.cell (i := 0) rfl
          have y1wr := bXwr.cell (i := 1) rfl
          have y2wr := bXwr.cell (i := 2) rfl
          have y3wr := bXwr.cell (i := 3) rfl
          have y4wr := bXwr.cell (i := 4) rfl
          have ylwr := bXwr.lt
          have crwr := hc0.out wr hb.out
          have crlwr : rb < wr.heap.size := World.block_lt_of_cell? _ _ crwr
          clear hrowwr hatwr bXwr
          have hlw := hb.out.size
          go_upto_region 6 with fail
          go_quiet (fail)
          obtain ⟨q1, hWq⟩ : ∃ w1, wr.drewN nq = w1 := ⟨_, rfl⟩
          have hPq1 := ownBelow hP.out (drewN_below wr nq)
          have hbq1 := drewB hb.out nq
          rw [hWq] at hPq1 hbq1
          try rw [hWq]
          clear hWq
          clear c0wr c1wr c2wr c3wr c4wr y0wr y1wr y2wr y3wr y4wr glwr ylwr crwr crlwr
          have hrowq1 := hat0.out q1 hbq1
          obtain ⟨_, ge, _, _, hatq1⟩ := own_flat eV_len hrowq1 (by omega)
          cases ge
          have c0q1 : q1.cell? ⟨g, j * 5, none⟩ = some (.string k1) := by have := hatq1 j _ hjl 0 _ rfl; rw [hpe.out] at this; exact this
          have c1q1 : q1.cell? ⟨g, j * 5 + 1, none⟩ = some (.string x0) := by have := hatq1 j _ hjl 1 _ rfl; rw [hpe.out] at this; exact this
          have c2q1 : q1.cell? ⟨g, j * 5 + 2, none⟩ = some (.bool x1) := by have := hatq1 j _ hjl 2 _ rfl; rw [hpe.out] at this; exact this
          have c3q1 : q1.cell? ⟨g, j * 5 + 3, none⟩ = some (.bool x2) := by have := hatq1 j _ hjl 3 _ rfl; rw [hpe.out] at this; exact this
          have c4q1 : q1.cell? ⟨g, j * 5 + 4, none⟩ = some (.bool x3) := by have := hatq1 j _ hjl 4 _ rfl; rw [hpe.out] at this; exact this
          have glq1 : g < q1.heap.size := World.block_lt_of_cell? _ _ c0q1
          have bXq1 : Blk q1 zb [.string k, .string x, .bool false, .bool true, .bool b3] 80 := (hbq1.block zb hzbz).trans bX.out
          have y0q1 := bXq1.cell (i := 0) rfl
          have y1q1 := bXq1.cell (i := 1) rfl
          have y2q1 := bXq1.cell (i := 2) rfl
          have y3q1 := bXq1.cell (i := 3) rfl
          have y4q1 := bXq1.cell (i := 4) rfl
          have ylq1 := bXq1.lt
          have crq1 := hc0.out q1 hbq1
          have crlq1 : rb < q1.heap.size := World.block_lt_of_cell? _ _ crq1
          clear hrowq1 hatq1 bXq1
          go_upto_region 9 with fail
          go_quiet (fail)
          obtain ⟨q2, hWq⟩ : ∃ w1, q1.drewN nq = w1 := ⟨_, rfl⟩
          have hPq2 := ownBelow hPq1 (drewN_below q1 nq)
          have hbq2 := drewB hbq1 nq
          rw [hWq] at hPq2 hbq2
          try rw [hWq]
          clear hWq
          clear c0q1 c1q1 c2q1 c3q1 c4q1 y0q1 y1q1 y2q1 y3q1 y4q1 glq1 ylq1 crq1 crlq1
          have hrowq2 := hat0.out q2 hbq2
          obtain ⟨_, ge, _, _, hatq2⟩ := own_flat eV_len hrowq2 (by omega)
          cases ge
          have c0q2 : q2.cell? ⟨g, j * 5, none⟩ = some (.string k1) := by have := hatq2 j _ hjl 0 _ rfl; rw [hpe.out] at this; exact this
          have c1q2 : q2.cell? ⟨g, j * 5 + 1, none⟩ = some (.string x0) := by have := hatq2 j _ hjl 1 _ rfl; rw [hpe.out] at this; exact this
          have c2q2 : q2.cell? ⟨g, j * 5 + 2, none⟩ = some (.bool x1) := by have := hatq2 j _ hjl 2 _ rfl; rw [hpe.out] at this; exact this
          have c3q2 : q2.cell? ⟨g, j * 5 + 3, none⟩ = some (.bool x2) := by have := hatq2 j _ hjl 3 _ rfl; rw [hpe.out] at this; exact this
          have c4q2 : q2.cell? ⟨g, j * 5 + 4, none⟩ = some (.bool x3) := by have := hatq2 j _ hjl 4 _ rfl; rw [hpe.out] at this; exact this
          have glq2 : g < q2.heap.size := World.block_lt_of_cell? _ _ c0q2
          have bXq2 : Blk q2 zb [.string k, .string x, .bool false, .bool true, .bool b3] 80 := (hbq2.block zb hzbz).trans bX.out
          have y0q2 := bXq2.cell (i := 0) rfl
          have y1q2 := bXq2.cell (i := 1) rfl
          have y2q2 := bXq2.cell (i := 2) rfl
          have y3q2 := bXq2.cell (i := 3) rfl
          have y4q2 := bXq2.cell (i := 4) rfl
          have ylq2 := bXq2.lt
          have crq2 := hc0.out q2 hbq2
          have crlq2 : rb < q2.heap.size := World.block_lt_of_cell? _ _ crq2
          clear hrowq2 hatq2 bXq2
          obtain ⟨AY, cY, u3, hrun, hPY, hbY⟩ := row_v hPq2 hm.out (by omega) hbq2 (by have := hbq2.size; have := hz.out; omega) k1 x0 x1 x2 x3
          have hcY : m + 1 ≤ cY ∧ cY ≤ 2 ^ 63 - 1 := by
            obtain ⟨_, _, e9, q1, q2⟩ := own_form hPY
            cases e9
            exact ⟨q1, q2⟩
          replace hrun := Lib.hid hrun
          have hIE : Hid (InsI false k (⟨x, false, true, b3⟩ : Vr) (L.take (j + 1)) _ _) := Lib.hid (by rw [htk.out]; exact hI.out.more (p := (k1, (⟨x0, x1, x2, x3⟩ : Vr))) hk)
          have hmE : Hid ((M ++ [(k1, (⟨x0, x1, x2, x3⟩ : Vr))]).length = _) := Lib.hid (by rw [List.length_append, hm.out] <;> rfl)
          have hPE := Lib.hid hPY
          have hbE := Lib.hid hbY
          clear hI hm hP hb
          go_wp2_with (at_builtin; refine wpList_append_of rfl _ _ 72 72 rfl _ _ _ u3 rfl rfl hrun.out ?_)
          clear hrun
          go_roundw
          case rel => exact ⟨j + 1, _, _, _, by omega, by go_num, rfl, hPE, hmE, hIE, hbE⟩
          case measure => simp [intOf]; omega
    · obtain rfl : j = n := by omega
      have hj2 : ¬ (j : Int) < (j : Int) := by omega
      have hfull : L.take j = L := by rw [← hn.out]; exact List.take_length
      rw [hfull] at hI
      have crw := hc0.out wr hb.out
      have crlw : rb < wr.heap.size := World.block_lt_of_cell? _ _ crw
      cases d
      · have bXr : Blk wr zb [.string k, .string x, .bool false, .bool true, .bool b3] 80 := (hb.out.block zb hzbz).trans bX.out
        have y0 := bXr.cell (i := 0) rfl
        have y1 := bXr.cell (i := 1) rfl
        have y2 := bXr.cell (i := 2) rfl
        have y3 := bXr.cell (i := 3) rfl
        have y4 := bXr.cell (i := 4) rfl
        have yl := bXr.lt
        obtain ⟨A3, c3, u3, hrun, hP3, hb3⟩ := row_v hP.out hm.out (by omega) hb.out (by have := hb.out.size; have := hz.out; omega) k x false true b3
        have hE := hI.out.end0
        have hlE : (putL false k (⟨x, false, true, b3⟩ : Vr) L).length = m + 1 := by rw [← hE, List.length_append, hm.out] <;> rfl
        rw [hE] at hP3
        have hA := hall.out u3 hb3
        have hfz := hA.blk.frozen 0
        have cr3 := hc0.out u3 hb3
        have crl3 := hA.blk.lt
        obtain ⟨hR, hS⟩ := hA.set (r' := { r with v := putL false k (⟨x, false, true, b3⟩ : Vr) L }) (sv' := .slice A3 (m + 1) c3) 0 (.slice A3 (m + 1) c3) rfl (by show u3.ownsRow 0 _ 5 _ (putL false k (⟨x, false, true, b3⟩ : Vr) L).length _; rw [hlE]; exact own_base hP3 (Nat.zero_le _)) hA.rf hA.ra hA.rt hA.ga
        have hbZ : Below W.heap.size W u3 := hbW.out.trans (hb3.mono (by have := hbW.out.size; have := hz.out; omega))
        have hSt : Stp (fun b => b = rb) W (u3.setCell ⟨rb, 0, none⟩ (.slice A3 (m + 1) c3)) := Stp.trans (S := fun b => b = rb) (S' := fun b => b = rb) (Stp.mono (S := fun _ => False) ⟨hbZ.os, hbZ.tape, hbZ.output, hbZ.size, fun b hb' _ => hbZ.block b hb'⟩ (fun _ _ h => h.elim)) hS (fun _ _ h => h)
        have hfin := Lib.hid (And.intro hR hSt)
        replace hrun := Lib.hid hrun
        clear hA hR hS hSt hbZ hP hm hb hI hP3 hb3 hE hlE bXr
        go_wp2_with (at_builtin; refine wpList_append_of rfl _ _ 72 72 rfl _ _ _ u3 rfl rfl hrun.out ?_)
        exact bodyPost_end (v := .tuple #[]) (results_none rfl _ _ _) rfl ⟨rfl, ⟨_, _, _, _, hfin.out.1⟩, hfin.out.2⟩
      · have hE := hI.out.end1
        have hlE : (putL false k (⟨x, false, true, b3⟩ : Vr) L).length = m := by rw [← hE, hm.out]
        have hP3 := hP.out
        rw [hE] at hP3
        have hA := hall.out wr hb.out
        have hfz := hA.blk.frozen 0
        have cr3 := hc0.out wr hb.out
        have crl3 := hA.blk.lt
        obtain ⟨hR, hS⟩ := hA.set (r' := { r with v := putL false k (⟨x, false, true, b3⟩ : Vr) L }) (sv' := .slice AO m cO) 0 (.slice AO m cO) rfl (by show wr.ownsRow 0 _ 5 _ (putL false k (⟨x, false, true, b3⟩ : Vr) L).length _; rw [hlE]; exact own_base hP3 (Nat.zero_le _)) hA.rf hA.ra hA.rt hA.ga
        have hbZ : Below W.heap.size W wr := hbW.out.trans (hb.out.mono (by have := hbW.out.size; have := hz.out; omega))
        have hSt : Stp (fun b => b = rb) W (wr.setCell ⟨rb, 0, none⟩ (.slice AO m cO)) := Stp.trans (S := fun b => b = rb) (S' := fun b => b = rb) (Stp.mono (S := fun _ => False) ⟨hbZ.os, hbZ.tape, hbZ.output, hbZ.size, fun b hb' _ => hbZ.block b hb'⟩ (fun _ _ h => h.elim)) hS (fun _ _ h => h)
        have hfin := Lib.hid (And.intro hR hSt)
        clear hA hR hS hSt hbZ hP hm hb hI hP3 hE hlE
        go_wp2
        exact bodyPost_end (v := .tuple #[]) (results_none rfl _ _ _) rfl ⟨rfl, ⟨_, _, _, _, hfin.out.1⟩, hfin.out.2⟩
set_option maxRecDepth 100000 in
set_option maxHeartbeats 16000000 in
theorem put_fix (h : RfA W rb r) (hl : r.v.length ≤ 89999) (k x : ByteArray)  :
    Calls Tryz.prog 104 #[ptrV rb, .agg #[.string k, .string x, .bool false, .bool false, .bool true]] W fun e w' => e = .returned (.tuple #[]) ∧ RfA w' rb { r with v := putL false k (⟨x, false, false, true⟩ : Vr) r.v } ∧ Stp (fun b => b = rb) W w' := by
  obtain ⟨sv, sf, sa, st, h⟩ := h
  obtain ⟨A, c, hst, hc, hcm⟩ := own_form h.rv
  subst hst
  obtain ⟨n, hnL⟩ : ∃ n, r.v.length = n := ⟨_, rfl⟩
  obtain ⟨L, hL⟩ : ∃ L, r.v = L := ⟨_, rfl⟩
  rw [hL]
  unfold maxLen at hcm
  obtain ⟨zb, hzb⟩ : ∃ z, W.heap.size = z := ⟨_, rfl⟩
  have bX : Blk (W.alloc (.cells #[.string k, .string x, .bool false, .bool false, .bool true] 80)) zb [.string k, .string x, .bool false, .bool false, .bool true] 80 := by rw [← hzb]; exact Blk.new W _ _
  have hbA : Below W.heap.size W (W.alloc (.cells #[.string k, .string x, .bool false, .bool false, .bool true] 80)) := Below.of_alloc W _
  have hA0 := h.below hbA
  unfold ptrV
  replace bX := Lib.hid bX
  replace hzb := Lib.hid hzb
  clear h
  go_enter Tryz.func104, Tryz.ntmps104
  go_upto_region 1 with fail
  try rw [hzb.out]
  generalize (W.alloc (.cells #[.string k, .string x, .bool false, .bool false, .bool true] 80)) = w0 at hbA hA0 bX ⊢
  obtain ⟨z, hz⟩ : ∃ z, w0.heap.size = z := ⟨_, rfl⟩
  have hrb : rb < z := by have := hA0.blk.lt; omega
  have hzbz : zb < z := by have := bX.out.lt; omega
  have hall := fun (w2 : World) (hb : Below z w0 w2) => hA0.below (hz ▸ hb)
  have hat0 := fun (w2 : World) (hb : Below z w0 w2) => (hall w2 hb).rv
  have hc0 : ∀ (w2 : World), Below z w0 w2 → w2.cell? ⟨rb, 0, none⟩ = some (.slice A r.v.length c) := fun w2 hb => (hall w2 hb).blk.cell (i := 0) rfl
  have hbW : Hid (Below W.heap.size W w0) := Lib.hid hbA
  have hn89 : n ≤ 89999 := by omega
  rw [hnL] at hc hat0 hc0
  rw [hL] at hat0 hnL
  have y0 := bX.out.cell (i := 0) rfl
  have y1 := bX.out.cell (i := 1) rfl
  have y2 := bX.out.cell (i := 2) rfl
  have y3 := bX.out.cell (i := 3) rfl
  have y4 := bX.out.cell (i := 4) rfl
  have yl := bX.out.lt
  replace hall := Lib.hid hall
  replace hat0 := Lib.hid hat0
  replace hc0 := Lib.hid hc0
  have hn := Lib.hid hnL
  replace hz := Lib.hid hz
  replace hL := Lib.hid hL
  clear hA0 hbA hnL
  go_upto_region 3 with fail
  clear y0 y1 y2 y3 y4 yl
  have hP0 : Hid (w0.ownsRow z 80 5 (.slice none 0 0) 0 (flat eV ([] : Es Vr))) := Lib.hid (World.ownsRow_nil _ _ _ _)
  have hI0 : Hid (InsI false k (⟨x, false, false, true⟩ : Vr) (L.take 0) [] false) := Lib.hid (InsI.start false k (⟨x, false, false, true⟩ : Vr))
  have hb0 : Hid (Below z w0 w0) := Lib.hid (Below.refl _ _)
  go_wp2
  go_loopw [4, 5, 6] (fun ov dv nv wr => ∃ (j m : Nat) (M : Es Vr) (d : Bool), j ≤ n ∧ nv = .int .i64 (j : Int) ∧ dv = .bool d ∧ Hid (wr.ownsRow z 80 5 ov m (flat eV M)) ∧ Hid (M.length = m) ∧ Hid (InsI false k (⟨x, false, false, true⟩ : Vr) (L.take j) M d) ∧ Hid (Below z w0 wr)) (fun _ _ nv _ => n - (intOf nv).toNat)
  case atStart => exact ⟨0, 0, [], false, Nat.zero_le _, rfl, rfl, hP0, Lib.hid rfl, hI0, hb0⟩
  case round =>
    clear hP0 hb0 hI0
    obtain ⟨j, m, M, d, hj, rfl, rfl, hP, hm, hI, hb⟩ := hrel
    obtain ⟨AO, cO, hov, hcO, hcOm⟩ := own_form hP.out
    subst hov
    unfold maxLen at hcOm
    have hml : m ≤ 90001 := by
      have := hI.out.len
      rw [List.length_take, hm.out] at this
      omega
    by_cases hlt : j < n
    · have hjn : j < L.length := by rw [hn.out]; exact hlt
      have hjl := List.getElem?_eq_getElem hjn
      obtain ⟨g, rfl, _, _, _⟩ := own_flat eV_len (hat0.out wr hb.out) (by omega)
      have hj1 : (0 : Int) ≤ (j : Int) := by omega
      have hj2 : (j : Int) < (n : Int) := by omega
      have htk : L.take (j + 1) = L.take j ++ [L[j]] := List.take_succ_eq_append_getElem hjn
      have hmem : L[j] ∈ L := List.getElem_mem hjn
      obtain ⟨p, hpe⟩ : ∃ p, L[j] = p := ⟨_, rfl⟩
      rw [hpe] at htk hmem
      obtain ⟨k1, ⟨x0, x1, x2, x3⟩⟩ := p
      replace htk := Lib.hid htk
      replace hpe := Lib.hid hpe
      have hle := less_eq k1 k
      have hle2 := less_eq k k1
      cases d
      · by_cases hk : k1 = k
        · have hs := str_eq hk
          have hl1 : Op.bytesLess k1.toList k.toList = false := by rw [hle, hk]; exact decide_eq_false (List.lt_irrefl _)
          clear hle hle2 hmem
          replace hk := Lib.hid hk
          have hrowwr := hat0.out wr hb.out
          obtain ⟨_, ge, _, _, hatwr⟩ := own_flat eV_len hrowwr (by omega)
          cases ge
          have c0wr : wr.cell? ⟨g, j * 5, none⟩ = some (.string k1) := by have := hatwr j _ hjl 0 _ rfl; rw [hpe.out] at this; exact this
          have c1wr : wr.cell? ⟨g, j * 5 + 1, none⟩ = some (.string x0) := by have := hatwr j _ hjl 1 _ rfl; rw [hpe.out] at this; exact this
          have c2wr : wr.cell? ⟨g, j * 5 + 2, none⟩ = some (.bool x1) := by have := hatwr j _ hjl 2 _ rfl; rw [hpe.out] at this; exact this
          have c3wr : wr.cell? ⟨g, j * 5 + 3, none⟩ = some (.bool x2) := by have := hatwr j _ hjl 3 _ rfl; rw [hpe.out] at this; exact this
          have c4wr : wr.cell? ⟨g, j * 5 + 4, none⟩ = some (.bool x3) := by have := hatwr j _ hjl 4 _ rfl; rw [hpe.out] at this; exact this
          have glwr : g < wr.heap.size := World.block_lt_of_cell? _ _ c0wr
          have bXwr : Blk wr zb [.string k, .string x, .bool false, .bool false, .bool true] 80 := (hb.out.block zb hzbz).trans bX.out
          have y0wr := bXwr.cell (i := 0) rfl
          have y1wr := bXwr.cell (i := 1) rfl
          have y2wr := bXwr.cell (i := 2) rfl
          have y3wr := bXwr.cell (i := 3) rfl
          have y4wr := bXwr.cell (i := 4) rfl
          have ylwr := bXwr.lt
          have crwr := hc0.out wr hb.out
          have crlwr : rb < wr.heap.size := World.block_lt_of_cell? _ _ crwr
          clear hrowwr hatwr bXwr
          have hlw := hb.out.size
          go_upto_region 6 with fail
          go_quiet (fail)
          obtain ⟨q1, hWq⟩ : ∃ w1, wr.drewN nq = w1 := ⟨_, rfl⟩
          have hPq1 := ownBelow hP.out (drewN_below wr nq)
          have hbq1 := drewB hb.out nq
          rw [hWq] at hPq1 hbq1
          try rw [hWq]
          clear hWq
          clear c0wr c1wr c2wr c3wr c4wr y0wr y1wr y2wr y3wr y4wr glwr ylwr crwr crlwr
          have hrowq1 := hat0.out q1 hbq1
          obtain ⟨_, ge, _, _, hatq1⟩ := own_flat eV_len hrowq1 (by omega)
          cases ge
          have c0q1 : q1.cell? ⟨g, j * 5, none⟩ = some (.string k1) := by have := hatq1 j _ hjl 0 _ rfl; rw [hpe.out] at this; exact this
          have c1q1 : q1.cell? ⟨g, j * 5 + 1, none⟩ = some (.string x0) := by have := hatq1 j _ hjl 1 _ rfl; rw [hpe.out] at this; exact this
          have c2q1 : q1.cell? ⟨g, j * 5 + 2, none⟩ = some (.bool x1) := by have := hatq1 j _ hjl 2 _ rfl; rw [hpe.out] at this; exact this
          have c3q1 : q1.cell? ⟨g, j * 5 + 3, none⟩ = some (.bool x2) := by have := hatq1 j _ hjl 3 _ rfl; rw [hpe.out] at this; exact this
          have c4q1 : q1.cell? ⟨g, j * 5 + 4, none⟩ = some (.bool x3) := by have := hatq1 j _ hjl 4 _ rfl; rw [hpe.out] at this; exact this
          have glq1 : g < q1.heap.size := World.block_lt_of_cell? _ _ c0q1
          have bXq1 : Blk q1 zb [.string k, .string x, .bool false, .bool false, .bool true] 80 := (hbq1.block zb hzbz).trans bX.out
          have y0q1 := bXq1.cell (i := 0) rfl
          have y1q1 := bXq1.cell (i := 1) rfl
          have y2q1 := bXq1.cell (i := 2) rfl
          have y3q1 := bXq1.cell (i := 3) rfl
          have y4q1 := bXq1.cell (i := 4) rfl
          have ylq1 := bXq1.lt
          have crq1 := hc0.out q1 hbq1
          have crlq1 : rb < q1.heap.size := World.block_lt_of_cell? _ _ crq1
          clear hrowq1 hatq1 bXq1
          obtain ⟨AX, cX, u2, hrun, hPX, hbX⟩ := row_v hPq1 hm.out (by omega) hbq1 (by have := hbq1.size; have := hz.out; omega) k x false false true
          have hcX : m + 1 ≤ cX ∧ cX ≤ 2 ^ 63 - 1 := by
            obtain ⟨_, _, e9, q1, q2⟩ := own_form hPX
            cases e9
            exact ⟨q1, q2⟩
          replace hrun := Lib.hid hrun
          have hmX : (M ++ [(k, (⟨x, false, false, true⟩ : Vr))]).length = m + 1 := by rw [List.length_append, hm.out]; rfl
          have hrowu2 := hat0.out u2 hbX
          obtain ⟨_, ge, _, _, hatu2⟩ := own_flat eV_len hrowu2 (by omega)
          cases ge
          have c0u2 : u2.cell? ⟨g, j * 5, none⟩ = some (.string k1) := by have := hatu2 j _ hjl 0 _ rfl; rw [hpe.out] at this; exact this
          have c1u2 : u2.cell? ⟨g, j * 5 + 1, none⟩ = some (.string x0) := by have := hatu2 j _ hjl 1 _ rfl; rw [hpe.out] at this; exact this
          have c2u2 : u2.cell? ⟨g, j * 5 + 2, none⟩ = some (.bool x1) := by have := hatu2 j _ hjl 2 _ rfl; rw [hpe.out] at this; exact this
          have c3u2 : u2.cell? ⟨g, j * 5 + 3, none⟩ = some (.bool x2) := by have := hatu2 j _ hjl 3 _ rfl; rw [hpe.out] at this; exact this
          have c4u2 : u2.cell? ⟨g, j * 5 + 4, none⟩ = some (.bool x3) := by have := hatu2 j _ hjl 4 _ rfl; rw [hpe.out] at this; exact this
          have glu2 : g < u2.heap.size := World.block_lt_of_cell? _ _ c0u2
          have bXu2 : Blk u2 zb [.string k, .string x, .bool false, .bool false, .bool true] 80 := (hbX.block zb hzbz).trans bX.out
          have y0u2 := bXu2.cell (i := 0) rfl
          have y1u2 := bXu2.cell (i := 1) rfl
          have y2u2 := bXu2.cell (i := 2) rfl
          have y3u2 := bXu2.cell (i := 3) rfl
          have y4u2 := bXu2.cell (i := 4) rfl
          have ylu2 := bXu2.lt
          have cru2 := hc0.out u2 hbX
          have crlu2 : rb < u2.heap.size := World.block_lt_of_cell? _ _ cru2
          clear hrowu2 hatu2 bXu2
          replace hPX := Lib.hid hPX
          go_upto_region 9 with (at_builtin; refine wpList_append_of rfl _ _ 72 72 rfl _ _ _ u2 rfl rfl hrun.out ?_)
          clear hrun
          clear c0q1 c1q1 c2q1 c3q1 c4q1 y0q1 y1q1 y2q1 y3q1 y4q1 glq1 ylq1 crq1 crlq1
          go_upto_region 9 with fail
          go_quiet (fail)
          obtain ⟨q2, hWq⟩ : ∃ w1, u2.drewN nq = w1 := ⟨_, rfl⟩
          have hPq2 := ownBelow hPX.out (drewN_below u2 nq)
          have hbq2 := drewB hbX nq
          rw [hWq] at hPq2 hbq2
          try rw [hWq]
          clear hWq
          clear c0u2 c1u2 c2u2 c3u2 c4u2 y0u2 y1u2 y2u2 y3u2 y4u2 glu2 ylu2 cru2 crlu2
          have hIE : Hid (InsI false k (⟨x, false, false, true⟩ : Vr) (L.take (j + 1)) _ _) := Lib.hid (by rw [htk.out]; exact hI.out.eq (p := (k1, (⟨x0, x1, x2, x3⟩ : Vr))) hk.out)
          have hPE := Lib.hid hPq2
          have hmE := Lib.hid hmX
          have hbE := Lib.hid hbq2
          clear hI hm hP hb
          go_wp2
          go_roundw
          case rel => exact ⟨j + 1, _, _, _, by omega, by go_num, rfl, hPE, hmE, hIE, hbE⟩
          case measure => simp [intOf]; omega
        · have hs := str_ne hk
          by_cases hlt3 : bytesOf k1 < bytesOf k
          · have hl1 : Op.bytesLess k1.toList k.toList = true := by rw [hle]; exact decide_eq_true hlt3
            clear hle hle2 hmem
            have hrowwr := hat0.out wr hb.out
            obtain ⟨_, ge, _, _, hatwr⟩ := own_flat eV_len hrowwr (by omega)
            cases ge
            have c0wr : wr.cell? ⟨g, j * 5, none⟩ = some (.string k1) := by have := hatwr j _ hjl 0 _ rfl; rw [hpe.out] at this; exact this
            have c1wr : wr.cell? ⟨g, j * 5 + 1, none⟩ = some (.string x0) := by have := hatwr j _ hjl 1 _ rfl; rw [hpe.out] at this; exact this
            have c2wr : wr.cell? ⟨g, j * 5 + 2, none⟩ = some (.bool x1) := by have := hatwr j _ hjl 2 _ rfl; rw [hpe.out] at this; exact this
            have c3wr : wr.cell? ⟨g, j * 5 + 3, none⟩ = some (.bool x2) := by have := hatwr j _ hjl 3 _ rfl; rw [hpe.out] at this; exact this
            have c4wr : wr.cell? ⟨g, j * 5 + 4, none⟩ = some (.bool x3) := by have := hatwr j _ hjl 4 _ rfl; rw [hpe.out] at this; exact this
            have glwr : g < wr.heap.size := World.block_lt_of_cell? _ _ c0wr
            have bXwr : Blk wr zb [.string k, .string x, .bool false, .bool false, .bool true] 80 := (hb.out.block zb hzbz).trans bX.out
            have y0wr := bXwr.cell (i := 0) rfl
            have y1wr := bXwr.cell (i := 1) rfl
            have y2wr := bXwr.cell (i := 2) rfl
            have y3wr := bXwr.cell (i := 3) rfl
            have y4wr := bXwr.cell (i := 4) rfl
            have ylwr := bXwr.lt
            have crwr := hc0.out wr hb.out
            have crlwr : rb < wr.heap.size := World.block_lt_of_cell? _ _ crwr
            clear hrowwr hatwr bXwr
            have hlw := hb.out.size
            go_upto_region 6 with fail
            go_quiet (fail)
            obtain ⟨q1, hWq⟩ : ∃ w1, wr.drewN nq = w1 := ⟨_, rfl⟩
            have hPq1 := ownBelow hP.out (drewN_below wr nq)
            have hbq1 := drewB hb.out nq
            rw [hWq] at hPq1 hbq1
            try rw [hWq]
            clear hWq
            clear c0wr c1wr c2wr c3wr c4wr y0wr y1wr y2wr y3wr y4wr glwr ylwr crwr crlwr
            have hrowq1 := hat0.out q1 hbq1
            obtain ⟨_, ge, _, _, hatq1⟩ := own_flat eV_len hrowq1 (by omega)
            cases ge
            have c0q1 : q1.cell? ⟨g, j * 5, none⟩ = some (.string k1) := by have := hatq1 j _ hjl 0 _ rfl; rw [hpe.out] at this; exact this
            have c1q1 : q1.cell? ⟨g, j * 5 + 1, none⟩ = some (.string x0) := by have := hatq1 j _ hjl 1 _ rfl; rw [hpe.out] at this; exact this
            have c2q1 : q1.cell? ⟨g, j * 5 + 2, none⟩ = some (.bool x1) := by have := hatq1 j _ hjl 2 _ rfl; rw [hpe.out] at this; exact this
            have c3q1 : q1.cell? ⟨g, j * 5 + 3, none⟩ = some (.bool x2) := by have := hatq1 j _ hjl 3 _ rfl; rw [hpe.out] at this; exact this
            have c4q1 : q1.cell? ⟨g, j * 5 + 4, none⟩ = some (.bool x3) := by have := hatq1 j _ hjl 4 _ rfl; rw [hpe.out] at this; exact this
            have glq1 : g < q1.heap.size := World.block_lt_of_cell? _ _ c0q1
            have bXq1 : Blk q1 zb [.string k, .string x, .bool false, .bool false, .bool true] 80 := (hbq1.block zb hzbz).trans bX.out
            have y0q1 := bXq1.cell (i := 0) rfl
            have y1q1 := bXq1.cell (i := 1) rfl
            have y2q1 := bXq1.cell (i := 2) rfl
            have y3q1 := bXq1.cell (i := 3) rfl
            have y4q1 := bXq1.cell (i := 4) rfl
            have ylq1 := bXq1.lt
            have crq1 := hc0.out q1 hbq1
            have crlq1 : rb < q1.heap.size := World.block_lt_of_cell? _ _ crq1
            clear hrowq1 hatq1 bXq1
            go_upto_region 9 with fail
            go_quiet (fail)
            obtain ⟨q2, hWq⟩ : ∃ w1, q1.drewN nq = w1 := ⟨_, rfl⟩
            have hPq2 := ownBelow hPq1 (drewN_below q1 nq)
            have hbq2 := drewB hbq1 nq
            rw [hWq] at hPq2 hbq2
            try rw [hWq]
            clear hWq
            clear c0q1 c1q1 c2q1 c3q1 c4q1 y0q1 y1q1 y2q1 y3q1 y4q1 glq1 ylq1 crq1 crlq1
            have hrowq2 := hat0.out q2 hbq2
            obtain ⟨_, ge, _, _, hatq2⟩ := own_flat eV_len hrowq2 (by omega)
            cases ge
            have c0q2 : q2.cell? ⟨g, j * 5, none⟩ = some (.string k1) := by have := hatq2 j _ hjl 0 _ rfl; rw [hpe.out] at this; exact this
            have c1q2 : q2.cell? ⟨g, j * 5 + 1, none⟩ = some (.string x0) := by have := hatq2 j _ hjl 1 _ rfl; rw [hpe.out] at this; exact this
            have c2q2 : q2.cell? ⟨g, j * 5 + 2, none⟩ = some (.bool x1) := by have := hatq2 j _ hjl 2 _ rfl; rw [hpe.out] at this; exact this
            have c3q2 : q2.cell? ⟨g, j * 5 + 3, none⟩ = some (.bool x2) := by have := hatq2 j _ hjl 3 _ rfl; rw [hpe.out] at this; exact this
            have c4q2 : q2.cell? ⟨g, j * 5 + 4, none⟩ = some (.bool x3) := by have := hatq2 j _ hjl 4 _ rfl; rw [hpe.out] at this; exact this
            have glq2 : g < q2.heap.size := World.block_lt_of_cell? _ _ c0q2
            have bXq2 : Blk q2 zb [.string k, .string x, .bool false, .bool false, .bool true] 80 := (hbq2.block zb hzbz).trans bX.out
            have y0q2 := bXq2.cell (i := 0) rfl
            have y1q2 := bXq2.cell (i := 1) rfl
            have y2q2 := bXq2.cell (i := 2) rfl
            have y3q2 := bXq2.cell (i := 3) rfl
            have y4q2 := bXq2.cell (i := 4) rfl
            have ylq2 := bXq2.lt
            have crq2 := hc0.out q2 hbq2
            have crlq2 : rb < q2.heap.size := World.block_lt_of_cell? _ _ crq2
            clear hrowq2 hatq2 bXq2
            obtain ⟨AY, cY, u3, hrun, hPY, hbY⟩ := row_v hPq2 hm.out (by omega) hbq2 (by have := hbq2.size; have := hz.out; omega) k1 x0 x1 x2 x3
            have hcY : m + 1 ≤ cY ∧ cY ≤ 2 ^ 63 - 1 := by
              obtain ⟨_, _, e9, q1, q2⟩ := own_form hPY
              cases e9
              exact ⟨q1, q2⟩
            replace hrun := Lib.hid hrun
            have hIE : Hid (InsI false k (⟨x, false, false, true⟩ : Vr) (L.take (j + 1)) _ _) := Lib.hid (by rw [htk.out]; exact hI.out.lt (p := (k1, (⟨x0, x1, x2, x3⟩ : Vr))) hlt3)
            have hmE : Hid ((M ++ [(k1, (⟨x0, x1, x2, x3⟩ : Vr))]).length = _) := Lib.hid (by rw [List.length_append, hm.out] <;> rfl)
            have hPE := Lib.hid hPY
            have hbE := Lib.hid hbY
            clear hI hm hP hb
            go_wp2_with (at_builtin; refine wpList_append_of rfl _ _ 72 72 rfl _ _ _ u3 rfl rfl hrun.out ?_)
            clear hrun
            go_roundw
            case rel => exact ⟨j + 1, _, _, _, by omega, by go_num, rfl, hPE, hmE, hIE, hbE⟩
            case measure => simp [intOf]; omega
          · have hl1 : Op.bytesLess k1.toList k.toList = false := by rw [hle]; exact decide_eq_false hlt3
            clear hle hle2 hmem
            have hrowwr := hat0.out wr hb.out
            obtain ⟨_, ge, _, _, hatwr⟩ := own_flat eV_len hrowwr (by omega)
            cases ge
            have c0wr : wr.cell? ⟨g, j * 5, none⟩ = some (.string k1) := by have := hatwr j _ hjl 0 _ rfl; rw [hpe.out] at this; exact this
            have c1wr : wr.cell? ⟨g, j * 5 + 1, none⟩ = some (.string x0) := by have := hatwr j _ hjl 1 _ rfl; rw [hpe.out] at this; exact this
            have c2wr : wr.cell? ⟨g, j * 5 + 2, none⟩ = some (.bool x1) := by have := hatwr j _ hjl 2 _ rfl; rw [hpe.out] at this; exact this
            have c3wr : wr.cell? ⟨g, j * 5 + 3, none⟩ = some (.bool x2) := by have := hatwr j _ hjl 3 _ rfl; rw [hpe.out] at this; exact this
            have c4wr : wr.cell? ⟨g, j * 5 + 4, none⟩ = some (.bool x3) := by have := hatwr j _ hjl 4 _ rfl; rw [hpe.out] at this; exact this
            have glwr : g < wr.heap.size := World.block_lt_of_cell? _ _ c0wr
            have bXwr : Blk wr zb [.string k, .string x, .bool false, .bool false, .bool true] 80 := (hb.out.block zb hzbz).trans bX.out
            have y0wr := bXwr.cell (i := 0) rfl
            have y1wr := bXwr.cell (i := 1) rfl
            have y2wr := bXwr.cell (i := 2) rfl
            have y3wr := bXwr.cell (i := 3) rfl
            have y4wr := bXwr.cell (i := 4) rfl
            have ylwr := bXwr.lt
            have crwr := hc0.out wr hb.out
            have crlwr : rb < wr.heap.size := World.block_lt_of_cell? _ _ crwr
            clear hrowwr hatwr bXwr
            have hlw := hb.out.size
            go_upto_region 6 with fail
            go_quiet (fail)
            obtain ⟨q1, hWq⟩ : ∃ w1, wr.drewN nq = w1 := ⟨_, rfl⟩
            have hPq1 := ownBelow hP.out (drewN_below wr nq)
            have hbq1 := drewB hb.out nq
            rw [hWq] at hPq1 hbq1
            try rw [hWq]
            clear hWq
            clear c0wr c1wr c2wr c3wr c4wr y0wr y1wr y2wr y3wr y4wr glwr ylwr crwr crlwr
            have hrowq1 := hat0.out q1 hbq1
            obtain ⟨_, ge, _, _, hatq1⟩ := own_flat eV_len hrowq1 (by omega)
            cases ge
            have c0q1 : q1.cell? ⟨g, j * 5, none⟩ = some (.string k1) := by have := hatq1 j _ hjl 0 _ rfl; rw [hpe.out] at this; exact this
            have c1q1 : q1.cell? ⟨g, j * 5 + 1, none⟩ = some (.string x0) := by have := hatq1 j _ hjl 1 _ rfl; rw [hpe.out] at this; exact this
            have c2q1 : q1.cell? ⟨g, j * 5 + 2, none⟩ = some (.bool x1) := by have := hatq1 j _ hjl 2 _ rfl; rw [hpe.out] at this; exact this
            have c3q1 : q1.cell? ⟨g, j * 5 + 3, none⟩ = some (.bool x2) := by have := hatq1 j _ hjl 3 _ rfl; rw [hpe.out] at this; exact this
            have c4q1 : q1.cell? ⟨g, j * 5 + 4, none⟩ = some (.bool x3) := by have := hatq1 j _ hjl 4 _ rfl; rw [hpe.out] at this; exact this
            have glq1 : g < q1.heap.size := World.block_lt_of_cell? _ _ c0q1
            have bXq1 : Blk q1 zb [.string k, .string x, .bool false, .bool false, .bool true] 80 := (hbq1.block zb hzbz).trans bX.out
            have y0q1 := bXq1.cell (i := 0) rfl
            have y1q1 := bXq1.cell (i := 1) rfl
            have y2q1 := bXq1.cell (i := 2) rfl
            have y3q1 := bXq1.cell (i := 3) rfl
            have y4q1 := bXq1.cell (i := 4) rfl
            have ylq1 := bXq1.lt
            have crq1 := hc0.out q1 hbq1
            have crlq1 : rb < q1.heap.size := World.block_lt_of_cell? _ _ crq1
            clear hrowq1 hatq1 bXq1
            obtain ⟨AX, cX, u2, hrun, hPX, hbX⟩ := row_v hPq1 hm.out (by omega) hbq1 (by have := hbq1.size; have := hz.out; omega) k x false false true
            have hcX : m + 1 ≤ cX ∧ cX ≤ 2 ^ 63 - 1 := by
              obtain ⟨_, _, e9, q1, q2⟩ := own_form hPX
              cases e9
              exact ⟨q1, q2⟩
            replace hrun := Lib.hid hrun
            have hmX : (M ++ [(k, (⟨x, false, false, true⟩ : Vr))]).length = m + 1 := by rw [List.length_append, hm.out]; rfl
            have hrowu2 := hat0.out u2 hbX
            obtain ⟨_, ge, _, _, hatu2⟩ := own_flat eV_len hrowu2 (by omega)
            cases ge
            have c0u2 : u2.cell? ⟨g, j * 5, none⟩ = some (.string k1) := by have := hatu2 j _ hjl 0 _ rfl; rw [hpe.out] at this; exact this
            have c1u2 : u2.cell? ⟨g, j * 5 + 1, none⟩ = some (.string x0) := by have := hatu2 j _ hjl 1 _ rfl; rw [hpe.out] at this; exact this
            have c2u2 : u2.cell? ⟨g, j * 5 + 2, none⟩ = some (.bool x1) := by have := hatu2 j _ hjl 2 _ rfl; rw [hpe.out] at this; exact this
            have c3u2 : u2.cell? ⟨g, j * 5 + 3, none⟩ = some (.bool x2) := by have := hatu2 j _ hjl 3 _ rfl; rw [hpe.out] at this; exact this
            have c4u2 : u2.cell? ⟨g, j * 5 + 4, none⟩ = some (.bool x3) := by have := hatu2 j _ hjl 4 _ rfl; rw [hpe.out] at this; exact this
            have glu2 : g < u2.heap.size := World.block_lt_of_cell? _ _ c0u2
            have bXu2 : Blk u2 zb [.string k, .string x, .bool false, .bool false, .bool true] 80 := (hbX.block zb hzbz).trans bX.out
            have y0u2 := bXu2.cell (i := 0) rfl
            have y1u2 := bXu2.cell (i := 1) rfl
            have y2u2 := bXu2.cell (i := 2) rfl
            have y3u2 := bXu2.cell (i := 3) rfl
            have y4u2 := bXu2.cell (i := 4) rfl
            have ylu2 := bXu2.lt
            have cru2 := hc0.out u2 hbX
            have crlu2 : rb < u2.heap.size := World.block_lt_of_cell? _ _ cru2
            clear hrowu2 hatu2 bXu2
            replace hPX := Lib.hid hPX
            go_upto_region 9 with (at_builtin; refine wpList_append_of rfl _ _ 72 72 rfl _ _ _ u2 rfl rfl hrun.out ?_)
            clear hrun
            clear c0q1 c1q1 c2q1 c3q1 c4q1 y0q1 y1q1 y2q1 y3q1 y4q1 glq1 ylq1 crq1 crlq1
            go_upto_region 9 with fail
            go_quiet (fail)
            obtain ⟨q2, hWq⟩ : ∃ w1, u2.drewN nq = w1 := ⟨_, rfl⟩
            have hPq2 := ownBelow hPX.out (drewN_below u2 nq)
            have hbq2 := drewB hbX nq
            rw [hWq] at hPq2 hbq2
            try rw [hWq]
            clear hWq
            clear c0u2 c1u2 c2u2 c3u2 c4u2 y0u2 y1u2 y2u2 y3u2 y4u2 glu2 ylu2 cru2 crlu2
            have hrowq2 := hat0.out q2 hbq2
            obtain ⟨_, ge, _, _, hatq2⟩ := own_flat eV_len hrowq2 (by omega)
            cases ge
            have c0q2 : q2.cell? ⟨g, j * 5, none⟩ = some (.string k1) := by have := hatq2 j _ hjl 0 _ rfl; rw [hpe.out] at this; exact this
            have c1q2 : q2.cell? ⟨g, j * 5 + 1, none⟩ = some (.string x0) := by have := hatq2 j _ hjl 1 _ rfl; rw [hpe.out] at this; exact this
            have c2q2 : q2.cell? ⟨g, j * 5 + 2, none⟩ = some (.bool x1) := by have := hatq2 j _ hjl 2 _ rfl; rw [hpe.out] at this; exact this
            have c3q2 : q2.cell? ⟨g, j * 5 + 3, none⟩ = some (.bool x2) := by have := hatq2 j _ hjl 3 _ rfl; rw [hpe.out] at this; exact this
            have c4q2 : q2.cell? ⟨g, j * 5 + 4, none⟩ = some (.bool x3) := by have := hatq2 j _ hjl 4 _ rfl; rw [hpe.out] at this; exact this
            have glq2 : g < q2.heap.size := World.block_lt_of_cell? _ _ c0q2
            have bXq2 : Blk q2 zb [.string k, .string x, .bool false, .bool false, .bool true] 80 := (hbq2.block zb hzbz).trans bX.out
            have y0q2 := bXq2.cell (i := 0) rfl
            have y1q2 := bXq2.cell (i := 1) rfl
            have y2q2 := bXq2.cell (i := 2) rfl
            have y3q2 := bXq2.cell (i := 3) rfl
            have y4q2 := bXq2.cell (i := 4) rfl
            have ylq2 := bXq2.lt
            have crq2 := hc0.out q2 hbq2
            have crlq2 : rb < q2.heap.size := World.block_lt_of_cell? _ _ crq2
            clear hrowq2 hatq2 bXq2
            obtain ⟨AY, cY, u3, hrun, hPY, hbY⟩ := row_v hPq2 hmX (by omega) hbq2 (by have := hbq2.size; have := hz.out; omega) k1 x0 x1 x2 x3
            have hcY : m + 1 + 1 ≤ cY ∧ cY ≤ 2 ^ 63 - 1 := by
              obtain ⟨_, _, e9, q1, q2⟩ := own_form hPY
              cases e9
              exact ⟨q1, q2⟩
            replace hrun := Lib.hid hrun
            have hIE : Hid (InsI false k (⟨x, false, false, true⟩ : Vr) (L.take (j + 1)) _ _) := Lib.hid (by rw [htk.out]; exact hI.out.gt (p := (k1, (⟨x0, x1, x2, x3⟩ : Vr))) hlt3 hk)
            have hmE : Hid ((M ++ [(k, (⟨x, false, false, true⟩ : Vr))] ++ [(k1, (⟨x0, x1, x2, x3⟩ : Vr))]).length = _) := Lib.hid (by rw [List.length_append, hmX] <;> rfl)
            have hPE := Lib.hid hPY
            have hbE := Lib.hid hbY
            clear hI hm hP hb
            go_wp2_with (at_builtin; refine wpList_append_of rfl _ _ 72 72 rfl _ _ _ u3 rfl rfl hrun.out ?_)
            clear hrun
            go_roundw
            case rel => exact ⟨j + 1, _, _, _, by omega, by go_num, rfl, hPE, hmE, hIE, hbE⟩
            case measure => simp [intOf]; omega
      · by_cases hk : k1 = k
        · have hs := str_eq hk
          clear hle hle2 hmem
          replace hk := Lib.hid hk
          have hrowwr := hat0.out wr hb.out
          obtain ⟨_, ge, _, _, hatwr⟩ := own_flat eV_len hrowwr (by omega)
          cases ge
          have c0wr : wr.cell? ⟨g, j * 5, none⟩ = some (.string k1) := by have := hatwr j _ hjl 0 _ rfl; rw [hpe.out] at this; exact this
          have c1wr : wr.cell? ⟨g, j * 5 + 1, none⟩ = some (.string x0) := by have := hatwr j _ hjl 1 _ rfl; rw [hpe.out] at this; exact this
          have c2wr : wr.cell? ⟨g, j * 5 + 2, none⟩ = some (.bool x1) := by have := hatwr j _ hjl 2 _ rfl; rw [hpe.out] at this; exact this
          have c3wr : wr.cell? ⟨g, j * 5 + 3, none⟩ = some (.bool x2) := by have := hatwr j _ hjl 3 _ rfl; rw [hpe.out] at this; exact this
          have c4wr : wr.cell? ⟨g, j * 5 + 4, none⟩ = some (.bool x3) := by have := hatwr j _ hjl 4 _ rfl; rw [hpe.out] at this; exact this
          have glwr : g < wr.heap.size := World.block_lt_of_cell? _ _ c0wr
          have bXwr : Blk wr zb [.string k, .string x, .bool false, .bool false, .bool true] 80 := (hb.out.block zb hzbz).trans bX.out
          have y0wr := bXwr.cell (i := 0) rfl
          have y1wr := bXwr.cell (i := 1) rfl
          have y2wr := bXwr.cell (i := 2) rfl
          have y3wr := bXwr.cell (i := 3) rfl
          have y4wr := bXwr.cell (i := 4) rfl
          have ylwr := bXwr.lt
          have crwr := hc0.out wr hb.out
          have crlwr : rb < wr.heap.size := World.block_lt_of_cell? _ _ crwr
          clear hrowwr hatwr bXwr
          have hlw := hb.out.size
          go_upto_region 6 with fail
          go_quiet (fail)
          obtain ⟨q1, hWq⟩ : ∃ w1, wr.drewN nq = w1 := ⟨_, rfl⟩
          have hPq1 := ownBelow hP.out (drewN_below wr nq)
          have hbq1 := drewB hb.out nq
          rw [hWq] at hPq1 hbq1
          try rw [hWq]
          clear hWq
          clear c0wr c1wr c2wr c3wr c4wr y0wr y1wr y2wr y3wr y4wr glwr ylwr crwr crlwr
          have hrowq1 := hat0.out q1 hbq1
          obtain ⟨_, ge, _, _, hatq1⟩ := own_flat eV_len hrowq1 (by omega)
          cases ge
          have c0q1 : q1.cell? ⟨g, j * 5, none⟩ = some (.string k1) := by have := hatq1 j _ hjl 0 _ rfl; rw [hpe.out] at this; exact this
          have c1q1 : q1.cell? ⟨g, j * 5 + 1, none⟩ = some (.string x0) := by have := hatq1 j _ hjl 1 _ rfl; rw [hpe.out] at this; exact this
          have c2q1 : q1.cell? ⟨g, j * 5 + 2, none⟩ = some (.bool x1) := by have := hatq1 j _ hjl 2 _ rfl; rw [hpe.out] at this; exact this
          have c3q1 : q1.cell? ⟨g, j * 5 + 3, none⟩ = some (.bool x2) := by have := hatq1 j _ hjl 3 _ rfl; rw [hpe.out] at this; exact this
          have c4q1 : q1.cell? ⟨g, j * 5 + 4, none⟩ = some (.bool x3) := by have := hatq1 j _ hjl 4 _ rfl; rw [hpe.out] at this; exact this
          have glq1 : g < q1.heap.size := World.block_lt_of_cell? _ _ c0q1
          have bXq1 : Blk q1 zb [.string k, .string x, .bool false, .bool false, .bool true] 80 := (hbq1.block zb hzbz).trans bX.out
          have y0q1 := bXq1.cell (i := 0) rfl
          have y1q1 := bXq1.cell (i := 1) rfl
          have y2q1 := bXq1.cell (i := 2) rfl
          have y3q1 := bXq1.cell (i := 3) rfl
          have y4q1 := bXq1.cell (i := 4) rfl
          have ylq1 := bXq1.lt
          have crq1 := hc0.out q1 hbq1
          have crlq1 : rb < q1.heap.size := World.block_lt_of_cell? _ _ crq1
          clear hrowq1 hatq1 bXq1
          go_upto_region 9 with fail
          go_quiet (fail)
          obtain ⟨q2, hWq⟩ : ∃ w1, q1.drewN nq = w1 := ⟨_, rfl⟩
          have hPq2 := ownBelow hPq1 (drewN_below q1 nq)
          have hbq2 := drewB hbq1 nq
          rw [hWq] at hPq2 hbq2
          try rw [hWq]
          clear hWq
          clear c0q1 c1q1 c2q1 c3q1 c4q1 y0q1 y1q1 y2q1 y3q1 y4q1 glq1 ylq1 crq1 crlq1
          have hIE : Hid (InsI false k (⟨x, false, false, true⟩ : Vr) (L.take (j + 1)) _ _) := Lib.hid (by rw [htk.out]; exact hI.out.skip (p := (k1, (⟨x0, x1, x2, x3⟩ : Vr))) hk.out)
          have hPE := Lib.hid hPq2
          have hmE := hm
          have hbE := Lib.hid hbq2
          clear hI hm hP hb
          go_wp2
          go_roundw
          case rel => exact ⟨j + 1, _, _, _, by omega, by go_num, rfl, hPE, hmE, hIE, hbE⟩
          case measure => simp [intOf]; omega
        · have hs := str_ne hk
          clear hle hle2 hmem
          have hrowwr := hat0.out wr hb.out
          obtain ⟨_, ge, _, _, hatwr⟩ := own_flat eV_len hrowwr (by omega)
          cases ge
          have c0wr : wr.cell? ⟨g, j * 5, none⟩ = some (.string k1) := by have := hatwr j _ hjl 0 _ rfl; rw [hpe.out] at this; exact this
          have c1wr : wr.cell? ⟨g, j * 5 + 1, none⟩ = some (.string x0) := by have := hatwr j _ hjl 1 _ rfl; rw [hpe.out] at this; exact this
          have c2wr : wr.cell? ⟨g, j * 5 + 2, none⟩ = some (.bool x1) := by have := hatwr j _ hjl 2 _ rfl; rw [hpe.out] at this; exact this
          have c3wr : wr.cell? ⟨g, j * 5 + 3, none⟩ = some (.bool x2) := by have := hatwr j _ hjl 3 _ rfl; rw [hpe.out] at this; exact this
          have c4wr : wr.cell? ⟨g, j * 5 + 4, none⟩ = some (.bool x3) := by have := hatwr j _ hjl 4 _ rfl; rw [hpe.out] at this; exact this
          have glwr : g < wr.heap.size := World.block_lt_of_cell? _ _ c0wr
          have bXwr : Blk wr zb [.string k, .string x, .bool false, .bool false, .bool true] 80 := (hb.out.block zb hzbz).trans bX.out
          have y0wr := bXwr.cell (i := 0) rfl
          have y1wr := bXwr.cell (i := 1) rfl
          have y2wr := bXwr.cell (i := 2) rfl
          have y3wr := bXwr.cell (i := 3) rfl
          have y4wr := bXwr.cell (i := 4) rfl
          have ylwr := bXwr.lt
          have crwr := hc0.out wr hb.out
          have crlwr : rb < wr.heap.size := World.block_lt_of_cell? _ _ crwr
          clear hrowwr hatwr bXwr
          have hlw := hb.out.size
          go_upto_region 6 with fail
          go_quiet (fail)
          obtain ⟨q1, hWq⟩ : ∃ w1, wr.drewN nq = w1 := ⟨_, rfl⟩
          have hPq1 := ownBelow hP.out (drewN_below wr nq)
          have hbq1 := drewB hb.out nq
          rw [hWq] at hPq1 hbq1
          try rw [hWq]
          clear hWq
          clear c0wr c1wr c2wr c3wr c4wr y0wr y1wr y2wr y3wr y4wr glwr ylwr crwr crlwr
          have hrowq1 := hat0.out q1 hbq1
          obtain ⟨_, ge, _, _, hatq1⟩ := own_flat eV_len hrowq1 (by omega)
          cases ge
          have c0q1 : q1.cell? ⟨g, j * 5, none⟩ = some (.string k1) := by have := hatq1 j _ hjl 0 _ rfl; rw [hpe.out] at this; exact this
          have c1q1 : q1.cell? ⟨g, j * 5 + 1, none⟩ = some (.string x0) := by have := hatq1 j _ hjl 1 _ rfl; rw [hpe.out] at this; exact this
          have c2q1 : q1.cell? ⟨g, j * 5 + 2, none⟩ = some (.bool x1) := by have := hatq1 j _ hjl 2 _ rfl; rw [hpe.out] at this; exact this
          have c3q1 : q1.cell? ⟨g, j * 5 + 3, none⟩ = some (.bool x2) := by have := hatq1 j _ hjl 3 _ rfl; rw [hpe.out] at this; exact this
          have c4q1 : q1.cell? ⟨g, j * 5 + 4, none⟩ = some (.bool x3) := by have := hatq1 j _ hjl 4 _ rfl; rw [hpe.out] at this; exact this
          have glq1 : g < q1.heap.size := World.block_lt_of_cell? _ _ c0q1
          have bXq1 : Blk q1 zb [.string k, .string x, .bool false, .bool false, .bool true] 80 := (hbq1.block zb hzbz).trans bX.out
          have y0q1 := bXq1.cell (i := 0) rfl
          have y1q1 := bXq1.cell (i := 1) rfl
          have y2q1 := bXq1.cell (i := 2) rfl
          have y3q1 := bXq1.cell (i := 3) rfl
          have y4q1 := bXq1.cell (i := 4) rfl
          have ylq1 := bXq1.lt
          have crq1 := hc0.out q1 hbq1
          have crlq1 : rb < q1.heap.size := World.block_lt_of_cell? _ _ crq1
          clear hrowq1 hatq1 bXq1
          go_upto_region 9 with fail
          go_quiet (fail)
          obtain ⟨q2, hWq⟩ : ∃ w1, q1.drewN nq = w1 := ⟨_, rfl⟩
          have hPq2 := ownBelow hPq1 (drewN_below q1 nq)
          have hbq2 := drewB hbq1 nq
          rw [hWq] at hPq2 hbq2
          try rw [hWq]
          clear hWq
          clear c0q1 c1q1 c2q1 c3q1 c4q1 y0q1 y1q1 y2q1 y3q1 y4q1 glq1 ylq1 crq1 crlq1
          have hrowq2 := hat0.out q2 hbq2
          obtain ⟨_, ge, _, _, hatq2⟩ := own_flat eV_len hrowq2 (by omega)
          cases ge
          have c0q2 : q2.cell? ⟨g, j * 5, none⟩ = some (.string k1) := by have := hatq2 j _ hjl 0 _ rfl; rw [hpe.out] at this; exact this
          have c1q2 : q2.cell? ⟨g, j * 5 + 1, none⟩ = some (.string x0) := by have := hatq2 j _ hjl 1 _ rfl; rw [hpe.out] at this; exact this
          have c2q2 : q2.cell? ⟨g, j * 5 + 2, none⟩ = some (.bool x1) := by have := hatq2 j _ hjl 2 _ rfl; rw [hpe.out] at this; exact this
          have c3q2 : q2.cell? ⟨g, j * 5 + 3, none⟩ = some (.bool x2) := by have := hatq2 j _ hjl 3 _ rfl; rw [hpe.out] at this; exact this
          have c4q2 : q2.cell? ⟨g, j * 5 + 4, none⟩ = some (.bool x3) := by have := hatq2 j _ hjl 4 _ rfl; rw [hpe.out] at this; exact this
          have glq2 : g < q2.heap.size := World.block_lt_of_cell? _ _ c0q2
          have bXq2 : Blk q2 zb [.string k, .string x, .bool false, .bool false, .bool true] 80 := (hbq2.block zb hzbz).trans bX.out
          have y0q2 := bXq2.cell (i := 0) rfl
          have y1q2 := bXq2.cell (i := 1) rfl
          have y2q2 := bXq2.cell (i := 2) rfl
          have y3q2 := bXq2.cell (i := 3) rfl
          have y4q2 := bXq2.cell (i := 4) rfl
          have ylq2 := bXq2.lt
          have crq2 := hc0.out q2 hbq2
          have crlq2 : rb < q2.heap.size := World.block_lt_of_cell? _ _ crq2
          clear hrowq2 hatq2 bXq2
          obtain ⟨AY, cY, u3, hrun, hPY, hbY⟩ := row_v hPq2 hm.out (by omega) hbq2 (by have := hbq2.size; have := hz.out; omega) k1 x0 x1 x2 x3
          have hcY : m + 1 ≤ cY ∧ cY ≤ 2 ^ 63 - 1 := by
            obtain ⟨_, _, e9, q1, q2⟩ := own_form hPY
            cases e9
            exact ⟨q1, q2⟩
          replace hrun := Lib.hid hrun
          have hIE : Hid (InsI false k (⟨x, false, false, true⟩ : Vr) (L.take (j + 1)) _ _) := Lib.hid (by rw [htk.out]; exact hI.out.more (p := (k1, (⟨x0, x1, x2, x3⟩ : Vr))) hk)
          have hmE : Hid ((M ++ [(k1, (⟨x0, x1, x2, x3⟩ : Vr))]).length = _) := Lib.hid (by rw [List.length_append, hm.out] <;> rfl)
          have hPE := Lib.hid hPY
          have hbE := Lib.hid hbY
          clear hI hm hP hb
          go_wp2_with (at_builtin; refine wpList_append_of rfl _ _ 72 72 rfl _ _ _ u3 rfl rfl hrun.out ?_)
          clear hrun
          go_roundw
          case rel => exact ⟨j + 1, _, _, _, by omega, by go_num, rfl, hPE, hmE, hIE, hbE⟩
          case measure => simp [intOf]; omega
    · obtain rfl : j = n := by omega
      have hj2 : ¬ (j : Int) < (j : Int) := by omega
      have hfull : L.take j = L := by rw [← hn.out]; exact List.take_length
      rw [hfull] at hI
      have crw := hc0.out wr hb.out
      have crlw : rb < wr.heap.size := World.block_lt_of_cell? _ _ crw
      cases d
      · have bXr : Blk wr zb [.string k, .string x, .bool false, .bool false, .bool true] 80 := (hb.out.block zb hzbz).trans bX.out
        have y0 := bXr.cell (i := 0) rfl
        have y1 := bXr.cell (i := 1) rfl
        have y2 := bXr.cell (i := 2) rfl
        have y3 := bXr.cell (i := 3) rfl
        have y4 := bXr.cell (i := 4) rfl
        have yl := bXr.lt
        obtain ⟨A3, c3, u3, hrun, hP3, hb3⟩ := row_v hP.out hm.out (by omega) hb.out (by have := hb.out.size; have := hz.out; omega) k x false false true
        have hE := hI.out.end0
        have hlE : (putL false k (⟨x, false, false, true⟩ : Vr) L).length = m + 1 := by rw [← hE, List.length_append, hm.out] <;> rfl
        rw [hE] at hP3
        have hA := hall.out u3 hb3
        have hfz := hA.blk.frozen 0
        have cr3 := hc0.out u3 hb3
        have crl3 := hA.blk.lt
        obtain ⟨hR, hS⟩ := hA.set (r' := { r with v := putL false k (⟨x, false, false, true⟩ : Vr) L }) (sv' := .slice A3 (m + 1) c3) 0 (.slice A3 (m + 1) c3) rfl (by show u3.ownsRow 0 _ 5 _ (putL false k (⟨x, false, false, true⟩ : Vr) L).length _; rw [hlE]; exact own_base hP3 (Nat.zero_le _)) hA.rf hA.ra hA.rt hA.ga
        have hbZ : Below W.heap.size W u3 := hbW.out.trans (hb3.mono (by have := hbW.out.size; have := hz.out; omega))
        have hSt : Stp (fun b => b = rb) W (u3.setCell ⟨rb, 0, none⟩ (.slice A3 (m + 1) c3)) := Stp.trans (S := fun b => b = rb) (S' := fun b => b = rb) (Stp.mono (S := fun _ => False) ⟨hbZ.os, hbZ.tape, hbZ.output, hbZ.size, fun b hb' _ => hbZ.block b hb'⟩ (fun _ _ h => h.elim)) hS (fun _ _ h => h)
        have hfin := Lib.hid (And.intro hR hSt)
        replace hrun := Lib.hid hrun
        clear hA hR hS hSt hbZ hP hm hb hI hP3 hb3 hE hlE bXr
        go_wp2_with (at_builtin; refine wpList_append_of rfl _ _ 72 72 rfl _ _ _ u3 rfl rfl hrun.out ?_)
        exact bodyPost_end (v := .tuple #[]) (results_none rfl _ _ _) rfl ⟨rfl, ⟨_, _, _, _, hfin.out.1⟩, hfin.out.2⟩
      · have hE := hI.out.end1
        have hlE : (putL false k (⟨x, false, false, true⟩ : Vr) L).length = m := by rw [← hE, hm.out]
        have hP3 := hP.out
        rw [hE] at hP3
        have hA := hall.out wr hb.out
        have hfz := hA.blk.frozen 0
        have cr3 := hc0.out wr hb.out
        have crl3 := hA.blk.lt
        obtain ⟨hR, hS⟩ := hA.set (r' := { r with v := putL false k (⟨x, false, false, true⟩ : Vr) L }) (sv' := .slice AO m cO) 0 (.slice AO m cO) rfl (by show wr.ownsRow 0 _ 5 _ (putL false k (⟨x, false, false, true⟩ : Vr) L).length _; rw [hlE]; exact own_base hP3 (Nat.zero_le _)) hA.rf hA.ra hA.rt hA.ga
        have hbZ : Below W.heap.size W wr := hbW.out.trans (hb.out.mono (by have := hbW.out.size; have := hz.out; omega))
        have hSt : Stp (fun b => b = rb) W (wr.setCell ⟨rb, 0, none⟩ (.slice AO m cO)) := Stp.trans (S := fun b => b = rb) (S' := fun b => b = rb) (Stp.mono (S := fun _ => False) ⟨hbZ.os, hbZ.tape, hbZ.output, hbZ.size, fun b hb' _ => hbZ.block b hb'⟩ (fun _ _ h => h.elim)) hS (fun _ _ h => h)
        have hfin := Lib.hid (And.intro hR hSt)
        clear hA hR hS hSt hbZ hP hm hb hI hP3 hE hlE
        go_wp2
        exact bodyPost_end (v := .tuple #[]) (results_none rfl _ _ _) rfl ⟨rfl, ⟨_, _, _, _, hfin.out.1⟩, hfin.out.2⟩
set_option maxRecDepth 100000 in
set_option maxHeartbeats 16000000 in
theorem put_no (h : RfA W rb r) (hl : r.v.length ≤ 89999) (k x : ByteArray)  :
    Calls Tryz.prog 104 #[ptrV rb, .agg #[.string k, .string x, .bool false, .bool false, .bool false]] W fun e w' => e = .returned (.tuple #[]) ∧ RfA w' rb { r with v := putL true k (⟨x, false, false, false⟩ : Vr) r.v } ∧ Stp (fun b => b = rb) W w' := by
  obtain ⟨sv, sf, sa, st, h⟩ := h
  obtain ⟨A, c, hst, hc, hcm⟩ := own_form h.rv
  subst hst
  obtain ⟨n, hnL⟩ : ∃ n, r.v.length = n := ⟨_, rfl⟩
  obtain ⟨L, hL⟩ : ∃ L, r.v = L := ⟨_, rfl⟩
  rw [hL]
  unfold maxLen at hcm
  obtain ⟨zb, hzb⟩ : ∃ z, W.heap.size = z := ⟨_, rfl⟩
  have bX : Blk (W.alloc (.cells #[.string k, .string x, .bool false, .bool false, .bool false] 80)) zb [.string k, .string x, .bool false, .bool false, .bool false] 80 := by rw [← hzb]; exact Blk.new W _ _
  have hbA : Below W.heap.size W (W.alloc (.cells #[.string k, .string x, .bool false, .bool false, .bool false] 80)) := Below.of_alloc W _
  have hA0 := h.below hbA
  unfold ptrV
  replace bX := Lib.hid bX
  replace hzb := Lib.hid hzb
  clear h
  go_enter Tryz.func104, Tryz.ntmps104
  go_upto_region 1 with fail
  try rw [hzb.out]
  generalize (W.alloc (.cells #[.string k, .string x, .bool false, .bool false, .bool false] 80)) = w0 at hbA hA0 bX ⊢
  obtain ⟨z, hz⟩ : ∃ z, w0.heap.size = z := ⟨_, rfl⟩
  have hrb : rb < z := by have := hA0.blk.lt; omega
  have hzbz : zb < z := by have := bX.out.lt; omega
  have hall := fun (w2 : World) (hb : Below z w0 w2) => hA0.below (hz ▸ hb)
  have hat0 := fun (w2 : World) (hb : Below z w0 w2) => (hall w2 hb).rv
  have hc0 : ∀ (w2 : World), Below z w0 w2 → w2.cell? ⟨rb, 0, none⟩ = some (.slice A r.v.length c) := fun w2 hb => (hall w2 hb).blk.cell (i := 0) rfl
  have hbW : Hid (Below W.heap.size W w0) := Lib.hid hbA
  have hn89 : n ≤ 89999 := by omega
  rw [hnL] at hc hat0 hc0
  rw [hL] at hat0 hnL
  have y0 := bX.out.cell (i := 0) rfl
  have y1 := bX.out.cell (i := 1) rfl
  have y2 := bX.out.cell (i := 2) rfl
  have y3 := bX.out.cell (i := 3) rfl
  have y4 := bX.out.cell (i := 4) rfl
  have yl := bX.out.lt
  replace hall := Lib.hid hall
  replace hat0 := Lib.hid hat0
  replace hc0 := Lib.hid hc0
  have hn := Lib.hid hnL
  replace hz := Lib.hid hz
  replace hL := Lib.hid hL
  clear hA0 hbA hnL
  go_upto_region 3 with fail
  clear y0 y1 y2 y3 y4 yl
  have hP0 : Hid (w0.ownsRow z 80 5 (.slice none 0 0) 0 (flat eV ([] : Es Vr))) := Lib.hid (World.ownsRow_nil _ _ _ _)
  have hI0 : Hid (InsI true k (⟨x, false, false, false⟩ : Vr) (L.take 0) [] true) := Lib.hid (InsI.start true k (⟨x, false, false, false⟩ : Vr))
  have hb0 : Hid (Below z w0 w0) := Lib.hid (Below.refl _ _)
  go_wp2
  go_loopw [4, 5, 6] (fun ov dv nv wr => ∃ (j m : Nat) (M : Es Vr) (d : Bool), j ≤ n ∧ nv = .int .i64 (j : Int) ∧ dv = .bool d ∧ Hid (wr.ownsRow z 80 5 ov m (flat eV M)) ∧ Hid (M.length = m) ∧ Hid (InsI true k (⟨x, false, false, false⟩ : Vr) (L.take j) M d) ∧ Hid (Below z w0 wr)) (fun _ _ nv _ => n - (intOf nv).toNat)
  case atStart => exact ⟨0, 0, [], true, Nat.zero_le _, rfl, rfl, hP0, Lib.hid rfl, hI0, hb0⟩
  case round =>
    clear hP0 hb0 hI0
    obtain ⟨j, m, M, d, hj, rfl, rfl, hP, hm, hI, hb⟩ := hrel
    obtain ⟨AO, cO, hov, hcO, hcOm⟩ := own_form hP.out
    subst hov
    unfold maxLen at hcOm
    have hml : m ≤ 90001 := by
      have := hI.out.len
      rw [List.length_take, hm.out] at this
      omega
    by_cases hlt : j < n
    · have hjn : j < L.length := by rw [hn.out]; exact hlt
      have hjl := List.getElem?_eq_getElem hjn
      obtain ⟨g, rfl, _, _, _⟩ := own_flat eV_len (hat0.out wr hb.out) (by omega)
      have hj1 : (0 : Int) ≤ (j : Int) := by omega
      have hj2 : (j : Int) < (n : Int) := by omega
      have htk : L.take (j + 1) = L.take j ++ [L[j]] := List.take_succ_eq_append_getElem hjn
      have hmem : L[j] ∈ L := List.getElem_mem hjn
      obtain ⟨p, hpe⟩ : ∃ p, L[j] = p := ⟨_, rfl⟩
      rw [hpe] at htk hmem
      obtain ⟨k1, ⟨x0, x1, x2, x3⟩⟩ := p
      replace htk := Lib.hid htk
      replace hpe := Lib.hid hpe
      have hle := less_eq k1 k
      have hle2 := less_eq k k1
      cases d
      · exfalso
        cases hI.out with
        | wait h _ _ => cases h
      · by_cases hk : k1 = k
        · have hs := str_eq hk
          clear hle hle2 hmem
          replace hk := Lib.hid hk
          have hrowwr := hat0.out wr hb.out
          obtain ⟨_, ge, _, _, hatwr⟩ := own_flat eV_len hrowwr (by omega)
          cases ge
          have c0wr : wr.cell? ⟨g, j * 5, none⟩ = some (.string k1) := by have := hatwr j _ hjl 0 _ rfl; rw [hpe.out] at this; exact this
          have c1wr : wr.cell? ⟨g, j * 5 + 1, none⟩ = some (.string x0) := by have := hatwr j _ hjl 1 _ rfl; rw [hpe.out] at this; exact this
          have c2wr : wr.cell? ⟨g, j * 5 + 2, none⟩ = some (.bool x1) := by have := hatwr j _ hjl 2 _ rfl; rw [hpe.out] at this; exact this
          have c3wr : wr.cell? ⟨g, j * 5 + 3, none⟩ = some (.bool x2) := by have := hatwr j _ hjl 3 _ rfl; rw [hpe.out] at this; exact this
          have c4wr : wr.cell? ⟨g, j * 5 + 4, none⟩ = some (.bool x3) := by have := hatwr j _ hjl 4 _ rfl; rw [hpe.out] at this; exact this
          have glwr : g < wr.heap.size := World.block_lt_of_cell? _ _ c0wr
          have bXwr : Blk wr zb [.string k, .string x, .bool false, .bool false, .bool false] 80 := (hb.out.block zb hzbz).trans bX.out
          have y0wr := bXwr.cell (i := 0) rfl
          have y1wr := bXwr.cell (i := 1) rfl
          have y2wr := bXwr.cell (i := 2) rfl
          have y3wr := bXwr.cell (i := 3) rfl
          have y4wr := bXwr.cell (i := 4) rfl
          have ylwr := bXwr.lt
          have crwr := hc0.out wr hb.out
          have crlwr : rb < wr.heap.size := World.block_lt_of_cell? _ _ crwr
          clear hrowwr hatwr bXwr
          have hlw := hb.out.size
          go_upto_region 6 with fail
          go_quiet (fail)
          obtain ⟨q1, hWq⟩ : ∃ w1, wr.drewN nq = w1 := ⟨_, rfl⟩
          have hPq1 := ownBelow hP.out (drewN_below wr nq)
          have hbq1 := drewB hb.out nq
          rw [hWq] at hPq1 hbq1
          try rw [hWq]
          clear hWq
          clear c0wr c1wr c2wr c3wr c4wr y0wr y1wr y2wr y3wr y4wr glwr ylwr crwr crlwr
          have hrowq1 := hat0.out q1 hbq1
          obtain ⟨_, ge, _, _, hatq1⟩ := own_flat eV_len hrowq1 (by omega)
          cases ge
          have c0q1 : q1.cell? ⟨g, j * 5, none⟩ = some (.string k1) := by have := hatq1 j _ hjl 0 _ rfl; rw [hpe.out] at this; exact this
          have c1q1 : q1.cell? ⟨g, j * 5 + 1, none⟩ = some (.string x0) := by have := hatq1 j _ hjl 1 _ rfl; rw [hpe.out] at this; exact this
          have c2q1 : q1.cell? ⟨g, j * 5 + 2, none⟩ = some (.bool x1) := by have := hatq1 j _ hjl 2 _ rfl; rw [hpe.out] at this; exact this
          have c3q1 : q1.cell? ⟨g, j * 5 + 3, none⟩ = some (.bool x2) := by have := hatq1 j _ hjl 3 _ rfl; rw [hpe.out] at this; exact this
          have c4q1 : q1.cell? ⟨g, j * 5 + 4, none⟩ = some (.bool x3) := by have := hatq1 j _ hjl 4 _ rfl; rw [hpe.out] at this; exact this
          have glq1 : g < q1.heap.size := World.block_lt_of_cell? _ _ c0q1
          have bXq1 : Blk q1 zb [.string k, .string x, .bool false, .bool false, .bool false] 80 := (hbq1.block zb hzbz).trans bX.out
          have y0q1 := bXq1.cell (i := 0) rfl
          have y1q1 := bXq1.cell (i := 1) rfl
          have y2q1 := bXq1.cell (i := 2) rfl
          have y3q1 := bXq1.cell (i := 3) rfl
          have y4q1 := bXq1.cell (i := 4) rfl
          have ylq1 := bXq1.lt
          have crq1 := hc0.out q1 hbq1
          have crlq1 : rb < q1.heap.size := World.block_lt_of_cell? _ _ crq1
          clear hrowq1 hatq1 bXq1
          go_upto_region 9 with fail
          go_quiet (fail)
          obtain ⟨q2, hWq⟩ : ∃ w1, q1.drewN nq = w1 := ⟨_, rfl⟩
          have hPq2 := ownBelow hPq1 (drewN_below q1 nq)
          have hbq2 := drewB hbq1 nq
          rw [hWq] at hPq2 hbq2
          try rw [hWq]
          clear hWq
          clear c0q1 c1q1 c2q1 c3q1 c4q1 y0q1 y1q1 y2q1 y3q1 y4q1 glq1 ylq1 crq1 crlq1
          have hIE : Hid (InsI true k (⟨x, false, false, false⟩ : Vr) (L.take (j + 1)) _ _) := Lib.hid (by rw [htk.out]; exact hI.out.skip (p := (k1, (⟨x0, x1, x2, x3⟩ : Vr))) hk.out)
          have hPE := Lib.hid hPq2
          have hmE := hm
          have hbE := Lib.hid hbq2
          clear hI hm hP hb
          go_wp2
          go_roundw
          case rel => exact ⟨j + 1, _, _, _, by omega, by go_num, rfl, hPE, hmE, hIE, hbE⟩
          case measure => simp [intOf]; omega
        · have hs := str_ne hk
          clear hle hle2 hmem
          have hrowwr := hat0.out wr hb.out
          obtain ⟨_, ge, _, _, hatwr⟩ := own_flat eV_len hrowwr (by omega)
          cases ge
          have c0wr : wr.cell? ⟨g, j * 5, none⟩ = some (.string k1) := by have := hatwr j _ hjl 0 _ rfl; rw [hpe.out] at this; exact this
          have c1wr : wr.cell? ⟨g, j * 5 + 1, none⟩ = some (.string x0) := by have := hatwr j _ hjl 1 _ rfl; rw [hpe.out] at this; exact this
          have c2wr : wr.cell? ⟨g, j * 5 + 2, none⟩ = some (.bool x1) := by have := hatwr j _ hjl 2 _ rfl; rw [hpe.out] at this; exact this
          have c3wr : wr.cell? ⟨g, j * 5 + 3, none⟩ = some (.bool x2) := by have := hatwr j _ hjl 3 _ rfl; rw [hpe.out] at this; exact this
          have c4wr : wr.cell? ⟨g, j * 5 + 4, none⟩ = some (.bool x3) := by have := hatwr j _ hjl 4 _ rfl; rw [hpe.out] at this; exact this
          have glwr : g < wr.heap.size := World.block_lt_of_cell? _ _ c0wr
          have bXwr : Blk wr zb [.string k, .string x, .bool false, .bool false, .bool false] 80 := (hb.out.block zb hzbz).trans bX.out
          have y0wr := bXwr.cell (i := 0) rfl
          have y1wr := bXwr.cell (i := 1) rfl
          have y2wr := bXwr.cell (i := 2) rfl
          have y3wr := bXwr.cell (i := 3) rfl
          have y4wr := bXwr.cell (i := 4) rfl
          have ylwr := bXwr.lt
          have crwr := hc0.out wr hb.out
          have crlwr : rb < wr.heap.size := World.block_lt_of_cell? _ _ crwr
          clear hrowwr hatwr bXwr
          have hlw := hb.out.size
          go_upto_region 6 with fail
          go_quiet (fail)
          obtain ⟨q1, hWq⟩ : ∃ w1, wr.drewN nq = w1 := ⟨_, rfl⟩
          have hPq1 := ownBelow hP.out (drewN_below wr nq)
          have hbq1 := drewB hb.out nq
          rw [hWq] at hPq1 hbq1
          try rw [hWq]
          clear hWq
          clear c0wr c1wr c2wr c3wr c4wr y0wr y1wr y2wr y3wr y4wr glwr ylwr crwr crlwr
          have hrowq1 := hat0.out q1 hbq1
          obtain ⟨_, ge, _, _, hatq1⟩ := own_flat eV_len hrowq1 (by omega)
          cases ge
          have c0q1 : q1.cell? ⟨g, j * 5, none⟩ = some (.string k1) := by have := hatq1 j _ hjl 0 _ rfl; rw [hpe.out] at this; exact this
          have c1q1 : q1.cell? ⟨g, j * 5 + 1, none⟩ = some (.string x0) := by have := hatq1 j _ hjl 1 _ rfl; rw [hpe.out] at this; exact this
          have c2q1 : q1.cell? ⟨g, j * 5 + 2, none⟩ = some (.bool x1) := by have := hatq1 j _ hjl 2 _ rfl; rw [hpe.out] at this; exact this
          have c3q1 : q1.cell? ⟨g, j * 5 + 3, none⟩ = some (.bool x2) := by have := hatq1 j _ hjl 3 _ rfl; rw [hpe.out] at this; exact this
          have c4q1 : q1.cell? ⟨g, j * 5 + 4, none⟩ = some (.bool x3) := by have := hatq1 j _ hjl 4 _ rfl; rw [hpe.out] at this; exact this
          have glq1 : g < q1.heap.size := World.block_lt_of_cell? _ _ c0q1
          have bXq1 : Blk q1 zb [.string k, .string x, .bool false, .bool false, .bool false] 80 := (hbq1.block zb hzbz).trans bX.out
          have y0q1 := bXq1.cell (i := 0) rfl
          have y1q1 := bXq1.cell (i := 1) rfl
          have y2q1 := bXq1.cell (i := 2) rfl
          have y3q1 := bXq1.cell (i := 3) rfl
          have y4q1 := bXq1.cell (i := 4) rfl
          have ylq1 := bXq1.lt
          have crq1 := hc0.out q1 hbq1
          have crlq1 : rb < q1.heap.size := World.block_lt_of_cell? _ _ crq1
          clear hrowq1 hatq1 bXq1
          go_upto_region 9 with fail
          go_quiet (fail)
          obtain ⟨q2, hWq⟩ : ∃ w1, q1.drewN nq = w1 := ⟨_, rfl⟩
          have hPq2 := ownBelow hPq1 (drewN_below q1 nq)
          have hbq2 := drewB hbq1 nq
          rw [hWq] at hPq2 hbq2
          try rw [hWq]
          clear hWq
          clear c0q1 c1q1 c2q1 c3q1 c4q1 y0q1 y1q1 y2q1 y3q1 y4q1 glq1 ylq1 crq1 crlq1
          have hrowq2 := hat0.out q2 hbq2
          obtain ⟨_, ge, _, _, hatq2⟩ := own_flat eV_len hrowq2 (by omega)
          cases ge
          have c0q2 : q2.cell? ⟨g, j * 5, none⟩ = some (.string k1) := by have := hatq2 j _ hjl 0 _ rfl; rw [hpe.out] at this; exact this
          have c1q2 : q2.cell? ⟨g, j * 5 + 1, none⟩ = some (.string x0) := by have := hatq2 j _ hjl 1 _ rfl; rw [hpe.out] at this; exact this
          have c2q2 : q2.cell? ⟨g, j * 5 + 2, none⟩ = some (.bool x1) := by have := hatq2 j _ hjl 2 _ rfl; rw [hpe.out] at this; exact this
          have c3q2 : q2.cell? ⟨g, j * 5 + 3, none⟩ = some (.bool x2) := by have := hatq2 j _ hjl 3 _ rfl; rw [hpe.out] at this; exact this
          have c4q2 : q2.cell? ⟨g, j * 5 + 4, none⟩ = some (.bool x3) := by have := hatq2 j _ hjl 4 _ rfl; rw [hpe.out] at this; exact this
          have glq2 : g < q2.heap.size := World.block_lt_of_cell? _ _ c0q2
          have bXq2 : Blk q2 zb [.string k, .string x, .bool false, .bool false, .bool false] 80 := (hbq2.block zb hzbz).trans bX.out
          have y0q2 := bXq2.cell (i := 0) rfl
          have y1q2 := bXq2.cell (i := 1) rfl
          have y2q2 := bXq2.cell (i := 2) rfl
          have y3q2 := bXq2.cell (i := 3) rfl
          have y4q2 := bXq2.cell (i := 4) rfl
          have ylq2 := bXq2.lt
          have crq2 := hc0.out q2 hbq2
          have crlq2 : rb < q2.heap.size := World.block_lt_of_cell? _ _ crq2
          clear hrowq2 hatq2 bXq2
          obtain ⟨AY, cY, u3, hrun, hPY, hbY⟩ := row_v hPq2 hm.out (by omega) hbq2 (by have := hbq2.size; have := hz.out; omega) k1 x0 x1 x2 x3
          have hcY : m + 1 ≤ cY ∧ cY ≤ 2 ^ 63 - 1 := by
            obtain ⟨_, _, e9, q1, q2⟩ := own_form hPY
            cases e9
            exact ⟨q1, q2⟩
          replace hrun := Lib.hid hrun
          have hIE : Hid (InsI true k (⟨x, false, false, false⟩ : Vr) (L.take (j + 1)) _ _) := Lib.hid (by rw [htk.out]; exact hI.out.more (p := (k1, (⟨x0, x1, x2, x3⟩ : Vr))) hk)
          have hmE : Hid ((M ++ [(k1, (⟨x0, x1, x2, x3⟩ : Vr))]).length = _) := Lib.hid (by rw [List.length_append, hm.out] <;> rfl)
          have hPE := Lib.hid hPY
          have hbE := Lib.hid hbY
          clear hI hm hP hb
          go_wp2_with (at_builtin; refine wpList_append_of rfl _ _ 72 72 rfl _ _ _ u3 rfl rfl hrun.out ?_)
          clear hrun
          go_roundw
          case rel => exact ⟨j + 1, _, _, _, by omega, by go_num, rfl, hPE, hmE, hIE, hbE⟩
          case measure => simp [intOf]; omega
    · obtain rfl : j = n := by omega
      have hj2 : ¬ (j : Int) < (j : Int) := by omega
      have hfull : L.take j = L := by rw [← hn.out]; exact List.take_length
      rw [hfull] at hI
      have crw := hc0.out wr hb.out
      have crlw : rb < wr.heap.size := World.block_lt_of_cell? _ _ crw
      cases d
      · exfalso
        cases hI.out with
        | wait h _ _ => cases h
      · have hE := hI.out.end1
        have hlE : (putL true k (⟨x, false, false, false⟩ : Vr) L).length = m := by rw [← hE, hm.out]
        have hP3 := hP.out
        rw [hE] at hP3
        have hA := hall.out wr hb.out
        have hfz := hA.blk.frozen 0
        have cr3 := hc0.out wr hb.out
        have crl3 := hA.blk.lt
        obtain ⟨hR, hS⟩ := hA.set (r' := { r with v := putL true k (⟨x, false, false, false⟩ : Vr) L }) (sv' := .slice AO m cO) 0 (.slice AO m cO) rfl (by show wr.ownsRow 0 _ 5 _ (putL true k (⟨x, false, false, false⟩ : Vr) L).length _; rw [hlE]; exact own_base hP3 (Nat.zero_le _)) hA.rf hA.ra hA.rt hA.ga
        have hbZ : Below W.heap.size W wr := hbW.out.trans (hb.out.mono (by have := hbW.out.size; have := hz.out; omega))
        have hSt : Stp (fun b => b = rb) W (wr.setCell ⟨rb, 0, none⟩ (.slice AO m cO)) := Stp.trans (S := fun b => b = rb) (S' := fun b => b = rb) (Stp.mono (S := fun _ => False) ⟨hbZ.os, hbZ.tape, hbZ.output, hbZ.size, fun b hb' _ => hbZ.block b hb'⟩ (fun _ _ h => h.elim)) hS (fun _ _ h => h)
        have hfin := Lib.hid (And.intro hR hSt)
        clear hA hR hS hSt hbZ hP hm hb hI hP3 hE hlE
        go_wp2
        exact bodyPost_end (v := .tuple #[]) (results_none rfl _ _ _) rfl ⟨rfl, ⟨_, _, _, _, hfin.out.1⟩, hfin.out.2⟩
end
end Go.Proofs.YtigmdfdcflkggaaGreat
