/-
  The methods that the kinds of handles have of a kind that can do nothing, found. Conditions: the kind's block.
  What a table's calls refuse: numbers that are not there, what a handle was not opened for, counts below nothing. Conditions: none.
  File and Sink refuse: no such node, a directory, what may not be opened so; a most that may not be. Conditions: none.
-/
import Derived.Test.YtbjakhiflgjflaaGreatDoorHnState
import Derived.Test.YtbjakhiflgjflaaGreatDoorHnSys
import Derived.Test.YtbjakhiflgjflaaGreatDoorHnNil
import Derived.Test.YtbjakhiflgjflaaGreatDoorNdPath
import Derived.Handy
import Derived.Test.YtbjakhiflgjflaaGreatDoorHnOpen
namespace Go.Proofs.YtbjakhiflgjflaaGreatDoor
open Go Go.RowKit

theorem part0 {P : Program} {w : World} {ob b : Nat} {cur : List Value} {t : TypeId} (h : Blk w ob cur t) (hb : byteOfCell P P.depth t 0 = some b) : (partAt ⟨ob, 0, none⟩ 0 0).run P w = .ok ⟨ob, 0, none⟩ w := by
  unfold Blk at h
  have hs : w.shape? ob = some (t, cur.length) := by unfold World.shape?; rw [h]; simp
  by_cases hc : P.cellsOf t = 0
  · simp [partAt, byteOf, noView, viewAt, go_sem, hs, hc]
  · simp [partAt, byteOf, noView, viewAt, go_sem, hs, hc, hb]
set_option maxRecDepth 100000 in
theorem m_file_seen {w : World} {ob : Nat} {cur : List Value} (h : Blk w ob cur 165) : (method 446 161 (.pointer (some ⟨ob, 0, none⟩)) "whelk/handles.seen").run Tryz.prog w = .ok (265, .agg #[]) w := by
  have e : (method 446 161 (.pointer (some ⟨ob, 0, none⟩)) "whelk/handles.seen").run Tryz.prog w = (do let p ← (do let a ← partAt ⟨ob, 0, none⟩ 0 0; pure ((163, Place.var a) : TypeId × Place)); let v ← receiverAt p.1 p.2 false none; pure (265, v) : Sem (FuncId × Value)).run Tryz.prog w := by kernel_rfl
  rw [e]
  simp [part0 (P := Tryz.prog) h (b := 0) (by kernel_rfl), receiverAt, go_sem, Place.get]
set_option maxRecDepth 100000 in
theorem m_text_write {w : World} {ob : Nat} {cur : List Value} (h : Blk w ob cur 197) : (method 446 195 (.pointer (some ⟨ob, 0, none⟩)) "whelk/handles.write").run Tryz.prog w = .ok (271, .agg #[]) w := by
  have e : (method 446 195 (.pointer (some ⟨ob, 0, none⟩)) "whelk/handles.write").run Tryz.prog w = (do let p ← (do let a ← partAt ⟨ob, 0, none⟩ 0 0; pure ((163, Place.var a) : TypeId × Place)); let v ← receiverAt p.1 p.2 false none; pure (271, v) : Sem (FuncId × Value)).run Tryz.prog w := by kernel_rfl
  rw [e]
  simp [part0 (P := Tryz.prog) h (b := 0) (by kernel_rfl), receiverAt, go_sem, Place.get]
set_option maxRecDepth 100000 in
theorem m_text_seen {w : World} {ob : Nat} {cur : List Value} (h : Blk w ob cur 197) : (method 446 195 (.pointer (some ⟨ob, 0, none⟩)) "whelk/handles.seen").run Tryz.prog w = .ok (265, .agg #[]) w := by
  have e : (method 446 195 (.pointer (some ⟨ob, 0, none⟩)) "whelk/handles.seen").run Tryz.prog w = (do let p ← (do let a ← partAt ⟨ob, 0, none⟩ 0 0; pure ((163, Place.var a) : TypeId × Place)); let v ← receiverAt p.1 p.2 false none; pure (265, v) : Sem (FuncId × Value)).run Tryz.prog w := by kernel_rfl
  rw [e]
  simp [part0 (P := Tryz.prog) h (b := 0) (by kernel_rfl), receiverAt, go_sem, Place.get]
set_option maxRecDepth 100000 in
theorem m_text_end {w : World} {ob : Nat} {cur : List Value} (h : Blk w ob cur 197) : (method 446 195 (.pointer (some ⟨ob, 0, none⟩)) "whelk/handles.end").run Tryz.prog w = .ok (269, .agg #[]) w := by
  have e : (method 446 195 (.pointer (some ⟨ob, 0, none⟩)) "whelk/handles.end").run Tryz.prog w = (do let p ← (do let a ← partAt ⟨ob, 0, none⟩ 0 0; pure ((163, Place.var a) : TypeId × Place)); let v ← receiverAt p.1 p.2 false none; pure (269, v) : Sem (FuncId × Value)).run Tryz.prog w := by kernel_rfl
  rw [e]
  simp [part0 (P := Tryz.prog) h (b := 0) (by kernel_rfl), receiverAt, go_sem, Place.get]
set_option maxRecDepth 100000 in
theorem m_sink_read {w : World} {ob : Nat} {cur : List Value} (h : Blk w ob cur 200) : (method 446 198 (.pointer (some ⟨ob, 0, none⟩)) "whelk/handles.read").run Tryz.prog w = .ok (270, .agg #[]) w := by
  have e : (method 446 198 (.pointer (some ⟨ob, 0, none⟩)) "whelk/handles.read").run Tryz.prog w = (do let p ← (do let a ← partAt ⟨ob, 0, none⟩ 0 0; pure ((163, Place.var a) : TypeId × Place)); let v ← receiverAt p.1 p.2 false none; pure (270, v) : Sem (FuncId × Value)).run Tryz.prog w := by kernel_rfl
  rw [e]
  simp [part0 (P := Tryz.prog) h (b := 0) (by kernel_rfl), receiverAt, go_sem, Place.get]
set_option maxRecDepth 100000 in
theorem m_sink_end {w : World} {ob : Nat} {cur : List Value} (h : Blk w ob cur 200) : (method 446 198 (.pointer (some ⟨ob, 0, none⟩)) "whelk/handles.end").run Tryz.prog w = .ok (269, .agg #[]) w := by
  have e : (method 446 198 (.pointer (some ⟨ob, 0, none⟩)) "whelk/handles.end").run Tryz.prog w = (do let p ← (do let a ← partAt ⟨ob, 0, none⟩ 0 0; pure ((163, Place.var a) : TypeId × Place)); let v ← receiverAt p.1 p.2 false none; pure (269, v) : Sem (FuncId × Value)).run Tryz.prog w := by kernel_rfl
  rw [e]
  simp [part0 (P := Tryz.prog) h (b := 0) (by kernel_rfl), receiverAt, go_sem, Place.get]
set_option maxRecDepth 100000 in
theorem m_rd_write {w : World} {ob : Nat} {cur : List Value} (h : Blk w ob cur 170) : (method 446 172 (.agg #[.pointer (some ⟨ob, 0, none⟩)]) "whelk/handles.write").run Tryz.prog w = .ok (271, .agg #[]) w := by
  have e : (method 446 172 (.agg #[.pointer (some ⟨ob, 0, none⟩)]) "whelk/handles.write").run Tryz.prog w = (do let p ← (do let a ← partAt ⟨ob, 0, none⟩ 0 0; pure ((163, Place.var a) : TypeId × Place)); let v ← receiverAt p.1 p.2 false none; pure (271, v) : Sem (FuncId × Value)).run Tryz.prog w := by kernel_rfl
  rw [e]
  simp [part0 (P := Tryz.prog) h (b := 0) (by kernel_rfl), receiverAt, go_sem, Place.get]
set_option maxRecDepth 100000 in
theorem m_rd_seen {w : World} {ob : Nat} {cur : List Value} (h : Blk w ob cur 170) : (method 446 172 (.agg #[.pointer (some ⟨ob, 0, none⟩)]) "whelk/handles.seen").run Tryz.prog w = .ok (265, .agg #[]) w := by
  have e : (method 446 172 (.agg #[.pointer (some ⟨ob, 0, none⟩)]) "whelk/handles.seen").run Tryz.prog w = (do let p ← (do let a ← partAt ⟨ob, 0, none⟩ 0 0; pure ((163, Place.var a) : TypeId × Place)); let v ← receiverAt p.1 p.2 false none; pure (265, v) : Sem (FuncId × Value)).run Tryz.prog w := by kernel_rfl
  rw [e]
  simp [part0 (P := Tryz.prog) h (b := 0) (by kernel_rfl), receiverAt, go_sem, Place.get]
set_option maxRecDepth 100000 in
theorem m_wr_read {w : World} {ob : Nat} {cur : List Value} (h : Blk w ob cur 170) : (method 446 173 (.agg #[.pointer (some ⟨ob, 0, none⟩)]) "whelk/handles.read").run Tryz.prog w = .ok (270, .agg #[]) w := by
  have e : (method 446 173 (.agg #[.pointer (some ⟨ob, 0, none⟩)]) "whelk/handles.read").run Tryz.prog w = (do let p ← (do let a ← partAt ⟨ob, 0, none⟩ 0 0; pure ((163, Place.var a) : TypeId × Place)); let v ← receiverAt p.1 p.2 false none; pure (270, v) : Sem (FuncId × Value)).run Tryz.prog w := by kernel_rfl
  rw [e]
  simp [part0 (P := Tryz.prog) h (b := 0) (by kernel_rfl), receiverAt, go_sem, Place.get]
set_option maxRecDepth 100000 in
theorem m_wr_seen {w : World} {ob : Nat} {cur : List Value} (h : Blk w ob cur 170) : (method 446 173 (.agg #[.pointer (some ⟨ob, 0, none⟩)]) "whelk/handles.seen").run Tryz.prog w = .ok (265, .agg #[]) w := by
  have e : (method 446 173 (.agg #[.pointer (some ⟨ob, 0, none⟩)]) "whelk/handles.seen").run Tryz.prog w = (do let p ← (do let a ← partAt ⟨ob, 0, none⟩ 0 0; pure ((163, Place.var a) : TypeId × Place)); let v ← receiverAt p.1 p.2 false none; pure (265, v) : Sem (FuncId × Value)).run Tryz.prog w := by kernel_rfl
  rw [e]
  simp [part0 (P := Tryz.prog) h (b := 0) (by kernel_rfl), receiverAt, go_sem, Place.get]
end Go.Proofs.YtbjakhiflgjflaaGreatDoor

namespace Go.Proofs.YtbjakhiflgjflaaGreatDoor
open Go Go.RowKit Go.ChangeMaps
theorem Sys.drewN {w : World} {F : Nat → Prop} {c : Sy} {s : St} (h : Sys w F c s) (n : Nat) : Sys (w.drewN n) F c s := h.keep (Nat.le_refl _) fun _ _ => rfl
theorem first_grown {w w' : World} (_ : Unit) (h : ∃ n, w' = w.drewN n) : w.grownBy w' none := by
  obtain ⟨n, rfl⟩ := h
  exact grownBy_drewN (grownBy_re w) n
section
variable {w : World} {F : Nat → Prop} {fb : Nat} {ob a pb bb ends : Nat} {n : Int} {r wr m : Bool}

set_option maxRecDepth 100000 in
theorem file_read_no (hb : Blk w ob (fileC fb n a false wr m) 165) (k : Int) :
    Calls Tryz.prog 264 #[ptrV ob, .int .i64 k] w fun e w' => e = .returned (.tuple #[.string ⟨#[]⟩, .int .i64 19]) ∧ w' = w := by
  have c3 := hb.cell (i := 3) rfl
  have c4 := hb.cell (i := 4) rfl
  have hlt := hb.lt
  unfold ptrV
  clear hb
  go_enter Tryz.func264, Tryz.ntmps264
  go_wp2
  go_ret2
  exact ⟨rfl, rfl⟩
set_option maxRecDepth 100000 in
theorem file_read_neg (hb : Blk w ob (fileC fb n a true wr m) 165) (k : Int) (hk : k < 0) :
    Calls Tryz.prog 264 #[ptrV ob, .int .i64 k] w fun e w' => e = .returned (.tuple #[.string ⟨#[]⟩, .int .i64 1]) ∧ w' = w := by
  have c3 := hb.cell (i := 3) rfl
  have c4 := hb.cell (i := 4) rfl
  have hlt := hb.lt
  unfold ptrV
  clear hb
  go_enter Tryz.func264, Tryz.ntmps264
  go_wp2
  go_ret2
  exact ⟨rfl, rfl⟩
set_option maxRecDepth 100000 in
theorem file_write_no (hb : Blk w ob (fileC fb n a r false m) 165) (s : ByteArray) :
    Calls Tryz.prog 267 #[ptrV ob, .string s] w fun e w' => e = .returned (.int .i64 19) ∧ w' = w := by
  have c3 := hb.cell (i := 3) rfl
  have c4 := hb.cell (i := 4) rfl
  have hlt := hb.lt
  unfold ptrV
  clear hb
  go_enter Tryz.func267, Tryz.ntmps267
  go_wp2
  go_ret
  exact ⟨rfl, rfl⟩
set_option maxRecDepth 100000 in
theorem text_read_neg {t : ByteArray} (hb : Blk w ob [.string t, .int .i64 (a : Int)] 197) (k : Int) (hk : k < 0) :
    Calls Tryz.prog 288 #[ptrV ob, .int .i64 k] w fun e w' => e = .returned (.tuple #[.string ⟨#[]⟩, .int .i64 1]) ∧ w' = w := by
  have c0 := hb.cell (i := 0) rfl
  have c1 := hb.cell (i := 1) rfl
  have hlt := hb.lt
  unfold ptrV
  clear hb
  go_enter Tryz.func288, Tryz.ntmps288
  go_wp2
  go_ret2
  exact ⟨rfl, rfl⟩
set_option maxRecDepth 100000 in
theorem rd_read_neg {F : Nat → Prop} {plb q M C tot k : Nat} {es : List Ent} {b : Bs} (hp : Blk w pb [ptrV bb, .int .i64 (ends : Int)] 170) (h : AllF w F plb q M C es tot) (hk : es[k]? = some (bb, some b)) (j : Int) (hj : j < 0) :
    Calls Tryz.prog 277 #[.agg #[ptrV pb], .int .i64 j] w fun e w' => e = .returned (.tuple #[.string ⟨#[]⟩, .int .i64 1]) ∧ w.grownBy w' none := by
  have hb1 : Blk (w.alloc (.cells #[ptrV pb] 172)) w.heap.size [ptrV pb] 172 := Blk.new w _ _
  have hp1 : Blk (w.alloc (.cells #[ptrV pb] 172)) pb _ _ := (Below.heap_alloc w _ pb hp.lt).trans hp
  have h1 : AllF (w.alloc (.cells #[ptrV pb] 172)) F plb q M C es tot := h.keep (by simp) fun g hg => Below.heap_alloc w _ g (h.lt hg)
  have hc1 : w.grownBy (w.alloc (.cells #[ptrV pb] 172)) none := World.grownBy_alloc w _ _
  obtain ⟨B, hA⟩ := h1.all
  have hn := all_neg j hj hA hk
  unfold ptrV at hp1 hb1 hc1 hn ⊢
  replace hn := Lib.hid hn
  replace hc1 := Lib.hid hc1
  clear hA h1 h hp hj
  go_enter Tryz.func277, Tryz.ntmps277
  go_upto_region 1 with fail
  obtain ⟨z, hz⟩ : ∃ z, w.heap.size = z := ⟨_, rfl⟩
  generalize (w.alloc (.cells #[.pointer (some ⟨pb, 0, none⟩)] 172)) = w1 at hb1 hp1 hc1 hn ⊢
  simp only [hz] at hb1 ⊢
  replace hz := Lib.hid hz
  have z0 := hb1.cell (i := 0) rfl
  have c0 := hp1.cell (i := 0) rfl
  have hzl := hb1.lt
  have hpl := hp1.lt
  clear hb1 hp1
  go_wp2_with fail
  refine hn.out.mono ?_
  rintro e w' ⟨rfl, hw⟩
  obtain rfl := hw.symm
  clear hn hw
  go_wp2
  go_ret2
  exact ⟨rfl, hc1.out⟩
end
section
variable {w : World} {F : Nat → Prop} {c : Sy} {s : St} {k : Int} {x : Hd}
set_option maxRecDepth 100000 in
theorem sys_Ref_none (h : Sys w F c s) (hx : look s.hs k = none) :
    Calls Tryz.prog 39 #[ptrV c.tb, .int .i64 k] w fun e w' => e = .returned (.int .i64 18) ∧ w' = w := by
  obtain ⟨Ft, Fp, Fh, h, hF⟩ := h
  obtain ⟨lab, mb, mem, v, ht, hFh⟩ := h.tab
  have hf := tfind_none ht hx
  unfold ptrV at hf ⊢
  clear h ht hF hFh hx
  go_enter Tryz.func39, Tryz.ntmps39
  go_wp2_with fail
  refine hf.mono ?_
  rintro e w' ⟨rfl, hw⟩
  obtain rfl := hw.symm
  clear hf hw
  go_wp2
  go_ret
  exact ⟨rfl, rfl⟩
set_option maxRecDepth 100000 in
theorem sys_Unref_none (h : Sys w F c s) (hx : look s.hs k = none) :
    Calls Tryz.prog 20 #[ptrV c.tb, .int .i64 k] w fun e w' => e = .returned (.int .i64 18) ∧ w' = w := by
  obtain ⟨Ft, Fp, Fh, h, hF⟩ := h
  obtain ⟨lab, mb, mem, v, ht, hFh⟩ := h.tab
  have hf := tfind_none ht hx
  unfold ptrV at hf ⊢
  clear h ht hF hFh hx
  go_enter Tryz.func20, Tryz.ntmps20
  go_wp2_with fail
  refine hf.mono ?_
  rintro e w' ⟨rfl, hw⟩
  obtain rfl := hw.symm
  clear hf hw
  go_wp2
  go_ret
  exact ⟨rfl, rfl⟩
set_option maxRecDepth 100000 in
theorem sys_Read_none (h : Sys w F c s) (hx : look s.hs k = none) (j : Int) :
    Calls Tryz.prog 40 #[ptrV c.tb, .int .i64 k, .int .i64 j] w fun e w' => e = .returned (.tuple #[.string ⟨#[]⟩, .int .i64 18]) ∧ w' = w := by
  obtain ⟨Ft, Fp, Fh, h, hF⟩ := h
  obtain ⟨lab, mb, mem, v, ht, hFh⟩ := h.tab
  have hf := tfind_none ht hx
  unfold ptrV at hf ⊢
  clear h ht hF hFh hx
  go_enter Tryz.func40, Tryz.ntmps40
  go_wp2_with fail
  refine hf.mono ?_
  rintro e w' ⟨rfl, hw⟩
  obtain rfl := hw.symm
  clear hf hw
  go_wp2
  go_ret2
  exact ⟨rfl, rfl⟩
set_option maxRecDepth 100000 in
theorem sys_Write_none (h : Sys w F c s) (hx : look s.hs k = none) (t : ByteArray) :
    Calls Tryz.prog 42 #[ptrV c.tb, .int .i64 k, .string t] w fun e w' => e = .returned (.int .i64 18) ∧ w' = w := by
  obtain ⟨Ft, Fp, Fh, h, hF⟩ := h
  obtain ⟨lab, mb, mem, v, ht, hFh⟩ := h.tab
  have hf := tfind_none ht hx
  unfold ptrV at hf ⊢
  clear h ht hF hFh hx
  go_enter Tryz.func42, Tryz.ntmps42
  go_wp2_with fail
  refine hf.mono ?_
  rintro e w' ⟨rfl, hw⟩
  obtain rfl := hw.symm
  clear hf hw
  go_wp2
  go_ret
  exact ⟨rfl, rfl⟩
set_option maxRecDepth 100000 in
theorem sys_Seen_none (h : Sys w F c s) (hx : look s.hs k = none) :
    Calls Tryz.prog 66 #[ptrV c.tb, .int .i64 k] w fun e w' => e = .returned (.tuple #[.string ⟨#[]⟩, .int .i64 18]) ∧ w' = w := by
  obtain ⟨Ft, Fp, Fh, h, hF⟩ := h
  obtain ⟨lab, mb, mem, v, ht, hFh⟩ := h.tab
  have hf := tfind_none ht hx
  unfold ptrV at hf ⊢
  clear h ht hF hFh hx
  go_enter Tryz.func66, Tryz.ntmps66
  go_wp2_with fail
  refine hf.mono ?_
  rintro e w' ⟨rfl, hw⟩
  obtain rfl := hw.symm
  clear hf hw
  go_wp2
  go_ret2
  exact ⟨rfl, rfl⟩
set_option maxRecDepth 100000 in
theorem sys_Read_file_no (h : Sys w F c s) (hx : look s.hs k = some x) {n : Int} {a : Nat} {r wr m : Bool} (hk : x.kd = .file n a false wr m) (j : Int) :
    Calls Tryz.prog 40 #[ptrV c.tb, .int .i64 k, .int .i64 j] w fun e w' => e = .returned (.tuple #[.string ⟨#[]⟩, .int .i64 19]) ∧ w.grownBy w' none := by
  obtain ⟨Ft, Fp, Fh, h, hF⟩ := h
  obtain ⟨lab, mb, mem, v, ht, hFh⟩ := h.tab
  have hf := tfind_some ht hx
  have hd := ht.hd k x hx
  have c0 := hd.blk.cell (i := 0) rfl
  rw [show doesV s.pp x.kd (mem k).ob = .iface 161 (ptrV (mem k).ob) by rw [hk]; rfl] at c0
  have hlt := hd.blk.lt
  have ho := hd.ob
  rw [hk] at ho
  have hobl : (mem k).ob < w.heap.size := ho.1.lt
  have hr := file_read_no ho.1 j
  generalize (mem k).ob = ob at *
  generalize (mem k).blk = kb at hf c0 hlt
  unfold ptrV at hf c0 hr ⊢
  replace hr := Lib.hid hr
  clear h hd ht hF hFh hx hk ho
  go_enter Tryz.func40, Tryz.ntmps40
  go_wp2_with fail
  refine hf.mono ?_
  rintro e w' ⟨rfl, hw⟩
  obtain rfl := hw.symm
  clear hf hw
  go_wp2_with fail
  refine hr.out.mono ?_
  rintro e w' ⟨rfl, hw⟩
  obtain rfl := hw.symm
  clear hr hw
  go_wp2
  go_ret2
  exact ⟨rfl, grownBy_re w⟩
set_option maxRecDepth 100000 in
theorem sys_Read_file_neg (h : Sys w F c s) (hx : look s.hs k = some x) {n : Int} {a : Nat} {r wr m : Bool} (hk : x.kd = .file n a true wr m) (j : Int) (hj : j < 0) :
    Calls Tryz.prog 40 #[ptrV c.tb, .int .i64 k, .int .i64 j] w fun e w' => e = .returned (.tuple #[.string ⟨#[]⟩, .int .i64 1]) ∧ w.grownBy w' none := by
  obtain ⟨Ft, Fp, Fh, h, hF⟩ := h
  obtain ⟨lab, mb, mem, v, ht, hFh⟩ := h.tab
  have hf := tfind_some ht hx
  have hd := ht.hd k x hx
  have c0 := hd.blk.cell (i := 0) rfl
  rw [show doesV s.pp x.kd (mem k).ob = .iface 161 (ptrV (mem k).ob) by rw [hk]; rfl] at c0
  have hlt := hd.blk.lt
  have ho := hd.ob
  rw [hk] at ho
  have hobl : (mem k).ob < w.heap.size := ho.1.lt
  have hr := file_read_neg ho.1 j hj
  generalize (mem k).ob = ob at *
  generalize (mem k).blk = kb at hf c0 hlt
  unfold ptrV at hf c0 hr ⊢
  replace hr := Lib.hid hr
  clear h hd ht hF hFh hx hk ho
  go_enter Tryz.func40, Tryz.ntmps40
  go_wp2_with fail
  refine hf.mono ?_
  rintro e w' ⟨rfl, hw⟩
  obtain rfl := hw.symm
  clear hf hw
  go_wp2_with fail
  refine hr.out.mono ?_
  rintro e w' ⟨rfl, hw⟩
  obtain rfl := hw.symm
  clear hr hw
  go_wp2
  go_ret2
  exact ⟨rfl, grownBy_re w⟩
set_option maxRecDepth 100000 in
theorem sys_Write_file_no (h : Sys w F c s) (hx : look s.hs k = some x) {n : Int} {a : Nat} {r wr m : Bool} (hk : x.kd = .file n a r false m) (t : ByteArray) :
    Calls Tryz.prog 42 #[ptrV c.tb, .int .i64 k, .string t] w fun e w' => e = .returned (.int .i64 19) ∧ w.grownBy w' none := by
  obtain ⟨Ft, Fp, Fh, h, hF⟩ := h
  obtain ⟨lab, mb, mem, v, ht, hFh⟩ := h.tab
  have hf := tfind_some ht hx
  have hd := ht.hd k x hx
  have c0 := hd.blk.cell (i := 0) rfl
  rw [show doesV s.pp x.kd (mem k).ob = .iface 161 (ptrV (mem k).ob) by rw [hk]; rfl] at c0
  have hlt := hd.blk.lt
  have ho := hd.ob
  rw [hk] at ho
  have hobl : (mem k).ob < w.heap.size := ho.1.lt
  have hr := file_write_no ho.1 t
  generalize (mem k).ob = ob at *
  generalize (mem k).blk = kb at hf c0 hlt
  unfold ptrV at hf c0 hr ⊢
  replace hr := Lib.hid hr
  clear h hd ht hF hFh hx hk ho
  go_enter Tryz.func42, Tryz.ntmps42
  go_wp2_with fail
  refine hf.mono ?_
  rintro e w' ⟨rfl, hw⟩
  obtain rfl := hw.symm
  clear hf hw
  go_wp2_with fail
  refine hr.out.mono ?_
  rintro e w' ⟨rfl, hw⟩
  obtain rfl := hw.symm
  clear hr hw
  go_wp2
  go_ret
  exact ⟨rfl, grownBy_re w⟩
set_option maxRecDepth 100000 in
theorem sys_Read_text_neg (h : Sys w F c s) (hx : look s.hs k = some x) {T : ByteArray} {a : Nat} (hk : x.kd = .text (tl T) a) (j : Int) (hj : j < 0) :
    Calls Tryz.prog 40 #[ptrV c.tb, .int .i64 k, .int .i64 j] w fun e w' => e = .returned (.tuple #[.string ⟨#[]⟩, .int .i64 1]) ∧ w.grownBy w' none := by
  obtain ⟨Ft, Fp, Fh, h, hF⟩ := h
  obtain ⟨lab, mb, mem, v, ht, hFh⟩ := h.tab
  have hf := tfind_some ht hx
  have hd := ht.hd k x hx
  have c0 := hd.blk.cell (i := 0) rfl
  rw [show doesV s.pp x.kd (mem k).ob = .iface 195 (ptrV (mem k).ob) by rw [hk]; rfl] at c0
  have hlt := hd.blk.lt
  have ho := hd.ob
  rw [hk] at ho
  have hobl : (mem k).ob < w.heap.size := ho.1.lt
  have hr := text_read_neg ho.1 j hj
  generalize (mem k).ob = ob at *
  generalize (mem k).blk = kb at hf c0 hlt
  unfold ptrV at hf c0 hr ⊢
  replace hr := Lib.hid hr
  clear h hd ht hF hFh hx hk ho
  go_enter Tryz.func40, Tryz.ntmps40
  go_wp2_with fail
  refine hf.mono ?_
  rintro e w' ⟨rfl, hw⟩
  obtain rfl := hw.symm
  clear hf hw
  go_wp2_with fail
  refine hr.out.mono ?_
  rintro e w' ⟨rfl, hw⟩
  obtain rfl := hw.symm
  clear hr hw
  go_wp2
  go_ret2
  exact ⟨rfl, grownBy_re w⟩
set_option maxRecDepth 100000 in
theorem sys_Write_text (h : Sys w F c s) (hx : look s.hs k = some x) {T : ByteArray} {a : Nat} (hk : x.kd = .text (tl T) a) (t : ByteArray) :
    Calls Tryz.prog 42 #[ptrV c.tb, .int .i64 k, .string t] w fun e w' => e = .returned (.int .i64 19) ∧ w.grownBy w' none := by
  obtain ⟨Ft, Fp, Fh, h, hF⟩ := h
  obtain ⟨lab, mb, mem, v, ht, hFh⟩ := h.tab
  have hf := tfind_some ht hx
  have hd := ht.hd k x hx
  have c0 := hd.blk.cell (i := 0) rfl
  rw [show doesV s.pp x.kd (mem k).ob = .iface 195 (ptrV (mem k).ob) by rw [hk]; rfl] at c0
  have hlt := hd.blk.lt
  have ho := hd.ob
  rw [hk] at ho
  have hobl : (mem k).ob < w.heap.size := ho.1.lt
  have hm := m_text_write ho.1
  generalize (mem k).ob = ob at *
  generalize (mem k).blk = kb at hf c0 hlt
  unfold ptrV at hf c0 ⊢
  clear h hd ht hF hFh hx hk ho
  go_enter Tryz.func42, Tryz.ntmps42
  go_wp2_with fail
  refine hf.mono ?_
  rintro e w' ⟨rfl, hw⟩
  obtain rfl := hw.symm
  clear hf hw
  go_wp2
  go_ret
  exact ⟨rfl, World.grownBy_alloc w _ _⟩
set_option maxRecDepth 100000 in
theorem sys_Seen_file (h : Sys w F c s) (hx : look s.hs k = some x) {n : Int} {a : Nat} {r wr m : Bool} (hk : x.kd = .file n a r wr m) :
    Calls Tryz.prog 66 #[ptrV c.tb, .int .i64 k] w fun e w' => e = .returned (.tuple #[.string ⟨#[]⟩, .int .i64 19]) ∧ w.grownBy w' none := by
  obtain ⟨Ft, Fp, Fh, h, hF⟩ := h
  obtain ⟨lab, mb, mem, v, ht, hFh⟩ := h.tab
  have hf := tfind_some ht hx
  have hd := ht.hd k x hx
  have c0 := hd.blk.cell (i := 0) rfl
  rw [show doesV s.pp x.kd (mem k).ob = .iface 161 (ptrV (mem k).ob) by rw [hk]; rfl] at c0
  have hlt := hd.blk.lt
  have ho := hd.ob
  rw [hk] at ho
  have hobl : (mem k).ob < w.heap.size := ho.1.lt
  have hm := m_file_seen ho.1
  generalize (mem k).ob = ob at *
  generalize (mem k).blk = kb at hf c0 hlt
  unfold ptrV at hf c0 ⊢
  clear h hd ht hF hFh hx hk ho
  go_enter Tryz.func66, Tryz.ntmps66
  go_wp2_with fail
  refine hf.mono ?_
  rintro e w' ⟨rfl, hw⟩
  obtain rfl := hw.symm
  clear hf hw
  go_wp2
  go_ret2
  exact ⟨rfl, World.grownBy_alloc w _ _⟩
set_option maxRecDepth 100000 in
theorem sys_Seen_text (h : Sys w F c s) (hx : look s.hs k = some x) {T : ByteArray} {a : Nat} (hk : x.kd = .text (tl T) a) :
    Calls Tryz.prog 66 #[ptrV c.tb, .int .i64 k] w fun e w' => e = .returned (.tuple #[.string ⟨#[]⟩, .int .i64 19]) ∧ w.grownBy w' none := by
  obtain ⟨Ft, Fp, Fh, h, hF⟩ := h
  obtain ⟨lab, mb, mem, v, ht, hFh⟩ := h.tab
  have hf := tfind_some ht hx
  have hd := ht.hd k x hx
  have c0 := hd.blk.cell (i := 0) rfl
  rw [show doesV s.pp x.kd (mem k).ob = .iface 195 (ptrV (mem k).ob) by rw [hk]; rfl] at c0
  have hlt := hd.blk.lt
  have ho := hd.ob
  rw [hk] at ho
  have hobl : (mem k).ob < w.heap.size := ho.1.lt
  have hm := m_text_seen ho.1
  generalize (mem k).ob = ob at *
  generalize (mem k).blk = kb at hf c0 hlt
  unfold ptrV at hf c0 ⊢
  clear h hd ht hF hFh hx hk ho
  go_enter Tryz.func66, Tryz.ntmps66
  go_wp2_with fail
  refine hf.mono ?_
  rintro e w' ⟨rfl, hw⟩
  obtain rfl := hw.symm
  clear hf hw
  go_wp2
  go_ret2
  exact ⟨rfl, World.grownBy_alloc w _ _⟩
set_option maxRecDepth 100000 in
theorem sys_Seen_rd (h : Sys w F c s) (hx : look s.hs k = some x) {p pb bb ends : Nat} (hk : x.kd = .rd p) (hp : s.pp[p]? = some (pb, bb, ends)) :
    Calls Tryz.prog 66 #[ptrV c.tb, .int .i64 k] w fun e w' => e = .returned (.tuple #[.string ⟨#[]⟩, .int .i64 19]) ∧ w.grownBy w' none := by
  obtain ⟨Ft, Fp, Fh, h, hF⟩ := h
  obtain ⟨lab, mb, mem, v, ht, hFh⟩ := h.tab
  have hf := tfind_some ht hx
  have hd := ht.hd k x hx
  have c0 := hd.blk.cell (i := 0) rfl
  rw [show doesV s.pp x.kd (mem k).ob = .iface 172 (.agg #[ptrV pb]) by show doesV s.pp x.kd (mem k).ob = .iface _ (.agg #[ptrV pb]); rw [hk]; show Value.iface _ (.agg #[ptrV (pipeB s.pp p)]) = _; unfold pipeB; rw [List.getD_eq_getElem?_getD, hp]; rfl] at c0
  have hlt := hd.blk.lt
  have hpp := (ht.pi p pb bb ends hp).1
  have pc0 := hpp.cell (i := 0) rfl
  have hpl := hpp.lt
  have hm := m_rd_seen hpp
  generalize (mem k).blk = kb at hf c0 hlt
  unfold ptrV at hf c0 pc0 ⊢
  clear h hd ht hF hFh hx hk hpp hp
  go_enter Tryz.func66, Tryz.ntmps66
  go_wp2_with fail
  refine hf.mono ?_
  rintro e w' ⟨rfl, hw⟩
  obtain rfl := hw.symm
  clear hf hw
  go_wp2
  go_ret2
  exact ⟨rfl, World.grownBy_alloc w _ _⟩
set_option maxRecDepth 100000 in
theorem sys_Seen_wr (h : Sys w F c s) (hx : look s.hs k = some x) {p pb bb ends : Nat} (hk : x.kd = .wr p) (hp : s.pp[p]? = some (pb, bb, ends)) :
    Calls Tryz.prog 66 #[ptrV c.tb, .int .i64 k] w fun e w' => e = .returned (.tuple #[.string ⟨#[]⟩, .int .i64 19]) ∧ w.grownBy w' none := by
  obtain ⟨Ft, Fp, Fh, h, hF⟩ := h
  obtain ⟨lab, mb, mem, v, ht, hFh⟩ := h.tab
  have hf := tfind_some ht hx
  have hd := ht.hd k x hx
  have c0 := hd.blk.cell (i := 0) rfl
  rw [show doesV s.pp x.kd (mem k).ob = .iface 173 (.agg #[ptrV pb]) by show doesV s.pp x.kd (mem k).ob = .iface _ (.agg #[ptrV pb]); rw [hk]; show Value.iface _ (.agg #[ptrV (pipeB s.pp p)]) = _; unfold pipeB; rw [List.getD_eq_getElem?_getD, hp]; rfl] at c0
  have hlt := hd.blk.lt
  have hpp := (ht.pi p pb bb ends hp).1
  have pc0 := hpp.cell (i := 0) rfl
  have hpl := hpp.lt
  have hm := m_wr_seen hpp
  generalize (mem k).blk = kb at hf c0 hlt
  unfold ptrV at hf c0 pc0 ⊢
  clear h hd ht hF hFh hx hk hpp hp
  go_enter Tryz.func66, Tryz.ntmps66
  go_wp2_with fail
  refine hf.mono ?_
  rintro e w' ⟨rfl, hw⟩
  obtain rfl := hw.symm
  clear hf hw
  go_wp2
  go_ret2
  exact ⟨rfl, World.grownBy_alloc w _ _⟩
set_option maxRecDepth 100000 in
theorem sys_Read_sink (h : Sys w F c s) (hx : look s.hs k = some x) {l : List UInt8} {m : Nat} (hk : x.kd = .sink l m) (j : Int) :
    Calls Tryz.prog 40 #[ptrV c.tb, .int .i64 k, .int .i64 j] w fun e w' => e = .returned (.tuple #[.string ⟨#[]⟩, .int .i64 19]) ∧ w.grownBy w' none := by
  obtain ⟨Ft, Fp, Fh, h, hF⟩ := h
  obtain ⟨lab, mb, mem, v, ht, hFh⟩ := h.tab
  have hf := tfind_some ht hx
  have hd := ht.hd k x hx
  have c0 := hd.blk.cell (i := 0) rfl
  rw [show doesV s.pp x.kd (mem k).ob = .iface 198 (ptrV (mem k).ob) by rw [hk]; rfl] at c0
  have hlt := hd.blk.lt
  have ho := hd.ob
  rw [hk] at ho
  have hobl : (mem k).ob < w.heap.size := ho.1.lt
  have hm := m_sink_read ho.1
  generalize (mem k).ob = ob at *
  generalize (mem k).blk = kb at hf c0 hlt
  unfold ptrV at hf c0 ⊢
  clear h hd ht hF hFh hx hk ho
  go_enter Tryz.func40, Tryz.ntmps40
  go_wp2_with fail
  refine hf.mono ?_
  rintro e w' ⟨rfl, hw⟩
  obtain rfl := hw.symm
  clear hf hw
  go_wp2
  go_ret2
  exact ⟨rfl, World.grownBy_alloc w _ _⟩
set_option maxRecDepth 100000 in
theorem sys_Read_wr (h : Sys w F c s) (hx : look s.hs k = some x) {p pb bb ends : Nat} (hk : x.kd = .wr p) (hp : s.pp[p]? = some (pb, bb, ends)) (j : Int) :
    Calls Tryz.prog 40 #[ptrV c.tb, .int .i64 k, .int .i64 j] w fun e w' => e = .returned (.tuple #[.string ⟨#[]⟩, .int .i64 19]) ∧ w.grownBy w' none := by
  obtain ⟨Ft, Fp, Fh, h, hF⟩ := h
  obtain ⟨lab, mb, mem, v, ht, hFh⟩ := h.tab
  have hf := tfind_some ht hx
  have hd := ht.hd k x hx
  have c0 := hd.blk.cell (i := 0) rfl
  rw [show doesV s.pp x.kd (mem k).ob = .iface 173 (.agg #[ptrV pb]) by show doesV s.pp x.kd (mem k).ob = .iface _ (.agg #[ptrV pb]); rw [hk]; show Value.iface _ (.agg #[ptrV (pipeB s.pp p)]) = _; unfold pipeB; rw [List.getD_eq_getElem?_getD, hp]; rfl] at c0
  have hlt := hd.blk.lt
  have hpp := (ht.pi p pb bb ends hp).1
  have pc0 := hpp.cell (i := 0) rfl
  have hpl := hpp.lt
  have hm := m_wr_read hpp
  generalize (mem k).blk = kb at hf c0 hlt
  unfold ptrV at hf c0 pc0 ⊢
  clear h hd ht hF hFh hx hk hpp hp
  go_enter Tryz.func40, Tryz.ntmps40
  go_wp2_with fail
  refine hf.mono ?_
  rintro e w' ⟨rfl, hw⟩
  obtain rfl := hw.symm
  clear hf hw
  go_wp2
  go_ret2
  exact ⟨rfl, World.grownBy_alloc w _ _⟩
set_option maxRecDepth 100000 in
theorem sys_Write_rd (h : Sys w F c s) (hx : look s.hs k = some x) {p pb bb ends : Nat} (hk : x.kd = .rd p) (hp : s.pp[p]? = some (pb, bb, ends)) (t : ByteArray) :
    Calls Tryz.prog 42 #[ptrV c.tb, .int .i64 k, .string t] w fun e w' => e = .returned (.int .i64 19) ∧ w.grownBy w' none := by
  obtain ⟨Ft, Fp, Fh, h, hF⟩ := h
  obtain ⟨lab, mb, mem, v, ht, hFh⟩ := h.tab
  have hf := tfind_some ht hx
  have hd := ht.hd k x hx
  have c0 := hd.blk.cell (i := 0) rfl
  rw [show doesV s.pp x.kd (mem k).ob = .iface 172 (.agg #[ptrV pb]) by show doesV s.pp x.kd (mem k).ob = .iface _ (.agg #[ptrV pb]); rw [hk]; show Value.iface _ (.agg #[ptrV (pipeB s.pp p)]) = _; unfold pipeB; rw [List.getD_eq_getElem?_getD, hp]; rfl] at c0
  have hlt := hd.blk.lt
  have hpp := (ht.pi p pb bb ends hp).1
  have pc0 := hpp.cell (i := 0) rfl
  have hpl := hpp.lt
  have hm := m_rd_write hpp
  generalize (mem k).blk = kb at hf c0 hlt
  unfold ptrV at hf c0 pc0 ⊢
  clear h hd ht hF hFh hx hk hpp hp
  go_enter Tryz.func42, Tryz.ntmps42
  go_wp2_with fail
  refine hf.mono ?_
  rintro e w' ⟨rfl, hw⟩
  obtain rfl := hw.symm
  clear hf hw
  go_wp2
  go_ret
  exact ⟨rfl, World.grownBy_alloc w _ _⟩
set_option maxRecDepth 100000 in
theorem sys_Read_rd_neg (h : Sys w F c s) (hx : look s.hs k = some x) {p pb bb ends : Nat} (hk : x.kd = .rd p) (hp : s.pp[p]? = some (pb, bb, ends)) {q : Nat} {b : Bs} (he : s.es[q]? = some (bb, some b)) (j : Int) (hj : j < 0) :
    Calls Tryz.prog 40 #[ptrV c.tb, .int .i64 k, .int .i64 j] w fun e w' => e = .returned (.tuple #[.string ⟨#[]⟩, .int .i64 1]) ∧ w.grownBy w' none := by
  obtain ⟨Ft, Fp, Fh, h, hF⟩ := h
  obtain ⟨lab, mb, mem, v, ht, hFh⟩ := h.tab
  have hf := tfind_some ht hx
  have hd := ht.hd k x hx
  have c0 := hd.blk.cell (i := 0) rfl
  rw [show doesV s.pp x.kd (mem k).ob = .iface 172 (.agg #[ptrV pb]) by show doesV s.pp x.kd (mem k).ob = .iface _ (.agg #[ptrV pb]); rw [hk]; show Value.iface _ (.agg #[ptrV (pipeB s.pp p)]) = _; unfold pipeB; rw [List.getD_eq_getElem?_getD, hp]; rfl] at c0
  have hlt := hd.blk.lt
  have hpp := (ht.pi p pb bb ends hp).1
  have pc0 := hpp.cell (i := 0) rfl
  have hpl := hpp.lt
  have hr := rd_read_neg hpp h.pool he j hj
  generalize (mem k).blk = kb at hf c0 hlt
  unfold ptrV at hf c0 hr pc0 ⊢
  replace hr := Lib.hid hr
  clear h hd ht hF hFh hx hk hpp hp
  go_enter Tryz.func40, Tryz.ntmps40
  go_wp2_with fail
  refine hf.mono ?_
  rintro e w' ⟨rfl, hw⟩
  obtain rfl := hw.symm
  clear hf hw
  go_wp2_with fail
  refine hr.out.mono ?_
  rintro e w2 ⟨rfl, hg2⟩
  replace hg2 := Lib.hid hg2
  go_wp2
  go_ret2
  exact ⟨rfl, hg2.out⟩
end
end Go.Proofs.YtbjakhiflgjflaaGreatDoor

namespace Go.Proofs.YtbjakhiflgjflaaGreatDoor
open Go Go.RowKit Go.ChangeMaps

section
variable {w : World} {F : Nat → Prop} {c : Sy} {s : St}
set_option maxHeartbeats 1000000 in
set_option maxRecDepth 100000 in
theorem file_bad (h : Sys w F c s) (n : Int) (a b m : Bool) (kd sz nd ho e0 er : Int) (hst : ∀ W, w.grownBy W none → Calls Tryz.prog 18 #[ptrV c.fb, .int .i64 n] W fun e w' => e = .returned (.tuple #[.agg #[.int .i64 kd, .int .i64 sz, .int .i64 nd, .int .i64 ho], .int .i64 e0]) ∧ W.grownBy w' none)
    (hc : e0 ≠ 0 ∧ er = e0 ∨ e0 = 0 ∧ kd = 1 ∧ er = 13 ∨ e0 = 0 ∧ kd ≠ 1 ∧ kd ≠ 2 ∧ er = 1 ∨ e0 = 0 ∧ kd = 2 ∧ a = false ∧ b = false ∧ er = 1) :
    Calls Tryz.prog 38 #[ptrV c.tb, .int .i64 n, .agg #[.bool a, .bool b, .bool m]] w fun e w' => e = .returned (.tuple #[.int .i64 0, .int .i64 er]) ∧ w.grownBy w' none := by
  obtain ⟨Ft, Fp, Fh, h, hF⟩ := h
  have g1 : w.grownBy (w.alloc (.cells #[.bool a, .bool b, .bool m] 38)) none := World.grownBy_alloc w _ _
  have b1 : Blk (w.alloc (.cells #[.bool a, .bool b, .bool m] 38)) w.heap.size [.bool a, .bool b, .bool m] 38 := Blk.new w _ _
  unfold ptrV at hst ⊢
  go_enter Tryz.func38, Tryz.ntmps38
  go_upto_region 1 with fail
  obtain ⟨z, hz⟩ : ∃ z, w.heap.size = z := ⟨_, rfl⟩
  generalize w.alloc (.cells #[.bool a, .bool b, .bool m] 38) = w1 at g1 b1 ⊢
  simp only [hz] at b1 ⊢
  replace hz := Lib.hid hz
  have h1 := h.grown g1
  obtain ⟨lab, mb, mem, v, ht1, hFh1⟩ := h1.tab
  have hi := isNil_no ht1
  have hst1 := hst w1 g1
  have t0 := ht1.num.at_.blk.cell (i := 0) rfl
  have tl1 := ht1.num.at_.blk.lt
  unfold ptrV at hi t0
  replace hst1 := Lib.hid hst1
  replace hc := Lib.hid hc
  clear h ht1 h1 hFh1 hF hst
  go_wp2_with fail
  refine hi.mono ?_
  rintro e w' ⟨rfl, hw⟩
  obtain rfl := hw.symm
  clear hi hw
  go_wp2_with fail
  refine hst1.out.mono ?_
  rintro e w2 ⟨rfl, g2⟩
  have g3 := grownBy_tr g1 g2
  have b2 : Blk w2 z [.bool a, .bool b, .bool m] 38 := (g2.block z b1.lt (by simp)).trans b1
  clear hst1 g2 t0 b1 g1
  go_upto_region 4 with fail
  have g4 := grownBy_tr (w'' := (w2.alloc (.cells #[.int .i64 kd, .int .i64 sz, .int .i64 nd, .int .i64 ho] 50))) g3 (World.grownBy_alloc w2 _ _)
  have i3 : Blk (w2.alloc (.cells #[.int .i64 kd, .int .i64 sz, .int .i64 nd, .int .i64 ho] 50)) w2.heap.size [.int .i64 kd, .int .i64 sz, .int .i64 nd, .int .i64 ho] 50 := Blk.new w2 _ _
  have b3 : Blk (w2.alloc (.cells #[.int .i64 kd, .int .i64 sz, .int .i64 nd, .int .i64 ho] 50)) z [.bool a, .bool b, .bool m] 38 := (Below.heap_alloc w2 _ z b2.lt).trans b2
  generalize w2.alloc (.cells #[.int .i64 kd, .int .i64 sz, .int .i64 nd, .int .i64 ho] 50) = w3 at g4 i3 b3 ⊢
  generalize w2.heap.size = zi at i3 ⊢
  have i30 := i3.cell (i := 0) rfl
  have m0 := Blk.cell (w := w3) (b := z) (i := 0) b3 rfl
  have m1 := Blk.cell (w := w3) (b := z) (i := 1) b3 rfl
  have il := i3.lt
  have ml := Blk.lt (w := w3) (b := z) b3
  replace g4 := Lib.hid g4
  clear g3 b2 i3 b3
  rcases hc.out with ⟨h1, rfl⟩ | ⟨rfl, rfl, rfl⟩ | ⟨rfl, h1, h2, rfl⟩ | ⟨rfl, rfl, rfl, rfl, rfl⟩
  · have e1 : (er != 0) = true := by simpa using h1
    clear hc h1
    go_wp2
    go_ret2
    exact ⟨rfl, g4.out⟩
  · clear hc
    go_wp2
    go_ret2
    exact ⟨rfl, g4.out⟩
  · have e1 : (kd == 1) = false := by simpa using h1
    have e2 : (kd != 2) = true := by simpa using h2
    clear hc h1 h2
    go_wp2
    go_ret2
    exact ⟨rfl, g4.out⟩
  · clear hc
    go_wp2
    go_ret2
    exact ⟨rfl, g4.out⟩
theorem sys_File_none (h : Sys w F c s) {n : Int} (hy : look s.nds n = none) (a b m : Bool) :
    Calls Tryz.prog 38 #[ptrV c.tb, .int .i64 n, .agg #[.bool a, .bool b, .bool m]] w fun e w' => e = .returned (.tuple #[.int .i64 0, .int .i64 10]) ∧ w.grownBy w' none :=
  file_bad h n a b m 0 0 0 0 10 10 (fun W hW => by
    obtain ⟨Ft, Fp, Fh, h, hF⟩ := h
    obtain ⟨labt, mbt, memt, hT, hFt⟩ := h.tree
    exact stat_none (hT.grown hW) hy) (.inl ⟨by decide, rfl⟩)
theorem sys_File_kind (h : Sys w F c s) {n : Int} {y : Pn} (hy : look s.nds n = some y) (hyl : nmsLen y ≤ 1000000) (a b m : Bool) (er : Int) (hc : y.kind = 1 ∧ er = 13 ∨ y.kind ≠ 1 ∧ y.kind ≠ 2 ∧ er = 1 ∨ y.kind = 2 ∧ a = false ∧ b = false ∧ er = 1) :
    Calls Tryz.prog 38 #[ptrV c.tb, .int .i64 n, .agg #[.bool a, .bool b, .bool m]] w fun e w' => e = .returned (.tuple #[.int .i64 0, .int .i64 er]) ∧ w.grownBy w' none :=
  file_bad h n a b m (y.kind : Int) ((y.data.length + nmsLen y : Nat) : Int) (y.named : Int) (y.holds : Int) 0 er (fun W hW => by
    obtain ⟨Ft, Fp, Fh, h, hF⟩ := h
    obtain ⟨labt, mbt, memt, hT, hFt⟩ := h.tree
    exact stat_some (hT.grown hW) hy hyl) (by
    rcases hc with ⟨h1, rfl⟩ | ⟨h1, h2, rfl⟩ | ⟨h1, rfl, rfl, rfl⟩
    · exact .inr (.inl ⟨rfl, by omega, rfl⟩)
    · exact .inr (.inr (.inl ⟨rfl, by omega, by omega, rfl⟩))
    · exact .inr (.inr (.inr ⟨rfl, by omega, rfl, rfl, rfl⟩)))
set_option maxRecDepth 100000 in
theorem sys_Sink_bad (h : Sys w F c s) (n : Int) (hn : n < 0 ∨ 1048576 < n) :
    Calls Tryz.prog 52 #[ptrV c.tb, .int .i64 n] w fun e w' => e = .returned (.tuple #[.int .i64 0, .int .i64 1]) ∧ w.grownBy w' none := by
  obtain ⟨Ft, Fp, Fh, h, hF⟩ := h
  obtain ⟨lab, mb, mem, v, htb, hFh⟩ := h.tab
  have hi := isNil_no htb
  unfold ptrV at hi ⊢
  clear h htb hF hFh
  by_cases h0 : n < 0
  · clear hn
    go_enter Tryz.func52, Tryz.ntmps52
    go_wp2_with fail
    refine hi.mono ?_
    rintro e w' ⟨rfl, hw⟩
    obtain rfl := hw.symm
    clear hi hw
    go_wp2
    go_ret2
    exact ⟨rfl, grownBy_re w⟩
  · have h1 : 1048576 < n := hn.resolve_left h0
    clear hn
    go_enter Tryz.func52, Tryz.ntmps52
    go_wp2_with fail
    refine hi.mono ?_
    rintro e w' ⟨rfl, hw⟩
    obtain rfl := hw.symm
    clear hi hw
    go_wp2
    go_ret2
    exact ⟨rfl, grownBy_re w⟩
end
end Go.Proofs.YtbjakhiflgjflaaGreatDoor
