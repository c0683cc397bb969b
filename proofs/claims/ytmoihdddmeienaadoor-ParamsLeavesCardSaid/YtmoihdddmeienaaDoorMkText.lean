/-
  Text turns a marked text into the reference's, byte by byte. Conditions: at most a million bytes.
-/
import Derived.Test.YtmoihdddmeienaaDoorMkWords
import Derived.Test.YtmoihdddmeienaaDoorProg
import Derived.StillTailTactics
import Derived.Deep.QuietTactic
import Derived.BigQuiet
import Derived.Deep.RegionHeld3
import Derived.Deep.AppendLies
namespace Go.Proofs.YtmoihdddmeienaaDoor
open Go Go.RowKit

theorem infoCh : (Tryd.prog.info? 55).map (fun i => (i.zero, i.size, i.bytes)) = some (some (.agg #[.int .u8 0, .bool false]), 2, 2) := by kernel_rfl

theorem cellsCh_snoc (l : List Ch) (k : Nat) (h : k < l.length) : cellsCh (l.take (k + 1)) = cellsCh (l.take k) ++ [.int .u8 (l[k].1.toNat : Int), .bool l[k].2] := by
  rw [List.take_succ_eq_append_getElem h, cellsCh_append]; rfl

theorem own_ne {w : World} {base : Nat} {e : TypeId} {size n : Nat} {v : Value} {xs : List Value} (h : w.ownsRow base e size v n xs) {blk off : Nat} {sp : Option Nat} (hb : blk < base) : some (⟨blk, off, sp⟩ : Addr).block ≠ v.ownBlock := by
  intro hk
  have := (h.lt blk hk.symm).1
  omega

end Go.Proofs.YtmoihdddmeienaaDoor
