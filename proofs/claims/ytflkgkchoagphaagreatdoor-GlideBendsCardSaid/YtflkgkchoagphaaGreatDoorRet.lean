/- What calls return from whatever world that has grown, and the operations of integers in this form. -/
import Derived.Test.YtflkgkchoagphaaGreatDoorRet0
import Derived.Test.YtflkgkchoagphaaGreatDoorIntH
import Derived.Test.YtflkgkchoagphaaGreatDoorInt06a
set_option linter.unusedVariables false
set_option linter.unusedSimpArgs false
namespace Go.Proofs.YtflkgkchoagphaaGreatDoor
open Go.RowKit Go.Shelf
open Z

theorem longR_ok {x : Int} (h : Lib.nDigits x.natAbs ≤ 4096) : longR x = (Tx x, 0) := by unfold longR; rw [if_neg (by omega)]
/-- an int of up to 4096 digits -/
def In (a : Int) : Prop := Lib.nDigits a.natAbs ≤ 4096
theorem In.sm {a : Int} (h : In a) : Sm 4096 a := ⟨h, by omega⟩
theorem Sm.in {k : Nat} {a : Int} (h : Sm k a) (hk : k ≤ 4096) : In a := Nat.le_trans h.1 hk
theorem In.chk {a : Int} (h : In a) : chk (Tx a).data.toList = 0 := by rw [chk_Tx, if_neg (by unfold In at h; omega)]
theorem In.both {a b : Int} (ha : In a) (hb : In b) : both (Tx a) (Tx b) = 0 := by unfold Go.Proofs.YtflkgkchoagphaaGreatDoor.both; rw [if_pos ha.chk, hb.chk]
theorem opR_Tx {a b : Int} {f : Int → Int → ByteArray × Int} (ha : In a) (hb : In b) : opR (Tx a) (Tx b) f = f a b := opR_ok rfl rfl (ha.both hb)
theorem longR_in {x : Int} (h : In x) : longR x = (Tx x, 0) := longR_ok h
theorem In.len {a : Int} (h : In a) : (Tx a).size ≤ maxLen := h.sm.len
theorem In.zero : In 0 := by unfold In; rw [Lib.nDigits_small (by decide)]; omega
section
variable {w0 : World} (ht : Tab w0)
include ht
theorem ret_Quo {a b : Int} (ha : In a) (hb : In b) (h0 : b ≠ 0) (hr : In (a.fdiv b)) : Ret w0 113 #[.string (Tx a), .string (Tx b)] (.tuple #[.string (Tx (a.fdiv b)), .int .i64 0]) := .mk fun w hg => by
  have H := i_Quo (Tx a) (Tx b) w ha.len hb.len (htab_gr ht hg)
  rw [opR_Tx ha hb, if_neg h0, longR_in hr] at H; exact H
theorem ret_Of {n : Int} (h0 : -9223372036854775808 ≤ n) (h1 : n ≤ 9223372036854775807) : Ret w0 91 #[.int .i64 n] (.string (Tx n)) := .mk fun w hg => i_Of n w h0 h1 (htab_gr ht hg)
omit ht
theorem ret_Check {s : ByteArray} (hs : s.size ≤ maxLen) : Ret w0 118 #[.string s] (.int .i64 (chk s.data.toList)) := .same fun w => i_Check s w hs
theorem ret_Small {s : ByteArray} (hs : s.size ≤ maxLen) (he : ErrR w0) : Ret w0 85 #[.string s] (vII (smallR s)) := .mk fun w hg => i_Small s w hs (he.gr hg)
end
end Go.Proofs.YtflkgkchoagphaaGreatDoor
