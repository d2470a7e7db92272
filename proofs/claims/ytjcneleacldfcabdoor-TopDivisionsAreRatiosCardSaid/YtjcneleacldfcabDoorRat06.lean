/- The reference of rational numbers: arithmetic of right numbers. -/
import Derived.Test.YtjcneleacldfcabDoorRat05
set_option linter.unusedVariables false
set_option linter.unusedSimpArgs false
namespace Go.Proofs.YtjcneleacldfcabDoor
open Go.RowKit
open Z

theorem Ret.si {w0 : World} {f : FuncId} {args : Array Value} {p : ByteArray × Int} {x : ByteArray} {e : Int} (h : Ret w0 f args (vSI p)) (hp : p = (x, e)) : Ret w0 f args (.tuple #[.string x, .int .i64 e]) := by subst hp; exact h
theorem Ret.ii {w0 : World} {f : FuncId} {args : Array Value} {p : Int × Int} {x e : Int} (h : Ret w0 f args (vII p)) (hp : p = (x, e)) : Ret w0 f args (.tuple #[.int .i64 x, .int .i64 e]) := by subst hp; exact h
theorem Ret.toSI {w0 : World} {f : FuncId} {args : Array Value} {p : ByteArray × Int} {x : ByteArray} {e : Int} (hp : p = (x, e)) (h : Ret w0 f args (.tuple #[.string x, .int .i64 e])) : Ret w0 f args (vSI p) := by subst hp; exact h
theorem Ret.toII {w0 : World} {f : FuncId} {args : Array Value} {p : Int × Int} {x e : Int} (hp : p = (x, e)) (h : Ret w0 f args (.tuple #[.int .i64 x, .int .i64 e])) : Ret w0 f args (vII p) := by subst hp; exact h
section
variable {w0 : World}
theorem sm_gcd {k : Nat} {p q : Int} (hq : Sm k q) (h0 : q ≠ 0) : Sm k ((Nat.gcd p.natAbs q.natAbs : Nat) : Int) := by
  refine ⟨Nat.le_trans (nDigits_mono ?_) hq.1, hq.2⟩
  rw [Int.natAbs_natCast]; exact Nat.gcd_le_right _ (by omega)
theorem sm_int {n : Int} (h1 : -9223372036854775808 ≤ n) (h2 : n ≤ 9223372036854775807) : Sm 4096 n := by
  refine ⟨?_, by omega⟩
  have : Lib.nDigits n.natAbs ≤ 19 := (nDigits_le_iff _ 19 (by omega)).2 (by omega)
  omega
theorem half_RT : RT (1/2) = ⟨#[49, 47, 50]⟩ := by
  have h := RT_rv (s := ⟨#[49, 47, 50]⟩) (by decide +kernel)
  rw [show rv ⟨#[49, 47, 50]⟩ = 1/2 by decide +kernel] at h
  exact h
theorem half_sh : Sh 1 (1/2) := by
  refine ⟨?_, ?_⟩
  · rw [half_num.1]; exact Nat.le_of_eq (Lib.nDigits_small (by decide))
  · rw [half_num.2]; exact Nat.le_of_eq (Lib.nDigits_small (by decide))
end
end Go.Proofs.YtjcneleacldfcabDoor
