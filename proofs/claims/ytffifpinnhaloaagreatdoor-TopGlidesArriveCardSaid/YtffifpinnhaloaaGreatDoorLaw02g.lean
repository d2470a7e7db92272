/- Laws of layer 2: RatioNeighbours, RatioBetween. -/
import Derived.Test.YtffifpinnhaloaaGreatDoorLaw02b
import Derived.Test.YtffifpinnhaloaaGreatDoorLaw02p
set_option linter.unusedVariables false
set_option linter.unusedSimpArgs false
namespace Go.Proofs.YtffifpinnhaloaaGreatDoor
open Go.RowKit Go.Shelf
open Z

theorem cmpQ_ge' {a b : Rat} (h : b ≤ a) : 0 ≤ cmpQ a b := by
  rcases cmpQ_cases a b with ⟨h', _, _⟩ | ⟨_, e, _⟩ | ⟨_, e, _⟩
  · exact absurd h (by rw [Rat.not_le]; exact h')
  · omega
  · omega
theorem cmpQ_le' {a b : Rat} (h : a ≤ b) : cmpQ a b ≤ 0 := by
  rcases cmpQ_cases a b with ⟨_, e, _⟩ | ⟨_, e, _⟩ | ⟨h', _, _⟩
  · omega
  · omega
  · exact absurd h (by rw [Rat.not_le]; exact h')
theorem sh_of_int {n : Int} {k : Nat} (h : Lib.nDigits n.natAbs ≤ k) : Sh k ((n : Int) : Rat) := by
  refine ⟨by rw [Rat.num_intCast]; exact h, ?_⟩
  rw [Rat.den_intCast, Lib.nDigits_small (by decide)]
  exact Nat.le_trans (Lib.nDigits_pos _) h
theorem lit_RT {s : ByteArray} {r : Rat} (h : chkS s = 0) (e : rv s = r) : RT r = s := by rw [← e]; exact RT_rv h
theorem sh_lit {s : ByteArray} {r : Rat} (h : chkS s = 0) (e : rv s = r) (hl : s.size ≤ 100) : Sh 100 r := by
  obtain ⟨x, _, hx, ex⟩ := text_sh h hl
  rw [← e, ex]; exact hx
theorem near_nd {a : Rat} {k : Nat} (h : Sh k a) : Lib.nDigits (nearest a).natAbs ≤ k + 1 := by
  have hf := floor_abs a
  have h1 : Lib.nDigits a.floor.natAbs ≤ k := Nat.le_trans (nDigits_mono hf) h.1
  rw [round_parts, floor_parts]
  split
  · omega
  · exact nd_add h1 (Nat.le_trans (Nat.le_of_eq (Lib.nDigits_small (show (1 : Int).natAbs < 10 by decide))) h.pos) h.pos
section
variable {w0 : World} (htab : Tab w0) (hmx : Mx w0)
include htab hmx
end
end Go.Proofs.YtffifpinnhaloaaGreatDoor
