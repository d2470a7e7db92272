/- Law 6: the reference's decimal, Text, Format. -/
import Derived.Test.YtjideokeokmbaaaGreatDoorRbM
import Derived.Laws.Runes
set_option linter.unusedVariables false
set_option linter.unusedSimpArgs false
namespace Go.Proofs.YtjideokeokmbaaaGreatDoor.Z
open Go
/-- the texts of ranges, one behind the other, each but the first behind ' + ' -/
def txtR (R : List (Int × Int)) : List UInt8 := match R with
  | [] => []
  | r :: R => termT r ++ Lib.joinTail [32, 43, 32] (R.map termT)
theorem txtR_join (R : List (Int × Int)) : Lib.join (R.map termT) [32, 43, 32] = txtR R := by
  cases R with
  | nil => rfl
  | cons r R => rw [List.map_cons, Lib.join_cons]; rfl
theorem txtR_snoc (R : List (Int × Int)) (r : Int × Int) (h : R ≠ []) : txtR (R ++ [r]) = txtR R ++ [32, 43, 32] ++ termT r := by
  cases R with
  | nil => exact absurd rfl h
  | cons x R => simp [txtR, Lib.joinTail]
theorem txtR_len (R : List (Int × Int)) (hR : ∀ r ∈ R, isRg r = true) : (txtR R).length ≤ 15 * R.length := by
  cases R with
  | nil => simp [txtR]
  | cons r R =>
    have h1 := joinTail_len R (fun x hx => hR x (List.mem_cons_of_mem _ hx))
    have hb := (isRg_iff r).1 (hR r (by simp))
    have h2 := (dig_ok r.1.toNat (by omega)).2.2.2
    have h3 := (dig_ok r.2.toNat (by omega)).2.2.2
    have h4 : (termT r).length ≤ 12 := by
      unfold termT
      split <;> simp <;> omega
    unfold txtR
    rw [List.length_append, List.length_cons]
    omega
end Go.Proofs.YtjideokeokmbaaaGreatDoor.Z
namespace Go.Proofs.YtjideokeokmbaaaGreatDoor
open Go.RowKit Go.Shelf
open Z
theorem nil_app (s : ByteArray) : (⟨#[]⟩ : ByteArray) ++ s = s := by apply ba_ext; simp
end Go.Proofs.YtjideokeokmbaaaGreatDoor
