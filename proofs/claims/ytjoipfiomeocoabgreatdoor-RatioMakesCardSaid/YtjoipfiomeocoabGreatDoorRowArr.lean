/- An array of two ints that comes in by value. -/
import Derived.Test.YtjoipfiomeocoabGreatDoorRow02
set_option linter.unusedVariables false
set_option linter.unusedSimpArgs false
namespace Go.Proofs.YtjoipfiomeocoabGreatDoor
open Go.ChangeShapes Go.WideShapes Go.ChangeAt Go.RowKit
open Go.ChangeMaps (open_string shut_string)
theorem two_of {α : Type} {cs : Array α} (h : cs.size = 2) : ∃ c0 c1, cs = #[c0, c1] := by
  obtain ⟨l⟩ := cs
  match l, h with
  | [c0, c1], _ => exact ⟨c0, c1, rfl⟩
theorem open_ints2 {H : Type} {enc : TypeId × Value → H} {P : Program} {w : World} {r : Reach} {b0 base : Nat} {sp : Nat → Bool} {held : Bool} {t e : TypeId} {v : Value} {d : DataW H} {p : List MemPlace} (hu : P.underlying t = some (.array 2 e)) (he : P.underlying e = some (.int .i64)) (hC : P.cellsOf t = 2) (hE : P.cellsOf e = 1)
    (hv : Value.okWide P w r b0 t v) (h : DataW.Trod enc P w base sp held t v d p) :
    ∃ a b : Int, v = .agg #[.int .i64 a, .int .i64 b] ∧ (Lit.int .i64 a).wf = true ∧ (Lit.int .i64 b).wf = true ∧ d = .agg [.lit (.int .i64 a), .lit (.int .i64 b)] ∧ p = [] := by
  simp only [Value.okWide, hu] at hv
  obtain ⟨cs, rfl, h2, h3⟩ := hv
  rw [hC] at h2
  obtain ⟨c0, c1, rfl⟩ := two_of h2
  obtain ⟨fuel, hf⟩ := h
  obtain ⟨xs, m, rfl, hx, _, hl, hall⟩ := DataW.trod_array hu hf
  match xs, hl with
  | [y0, y1], _ =>
    have h0 := hall 0 (by omega)
    have h1 := hall 1 (by omega)
    rw [hE] at h0 h1
    simp [Value.cells] at h0 h1
    obtain ⟨a, e0, e1, wa⟩ := DataW.trod_int he h0
    obtain ⟨b, e2, e3, wb⟩ := DataW.trod_int he h1
    simp only [List.cons.injEq, and_true] at e0 e2
    subst e0 e2 e1 e3
    simp only [Prod.mk.injEq] at hx
    exact ⟨a, b, rfl, wa, wb, by simpa using hx.1, by simpa using hx.2⟩
theorem shut_ints2 {H : Type} {enc : TypeId × Value → H} {P : Program} {w : World} {base : Nat} {sp : Nat → Bool} {held : Bool} {t e : TypeId} {a b : Int} (hu : P.underlying t = some (.array 2 e)) (he : P.underlying e = some (.int .i64)) (hC : P.cellsOf t = 2) (hE : P.cellsOf e = 1)
    (wa : (Lit.int .i64 a).wf = true) (wb : (Lit.int .i64 b).wf = true) : DataW.Trod enc P w base sp held t (.agg #[.int .i64 a, .int .i64 b]) (.agg [.lit (.int .i64 a), .lit (.int .i64 b)]) [] := by
  refine ⟨2, ?_⟩
  simp [DataW.trod, hu, he, hC, hE, Value.cells, wa, wb, show List.range 2 = [0, 1] from rfl]
end Go.Proofs.YtjoipfiomeocoabGreatDoor
