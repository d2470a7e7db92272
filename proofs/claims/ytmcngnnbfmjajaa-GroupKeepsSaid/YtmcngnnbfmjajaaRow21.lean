/- What the rows of law 14 share that take tables whose slices are cut. -/
import Derived.Test.YtmcngnnbfmjajaaRow20
import Derived.Test.YtmcngnnbfmjajaaGqA
set_option linter.unusedVariables false
set_option linter.unusedSimpArgs false
namespace Go.Proofs.Ytmcngnnbfmjajaa
open Go.ChangeShapes Go.WideShapes Go.ChangeAt Go.RowKit Go.Deep Go.Joins
open Z
section
variable {H : Type} {enc : TypeId × Value → H} {w : World} {base : Nat} {spare : Nat → Bool} {held : Bool}
set_option maxRecDepth 100000 in
theorem slice_has {b0 n cap : Nat} {ad : Addr} (h : Value.okWide Try.prog w .any b0 22 (.slice (some ad) n cap)) : ad = ⟨ad.block, ad.off, none⟩ := by
  simp only [Value.okWide, Try.underlying22, Cell.okWide, Cell.ok] at h
  obtain ⟨-, -, -, hsp, row, cells, hsh, -⟩ := h
  cases ad; simp only at hsp; subst hsp; rfl
set_option maxRecDepth 100000 in
theorem open_groups2 {b0 : Nat} {v : Value} {d : DataW H} {p : List MemPlace} (hval : Value.okWide Try.prog w .any b0 22 v) (h : DataW.Trod enc Try.prog w base spare held 22 v d p) :
    ∃ (a : Option Addr) (l : List Gp) (cap : Nat), v = .slice a l.length cap ∧ l.length ≤ cap ∧ cap ≤ maxLen ∧ RdG w a l ∧ SlOk a cap := by
  obtain ⟨a, l, cap, rfl, h1, h2, h3⟩ := open_groups hval h
  refine ⟨a, l, cap, rfl, h1, h2, h3, ?_⟩
  obtain ⟨fuel, hf⟩ := h
  cases a with
  | none =>
    rcases open_slice Try.underlying22 (show DataW.trod enc Try.prog w base spare held fuel _ [.slice none l.length cap] = some (d, p) from hf) with ⟨hcs, -⟩ | ⟨a', len, cap', m, n', D, Pl, hcs, -⟩
    · simp only [List.cons.injEq, Value.slice.injEq, and_true] at hcs
      exact .inl ⟨rfl, hcs.2.2⟩
    · simp only [List.cons.injEq, Value.slice.injEq, and_true] at hcs
      cases hcs.1
  | some ad => exact .inr ⟨ad.block, ad.off, by rw [← slice_has hval]⟩
end
end Go.Proofs.Ytmcngnnbfmjajaa
