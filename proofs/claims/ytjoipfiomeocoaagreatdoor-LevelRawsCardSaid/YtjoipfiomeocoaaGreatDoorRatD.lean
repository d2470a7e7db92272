/- RatD: Rat13, Rat14, Rat15, joined. -/
import Derived.Test.YtjoipfiomeocoaaGreatDoorRatC
import Derived.Maps.Own
set_option linter.unusedVariables false
set_option linter.unusedSimpArgs false

/- The program's rational numbers: writing, products, sums. -/
namespace Go.Proofs.YtjoipfiomeocoaaGreatDoor
open Go.RowKit Go.Shelf
open Z
attribute [local go_sem ↓] Go.wp_at_zero Go.wp_at_succ

theorem minus_Tx (n : Nat) (h : 0 < n) : (⟨#[45]⟩ : ByteArray) ++ Tx (n : Int) = Tx (-(n : Int)) := Tx_minus (n : Int) (by omega)
end Go.Proofs.YtjoipfiomeocoaaGreatDoor

/- The program's rational numbers: products, sums, the four operations. -/
namespace Go.Proofs.YtjoipfiomeocoaaGreatDoor
open Go.RowKit Go.Shelf
open Z

section
variable {w0 : World} (htab : Tab w0)
include htab
omit htab in
theorem len5 {s : ByteArray} (h : s.size ≤ 5000) : s.size ≤ maxLen := by unfold maxLen; omega
theorem retG_Add {s t : ByteArray} (hs : s.size ≤ 5000) (ht : t.size ≤ 5000) : RetG w0 77 #[.string s, .string t] (.tuple #[.string (opR s t fun a b => longR (a + b)).1, .int .i64 (opR s t fun a b => longR (a + b)).2]) := fun w hg => i_Add s t w (len5 hs) (len5 ht) (htab_gr htab hg)
theorem retG_Sub {s t : ByteArray} (hs : s.size ≤ 5000) (ht : t.size ≤ 5000) : RetG w0 75 #[.string s, .string t] (.tuple #[.string (opR s t fun a b => longR (a - b)).1, .int .i64 (opR s t fun a b => longR (a - b)).2]) := fun w hg => i_Sub s t w (len5 hs) (len5 ht) (htab_gr htab hg)
omit htab
/-- two boxes -/
theorem two_boxes (w : World) (p q r s : ByteArray) : Gr w ((w.alloc (oFr p q)).alloc (oFr r s)) ∧ FB ((w.alloc (oFr p q)).alloc (oFr r s)) w.heap.size p q ∧ FB ((w.alloc (oFr p q)).alloc (oFr r s)) (w.heap.size + 1) r s := by
  refine ⟨((Gr.refl w).alloc _).alloc _, (FB.new w p q _).alloc _, ?_⟩
  have := FB.new (w.alloc (oFr p q)) r s 86
  rwa [World.size_alloc] at this
/-- .. and a result -/
theorem three_boxes (w : World) (p q r s : ByteArray) : Gr w (((w.alloc (oFr p q)).alloc (oFr r s)).alloc (oFr ⟨#[]⟩ ⟨#[]⟩)) ∧ FB (((w.alloc (oFr p q)).alloc (oFr r s)).alloc (oFr ⟨#[]⟩ ⟨#[]⟩)) w.heap.size p q ∧ FB (((w.alloc (oFr p q)).alloc (oFr r s)).alloc (oFr ⟨#[]⟩ ⟨#[]⟩)) (w.heap.size + 1) r s ∧ FB (((w.alloc (oFr p q)).alloc (oFr r s)).alloc (oFr ⟨#[]⟩ ⟨#[]⟩)) (w.heap.size + 2) ⟨#[]⟩ ⟨#[]⟩ := by
  obtain ⟨g, a, b⟩ := two_boxes w p q r s
  refine ⟨g.alloc _, a.alloc _, b.alloc _, ?_⟩
  have := FB.new ((w.alloc (oFr p q)).alloc (oFr r s)) ⟨#[]⟩ ⟨#[]⟩ 86
  rwa [World.size_alloc, World.size_alloc] at this
theorem cell_new3 (W : World) (c d f : Int) (ty : TypeId) : (W.alloc (.cells #[.int .i64 c, .int .i64 d, .int .i64 f] ty)).cell? ⟨W.heap.size, 0, none⟩ = some (.int .i64 c) ∧ (W.alloc (.cells #[.int .i64 c, .int .i64 d, .int .i64 f] ty)).cell? ⟨W.heap.size, 1, none⟩ = some (.int .i64 d) ∧ (W.alloc (.cells #[.int .i64 c, .int .i64 d, .int .i64 f] ty)).cell? ⟨W.heap.size, 2, none⟩ = some (.int .i64 f) := by simp
end
end Go.Proofs.YtjoipfiomeocoaaGreatDoor

/- The program's rational numbers: the four operations in their map. -/
namespace Go.Proofs.YtjoipfiomeocoaaGreatDoor
open Go.RowKit Go.Shelf
open Z
attribute [local go_sem ↓] Go.wp_at_zero Go.wp_at_succ

section
variable {w0 : World}
end
/-- the function value of a Go function -/
abbrev fv (f : FuncId) : Value := .func (.func f) #[] #[]
theorem setB_get {w : World} {b : Nat} {o o' : Obj} (hb : w.heap[b]? = some o) : (ChangeMaps.setBlock w b o').heap[b]? = some o' := by
  have := (Array.getElem?_eq_some_iff.1 hb).1
  simp [ChangeMaps.setBlock, Array.getElem?_setIfInBounds, this]
theorem setB_gr {w0 w : World} {b : Nat} {o' : Obj} (hg : Gr w0 w) (hb : w0.heap.size ≤ b) : Gr w0 (ChangeMaps.setBlock w b o') := by
  refine ⟨hg.1, hg.2, hg.3, ?_, fun i hi => ?_⟩
  · simp only [ChangeMaps.setBlock, Array.size_setIfInBounds]; exact hg.size
  · simp only [ChangeMaps.setBlock]
    rw [Array.getElem?_setIfInBounds_ne (by omega)]
    exact hg.block i hi
end Go.Proofs.YtjoipfiomeocoaaGreatDoor
