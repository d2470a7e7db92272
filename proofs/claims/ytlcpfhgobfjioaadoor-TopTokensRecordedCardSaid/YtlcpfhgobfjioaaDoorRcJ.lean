/- Records: lists of records that came in; small. -/
import Derived.Test.YtlcpfhgobfjioaaDoorRcE
set_option linter.unusedVariables false
set_option linter.unusedSimpArgs false
namespace Go.Proofs.YtlcpfhgobfjioaaDoor
open Go.RowKit
open Z Rc

def EAt (w : World) (b o : Nat) (x : E) : Prop := w.cell? ⟨b, o, none⟩ = some (.int .i64 x.1) ∧ w.cell? ⟨b, o + 1, none⟩ = some (.string x.2)
def RdE (w : World) (a : Option Addr) (l : List E) : Prop := ∀ k (h : k < l.length), ∃ b o, a = some ⟨b, o, none⟩ ∧ EAt w b (o + k * 2) l[k]
theorem RdE.gr {w w' : World} {a : Option Addr} {l : List E} (h : RdE w a l) (hg : Gr w w') : RdE w' a l := fun k hk => by
  obtain ⟨b, o, h1, h2, h3⟩ := h k hk
  exact ⟨b, o, h1, gr_cell hg h2, gr_cell hg h3⟩
theorem RdE.nil (w : World) (a : Option Addr) : RdE w a [] := fun k hk => absurd hk (by simp)
theorem rdE_one (w : World) (x : E) (t : TypeId) : RdE (w.alloc (.cells #[.int .i64 x.1, .string x.2] t)) (some ⟨w.heap.size, 0, none⟩) [x] := fun k hk => by
  have : k = 0 := by simp at hk; omega
  subst this
  exact ⟨_, _, rfl, by simp, by simp⟩
/-- a record that is wrong or long -/
def badE (x : E) : Bool := decide (x.1 < 0) || decide (255 < x.1) || decide (300 < x.2.size)
def smallB (l : List E) : Bool := decide (l.length ≤ 20) && l.all (fun x => !badE x)
/-- the index of the first record that is wrong, or -1 -/
def idxE (l : List E) : Int := if l.all (fun x => !badE x) then -1 else (l.findIdx badE : Nat)
end Go.Proofs.YtlcpfhgobfjioaaDoor
