/- What the plain rows of law 14 share. -/
import Derived.Test.YtmcngnnbfmjajaaGpK
import Derived.WalkKit
import Derived.ProofKit
import Derived.OpenShut
import Derived.ShutString
import Derived.Below
import Derived.ChangeOld
import Derived.LaidMore
import Derived.Stop.Joined
import Derived.Carry
import Derived.SizedLaws
import Derived.ChangeSame
import Derived.ChangeSlices
import Derived.Laws.IdiomArrays
import Derived.Lib.SmallJoins
set_option linter.unusedVariables false
set_option linter.unusedSimpArgs false
namespace Go.Proofs.Ytmcngnnbfmjajaa
open Go.ChangeShapes Go.WideShapes Go.ChangeAt Go.RowKit Go.Deep Go.Joins
open Go.ChangeMaps (open_string shut_string)
open Z

theorem own : ownKnob Try.prog.godebug = none := by kernel_rfl
theorem isI_of {n : Int} (h : (Lit.int .i64 n).wf = true) : -9223372036854775808 ≤ n ∧ n ≤ 9223372036854775807 := by
  exact bounds_i64 h
theorem laidOut : laidOutB Try.prog = true := by kernel_rfl
/-- an argument reads behind the call as it did, where nothing below the heap's old size has turned -/
theorem arg_stays {H : Type} {enc : TypeId × Value → H} {t : TypeId} (hr : Try.prog.readableRec t = true) (hrow : t < Try.prog.types.size) {W W' : World} {v : Value} {d : DataW H} {ps : List MemPlace}
    (h : DataW.Trod enc Try.prog W 0 (fun _ => true) true t v d ps) (hb : Below W.heap.size W W') : DataW.Trod enc Try.prog W' 0 (fun b => decide (b < W.heap.size)) true t v d ps :=
  Below.trod laidOut hr hrow h hb (by obtain ⟨n, hn⟩ := h; exact DataW.trod_lt n _ _ _ hn)
theorem two_of {α : Type} {cs : Array α} (h : cs.size = 2) : ∃ c0 c1, cs = #[c0, c1] := by
  obtain ⟨l⟩ := cs
  match l, h with
  | [c0, c1], _ => exact ⟨c0, c1, rfl⟩
section
variable {H : Type} {enc : TypeId × Value → H} {w : World} {base : Nat} {spare : Nat → Bool} {held : Bool}
theorem add_where (a : Addr) (n : Nat) : (a.add n).block = a.block ∧ (a.add n).off = a.off + n := by
  unfold Addr.add
  by_cases h : n = 0
  · rw [if_pos h]; subst h; exact ⟨rfl, rfl⟩
  · rw [if_neg h]; exact ⟨rfl, rfl⟩
theorem spot_none {w : World} {a : Addr} {v : Value} (h : w.cell? a = some v) : a = ⟨a.block, a.off, none⟩ := by
  obtain ⟨b, o, s⟩ := a
  cases s with
  | none => rfl
  | some s =>
    unfold World.cell? at h
    split at h
    · simp at h
    · cases h
set_option maxRecDepth 100000 in
theorem open_intc {fuel : Nat} {cs : List Value} {d : DataW H} {p : List MemPlace} (hf : DataW.trod enc Try.prog w base spare held fuel 23 cs = some (d, p)) :
    ∃ (a : Option Addr) (l : List Int) (cap : Nat), cs = [.slice a l.length cap] ∧ l.length ≤ cap ∧ cap ≤ maxLen ∧ RdI w a l ∧ ∀ q ∈ l, -9223372036854775808 ≤ q ∧ q ≤ 9223372036854775807 := by
  rcases open_ints Try.underlying23 Try.underlying3 (by kernel_rfl) hf with ⟨hcs, -⟩ | ⟨a, len, cap, ss, hcs, -, hl, hm, hlen, -, hx, hz⟩
  · exact ⟨none, [], 0, hcs, Nat.le_refl _, Nat.zero_le _, fun k hk => absurd hk (by simp), by simp⟩
  · have hle : len ≤ ss.length := by rw [hlen]; split <;> omega
    have hll : (ss.take len).length = len := by rw [List.length_take]; omega
    refine ⟨some a, ss.take len, cap, by rw [hll]; exact hcs, by omega, hm, fun k hk => ?_, fun s hs => isI_of (hz s (List.mem_of_mem_take hs))⟩
    have h0 := hx 0 (by omega)
    have hk0 := hx k (by omega)
    have ha : a = ⟨a.block, a.off, none⟩ := spot_none (v := .int .i64 (ss.getD 0 0)) (by simpa [Addr.add] using h0)
    refine ⟨a.block, a.off, by rw [← ha], ?_⟩
    rw [ha, WideShapes.add_plain] at hk0
    rw [hk0]
    simp [show k < ss.length by omega]
set_option maxRecDepth 100000 in
theorem group_parts {n : Nat} {cs : List Value} {y : DataW H × List MemPlace} (hlen : cs.length = 2) (ht : DataW.trod enc Try.prog w base spare held n 25 cs = some y) :
    ∃ (g : Gp) (a : Option Addr) (cap : Nat), cs = [.int .i64 g.1, .slice a g.2.length cap] ∧ RdI w a g.2 ∧ g.2.length ≤ cap ∧ cap ≤ maxLen := by
  obtain ⟨y0, y1, n', -, -, t0, t1⟩ := trod_struct2 Try.underlying25 ht
  match cs, hlen with
  | [d0, d1], _ =>
    rw [show Try.prog.cellsOf 3 = 1 by kernel_rfl] at t0
    rw [show Try.prog.cellsOf 23 = 1 by kernel_rfl] at t1
    obtain ⟨x, e0, -, -⟩ := DataW.trod_int Try.underlying3 t0
    obtain ⟨a, l, cap, e1, h1, h2, h3, -⟩ := open_intc t1
    refine ⟨(x, l), a, cap, ?_, h3, h1, h2⟩
    have g0 : d0 = .int .i64 x := by simpa using e0
    have g1 : d1 = .slice a l.length cap := by simpa using e1
    rw [g0, g1]
set_option maxRecDepth 100000 in
theorem open_group {b0 : Nat} {v : Value} {d : DataW H} {p : List MemPlace} (hv : Value.okWide Try.prog w .any b0 25 v) (h : DataW.Trod enc Try.prog w base spare held 25 v d p) : ∃ g : Gp, GpV w v g := by
  simp only [Value.okWide, Try.underlying25] at hv
  obtain ⟨cs, rfl, h2, h3⟩ := hv
  rw [show Try.prog.cellsOf 25 = 2 by kernel_rfl] at h2
  obtain ⟨c0, c1, rfl⟩ := two_of h2
  obtain ⟨fuel, hf⟩ := h
  obtain ⟨g, a, cap, e, h4, h5, h6⟩ := group_parts (cs := [c0, c1]) rfl (by simpa [Value.cells] using hf)
  simp only [List.cons.injEq, and_true] at e
  obtain ⟨rfl, rfl⟩ := e
  exact ⟨g, a, cap, rfl, h4, h5, h6⟩
set_option maxRecDepth 100000 in
theorem open_groups {b0 : Nat} {v : Value} {d : DataW H} {p : List MemPlace} (hval : Value.okWide Try.prog w .any b0 22 v) (h : DataW.Trod enc Try.prog w base spare held 22 v d p) :
    ∃ (a : Option Addr) (l : List Gp) (cap : Nat), v = .slice a l.length cap ∧ l.length ≤ cap ∧ cap ≤ maxLen ∧ RdG w a l := by
  obtain ⟨a, n, cap, rfl⟩ := okWide_slice Try.underlying22 hval
  obtain ⟨fuel, hf⟩ := h
  rcases open_slice Try.underlying22 (show DataW.trod enc Try.prog w base spare held fuel _ [.slice a n cap] = some (d, p) from hf) with ⟨hcs, -⟩ | ⟨a', len, cap', m, n', D, Pl, hcs, -, hl, hm, hmm, hdp, hx⟩
  · simp only [List.cons.injEq, Value.slice.injEq, and_true] at hcs
    obtain ⟨rfl, rfl, rfl⟩ := hcs
    exact ⟨none, [], 0, rfl, Nat.le_refl _, Nat.zero_le _, RdG.nil _ _⟩
  · simp only [List.cons.injEq, Value.slice.injEq, and_true] at hcs
    obtain ⟨rfl, rfl, rfl⟩ := hcs
    have hlm : n ≤ m := by rw [hmm]; split <;> omega
    have each : ∀ i, i < n → ∃ q : Gp × Option Addr × Nat, a' = ⟨a'.block, a'.off, none⟩ ∧ w.cell? ⟨a'.block, a'.off + i * 2, none⟩ = some (.int .i64 q.1.1) ∧ w.cell? ⟨a'.block, a'.off + i * 2 + 1, none⟩ = some (.slice q.2.1 q.1.2.length q.2.2) ∧ RdI w q.2.1 q.1.2 ∧ q.1.2.length ≤ q.2.2 ∧ q.2.2 ≤ maxLen := fun i hi => by
      obtain ⟨cs', g1, g2⟩ := hx i (by omega)
      rw [show Try.prog.cellsOf 25 = 2 by kernel_rfl] at g1
      obtain ⟨-, hlen, hcell⟩ := World.cells?_some g1
      obtain ⟨g, c, cp, rfl, h4, h5, h6⟩ := group_parts hlen g2
      have k0 := hcell 0 (by omega)
      have k1 := hcell 1 (by omega)
      have e1 := (add_where a' (i * 2)).1
      have e2 := (add_where a' (i * 2)).2
      have hp : a'.add (i * 2) = ⟨a'.block, a'.off + i * 2, none⟩ := by
        have := spot_none (a := a'.add (i * 2)) (v := .int .i64 g.1) (by simpa [Addr.add] using k0)
        rw [this, e1, e2]
      have ha : a' = ⟨a'.block, a'.off, none⟩ := by
        obtain ⟨cs0, g10, g20⟩ := hx 0 (by omega)
        rw [show Try.prog.cellsOf 25 = 2 by kernel_rfl] at g10
        obtain ⟨-, hlen0, hcell0⟩ := World.cells?_some g10
        obtain ⟨g0, c0, cp0, rfl, -⟩ := group_parts hlen0 g20
        have k00 := hcell0 0 (by omega)
        exact spot_none (v := .int .i64 g0.1) (by simpa [Addr.add] using k00)
      rw [hp, WideShapes.add_plain] at k0 k1
      exact ⟨(g, c, cp), ha, by simpa using k0, by simpa using k1, h4, h5, h6⟩
    obtain ⟨G, hG⟩ := choose_lt each
    refine ⟨some a', (List.range n).map fun i => (G i).1, cap, by simp, by simpa using hl, hm, fun k hk => ?_⟩
    simp only [List.length_map, List.length_range] at hk
    obtain ⟨h1, h2, h3, h4, h5, h6⟩ := hG k hk
    refine ⟨a'.block, a'.off, (G k).2.1, (G k).2.2, by rw [← h1], ?_, ?_, ?_, ?_, h6⟩
    · simpa using h2
    · simpa using h3
    · simpa using h4
    · simpa using h5
end
end Go.Proofs.Ytmcngnnbfmjajaa
