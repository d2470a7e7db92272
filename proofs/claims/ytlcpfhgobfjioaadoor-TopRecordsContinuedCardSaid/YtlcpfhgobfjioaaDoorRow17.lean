/- What the rows of T4 share that take records and bytes. -/
import Derived.Test.YtlcpfhgobfjioaaDoorRow15
import Derived.Test.YtlcpfhgobfjioaaDoorRcJ
import Derived.Lib.SmallJoins
import Derived.Carry
import Derived.SizedLaws
import Derived.ChangeSame
import Derived.ChangeSlices
set_option linter.unusedVariables false
set_option linter.unusedSimpArgs false
namespace Go.Proofs.YtlcpfhgobfjioaaDoor
open Go.ChangeShapes Go.WideShapes Go.ChangeAt Go.RowKit Go.Deep Go.Joins
open Rc
theorem two_of {α : Type} {cs : Array α} (h : cs.size = 2) : ∃ c0 c1, cs = #[c0, c1] := by
  obtain ⟨l⟩ := cs
  match l, h with
  | [c0, c1], _ => exact ⟨c0, c1, rfl⟩
section
variable {H : Type} {enc : TypeId × Value → H} {w : World} {base : Nat} {spare : Nat → Bool} {held : Bool}
theorem open_two {K : IntKind} {P : Program} {r : Reach} {b0 : Nat} {t e : TypeId} {v : Value} {d : DataW H} {p : List MemPlace} (hu : P.underlying t = some (.array 2 e)) (he : P.underlying e = some (.int K)) (hC : P.cellsOf t = 2) (hE : P.cellsOf e = 1)
    (hv : Value.okWide P w r b0 t v) (h : DataW.Trod enc P w base spare held t v d p) :
    ∃ a b : Int, v = .agg #[.int K a, .int K b] ∧ (Lit.int K a).wf = true ∧ (Lit.int K b).wf = true := by
  simp only [Value.okWide, hu] at hv
  obtain ⟨cs, rfl, h2, h3⟩ := hv
  rw [hC] at h2
  obtain ⟨c0, c1, rfl⟩ := two_of h2
  obtain ⟨fuel, hf⟩ := h
  obtain ⟨xs, m, rfl, hx, _, hl, hall⟩ := DataW.trod_array hu hf
  match xs, hl with
  | [y0, y1], _ =>
    have h0 := hall 0 (by omega)
    have h1 := hall 1 (by omega)
    rw [hE] at h0 h1
    simp [Value.cells] at h0 h1
    obtain ⟨a, e0, -, wa⟩ := DataW.trod_int he h0
    obtain ⟨b, e1, -, wb⟩ := DataW.trod_int he h1
    simp only [List.cons.injEq, and_true] at e0 e1
    subst e0 e1
    exact ⟨a, b, rfl, wa, wb⟩
set_option maxRecDepth 100000 in
theorem entry_cells {e : TypeId} {f0 f1 : Field} (he : Tryd.prog.underlying e = some (.struct #[f0, f1])) (h0 : Tryd.prog.underlying f0.type = some (.int .i64)) (h1 : Tryd.prog.underlying f1.type = some .string) (c0 : Tryd.prog.cellsOf f0.type = 1) (c1 : Tryd.prog.cellsOf f1.type = 1) (o0 : f0.offset = 0) (o1 : f1.offset = 1)
    {n : Nat} {a : Addr} {cs : List Value} {y : DataW H × List MemPlace} (hc : w.cells? base a 2 = some cs) (ht : DataW.trod enc Tryd.prog w base spare held n e cs = some y) :
    ∃ q : E, a = ⟨a.block, a.off, none⟩ ∧ EAt w a.block a.off q ∧ q.2.size ≤ maxLen := by
  obtain ⟨-, hlen, hcell⟩ := World.cells?_some hc
  obtain ⟨y0, y1, n', -, -, t0, t1⟩ := trod_struct2 he ht
  match cs, hlen with
  | [d0, d1], _ =>
    rw [c0, o0] at t0; rw [c1, o1] at t1
    obtain ⟨x, e0, -, hx⟩ := DataW.trod_int h0 t0
    obtain ⟨s, e1, -, hs⟩ := DataW.trod_string h1 t1
    have k0 := hcell 0 (by omega)
    have k1 := hcell 1 (by omega)
    have ha : a = ⟨a.block, a.off, none⟩ := spot_none (v := d0) (by simpa [Addr.add] using k0)
    refine ⟨(x, s), ha, ?_, hs⟩
    generalize a.block = b at *
    generalize a.off = o at *
    subst ha
    have g0 : d0 = .int .i64 x := by simpa using e0
    have g1 : d1 = .string s := by simpa using e1
    subst g0; subst g1
    exact ⟨by simpa [WideShapes.add_plain] using k0, by simpa [WideShapes.add_plain] using k1⟩
set_option maxRecDepth 100000 in
theorem open_entries0 {t e : TypeId} {f0 f1 : Field} (hs : Tryd.prog.underlying t = some (.slice e)) (he : Tryd.prog.underlying e = some (.struct #[f0, f1])) (h0 : Tryd.prog.underlying f0.type = some (.int .i64)) (h1 : Tryd.prog.underlying f1.type = some .string) (c0 : Tryd.prog.cellsOf f0.type = 1) (c1 : Tryd.prog.cellsOf f1.type = 1) (o0 : f0.offset = 0) (o1 : f1.offset = 1) (hC : Tryd.prog.cellsOf e = 2)
    {b0 : Nat} {v : Value} {d : DataW H} {p : List MemPlace} (hval : Value.okWide Tryd.prog w .any b0 t v) (h : DataW.Trod enc Tryd.prog w base spare held t v d p) :
    ∃ (a : Option Addr) (l : List E) (cap : Nat), v = .slice a l.length cap ∧ l.length ≤ cap ∧ cap ≤ maxLen ∧ RdE w a l ∧ (∀ q ∈ l, q.2.size ≤ maxLen) ∧ (l.length = 0 ∨ ∃ elems rest, d = .slice elems rest ∧ elems.length = l.length) := by
  obtain ⟨a, n, cap, rfl⟩ := okWide_slice hs hval
  obtain ⟨fuel, hf⟩ := h
  rcases open_slice hs (show DataW.trod enc Tryd.prog w base spare held fuel _ [.slice a n cap] = some (d, p) from hf) with ⟨hcs, -⟩ | ⟨a', len, cap', m, n', D, Pl, hcs, -, hl, hm, hmm, hdp, hx⟩
  · simp only [List.cons.injEq, Value.slice.injEq, and_true] at hcs
    obtain ⟨rfl, rfl, rfl⟩ := hcs
    exact ⟨none, [], 0, rfl, Nat.le_refl _, Nat.zero_le _, RdE.nil _ _, by simp, .inl rfl⟩
  · simp only [List.cons.injEq, Value.slice.injEq, and_true] at hcs
    obtain ⟨rfl, rfl, rfl⟩ := hcs
    have hlm : n ≤ m := by rw [hmm]; split <;> omega
    have each : ∀ i, i < n → ∃ q : E, (∃ b o, some a' = some ⟨b, o, none⟩ ∧ EAt w b (o + i * 2) q) ∧ q.2.size ≤ maxLen := fun i hi => by
      obtain ⟨cs', g1, g2⟩ := hx i (by omega)
      rw [hC] at g1
      obtain ⟨q, ha, hq, h4⟩ := entry_cells he h0 h1 c0 c1 o0 o1 g1 g2
      refine ⟨q, ⟨a'.block, a'.off, ?_, ?_⟩, h4⟩
      · obtain ⟨b, o, s⟩ := a'
        obtain ⟨cs0, g1, g2⟩ := hx 0 (by omega)
        rw [hC] at g1
        obtain ⟨_, ha0, _⟩ := entry_cells he h0 h1 c0 c1 o0 o1 g1 g2
        simpa [Addr.add] using ha0
      · have e1 := (add_where a' (i * 2)).1
        have e2 := (add_where a' (i * 2)).2
        rwa [e1, e2] at hq
    obtain ⟨G, hG⟩ := choose_lt each
    refine ⟨some a', (List.range n).map G, cap, by simp, by simpa using hl, hm, fun k hk => ?_, fun q hq => ?_, .inr ⟨_, _, congrArg Prod.fst hdp, by simp⟩⟩
    · simp only [List.length_map, List.length_range] at hk
      simpa using (hG k hk).1
    · simp only [List.mem_map, List.mem_range] at hq
      obtain ⟨i, hi, rfl⟩ := hq
      exact (hG i hi).2
set_option maxRecDepth 100000 in
theorem open_entries {b0 : Nat} {v : Value} {d : DataW H} {p : List MemPlace} (hval : Value.okWide Tryd.prog w .any b0 60 v) (h : DataW.Trod enc Tryd.prog w base spare held 60 v d p) :
    ∃ (a : Option Addr) (l : List E) (cap : Nat), v = .slice a l.length cap ∧ l.length ≤ cap ∧ cap ≤ maxLen ∧ RdE w a l ∧ ∀ q ∈ l, q.2.size ≤ maxLen := by
  obtain ⟨a, l, cap, h1, h2, h3, h4, h5, -⟩ := open_entries0 Tryd.underlying60 Tryd.underlying54 Tryd.underlying3 Tryd.underlying9 (by kernel_rfl) (by kernel_rfl) rfl rfl (by kernel_rfl) hval h
  exact ⟨a, l, cap, h1, h2, h3, h4, h5⟩
end
end Go.Proofs.YtlcpfhgobfjioaaDoor
