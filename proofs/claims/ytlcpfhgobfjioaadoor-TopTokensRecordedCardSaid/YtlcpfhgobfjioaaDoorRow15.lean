/- What the rows of layer 7 share that take slices of tokens. -/
import Derived.Test.YtlcpfhgobfjioaaDoorRow14
import Derived.Test.YtlcpfhgobfjioaaDoorLxI
import Derived.Carry
import Derived.Lib.SmallJoins
import Derived.ChangeSame
import Derived.SizedLaws
import Derived.Deep.Strs
set_option linter.unusedVariables false
set_option linter.unusedSimpArgs false
namespace Go.Proofs.YtlcpfhgobfjioaaDoor
open Go.ChangeShapes Go.WideShapes Go.ChangeAt Go.RowKit Go.Deep Go.Joins
open Z

theorem laidOut : laidOutB Tryd.prog = true := by kernel_rfl
/-- an argument reads behind the call as it did, where nothing below the heap's old size has turned -/
theorem arg_stays {H : Type} {enc : TypeId × Value → H} {t : TypeId} (hr : Tryd.prog.readableRec t = true) (hrow : t < Tryd.prog.types.size) {W W' : World} {v : Value} {d : DataW H} {ps : List MemPlace}
    (h : DataW.Trod enc Tryd.prog W 0 (fun _ => true) true t v d ps) (hb : Below W.heap.size W W') : DataW.Trod enc Tryd.prog W' 0 (fun b => decide (b < W.heap.size)) true t v d ps :=
  Below.trod laidOut hr hrow h hb (by obtain ⟨n, hn⟩ := h; exact DataW.trod_lt n _ _ _ hn)
theorem weightsAll_in {H : Type} {P : Program} {e : TypeId} : ∀ {l : List (DataW H)} {d : DataW H}, d ∈ l → ∀ n ∈ d.weights P e, n ∈ DataW.weightsAll P e l
  | d' :: r, d, hd, n, hn => by
    simp only [DataW.weightsAll, List.mem_append]
    rcases List.mem_cons.1 hd with rfl | h
    · exact Or.inl hn
    · exact Or.inr (weightsAll_in h n hn)
section
variable {H : Type} {enc : TypeId × Value → H} {w : World} {base : Nat} {spare : Nat → Bool} {held : Bool}
theorem add_where (a : Addr) (n : Nat) : (a.add n).block = a.block ∧ (a.add n).off = a.off + n := by
  unfold Addr.add
  by_cases h : n = 0
  · rw [if_pos h]; subst h; exact ⟨rfl, rfl⟩
  · rw [if_neg h]; exact ⟨rfl, rfl⟩
theorem spot_none {w : World} {a : Addr} {v : Value} (h : w.cell? a = some v) : a = ⟨a.block, a.off, none⟩ := by
  obtain ⟨b, o, s⟩ := a
  cases s with
  | none => rfl
  | some s =>
    unfold World.cell? at h
    split at h
    · simp at h
    · cases h
set_option maxRecDepth 100000 in
/-- where a slice lies is memory of the world -/
theorem slice_has {t e : TypeId} (hs : Tryd.prog.underlying t = some (.slice e)) {b0 n cap : Nat} {a : Addr} (h : Value.okWide Tryd.prog w .any b0 t (.slice (some a) n cap)) : a = ⟨a.block, a.off, none⟩ ∧ a.block < w.heap.size := by
  simp only [Value.okWide, hs, Cell.okWide, Cell.ok] at h
  obtain ⟨-, -, -, hsp, row, cells, hsh, -⟩ := h
  refine ⟨by cases a; simp only at hsp; subst hsp; rfl, ?_⟩
  unfold World.shape? at hsh
  by_cases hb : a.block < w.heap.size
  · exact hb
  · rw [Array.getElem?_eq_none (by omega)] at hsh
    cases hsh
set_option maxRecDepth 100000 in
theorem tk_cells {e : TypeId} {f0 f1 f2 : Field} (he : Tryd.prog.underlying e = some (.struct #[f0, f1, f2])) (h0 : Tryd.prog.underlying f0.type = some (.int .i64)) (h1 : Tryd.prog.underlying f1.type = some .string) (h2 : Tryd.prog.underlying f2.type = some (.int .i64)) (c0 : Tryd.prog.cellsOf f0.type = 1) (c1 : Tryd.prog.cellsOf f1.type = 1) (c2 : Tryd.prog.cellsOf f2.type = 1) (o0 : f0.offset = 0) (o1 : f1.offset = 1) (o2 : f2.offset = 2)
    {n : Nat} {a : Addr} {cs : List Value} {y : DataW H × List MemPlace} (hc : w.cells? base a 3 = some cs) (ht : DataW.trod enc Tryd.prog w base spare held n e cs = some y) :
    ∃ q : Tk, a = ⟨a.block, a.off, none⟩ ∧ (w.cell? ⟨a.block, a.off, none⟩ = some (.int .i64 q.1) ∧ w.cell? ⟨a.block, a.off + 1, none⟩ = some (.string (str q.2.1)) ∧ w.cell? ⟨a.block, a.off + 2, none⟩ = some (.int .i64 q.2.2)) ∧ ∃ x z, y.1 = .agg [x, .lit (.string q.2.1), z] := by
  obtain ⟨-, hlen, hcell⟩ := World.cells?_some hc
  obtain ⟨y0, y1, y2, n', hy, -, t0, t1, t2⟩ := trod_struct3 he ht
  match cs, hlen with
  | [d0, d1, d2], _ =>
    rw [c0, o0] at t0; rw [c1, o1] at t1; rw [c2, o2] at t2
    obtain ⟨x, e0, -, hx⟩ := DataW.trod_int h0 t0
    obtain ⟨s, e1, hy1, hs⟩ := DataW.trod_string h1 t1
    obtain ⟨z, e2, -, hz⟩ := DataW.trod_int h2 t2
    have k0 := hcell 0 (by omega)
    have k1 := hcell 1 (by omega)
    have k2 := hcell 2 (by omega)
    have ha : a = ⟨a.block, a.off, none⟩ := spot_none (v := d0) (by simpa [Addr.add] using k0)
    refine ⟨(x, s.data.toList, z), ha, ?_, y0.1, y2.1, by rw [hy, hy1]⟩
    generalize a.block = b at *
    generalize a.off = o at *
    subst ha
    have g0 : d0 = .int .i64 x := by simpa using e0
    have g1 : d1 = .string s := by simpa using e1
    have g2 : d2 = .int .i64 z := by simpa using e2
    subst g0; subst g1; subst g2
    exact ⟨by simpa [WideShapes.add_plain] using k0, by (show w.cell? _ = some (.string s)); simpa [WideShapes.add_plain] using k1, by simpa [WideShapes.add_plain] using k2⟩
set_option maxRecDepth 100000 in
theorem open_toks {t e : TypeId} {f0 f1 f2 : Field} (hs : Tryd.prog.underlying t = some (.slice e)) (he : Tryd.prog.underlying e = some (.struct #[f0, f1, f2])) (h0 : Tryd.prog.underlying f0.type = some (.int .i64)) (h1 : Tryd.prog.underlying f1.type = some .string) (h2 : Tryd.prog.underlying f2.type = some (.int .i64)) (c0 : Tryd.prog.cellsOf f0.type = 1) (c1 : Tryd.prog.cellsOf f1.type = 1) (c2 : Tryd.prog.cellsOf f2.type = 1) (o0 : f0.offset = 0) (o1 : f1.offset = 1) (o2 : f2.offset = 2) (hC : Tryd.prog.cellsOf e = 3)
    {b0 : Nat} {v : Value} {d : DataW H} {p : List MemPlace} (hval : Value.okWide Tryd.prog w .any b0 t v) (h : DataW.Trod enc Tryd.prog w base spare held t v d p) :
    ∃ (a : Option Addr) (l : List Tk) (cap : Nat), v = .slice a l.length cap ∧ TksAt w a l ∧ l.length ≤ cap ∧ cap ≤ maxLen ∧ (l.length = 0 ∨ ∃ elems rest, d = .slice elems rest ∧ elems.length = l.length ∧ ∀ j (h : j < l.length), ∃ x z, DataW.agg [x, .lit (.string l[j].2.1), z] ∈ elems) := by
  obtain ⟨a, n, cap, rfl⟩ := okWide_slice hs hval
  obtain ⟨fuel, hf⟩ := h
  rcases open_slice hs (show DataW.trod enc Tryd.prog w base spare held fuel _ [.slice a n cap] = some (d, p) from hf) with ⟨hcs, -⟩ | ⟨a', len, cap', m, n', D, Pl, hcs, -, hl, hm, hmm, hdp, hx⟩
  · simp only [List.cons.injEq, Value.slice.injEq, and_true] at hcs
    obtain ⟨rfl, rfl, rfl⟩ := hcs
    exact ⟨none, [], 0, rfl, .inl ⟨rfl, rfl⟩, Nat.le_refl _, Nat.zero_le _, .inl rfl⟩
  · simp only [List.cons.injEq, Value.slice.injEq, and_true] at hcs
    obtain ⟨rfl, rfl, rfl⟩ := hcs
    have hlm : n ≤ m := by rw [hmm]; split <;> omega
    by_cases hn : n = 0
    · subst hn
      exact ⟨some a', [], cap, rfl, .inr ⟨a'.block, a'.off, by rw [← (slice_has hs hval).1], fun j hj => absurd hj (by simp)⟩, Nat.zero_le _, hm, .inl rfl⟩
    · have each : ∀ i, i < n → ∃ q : Tk, (w.cell? ⟨a'.block, a'.off + i * 3, none⟩ = some (.int .i64 q.1) ∧ w.cell? ⟨a'.block, a'.off + i * 3 + 1, none⟩ = some (.string (str q.2.1)) ∧ w.cell? ⟨a'.block, a'.off + i * 3 + 2, none⟩ = some (.int .i64 q.2.2)) ∧ ∃ x z, D i = .agg [x, .lit (.string q.2.1), z] := fun i hi => by
        obtain ⟨cs', g1, g2⟩ := hx i (by omega)
        rw [hC] at g1
        obtain ⟨q, -, hq, hy⟩ := tk_cells he h0 h1 h2 c0 c1 c2 o0 o1 o2 g1 g2
        rw [(add_where a' (i * 3)).1, (add_where a' (i * 3)).2] at hq
        exact ⟨q, hq, hy⟩
      have ha : a' = ⟨a'.block, a'.off, none⟩ := by
        obtain ⟨cs', g1, g2⟩ := hx 0 (by omega)
        rw [hC] at g1
        obtain ⟨q, ha, -⟩ := tk_cells he h0 h1 h2 c0 c1 c2 o0 o1 o2 g1 g2
        simpa [Addr.add] using ha
      obtain ⟨G, hG⟩ := choose_lt each
      refine ⟨some a', (List.range n).map G, cap, by simp, .inr ⟨a'.block, a'.off, by rw [← ha], fun j hj => ?_⟩, by simpa using hl, hm, .inr ⟨_, _, congrArg Prod.fst hdp, by simp, fun j hj => ?_⟩⟩
      · simp only [List.length_map, List.length_range] at hj
        simpa using (hG j hj).1
      · simp only [List.length_map, List.length_range] at hj
        obtain ⟨x, z, hD⟩ := (hG j hj).2
        refine ⟨x, z, List.mem_map.2 ⟨j, List.mem_range.2 hj, ?_⟩⟩
        rw [hD]; simp
end
end Go.Proofs.YtlcpfhgobfjioaaDoor
