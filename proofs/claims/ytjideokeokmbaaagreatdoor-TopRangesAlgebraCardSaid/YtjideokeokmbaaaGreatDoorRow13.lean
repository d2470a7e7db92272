/- What the rows of layer 6 share: slices of ranges, slices of ints. -/
import Derived.Test.YtjideokeokmbaaaGreatDoorRow12
import Derived.Test.YtjideokeokmbaaaGreatDoorRaTW
import Derived.Carry
import Derived.Lib.SmallJoins
import Derived.ChangeSame
set_option linter.unusedVariables false
set_option linter.unusedSimpArgs false
namespace Go.Proofs.YtjideokeokmbaaaGreatDoor
open Go.ChangeShapes Go.WideShapes Go.ChangeAt Go.RowKit Go.Deep Go.Joins

theorem laidOut : laidOutB Tryz.prog = true := by kernel_rfl
/-- an argument reads behind the call as it did, where nothing below the heap's old size has turned -/
theorem arg_stays {H : Type} {enc : TypeId × Value → H} {t : TypeId} (hr : Tryz.prog.readableRec t = true) (hrow : t < Tryz.prog.types.size) {W W' : World} {v : Value} {d : DataW H} {ps : List MemPlace}
    (h : DataW.Trod enc Tryz.prog W 0 (fun _ => true) true t v d ps) (hb : Below W.heap.size W W') : DataW.Trod enc Tryz.prog W' 0 (fun b => decide (b < W.heap.size)) true t v d ps :=
  Below.trod laidOut hr hrow h hb (by obtain ⟨n, hn⟩ := h; exact DataW.trod_lt n _ _ _ hn)
section
variable {H : Type} {enc : TypeId × Value → H} {w : World} {base : Nat} {spare : Nat → Bool} {held : Bool}
theorem add_where (a : Addr) (n : Nat) : (a.add n).block = a.block ∧ (a.add n).off = a.off + n := by
  unfold Addr.add
  by_cases h : n = 0
  · rw [if_pos h]; subst h; exact ⟨rfl, rfl⟩
  · rw [if_neg h]; exact ⟨rfl, rfl⟩
theorem spot_none {w : World} {a : Addr} {v : Value} (h : w.cell? a = some v) : a = ⟨a.block, a.off, none⟩ := by
  obtain ⟨b, o, s⟩ := a
  cases s with
  | none => rfl
  | some s =>
    unfold World.cell? at h
    split at h
    · simp at h
    · cases h
set_option maxRecDepth 100000 in
/-- where a slice lies is memory of the world -/
theorem slice_has {t e : TypeId} (hs : Tryz.prog.underlying t = some (.slice e)) {b0 n cap : Nat} {a : Addr} (h : Value.okWide Tryz.prog w .any b0 t (.slice (some a) n cap)) : a = ⟨a.block, a.off, none⟩ ∧ a.block < w.heap.size := by
  simp only [Value.okWide, hs, Cell.okWide, Cell.ok] at h
  obtain ⟨-, -, -, hsp, row, cells, hsh, -⟩ := h
  refine ⟨by cases a; simp only at hsp; subst hsp; rfl, ?_⟩
  unfold World.shape? at hsh
  by_cases hb : a.block < w.heap.size
  · exact hb
  · rw [Array.getElem?_eq_none (by omega)] at hsh
    cases hsh
set_option maxRecDepth 100000 in
theorem range_cells {e : TypeId} {f0 f1 : Field} (he : Tryz.prog.underlying e = some (.struct #[f0, f1])) (h0 : Tryz.prog.underlying f0.type = some (.int .i64)) (h1 : Tryz.prog.underlying f1.type = some (.int .i64)) (c0 : Tryz.prog.cellsOf f0.type = 1) (c1 : Tryz.prog.cellsOf f1.type = 1) (o0 : f0.offset = 0) (o1 : f1.offset = 1)
    {n : Nat} {a : Addr} {cs : List Value} {y : DataW H × List MemPlace} (hc : w.cells? base a 2 = some cs) (ht : DataW.trod enc Tryz.prog w base spare held n e cs = some y) :
    ∃ q : Int × Int, w.cell? ⟨a.block, a.off, none⟩ = some (.int .i64 q.1) ∧ w.cell? ⟨a.block, a.off + 1, none⟩ = some (.int .i64 q.2) := by
  obtain ⟨-, hlen, hcell⟩ := World.cells?_some hc
  obtain ⟨y0, y1, n', -, -, t0, t1⟩ := trod_struct2 he ht
  match cs, hlen with
  | [d0, d1], _ =>
    rw [c0, o0] at t0; rw [c1, o1] at t1
    obtain ⟨x, e0, -, hx⟩ := DataW.trod_int h0 t0
    obtain ⟨s, e1, -, hs⟩ := DataW.trod_int h1 t1
    have k0 := hcell 0 (by omega)
    have k1 := hcell 1 (by omega)
    have ha : a = ⟨a.block, a.off, none⟩ := spot_none (v := d0) (by simpa [Addr.add] using k0)
    refine ⟨(x, s), ?_⟩
    generalize a.block = b at *
    generalize a.off = o at *
    subst ha
    have g0 : d0 = .int .i64 x := by simpa using e0
    have g1 : d1 = .int .i64 s := by simpa using e1
    subst g0; subst g1
    exact ⟨by simpa [WideShapes.add_plain] using k0, by simpa [WideShapes.add_plain] using k1⟩
set_option maxRecDepth 100000 in
theorem open_rngs {t e : TypeId} {f0 f1 : Field} (hs : Tryz.prog.underlying t = some (.slice e)) (he : Tryz.prog.underlying e = some (.struct #[f0, f1])) (h0 : Tryz.prog.underlying f0.type = some (.int .i64)) (h1 : Tryz.prog.underlying f1.type = some (.int .i64)) (c0 : Tryz.prog.cellsOf f0.type = 1) (c1 : Tryz.prog.cellsOf f1.type = 1) (o0 : f0.offset = 0) (o1 : f1.offset = 1) (hC : Tryz.prog.cellsOf e = 2)
    {b0 : Nat} {v : Value} {d : DataW H} {p : List MemPlace} (hval : Value.okWide Tryz.prog w .any b0 t v) (h : DataW.Trod enc Tryz.prog w base spare held t v d p) :
    ∃ (a : Option Addr) (l : List (Int × Int)) (cap : Nat), v = .slice a l.length cap ∧ RngAt w a l ∧ (a = none → cap = 0) ∧ (∀ p o, a = some ⟨p, o, none⟩ → p < w.heap.size) ∧ l.length ≤ cap ∧ cap ≤ maxLen ∧ (l.length = 0 ∨ ∃ elems rest, d = .slice elems rest ∧ elems.length = l.length) := by
  obtain ⟨a, n, cap, rfl⟩ := okWide_slice hs hval
  obtain ⟨fuel, hf⟩ := h
  rcases open_slice hs (show DataW.trod enc Tryz.prog w base spare held fuel _ [.slice a n cap] = some (d, p) from hf) with ⟨hcs, -⟩ | ⟨a', len, cap', m, n', D, Pl, hcs, -, hl, hm, hmm, hdp, hx⟩
  · simp only [List.cons.injEq, Value.slice.injEq, and_true] at hcs
    obtain ⟨rfl, rfl, rfl⟩ := hcs
    exact ⟨none, [], 0, rfl, .inl ⟨rfl, rfl⟩, fun _ => rfl, (fun _ _ e => by cases e), Nat.le_refl _, Nat.zero_le _, .inl rfl⟩
  · simp only [List.cons.injEq, Value.slice.injEq, and_true] at hcs
    obtain ⟨rfl, rfl, rfl⟩ := hcs
    obtain ⟨ha, hb⟩ := slice_has hs hval
    have hlm : n ≤ m := by rw [hmm]; split <;> omega
    have each : ∀ i, i < n → ∃ q : Int × Int, w.cell? ⟨a'.block, a'.off + i * 2, none⟩ = some (.int .i64 q.1) ∧ w.cell? ⟨a'.block, a'.off + i * 2 + 1, none⟩ = some (.int .i64 q.2) := fun i hi => by
      obtain ⟨cs', g1, g2⟩ := hx i (by omega)
      rw [hC] at g1
      obtain ⟨q, hq1, hq2⟩ := range_cells he h0 h1 c0 c1 o0 o1 g1 g2
      rw [(add_where a' (i * 2)).1, (add_where a' (i * 2)).2] at hq1 hq2
      exact ⟨q, hq1, hq2⟩
    obtain ⟨G, hG⟩ := choose_lt each
    refine ⟨some a', (List.range n).map G, cap, by simp, .inr ⟨a'.block, a'.off, by rw [← ha], fun j hj => ?_⟩, (fun e => by cases e), (fun p o e => ?_), by simpa using hl, hm, .inr ⟨_, _, congrArg Prod.fst hdp, by simp⟩⟩
    · simp only [List.length_map, List.length_range] at hj
      simpa using hG j hj
    · cases e; exact hb
set_option maxRecDepth 100000 in
theorem open_intsAt {t e : TypeId} (hs : Tryz.prog.underlying t = some (.slice e)) (he : Tryz.prog.underlying e = some (.int .i64)) (hC : Tryz.prog.cellsOf e = 1)
    {b0 : Nat} {v : Value} {d : DataW H} {p : List MemPlace} (hval : Value.okWide Tryz.prog w .any b0 t v) (h : DataW.Trod enc Tryz.prog w base spare held t v d p) :
    ∃ (a : Option Addr) (l : List Int) (cap : Nat), v = .slice a l.length cap ∧ IntsAt w a l ∧ (a = none → cap = 0) ∧ (∀ p o, a = some ⟨p, o, none⟩ → p < w.heap.size) ∧ l.length ≤ cap ∧ cap ≤ maxLen ∧ (l.length = 0 ∨ ∃ elems rest, d = .slice elems rest ∧ elems.length = l.length) := by
  obtain ⟨a, n, cap, rfl⟩ := okWide_slice hs hval
  obtain ⟨fuel, hf⟩ := h
  rcases open_slice1 hs hC (show DataW.trod enc Tryz.prog w base spare held fuel _ [.slice a n cap] = some (d, p) from hf) with ⟨hcs, -⟩ | ⟨a', len, cap', m, n', V, D, Pl, hcs, -, hl, hm, hmm, hdp, hx⟩
  · simp only [List.cons.injEq, Value.slice.injEq, and_true] at hcs
    obtain ⟨rfl, rfl, rfl⟩ := hcs
    exact ⟨none, [], 0, rfl, .inl ⟨rfl, rfl⟩, fun _ => rfl, (fun _ _ e => by cases e), Nat.le_refl _, Nat.zero_le _, .inl rfl⟩
  · simp only [List.cons.injEq, Value.slice.injEq, and_true] at hcs
    obtain ⟨rfl, rfl, rfl⟩ := hcs
    obtain ⟨ha, hb⟩ := slice_has hs hval
    have hlm : n ≤ m := by rw [hmm]; split <;> omega
    have each : ∀ i, i < n → ∃ q : Int, w.cell? ⟨a'.block, a'.off + i, none⟩ = some (.int .i64 q) := fun i hi => by
      obtain ⟨g1, g2⟩ := hx i (by omega)
      obtain ⟨x, e0, -, -⟩ := DataW.trod_int he g2
      have e1 : V i = .int .i64 x := by simpa using e0
      rw [e1, ha, WideShapes.add_plain] at g1
      exact ⟨x, g1⟩
    obtain ⟨G, hG⟩ := choose_lt each
    refine ⟨some a', (List.range n).map G, cap, by simp, .inr ⟨a'.block, a'.off, by rw [← ha], fun j hj => ?_⟩, (fun e => by cases e), (fun p o e => ?_), by simpa using hl, hm, .inr ⟨_, _, congrArg Prod.fst hdp, by simp⟩⟩
    · simp only [List.length_map, List.length_range] at hj
      rw [List.getElem_map, List.getElem_range]
      exact hG j hj
    · cases e; exact hb
end
end Go.Proofs.YtjideokeokmbaaaGreatDoor
