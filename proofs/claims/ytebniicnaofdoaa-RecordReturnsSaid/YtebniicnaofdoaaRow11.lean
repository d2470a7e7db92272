/- What the plain rows of layer 8 share that take records and lists. -/
import Derived.Test.YtebniicnaofdoaaRow10
import Derived.Test.YtebniicnaofdoaaRcJ
import Derived.Lib.SmallJoins
import Derived.Carry
import Derived.SizedLaws
import Derived.ChangeSame
import Derived.ChangeSlices
set_option linter.unusedVariables false
set_option linter.unusedSimpArgs false
namespace Go.Proofs.Ytebniicnaofdoaa
open Go.ChangeShapes Go.WideShapes Go.ChangeAt Go.RowKit Go.Deep Go.Joins
open Rc

theorem laidOut : laidOutB Try.prog = true := by kernel_rfl
/-- an argument reads behind the call as it did, where nothing below the heap's old size has turned -/
theorem arg_stays {H : Type} {enc : TypeId × Value → H} {t : TypeId} (hr : Try.prog.readableRec t = true) (hrow : t < Try.prog.types.size) {W W' : World} {v : Value} {d : DataW H} {ps : List MemPlace}
    (h : DataW.Trod enc Try.prog W 0 (fun _ => true) true t v d ps) (hb : Below W.heap.size W W') : DataW.Trod enc Try.prog W' 0 (fun b => decide (b < W.heap.size)) true t v d ps :=
  Below.trod laidOut hr hrow h hb (by obtain ⟨n, hn⟩ := h; exact DataW.trod_lt n _ _ _ hn)
section
variable {H : Type} {enc : TypeId × Value → H} {w : World} {base : Nat} {spare : Nat → Bool} {held : Bool}
theorem add_where (a : Addr) (n : Nat) : (a.add n).block = a.block ∧ (a.add n).off = a.off + n := by
  unfold Addr.add
  by_cases h : n = 0
  · rw [if_pos h]; subst h; exact ⟨rfl, rfl⟩
  · rw [if_neg h]; exact ⟨rfl, rfl⟩
theorem spot_none {w : World} {a : Addr} {v : Value} (h : w.cell? a = some v) : a = ⟨a.block, a.off, none⟩ := by
  obtain ⟨b, o, s⟩ := a
  cases s with
  | none => rfl
  | some s =>
    unfold World.cell? at h
    split at h
    · simp at h
    · cases h
set_option maxRecDepth 100000 in
theorem open_entry {b0 : Nat} {v : Value} {d : DataW H} {p : List MemPlace} (hval : Value.okWide Try.prog w .any b0 41 v) (h : DataW.Trod enc Try.prog w base spare held 41 v d p) :
    ∃ x : E, v = vE x ∧ (-9223372036854775808 ≤ x.1 ∧ x.1 ≤ 9223372036854775807) ∧ x.2.size ≤ maxLen := by
  obtain ⟨v0, v1, y0, y1, n, rfl, -, -, t0, t1⟩ := open_agg2 Try.underlying41 (by kernel_rfl) (by kernel_rfl) hval h
  obtain ⟨k, e0, -, hk⟩ := DataW.trod_int Try.underlying3 t0
  obtain ⟨s, e1, -, hs⟩ := DataW.trod_string Try.underlying9 t1
  simp only [List.cons.injEq, and_true] at e0 e1
  subst e0; subst e1
  exact ⟨(k, s), rfl, isI_of hk, hs⟩
set_option maxRecDepth 100000 in
theorem entry_cells {e : TypeId} {f0 f1 : Field} (he : Try.prog.underlying e = some (.struct #[f0, f1])) (h0 : Try.prog.underlying f0.type = some (.int .i64)) (h1 : Try.prog.underlying f1.type = some .string) (c0 : Try.prog.cellsOf f0.type = 1) (c1 : Try.prog.cellsOf f1.type = 1) (o0 : f0.offset = 0) (o1 : f1.offset = 1)
    {n : Nat} {a : Addr} {cs : List Value} {y : DataW H × List MemPlace} (hc : w.cells? base a 2 = some cs) (ht : DataW.trod enc Try.prog w base spare held n e cs = some y) :
    ∃ q : E, a = ⟨a.block, a.off, none⟩ ∧ EAt w a.block a.off q ∧ q.2.size ≤ maxLen := by
  obtain ⟨-, hlen, hcell⟩ := World.cells?_some hc
  obtain ⟨y0, y1, n', -, -, t0, t1⟩ := trod_struct2 he ht
  match cs, hlen with
  | [d0, d1], _ =>
    rw [c0, o0] at t0; rw [c1, o1] at t1
    obtain ⟨x, e0, -, hx⟩ := DataW.trod_int h0 t0
    obtain ⟨s, e1, -, hs⟩ := DataW.trod_string h1 t1
    have k0 := hcell 0 (by omega)
    have k1 := hcell 1 (by omega)
    have ha : a = ⟨a.block, a.off, none⟩ := spot_none (v := d0) (by simpa [Addr.add] using k0)
    refine ⟨(x, s), ha, ?_, hs⟩
    generalize a.block = b at *
    generalize a.off = o at *
    subst ha
    have g0 : d0 = .int .i64 x := by simpa using e0
    have g1 : d1 = .string s := by simpa using e1
    subst g0; subst g1
    exact ⟨by simpa [WideShapes.add_plain] using k0, by simpa [WideShapes.add_plain] using k1⟩
set_option maxRecDepth 100000 in
theorem open_entries0 {t e : TypeId} {f0 f1 : Field} (hs : Try.prog.underlying t = some (.slice e)) (he : Try.prog.underlying e = some (.struct #[f0, f1])) (h0 : Try.prog.underlying f0.type = some (.int .i64)) (h1 : Try.prog.underlying f1.type = some .string) (c0 : Try.prog.cellsOf f0.type = 1) (c1 : Try.prog.cellsOf f1.type = 1) (o0 : f0.offset = 0) (o1 : f1.offset = 1) (hC : Try.prog.cellsOf e = 2)
    {b0 : Nat} {v : Value} {d : DataW H} {p : List MemPlace} (hval : Value.okWide Try.prog w .any b0 t v) (h : DataW.Trod enc Try.prog w base spare held t v d p) :
    ∃ (a : Option Addr) (l : List E) (cap : Nat), v = .slice a l.length cap ∧ l.length ≤ cap ∧ cap ≤ maxLen ∧ RdE w a l ∧ (∀ q ∈ l, q.2.size ≤ maxLen) ∧ (l.length = 0 ∨ ∃ elems rest, d = .slice elems rest ∧ elems.length = l.length) := by
  obtain ⟨a, n, cap, rfl⟩ := okWide_slice hs hval
  obtain ⟨fuel, hf⟩ := h
  rcases open_slice hs (show DataW.trod enc Try.prog w base spare held fuel _ [.slice a n cap] = some (d, p) from hf) with ⟨hcs, -⟩ | ⟨a', len, cap', m, n', D, Pl, hcs, -, hl, hm, hmm, hdp, hx⟩
  · simp only [List.cons.injEq, Value.slice.injEq, and_true] at hcs
    obtain ⟨rfl, rfl, rfl⟩ := hcs
    exact ⟨none, [], 0, rfl, Nat.le_refl _, Nat.zero_le _, RdE.nil _ _, by simp, .inl rfl⟩
  · simp only [List.cons.injEq, Value.slice.injEq, and_true] at hcs
    obtain ⟨rfl, rfl, rfl⟩ := hcs
    have hlm : n ≤ m := by rw [hmm]; split <;> omega
    have each : ∀ i, i < n → ∃ q : E, (∃ b o, some a' = some ⟨b, o, none⟩ ∧ EAt w b (o + i * 2) q) ∧ q.2.size ≤ maxLen := fun i hi => by
      obtain ⟨cs', g1, g2⟩ := hx i (by omega)
      rw [hC] at g1
      obtain ⟨q, ha, hq, h4⟩ := entry_cells he h0 h1 c0 c1 o0 o1 g1 g2
      refine ⟨q, ⟨a'.block, a'.off, ?_, ?_⟩, h4⟩
      · obtain ⟨b, o, s⟩ := a'
        obtain ⟨cs0, g1, g2⟩ := hx 0 (by omega)
        rw [hC] at g1
        obtain ⟨_, ha0, _⟩ := entry_cells he h0 h1 c0 c1 o0 o1 g1 g2
        simpa [Addr.add] using ha0
      · have e1 := (add_where a' (i * 2)).1
        have e2 := (add_where a' (i * 2)).2
        rwa [e1, e2] at hq
    obtain ⟨G, hG⟩ := choose_lt each
    refine ⟨some a', (List.range n).map G, cap, by simp, by simpa using hl, hm, fun k hk => ?_, fun q hq => ?_, .inr ⟨_, _, congrArg Prod.fst hdp, by simp⟩⟩
    · simp only [List.length_map, List.length_range] at hk
      simpa using (hG k hk).1
    · simp only [List.mem_map, List.mem_range] at hq
      obtain ⟨i, hi, rfl⟩ := hq
      exact (hG i hi).2
set_option maxRecDepth 100000 in
theorem open_entries {b0 : Nat} {v : Value} {d : DataW H} {p : List MemPlace} (hval : Value.okWide Try.prog w .any b0 39 v) (h : DataW.Trod enc Try.prog w base spare held 39 v d p) :
    ∃ (a : Option Addr) (l : List E) (cap : Nat), v = .slice a l.length cap ∧ l.length ≤ cap ∧ cap ≤ maxLen ∧ RdE w a l ∧ ∀ q ∈ l, q.2.size ≤ maxLen := by
  obtain ⟨a, l, cap, h1, h2, h3, h4, h5, -⟩ := open_entries0 Try.underlying39 Try.underlying41 Try.underlying3 Try.underlying9 (by kernel_rfl) (by kernel_rfl) rfl rfl (by kernel_rfl) hval h
  exact ⟨a, l, cap, h1, h2, h3, h4, h5⟩
/-- a list of ints lies behind an address -/
def RdI (w : World) (a : Option Addr) (l : List Int) : Prop := ∀ k (h : k < l.length), ∃ b o, a = some ⟨b, o, none⟩ ∧ w.cell? ⟨b, o + k, none⟩ = some (.int .i64 l[k])
theorem RdI.gr {w w' : World} {a : Option Addr} {l : List Int} (h : RdI w a l) (hg : Gr w w') : RdI w' a l := fun k hk => by
  obtain ⟨b, o, h1, h2⟩ := h k hk
  exact ⟨b, o, h1, gr_cell hg h2⟩
set_option maxRecDepth 100000 in
theorem open_intl {b0 : Nat} {v : Value} {d : DataW H} {p : List MemPlace} (hval : Value.okWide Try.prog w .any b0 61 v) (h : DataW.Trod enc Try.prog w base spare held 61 v d p) :
    ∃ (a : Option Addr) (l : List Int) (cap : Nat), v = .slice a l.length cap ∧ l.length ≤ cap ∧ cap ≤ maxLen ∧ RdI w a l ∧ ∀ q ∈ l, -9223372036854775808 ≤ q ∧ q ≤ 9223372036854775807 := by
  obtain ⟨a1, n1, c1, rfl⟩ := okWide_slice Try.underlying61 hval
  obtain ⟨fuel, hf⟩ := h
  rcases open_ints Try.underlying61 Try.underlying3 (by kernel_rfl) (show DataW.trod enc Try.prog w base spare held fuel _ [.slice a1 n1 c1] = some (d, p) from hf) with ⟨hcs, -⟩ | ⟨a, len, cap, ss, hcs, -, hl, hm, hlen, -, hx, hz⟩
  · simp only [List.cons.injEq, Value.slice.injEq, and_true] at hcs
    obtain ⟨rfl, rfl, rfl⟩ := hcs
    exact ⟨none, [], 0, rfl, Nat.le_refl _, Nat.zero_le _, fun k hk => absurd hk (by simp), by simp⟩
  · simp only [List.cons.injEq, Value.slice.injEq, and_true] at hcs
    obtain ⟨rfl, rfl, rfl⟩ := hcs
    have hle : n1 ≤ ss.length := by rw [hlen]; split <;> omega
    have hll : (ss.take n1).length = n1 := by rw [List.length_take]; omega
    refine ⟨some a, ss.take n1, c1, by rw [hll], by omega, hm, fun k hk => ?_, fun s hs => isI_of (hz s (List.mem_of_mem_take hs))⟩
    have h0 := hx 0 (by omega)
    have hk0 := hx k (by omega)
    have ha : a = ⟨a.block, a.off, none⟩ := spot_none (v := .int .i64 (ss.getD 0 0)) (by simpa [Addr.add] using h0)
    refine ⟨a.block, a.off, by rw [← ha], ?_⟩
    rw [ha, WideShapes.add_plain] at hk0
    rw [hk0]
    simp [show k < ss.length by omega]
end
end Go.Proofs.Ytebniicnaofdoaa
