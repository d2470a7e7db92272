/- What the plain rows of law 11 share. -/
import Derived.Test.YtipfofdjngnkpaaCoX
import Derived.WalkKit
import Derived.ProofKit
import Derived.OpenShut
import Derived.ShutString
import Derived.Below
import Derived.ChangeOld
import Derived.LaidMore
import Derived.Stop.Joined
import Derived.Carry
import Derived.SizedLaws
import Derived.ChangeSame
import Derived.ChangeSlices
import Derived.Laws.IdiomArrays
import Derived.Lib.SmallJoins
set_option linter.unusedVariables false
set_option linter.unusedSimpArgs false
namespace Go.Proofs.Ytipfofdjngnkpaa
open Go.ChangeShapes Go.WideShapes Go.ChangeAt Go.RowKit Go.Deep Go.Joins
open Go.ChangeMaps (open_string shut_string)

theorem own : ownKnob Try.prog.godebug = none := by kernel_rfl
theorem isI_of {n : Int} (h : (Lit.int .i64 n).wf = true) : -9223372036854775808 ≤ n ∧ n ≤ 9223372036854775807 := by
  exact bounds_i64 h
theorem laidOut : laidOutB Try.prog = true := by kernel_rfl
/-- an argument reads behind the call as it did, where nothing below the heap's old size has turned -/
theorem arg_stays {H : Type} {enc : TypeId × Value → H} {t : TypeId} (hr : Try.prog.readableRec t = true) (hrow : t < Try.prog.types.size) {W W' : World} {v : Value} {d : DataW H} {ps : List MemPlace}
    (h : DataW.Trod enc Try.prog W 0 (fun _ => true) true t v d ps) (hb : Below W.heap.size W W') : DataW.Trod enc Try.prog W' 0 (fun b => decide (b < W.heap.size)) true t v d ps :=
  Below.trod laidOut hr hrow h hb (by obtain ⟨n, hn⟩ := h; exact DataW.trod_lt n _ _ _ hn)
theorem three_of {α : Type} {cs : Array α} (h : cs.size = 3) : ∃ c0 c1 c2, cs = #[c0, c1, c2] := by
  obtain ⟨l⟩ := cs
  match l, h with
  | [c0, c1, c2], _ => exact ⟨c0, c1, c2, rfl⟩
section
variable {H : Type} {enc : TypeId × Value → H} {w : World} {base : Nat} {spare : Nat → Bool} {held : Bool}
theorem add_where (a : Addr) (n : Nat) : (a.add n).block = a.block ∧ (a.add n).off = a.off + n := by
  unfold Addr.add
  by_cases h : n = 0
  · rw [if_pos h]; subst h; exact ⟨rfl, rfl⟩
  · rw [if_neg h]; exact ⟨rfl, rfl⟩
theorem spot_none {w : World} {a : Addr} {v : Value} (h : w.cell? a = some v) : a = ⟨a.block, a.off, none⟩ := by
  obtain ⟨b, o, s⟩ := a
  cases s with
  | none => rfl
  | some s =>
    unfold World.cell? at h
    split at h
    · simp at h
    · cases h
theorem open_ints3 {K : IntKind} {P : Program} {r : Reach} {b0 : Nat} {t e : TypeId} {v : Value} {d : DataW H} {p : List MemPlace} (hu : P.underlying t = some (.array 3 e)) (he : P.underlying e = some (.int K)) (hC : P.cellsOf t = 3) (hE : P.cellsOf e = 1)
    (hv : Value.okWide P w r b0 t v) (h : DataW.Trod enc P w base spare held t v d p) :
    ∃ a b c : Int, v = .agg #[.int K a, .int K b, .int K c] ∧ (Lit.int K a).wf = true ∧ (Lit.int K b).wf = true ∧ (Lit.int K c).wf = true := by
  simp only [Value.okWide, hu] at hv
  obtain ⟨cs, rfl, h2, h3⟩ := hv
  rw [hC] at h2
  obtain ⟨c0, c1, c2, rfl⟩ := three_of h2
  obtain ⟨fuel, hf⟩ := h
  obtain ⟨xs, m, rfl, hx, _, hl, hall⟩ := DataW.trod_array hu hf
  match xs, hl with
  | [y0, y1, y2], _ =>
    have h0 := hall 0 (by omega)
    have h1 := hall 1 (by omega)
    have h2 := hall 2 (by omega)
    rw [hE] at h0 h1 h2
    simp [Value.cells] at h0 h1 h2
    obtain ⟨a, e0, -, wa⟩ := DataW.trod_int he h0
    obtain ⟨b, e1, -, wb⟩ := DataW.trod_int he h1
    obtain ⟨c, e2, -, wc⟩ := DataW.trod_int he h2
    simp only [List.cons.injEq, and_true] at e0 e1 e2
    subst e0 e1 e2
    exact ⟨a, b, c, rfl, wa, wb, wc⟩
theorem cells_ints3 {K : IntKind} {P : Program} {t e : TypeId} {n : Nat} {cs : List Value} {y : DataW H × List MemPlace} (hu : P.underlying t = some (.array 3 e)) (he : P.underlying e = some (.int K)) (hE : P.cellsOf e = 1) (hlen : cs.length = 3)
    (ht : DataW.trod enc P w base spare held n t cs = some y) : ∃ a b c : Int, cs = [.int K a, .int K b, .int K c] ∧ (Lit.int K a).wf = true ∧ (Lit.int K b).wf = true ∧ (Lit.int K c).wf = true := by
  match cs, hlen with
  | [d0, d1, d2], _ =>
    obtain ⟨y0, y1, y2, n, -, t0, t1, t2⟩ := trod_array3 hu hE ht
    obtain ⟨a, e0, -, wa⟩ := DataW.trod_int he t0
    obtain ⟨b, e1, -, wb⟩ := DataW.trod_int he t1
    obtain ⟨c, e2, -, wc⟩ := DataW.trod_int he t2
    simp only [List.cons.injEq, and_true] at e0 e1 e2
    subst e0 e1 e2
    exact ⟨a, b, c, rfl, wa, wb, wc⟩
set_option maxRecDepth 100000 in
/-- a list of arrays of three ints -/
theorem open_list3 {K : IntKind} {t e u : TypeId} (hs : Try.prog.underlying t = some (.slice e)) (he : Try.prog.underlying e = some (.array 3 u)) (h0 : Try.prog.underlying u = some (.int K)) (c0 : Try.prog.cellsOf u = 1) (hC : Try.prog.cellsOf e = 3)
    {b0 : Nat} {v : Value} {d : DataW H} {p : List MemPlace} (hval : Value.okWide Try.prog w .any b0 t v) (h : DataW.Trod enc Try.prog w base spare held t v d p) :
    ∃ (a : Option Addr) (l : List (Int × Int × Int)) (cap : Nat), v = .slice a l.length cap ∧ l.length ≤ cap ∧ cap ≤ maxLen ∧
      (∀ k (h : k < l.length), ∃ b o, a = some ⟨b, o, none⟩ ∧ w.cell? ⟨b, o + k * 3, none⟩ = some (.int K l[k].1) ∧ w.cell? ⟨b, o + k * 3 + 1, none⟩ = some (.int K l[k].2.1) ∧ w.cell? ⟨b, o + k * 3 + 2, none⟩ = some (.int K l[k].2.2)) ∧
      ∀ q ∈ l, (Lit.int K q.1).wf = true ∧ (Lit.int K q.2.1).wf = true ∧ (Lit.int K q.2.2).wf = true := by
  obtain ⟨a, n, cap, rfl⟩ := okWide_slice hs hval
  obtain ⟨fuel, hf⟩ := h
  rcases open_slice hs (show DataW.trod enc Try.prog w base spare held fuel _ [.slice a n cap] = some (d, p) from hf) with ⟨hcs, -⟩ | ⟨a', len, cap', m, n', D, Pl, hcs, -, hl, hm, hmm, hdp, hx⟩
  · simp only [List.cons.injEq, Value.slice.injEq, and_true] at hcs
    obtain ⟨rfl, rfl, rfl⟩ := hcs
    exact ⟨none, [], 0, rfl, Nat.le_refl _, Nat.zero_le _, fun k hk => absurd hk (by simp), by simp⟩
  · simp only [List.cons.injEq, Value.slice.injEq, and_true] at hcs
    obtain ⟨rfl, rfl, rfl⟩ := hcs
    have hlm : n ≤ m := by rw [hmm]; split <;> omega
    have each : ∀ i, i < n → ∃ q : Int × Int × Int, (∃ b o, some a' = some ⟨b, o, none⟩ ∧ w.cell? ⟨b, o + i * 3, none⟩ = some (.int K q.1) ∧ w.cell? ⟨b, o + i * 3 + 1, none⟩ = some (.int K q.2.1) ∧ w.cell? ⟨b, o + i * 3 + 2, none⟩ = some (.int K q.2.2)) ∧ (Lit.int K q.1).wf = true ∧ (Lit.int K q.2.1).wf = true ∧ (Lit.int K q.2.2).wf = true := fun i hi => by
      obtain ⟨cs', g1, g2⟩ := hx i (by omega)
      rw [hC] at g1
      obtain ⟨-, hlen, hcell⟩ := World.cells?_some g1
      obtain ⟨x, y, z, rfl, wx, wy, wz⟩ := cells_ints3 he h0 c0 hlen g2
      have k0 := hcell 0 (by omega)
      have k1 := hcell 1 (by omega)
      have k2 := hcell 2 (by omega)
      refine ⟨(x, y, z), ⟨a'.block, a'.off, ?_, ?_⟩, wx, wy, wz⟩
      · obtain ⟨cs0, f1, f2⟩ := hx 0 (by omega)
        rw [hC] at f1
        obtain ⟨-, flen, fcell⟩ := World.cells?_some f1
        obtain ⟨x', y', z', rfl, -⟩ := cells_ints3 he h0 c0 flen f2
        have f0 := fcell 0 (by omega)
        have ha : a' = ⟨a'.block, a'.off, none⟩ := spot_none (v := .int K x') (by simpa [Addr.add] using f0)
        rw [← ha]
      · have e1 := (add_where a' (i * 3)).1
        have e2 := (add_where a' (i * 3)).2
        have hp : a'.add (i * 3) = ⟨a'.block, a'.off + i * 3, none⟩ := by
          have := spot_none (a := a'.add (i * 3)) (v := .int K x) (by simpa [Addr.add] using k0)
          rw [this, e1, e2]
        rw [hp] at k0 k1 k2
        rw [WideShapes.add_plain] at k0 k1 k2
        exact ⟨by simpa using k0, by simpa using k1, by simpa using k2⟩
    obtain ⟨G, hG⟩ := choose_lt each
    refine ⟨some a', (List.range n).map G, cap, by simp, by simpa using hl, hm, fun k hk => ?_, fun q hq => ?_⟩
    · simp only [List.length_map, List.length_range] at hk
      simpa using (hG k hk).1
    · simp only [List.mem_map, List.mem_range] at hq
      obtain ⟨i, hi, rfl⟩ := hq
      exact (hG i hi).2
set_option maxRecDepth 100000 in
theorem open_intl {b0 : Nat} {v : Value} {d : DataW H} {p : List MemPlace} (hval : Value.okWide Try.prog w .any b0 22 v) (h : DataW.Trod enc Try.prog w base spare held 22 v d p) :
    ∃ (a : Option Addr) (l : List Int) (cap : Nat), v = .slice a l.length cap ∧ l.length ≤ cap ∧ cap ≤ maxLen ∧ RdI w a l ∧ ∀ q ∈ l, -9223372036854775808 ≤ q ∧ q ≤ 9223372036854775807 := by
  obtain ⟨a1, n1, c1, rfl⟩ := okWide_slice Try.underlying22 hval
  obtain ⟨fuel, hf⟩ := h
  rcases open_ints Try.underlying22 Try.underlying3 (by kernel_rfl) (show DataW.trod enc Try.prog w base spare held fuel _ [.slice a1 n1 c1] = some (d, p) from hf) with ⟨hcs, -⟩ | ⟨a, len, cap, ss, hcs, -, hl, hm, hlen, -, hx, hz⟩
  · simp only [List.cons.injEq, Value.slice.injEq, and_true] at hcs
    obtain ⟨rfl, rfl, rfl⟩ := hcs
    exact ⟨none, [], 0, rfl, Nat.le_refl _, Nat.zero_le _, fun k hk => absurd hk (by simp), by simp⟩
  · simp only [List.cons.injEq, Value.slice.injEq, and_true] at hcs
    obtain ⟨rfl, rfl, rfl⟩ := hcs
    have hle : n1 ≤ ss.length := by rw [hlen]; split <;> omega
    have hll : (ss.take n1).length = n1 := by rw [List.length_take]; omega
    refine ⟨some a, ss.take n1, c1, by rw [hll], by omega, hm, fun k hk => ?_, fun s hs => isI_of (hz s (List.mem_of_mem_take hs))⟩
    have h0 := hx 0 (by omega)
    have hk0 := hx k (by omega)
    have ha : a = ⟨a.block, a.off, none⟩ := spot_none (v := .int .i64 (ss.getD 0 0)) (by simpa [Addr.add] using h0)
    refine ⟨a.block, a.off, by rw [← ha], ?_⟩
    rw [ha, WideShapes.add_plain] at hk0
    rw [hk0]
    simp [show k < ss.length by omega]
end
end Go.Proofs.Ytipfofdjngnkpaa
