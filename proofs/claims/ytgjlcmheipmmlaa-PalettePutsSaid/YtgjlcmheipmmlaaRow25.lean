/- What the plain rows of law 15 share: values, entries, palettes and slices of them as arguments. -/
import Derived.Test.YtgjlcmheipmmlaaPaC
import Derived.ProofKit
import Derived.OpenShut
import Derived.ShutString
import Derived.ChangeOld
import Derived.LaidMore
import Derived.Stop.Joined
import Derived.Carry
import Derived.SizedLaws
import Derived.ChangeSame
import Derived.ChangeSlices
import Derived.Laws.IdiomArrays
import Derived.Lib.SmallJoins
set_option linter.unusedVariables false
set_option linter.unusedSimpArgs false
namespace Go.Proofs.Ytgjlcmheipmmlaa
open Go.ChangeShapes Go.WideShapes Go.ChangeAt Go.RowKit Go.Deep Go.Joins
open Go.ChangeMaps (open_string shut_string)
open Z
theorem own : ownKnob Try.prog.godebug = none := by kernel_rfl
theorem laidOut : laidOutB Try.prog = true := by kernel_rfl
/-- an argument reads behind the call as it did, where nothing below the heap's old size has turned -/
theorem arg_stays {H : Type} {enc : TypeId × Value → H} {t : TypeId} (hr : Try.prog.readableRec t = true) (hrow : t < Try.prog.types.size) {W W' : World} {v : Value} {d : DataW H} {ps : List MemPlace}
    (h : DataW.Trod enc Try.prog W 0 (fun _ => true) true t v d ps) (hb : Below W.heap.size W W') : DataW.Trod enc Try.prog W' 0 (fun b => decide (b < W.heap.size)) true t v d ps :=
  Below.trod laidOut hr hrow h hb (by obtain ⟨n, hn⟩ := h; exact DataW.trod_lt n _ _ _ hn)
section
variable {H : Type} {enc : TypeId × Value → H} {w : World} {base : Nat} {spare : Nat → Bool} {held : Bool}
theorem add_where (a : Addr) (n : Nat) : (a.add n).block = a.block ∧ (a.add n).off = a.off + n := by
  unfold Addr.add
  by_cases h : n = 0
  · rw [if_pos h]; subst h; exact ⟨rfl, rfl⟩
  · rw [if_neg h]; exact ⟨rfl, rfl⟩
theorem spot_none {w : World} {a : Addr} {v : Value} (h : w.cell? a = some v) : a = ⟨a.block, a.off, none⟩ := by
  obtain ⟨b, o, s⟩ := a
  cases s with
  | none => rfl
  | some s =>
    unfold World.cell? at h
    split at h
    · simp at h
    · cases h
theorem trod_struct3 {t : TypeId} {f0 f1 f2 : Field} {fuel : Nat} {cs : List Value} {x : DataW H × List MemPlace} (ht : Try.prog.underlying t = some (.struct #[f0, f1, f2])) (h : DataW.trod enc Try.prog w base spare held fuel t cs = some x) :
    ∃ y0 y1 y2 n, DataW.trod enc Try.prog w base spare held n f0.type ((cs.drop f0.offset).take (Try.prog.cellsOf f0.type)) = some y0 ∧ DataW.trod enc Try.prog w base spare held n f1.type ((cs.drop f1.offset).take (Try.prog.cellsOf f1.type)) = some y1 ∧ DataW.trod enc Try.prog w base spare held n f2.type ((cs.drop f2.offset).take (Try.prog.cellsOf f2.type)) = some y2 := by
  obtain ⟨xs, n, _, rfl, hl, hlen, hf⟩ := DataW.trod_struct ht h
  match xs, hlen with
  | [y0, y1, y2], _ => exact ⟨y0, y1, y2, n, by simpa using hf 0 f0 rfl, by simpa using hf 1 f1 rfl, by simpa using hf 2 f2 rfl⟩
set_option maxRecDepth 100000 in
theorem int_part {n : Nat} {c : Value} {y : DataW H × List MemPlace} (ht : DataW.trod enc Try.prog w base spare held n 3 [c] = some y) : ∃ x : Int, c = .int .i64 x := by
  obtain ⟨x, e0, -, -⟩ := DataW.trod_int Try.underlying3 ht
  exact ⟨x, by simpa using e0⟩
set_option maxRecDepth 100000 in
theorem hue_parts {n : Nat} {cs : List Value} {y : DataW H × List MemPlace} (hlen : cs.length = 3) (ht : DataW.trod enc Try.prog w base spare held n 110 cs = some y) : ∃ h : Hu, cs = shH.enc h := by
  obtain ⟨y0, y1, y2, n', t0, t1, t2⟩ := trod_struct3 Try.underlying110 ht
  match cs, hlen with
  | [c0, c1, c2], _ =>
    rw [show Try.prog.cellsOf 3 = 1 by kernel_rfl] at t0 t1 t2
    obtain ⟨x0, rfl⟩ := int_part t0
    obtain ⟨x1, rfl⟩ := int_part t1
    obtain ⟨x2, rfl⟩ := int_part t2
    exact ⟨(x0, x1, x2), rfl⟩
set_option maxRecDepth 100000 in
theorem param_parts {n : Nat} {cs : List Value} {y : DataW H × List MemPlace} (hlen : cs.length = 2) (ht : DataW.trod enc Try.prog w base spare held n 55 cs = some y) : ∃ x0 x1 : Int, cs = [.int .i64 x0, .int .i64 x1] := by
  obtain ⟨y0, y1, n', -, -, t0, t1⟩ := trod_struct2 Try.underlying55 ht
  match cs, hlen with
  | [c0, c1], _ =>
    rw [show Try.prog.cellsOf 3 = 1 by kernel_rfl] at t0 t1
    obtain ⟨x0, rfl⟩ := int_part t0
    obtain ⟨x1, rfl⟩ := int_part t1
    exact ⟨x0, x1, rfl⟩
set_option maxRecDepth 100000 in
theorem value_parts {n : Nat} {cs : List Value} {y : DataW H × List MemPlace} (hlen : cs.length = 2) (ht : DataW.trod enc Try.prog w base spare held n 23 cs = some y) : ∃ x0 x1 : Int, cs = [.int .i64 x0, .int .i64 x1] := by
  obtain ⟨y0, y1, n', -, -, t0, t1⟩ := trod_struct2 Try.underlying23 ht
  match cs, hlen with
  | [c0, c1], _ =>
    rw [show Try.prog.cellsOf 3 = 1 by kernel_rfl] at t0 t1
    obtain ⟨x0, rfl⟩ := int_part t0
    obtain ⟨x1, rfl⟩ := int_part t1
    exact ⟨x0, x1, rfl⟩
set_option maxRecDepth 100000 in
theorem entry_parts {n : Nat} {cs : List Value} {y : DataW H × List MemPlace} (hlen : cs.length = 4) (ht : DataW.trod enc Try.prog w base spare held n 57 cs = some y) : ∃ x : En, cs = shE.enc x := by
  obtain ⟨y0, y1, n', -, -, t0, t1⟩ := trod_struct2 Try.underlying57 ht
  match cs, hlen with
  | [c0, c1, c2, c3], _ =>
    rw [show Try.prog.cellsOf 55 = 2 by kernel_rfl] at t0
    rw [show Try.prog.cellsOf 23 = 2 by kernel_rfl] at t1
    obtain ⟨x0, x1, e0⟩ := param_parts rfl t0
    obtain ⟨x2, x3, e1⟩ := value_parts rfl t1
    simp at e0 e1
    obtain ⟨rfl, rfl⟩ := e0
    obtain ⟨rfl, rfl⟩ := e1
    exact ⟨(x0, x1, x2, x3), rfl⟩
/-- slices of elements whose parts are known -/
theorem open_sl {α : Type} [Inhabited α] (S : Sh α) (good : α → Prop) (hc : Try.prog.cellsOf S.t = S.sz)
    (hp : ∀ (n : Nat) (cs : List Value) (y : DataW H × List MemPlace), cs.length = S.sz → DataW.trod enc Try.prog w base spare held n S.t cs = some y → ∃ x, cs = S.enc x ∧ good x)
    {fuel : Nat} {cs : List Value} {d : DataW H} {p : List MemPlace} (hf : DataW.trod enc Try.prog w base spare held fuel S.st cs = some (d, p)) :
    ∃ (a : Option Addr) (l : List α) (cap : Nat), cs = [.slice a l.length cap] ∧ l.length ≤ cap ∧ cap ≤ maxLen ∧ Rd S w a l ∧ SlOk a cap ∧ ∀ x ∈ l, good x := by
  rcases open_slice S.hund hf with ⟨hcs, -⟩ | ⟨a', len, cap', m, n', D, Pl, hcs, -, hl, hm, hmm, hdp, hx⟩
  · exact ⟨none, [], 0, hcs, Nat.le_refl _, Nat.zero_le _, Rd.nil _ _ _, .inl ⟨rfl, rfl⟩, by simp⟩
  · have hlm : len ≤ m := by rw [hmm]; split <;> omega
    have each : ∀ i, i < len → ∃ x : α, a' = ⟨a'.block, a'.off, none⟩ ∧ (∀ j v, (S.enc x)[j]? = some v → w.cell? ⟨a'.block, a'.off + i * S.sz + j, none⟩ = some v) ∧ good x := fun i hi => by
      have one : ∀ k, k < len → ∃ x : α, (∀ j v, (S.enc x)[j]? = some v → w.cell? ((a'.add (k * S.sz)).add j) = some v) ∧ good x := fun k hk => by
        obtain ⟨cs', g1, g2⟩ := hx k (by omega)
        rw [hc] at g1
        obtain ⟨-, hlen, hcell⟩ := World.cells?_some g1
        obtain ⟨x, rfl, hgx⟩ := hp _ _ _ hlen g2
        exact ⟨x, fun j v hj => (hcell j (by have := (List.getElem?_eq_some_iff.1 hj).1; rwa [S.hlen] at this)).trans hj, hgx⟩
      have ha : a' = ⟨a'.block, a'.off, none⟩ := by
        obtain ⟨x0, h0, -⟩ := one 0 (by omega)
        have h1 : 0 < (S.enc x0).length := by rw [S.hlen]; exact S.hsz
        have h2 := h0 0 _ (List.getElem?_eq_getElem h1)
        rw [Nat.zero_mul] at h2
        have h3 : w.cell? a' = some (S.enc x0)[0] := by simpa [Addr.add] using h2
        exact spot_none h3
      obtain ⟨x, h0, hgx⟩ := one i hi
      refine ⟨x, ha, fun j v hj => ?_, hgx⟩
      have h1 := h0 j v hj
      rw [ha, WideShapes.add_plain, WideShapes.add_plain] at h1
      exact h1
    obtain ⟨G, hG⟩ := choose_lt each
    refine ⟨some a', (List.range len).map G, cap', by simpa using hcs, by simpa using hl, hm, fun k hk => ?_, .inr ⟨_, rfl⟩, fun x hx2 => ?_⟩
    · simp only [List.length_map, List.length_range] at hk
      obtain ⟨h1, h2, -⟩ := hG k hk
      exact ⟨a'.block, a'.off, by rw [← h1], by simpa using h2⟩
    · simp only [List.mem_map, List.mem_range] at hx2
      obtain ⟨i, hi, rfl⟩ := hx2
      exact (hG i hi).2.2
set_option maxRecDepth 100000 in
theorem pal_parts {n : Nat} {cs : List Value} {y : DataW H × List MemPlace} (hlen : cs.length = 2) (ht : DataW.trod enc Try.prog w base spare held n 39 cs = some y) : ∃ m : PV, cs = shG.enc m ∧ ∃ g : Pl, ChAt w m g := by
  obtain ⟨y0, y1, n', -, -, t0, t1⟩ := trod_struct2 Try.underlying39 ht
  match cs, hlen with
  | [c0, c1], _ =>
    rw [show Try.prog.cellsOf 3 = 1 by kernel_rfl] at t0
    rw [show Try.prog.cellsOf 37 = 1 by kernel_rfl] at t1
    obtain ⟨x, rfl⟩ := int_part t0
    obtain ⟨a, l, cap, e1, h1, h2, h3, h4, -⟩ := open_sl shH (fun _ => True) (by kernel_rfl) (fun n cs y hl ht => by obtain ⟨h, e⟩ := hue_parts hl ht; exact ⟨h, e, trivial⟩) t1
    have e2 : c1 = .slice a l.length cap := by simpa using e1
    subst e2
    exact ⟨(x, a, l.length, cap), rfl, (x, l), rfl, rfl, h3, h1, h2, h4⟩
theorem RdP.of_each {a : Option Addr} {M : List PV} (h : Rd shG w a M) (hg : ∀ m ∈ M, ∃ g : Pl, ChAt w m g) : ∃ l : List Pl, l.length = M.length ∧ RdP w a l := by
  obtain ⟨G, hG⟩ := choose_lt (n := M.length) (p := fun i (g : Pl) => ∀ hi : i < M.length, ChAt w M[i] g) (fun i hi => by
    obtain ⟨g, h2⟩ := hg _ (List.getElem_mem hi)
    exact ⟨g, fun _ => h2⟩)
  refine ⟨(List.range M.length).map G, by simp, M, h, by simp, fun k h1 h2 => ?_⟩
  have := hG k h1 h1
  simpa using this
theorem RdP.inner {w : World} {a : Option Addr} {l : List Pl} (h : RdP w a l) : ∀ g ∈ l, g.2.length ≤ 9223372036854775807 := fun g hg => by
  obtain ⟨k, hk, rfl⟩ := List.getElem_of_mem hg
  obtain ⟨_, _, _, _, -, -, -, -, h1, h2, -⟩ := h.at hk
  unfold maxLen at h2
  omega
set_option maxRecDepth 100000 in
theorem open_ents {b0 : Nat} {v : Value} {d : DataW H} {p : List MemPlace} (hval : Value.okWide Try.prog w .any b0 24 v) (h : DataW.Trod enc Try.prog w base spare held 24 v d p) :
    ∃ (a : Option Addr) (l : List En) (cap : Nat), v = .slice a l.length cap ∧ l.length ≤ 9223372036854775807 ∧ Rd shE w a l := by
  obtain ⟨a, n, cap, rfl⟩ := okWide_slice Try.underlying24 hval
  obtain ⟨fuel, hf⟩ := h
  obtain ⟨a', l, cap', e, h1, h2, h3, -⟩ := open_sl shE (fun _ => True) (by kernel_rfl) (fun n cs y hl ht => by obtain ⟨h, e⟩ := entry_parts hl ht; exact ⟨h, e, trivial⟩) (show DataW.trod enc Try.prog w base spare held fuel _ [.slice a n cap] = some (d, p) from hf)
  simp only [List.cons.injEq, Value.slice.injEq, and_true] at e
  obtain ⟨rfl, rfl, rfl⟩ := e
  unfold maxLen at h2
  exact ⟨a, l, cap, rfl, by omega, h3⟩
set_option maxRecDepth 100000 in
theorem open_pals {b0 : Nat} {v : Value} {d : DataW H} {p : List MemPlace} (hval : Value.okWide Try.prog w .any b0 25 v) (h : DataW.Trod enc Try.prog w base spare held 25 v d p) :
    ∃ (a : Option Addr) (l : List Pl) (cap : Nat), v = .slice a l.length cap ∧ l.length ≤ 9223372036854775807 ∧ RdP w a l ∧ SlOk a cap ∧ l.length ≤ cap ∧ cap ≤ maxLen := by
  obtain ⟨a, n, cap, rfl⟩ := okWide_slice Try.underlying25 hval
  obtain ⟨fuel, hf⟩ := h
  obtain ⟨a', M, cap', e, h1, h2, h3, h4, h5⟩ := open_sl shG (fun m => ∃ g : Pl, ChAt w m g) (by kernel_rfl) (fun n cs y hl ht => pal_parts hl ht) (show DataW.trod enc Try.prog w base spare held fuel _ [.slice a n cap] = some (d, p) from hf)
  simp only [List.cons.injEq, Value.slice.injEq, and_true] at e
  obtain ⟨rfl, rfl, rfl⟩ := e
  obtain ⟨l, hl, hr⟩ := RdP.of_each h3 h5
  have h6 := h2
  unfold maxLen at h6
  exact ⟨a, l, cap, by rw [hl], by omega, hr, h4, by omega, h2⟩
theorem agg_of {α : Type} {n : Nat} {cs : Array Value} {x : List Value} (h : cs.toList = x) : cs = x.toArray := by rw [← h]
set_option maxRecDepth 100000 in
theorem open_value {b0 : Nat} {v : Value} {d : DataW H} {p : List MemPlace} (hv : Value.okWide Try.prog w .any b0 23 v) (h : DataW.Trod enc Try.prog w base spare held 23 v d p) : ∃ x0 x1 : Int, v = .agg #[.int .i64 x0, .int .i64 x1] := by
  simp only [Value.okWide, Try.underlying23] at hv
  obtain ⟨cs, rfl, h2, h3⟩ := hv
  rw [show Try.prog.cellsOf 23 = 2 by kernel_rfl] at h2
  obtain ⟨fuel, hf⟩ := h
  obtain ⟨x0, x1, e⟩ := value_parts (cs := cs.toList) (by simpa using h2) (by simpa [Value.cells] using hf)
  obtain ⟨l⟩ := cs
  simp only at e
  subst e
  exact ⟨x0, x1, rfl⟩
set_option maxRecDepth 100000 in
theorem open_entry {b0 : Nat} {v : Value} {d : DataW H} {p : List MemPlace} (hv : Value.okWide Try.prog w .any b0 57 v) (h : DataW.Trod enc Try.prog w base spare held 57 v d p) : ∃ x : En, v = .agg #[.int .i64 x.1, .int .i64 x.2.1, .int .i64 x.2.2.1, .int .i64 x.2.2.2] := by
  simp only [Value.okWide, Try.underlying57] at hv
  obtain ⟨cs, rfl, h2, h3⟩ := hv
  rw [show Try.prog.cellsOf 57 = 4 by kernel_rfl] at h2
  obtain ⟨fuel, hf⟩ := h
  obtain ⟨x, e⟩ := entry_parts (cs := cs.toList) (by simpa using h2) (by simpa [Value.cells] using hf)
  obtain ⟨l⟩ := cs
  simp only at e
  subst e
  exact ⟨x, rfl⟩
set_option maxRecDepth 100000 in
theorem open_pal {b0 : Nat} {v : Value} {d : DataW H} {p : List MemPlace} (hv : Value.okWide Try.prog w .any b0 39 v) (h : DataW.Trod enc Try.prog w base spare held 39 v d p) : ∃ (m : PV) (g : Pl), v = .agg #[.int .i64 m.1, psl m] ∧ ChAt w m g := by
  simp only [Value.okWide, Try.underlying39] at hv
  obtain ⟨cs, rfl, h2, h3⟩ := hv
  rw [show Try.prog.cellsOf 39 = 2 by kernel_rfl] at h2
  obtain ⟨fuel, hf⟩ := h
  obtain ⟨m, e, g, hg⟩ := pal_parts (cs := cs.toList) (by simpa using h2) (by simpa [Value.cells] using hf)
  obtain ⟨l⟩ := cs
  simp only at e
  subst e
  exact ⟨m, g, rfl, hg⟩
end
end Go.Proofs.Ytgjlcmheipmmlaa
