/- What the rows share whose laws take structs and slices of structs. -/
import Derived.Test.YtffifpinnhaloaaGreatDoorRow04
import Derived.Test.YtffifpinnhaloaaGreatDoorGlC
import Derived.Lib.SmallJoins
import Derived.Carry
set_option linter.unusedVariables false
set_option linter.unusedSimpArgs false
namespace Go.Proofs.YtffifpinnhaloaaGreatDoor
open Go.ChangeShapes Go.WideShapes Go.ChangeAt Go.RowKit Go.Deep Go.Joins

theorem laidOut : laidOutB Tryz.prog = true := by kernel_rfl
/-- an argument reads behind the call as it did, where nothing below the heap's old size has turned -/
theorem arg_stays {H : Type} {enc : TypeId × Value → H} {t : TypeId} (hr : Tryz.prog.readableRec t = true) (hrow : t < Tryz.prog.types.size) {W W' : World} {v : Value} {d : DataW H} {ps : List MemPlace}
    (h : DataW.Trod enc Tryz.prog W 0 (fun _ => true) true t v d ps) (hb : Below W.heap.size W W') : DataW.Trod enc Tryz.prog W' 0 (fun b => decide (b < W.heap.size)) true t v d ps :=
  Below.trod laidOut hr hrow h hb (by obtain ⟨n, hn⟩ := h; exact DataW.trod_lt n _ _ _ hn)
section
variable {H : Type} {enc : TypeId × Value → H} {w : World} {base : Nat} {spare : Nat → Bool} {held : Bool}
theorem add_where (a : Addr) (n : Nat) : (a.add n).block = a.block ∧ (a.add n).off = a.off + n := by
  unfold Addr.add
  by_cases h : n = 0
  · rw [if_pos h]; subst h; exact ⟨rfl, rfl⟩
  · rw [if_neg h]; exact ⟨rfl, rfl⟩
theorem spot_none {w : World} {a : Addr} {v : Value} (h : w.cell? a = some v) : a = ⟨a.block, a.off, none⟩ := by
  obtain ⟨b, o, s⟩ := a
  cases s with
  | none => rfl
  | some s =>
    unfold World.cell? at h
    split at h
    · simp at h
    · cases h
set_option maxRecDepth 100000 in
theorem open_glide {b0 : Nat} {v : Value} {d : DataW H} {p : List MemPlace} (hval : Value.okWide Tryz.prog w .any b0 24 v) (h : DataW.Trod enc Tryz.prog w base spare held 24 v d p) :
    ∃ g : Gl, v = vG4 g ∧ g.f.size ≤ maxLen ∧ g.isG := by
  obtain ⟨v0, v1, v2, v3, y0, y1, y2, y3, n, rfl, -, -, t0, t1, t2, t3⟩ := open_agg4 Tryz.underlying24 (by kernel_rfl) (by kernel_rfl) hval h
  obtain ⟨s, e0, -, hs⟩ := DataW.trod_string Tryz.underlying22 t0
  obtain ⟨x, e1, -, hx⟩ := DataW.trod_int Tryz.underlying3 t1
  obtain ⟨st, e2, -, hst⟩ := DataW.trod_int Tryz.underlying3 t2
  obtain ⟨ti, e3, -, hti⟩ := DataW.trod_int Tryz.underlying3 t3
  simp only [List.cons.injEq, and_true] at e0 e1 e2 e3
  subst e0; subst e1; subst e2; subst e3
  exact ⟨(s, x, st, ti), rfl, hs, isI_of hx, isI_of hst, isI_of hti⟩
set_option maxRecDepth 100000 in
theorem open_turn3 {t : TypeId} {f0 f1 f2 : Field} (ht : Tryz.prog.underlying t = some (.struct #[f0, f1, f2])) (h0 : f0.type = 3) (h1 : f1.type = 3) (h2 : f2.type = 3) (hone : oneCellFields Tryz.prog #[f0, f1, f2] = true) (hC : Tryz.prog.cellsOf t = 3)
    {b0 : Nat} {v : Value} {d : DataW H} {p : List MemPlace} (hval : Value.okWide Tryz.prog w .any b0 t v) (h : DataW.Trod enc Tryz.prog w base spare held t v d p) : ∃ q : T3, v = vT3 q ∧ isT q := by
  obtain ⟨v0, v1, v2, y0, y1, y2, n, rfl, -, -, t0, t1, t2⟩ := open_agg3 ht hone hC hval h
  rw [h0] at t0; rw [h1] at t1; rw [h2] at t2
  obtain ⟨x, e1, -, hx⟩ := DataW.trod_int Tryz.underlying3 t0
  obtain ⟨st, e2, -, hst⟩ := DataW.trod_int Tryz.underlying3 t1
  obtain ⟨ti, e3, -, hti⟩ := DataW.trod_int Tryz.underlying3 t2
  simp only [List.cons.injEq, and_true] at e1 e2 e3
  subst e1; subst e2; subst e3
  exact ⟨(x, st, ti), rfl, isI_of hx, isI_of hst, isI_of hti⟩
set_option maxRecDepth 100000 in
theorem glide_cells {n : Nat} {a : Addr} {cs : List Value} {y : DataW H × List MemPlace} (hc : w.cells? base a 4 = some cs) (ht : DataW.trod enc Tryz.prog w base spare held n 24 cs = some y) :
    ∃ g : Gl, a = ⟨a.block, a.off, none⟩ ∧ GlAt w a.block a.off g ∧ g.f.size ≤ maxLen ∧ g.isG := by
  obtain ⟨-, hlen, hcell⟩ := World.cells?_some hc
  obtain ⟨y0, y1, y2, y3, n', -, -, t0, t1, t2, t3⟩ := trod_struct4 Tryz.underlying24 ht
  match cs, hlen with
  | [c0, c1, c2, c3], _ =>
    obtain ⟨s, e0, -, hs⟩ := DataW.trod_string Tryz.underlying22 t0
    obtain ⟨x, e1, -, hx⟩ := DataW.trod_int Tryz.underlying3 t1
    obtain ⟨st, e2, -, hst⟩ := DataW.trod_int Tryz.underlying3 t2
    obtain ⟨ti, e3, -, hti⟩ := DataW.trod_int Tryz.underlying3 t3
    have hr : Tryz.prog.cellsOf 22 = 1 := by kernel_rfl
    have hn : Tryz.prog.cellsOf 3 = 1 := by kernel_rfl
    have k0 := hcell 0 (by omega)
    have k1 := hcell 1 (by omega)
    have k2 := hcell 2 (by omega)
    have k3 := hcell 3 (by omega)
    have ha : a = ⟨a.block, a.off, none⟩ := spot_none (v := c0) (by simpa [Addr.add] using k0)
    refine ⟨(s, x, st, ti), ha, ?_, hs, isI_of hx, isI_of hst, isI_of hti⟩
    generalize a.block = b at *
    generalize a.off = o at *
    subst ha
    have f0 : c0 = .string s := by simpa [hr] using e0
    have f1 : c1 = .int .i64 x := by simpa [hn] using e1
    have f2 : c2 = .int .i64 st := by simpa [hn] using e2
    have f3 : c3 = .int .i64 ti := by simpa [hn] using e3
    subst f0; subst f1; subst f2; subst f3
    exact ⟨by simpa [WideShapes.add_plain] using k0, by simpa [WideShapes.add_plain] using k1, by simpa [WideShapes.add_plain] using k2, by simpa [WideShapes.add_plain] using k3⟩
set_option maxRecDepth 100000 in
theorem open_glides {b0 : Nat} {v : Value} {d : DataW H} {p : List MemPlace} (hval : Value.okWide Tryz.prog w .any b0 46 v) (h : DataW.Trod enc Tryz.prog w base spare held 46 v d p) :
    ∃ (a : Option Addr) (l : List Gl) (cap : Nat), v = .slice a l.length cap ∧ l.length ≤ cap ∧ cap ≤ maxLen ∧ RdG w a l ∧ ∀ g ∈ l, g.f.size ≤ maxLen ∧ g.isG := by
  obtain ⟨a, n, cap, rfl⟩ := okWide_slice Tryz.underlying46 hval
  obtain ⟨fuel, hf⟩ := h
  rcases open_slice Tryz.underlying46 (show DataW.trod enc Tryz.prog w base spare held fuel _ [.slice a n cap] = some (d, p) from hf) with ⟨hcs, -⟩ | ⟨a', len, cap', m, n', D, Pl, hcs, -, hl, hm, hmm, -, hx⟩
  · simp only [List.cons.injEq, Value.slice.injEq, and_true] at hcs
    obtain ⟨rfl, rfl, rfl⟩ := hcs
    exact ⟨none, [], 0, rfl, Nat.le_refl _, Nat.zero_le _, RdG.nil _ _, by simp⟩
  · simp only [List.cons.injEq, Value.slice.injEq, and_true] at hcs
    obtain ⟨rfl, rfl, rfl⟩ := hcs
    have hlm : n ≤ m := by rw [hmm]; split <;> omega
    have each : ∀ i, i < n → ∃ g : Gl, (∃ b o, some a' = some ⟨b, o, none⟩ ∧ GlAt w b (o + i * 4) g) ∧ g.f.size ≤ maxLen ∧ g.isG := fun i hi => by
      obtain ⟨cs', h1, h2⟩ := hx i (by omega)
      rw [show Tryz.prog.cellsOf 24 = 4 by kernel_rfl] at h1
      obtain ⟨g, ha, hg, h3, h4⟩ := glide_cells h1 h2
      refine ⟨g, ⟨a'.block, a'.off, ?_, ?_⟩, h3, h4⟩
      · obtain ⟨b, o, s⟩ := a'
        obtain ⟨cs0, g1, g2⟩ := hx 0 (by omega)
        rw [show Tryz.prog.cellsOf 24 = 4 by kernel_rfl] at g1
        obtain ⟨_, ha0, _⟩ := glide_cells g1 g2
        simpa [Addr.add] using ha0
      · have e1 := (add_where a' (i * 4)).1
        have e2 := (add_where a' (i * 4)).2
        rwa [e1, e2] at hg
    obtain ⟨G, hG⟩ := choose_lt each
    refine ⟨some a', (List.range n).map G, cap, by simp, by simpa using hl, hm, fun k hk => ?_, fun g hg => ?_⟩
    · simp only [List.length_map, List.length_range] at hk
      simpa using (hG k hk).1
    · simp only [List.mem_map, List.mem_range] at hg
      obtain ⟨i, hi, rfl⟩ := hg
      exact (hG i hi).2
end
end Go.Proofs.YtffifpinnhaloaaGreatDoor
