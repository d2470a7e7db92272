/- RowG: Row02, Row04, Row05, Row06, Row09, joined. -/
import Derived.Test.YtflkgkchoagphaaGreatDoorRatC
import Derived.Test.YtflkgkchoagphaaGreatDoorRet
import Derived.Test.YtflkgkchoagphaaGreatDoorTie
import Derived.Test.YtflkgkchoagphaaGreatDoorCards
import Derived.WalkKit
import Derived.ProofKit
import Derived.OpenShut
import Derived.ShutString
import Derived.LaidMore
import Derived.Stop.Joined
import Derived.Stop.LaidErr
import Derived.SevenTiedAt
import Derived.Below
import Derived.ChangeOld
import Derived.HandedShaped
import Derived.Test.YtflkgkchoagphaaGreatDoorGlCP
import Derived.Lib.SmallJoins
import Derived.Carry
import Derived.Test.YtflkgkchoagphaaGreatDoorGlK
import Derived.SizedLaws
import Derived.ChangeSame
set_option linter.unusedVariables false
set_option linter.unusedSimpArgs false

/- What the rows of layer 2 share. -/
namespace Go.Proofs.YtflkgkchoagphaaGreatDoor
open Go.ChangeShapes Go.WideShapes Go.ChangeAt Go.RowKit
open Go.ChangeMaps (open_string shut_string)

theorem own : ownKnob Tryz.prog.godebug = none := by kernel_rfl
theorem tab_of_head {r : List (String × DataW Unit)} {W : World} (h : laidMet Tryz.prog (("internal/strconv.uint64pow10", Rows.laid_internal_strconv_uint64pow10) :: r) W) : Tab W :=
  Lib.tabIs_of_head (n := 20) (g := 3) (t := 266) (e := 207) (by kernel_rfl) (by kernel_rfl) (by kernel_rfl) (by kernel_rfl) (by kernel_rfl) (by kernel_rfl) h
theorem mx_of_shape {W : World} (h : W.ShapedOpen Tryz.prog) : Mx W :=
  Go.Proofs.cell_of_shapedOpen_int (g := 0) (zero := #[.int .i64 0]) (t := 3) h (of_decide_eq_true (by kernel_rfl)) (by kernel_rfl) rfl (by kernel_rfl) (by kernel_rfl) Tryz.underlying3
/-- a law's contract over worlds that have the form's shape, with a premise of its own -/
theorem handed_shaped {H : Type} {enc : TypeId × Value → H} {a : Assume} {C : Checked} {os : Os} {f : FuncId} {fn : Func} {s : ChangeSpec} {conds : List PathCond} {apart fresh handsOn again : Bool} {X : World → Array Value → Prop}
    (hX : ∀ (w w' : World) (args : Array Value), w.heap = w'.heap → X w args → X w' args)
    (own : ownKnob C.prog.godebug = none) (started : os.Started) (noInit : C.prog.inits.idxOf? f = none) (hfn : C.prog.funcs[f]? = some fn)
    (witness : ∃ (w : World) (tape : Tape) (i : Input), w.os = os ∧ (w.forCall tape i).Shaped C.prog ∧ i.vars = [] ∧ Input.okWide C.prog (w.forCall tape i) .any w.heap.size f i ∧
      ((s.pre enc C.prog fn conds apart (w.forCall tape i).memory i.args ∧ X (w.forCall tape i).memory i.args) ∧ sizedMet enc C.prog fn (OpenSpec.ofChange s) apart (w.forCall tape i).memory i.args) ∧ a.holds C.prog (lone (Frame.enter C.prog f i.args .normal) [] (w.forCall tape i)))
    (contract : ∀ (W : World) (base : Nat) (args : Array Value) (ds gs : List (DataW H)) (before : List MemPlace),
      (∀ (j : Nat) t v, fn.params[j]? = some t → args[j]? = some v → Value.okWide C.prog W .any base t v) →
      DataW.Whole enc C.prog fn.params.toList s.vars apart W args.toList ds gs before →
      conds.all (PathCond.test C.prog ⟨fn.params.toList, ds, s.plain.varTypes C.prog, gs⟩) = true →
      (DataW.weightsEach C.prog (fn.params.toList ++ s.plain.varTypes C.prog) (ds ++ gs)).all (· ≤ reachBytes) = true → X W args → W.ShapedOpen C.prog →
      Calls C.prog f args W fun e W' => ∃ v, e = .returned v ∧ s.post enc C.prog fn apart fresh handsOn again W args v W') :
    ReturnsInHanded a C os f .any (fun w args => (s.pre enc C.prog fn conds apart w args ∧ X w args) ∧ sizedMet enc C.prog fn (OpenSpec.ofChange s) apart w args) (s.post enc C.prog fn apart fresh handsOn again) := by
  refine returnsInHanded_of_calls own started noInit witness ?_
  intro w tape i _ hsh _ hok hpre _
  obtain ⟨_, _, _, fn', hfn', _, _, _, _, hval⟩ := hok
  obtain rfl : fn' = fn := Option.some.inj (hfn'.symm.trans hfn)
  obtain ⟨⟨⟨ds, gs, before, hw, hc⟩, hx⟩, hz⟩ := hpre
  refine (contract (w.forCall tape i) w.heap.size i.args ds gs before hval (DataW.Whole.of_heap (w' := w.forCall tape i) (by rfl) hw) hc (hz.weights hw) (hX _ _ _ (by rfl) hx) hsh).mono fun e W' ⟨v, he, hp⟩ => ?_
  subst he
  exact ChangeSpec.post_blind hp
theorem isI_of {n : Int} (h : (Lit.int .i64 n).wf = true) : -9223372036854775808 ≤ n ∧ n ≤ 9223372036854775807 := by
  exact bounds_i64 h
end Go.Proofs.YtflkgkchoagphaaGreatDoor

/- What the rows share whose laws read strconv.ErrRange. -/
namespace Go.Proofs.YtflkgkchoagphaaGreatDoor
open Go.ChangeShapes Go.WideShapes Go.ChangeAt Go.RowKit
open Go.ChangeMaps (open_string shut_string)

theorem starErr : "*" ++ "errors.errorString" = "*errors.errorString" := by decide
theorem rowErrorString (u : TypeId) (h : Tryz.prog.typeName? 3 u = some "*errors.errorString") : u = 262 :=
  typeName_ptr_named (nm := "errors.errorString") (by rw [starErr]; kernel_rfl) (by kernel_rfl) (by decide) u (by rw [starErr]; exact h)
theorem err_of_head {r : List (String × DataW Unit)} {W : World} (h : laidMet Tryz.prog (("strconv.ErrRange", Rows.laid_strconv_ErrRange) :: r) W) : ErrR W := by
  obtain ⟨a, s, hv, _⟩ := laid_sentinel h (show Tryz.prog.globalNamed "strconv.ErrRange" = some 2 by kernel_rfl) (show (Tryz.prog.globals[2]?).map (·.type) = some 155 by kernel_rfl) Tryz.underlying155 rowErrorString Tryz.underlying262 Tryz.underlying264 rfl rfl Tryz.underlying9 (by kernel_rfl) (by kernel_rfl)
  exact ⟨_, _, hv⟩
end Go.Proofs.YtflkgkchoagphaaGreatDoor

/- What the rows share whose laws take structs and slices of structs. -/
namespace Go.Proofs.YtflkgkchoagphaaGreatDoor
open Go.ChangeShapes Go.WideShapes Go.ChangeAt Go.RowKit Go.Deep Go.Joins

theorem laidOut : laidOutB Tryz.prog = true := by kernel_rfl
/-- an argument reads behind the call as it did, where nothing below the heap's old size has turned -/
theorem arg_stays {H : Type} {enc : TypeId × Value → H} {t : TypeId} (hr : Tryz.prog.readableRec t = true) (hrow : t < Tryz.prog.types.size) {W W' : World} {v : Value} {d : DataW H} {ps : List MemPlace}
    (h : DataW.Trod enc Tryz.prog W 0 (fun _ => true) true t v d ps) (hb : Below W.heap.size W W') : DataW.Trod enc Tryz.prog W' 0 (fun b => decide (b < W.heap.size)) true t v d ps :=
  Below.trod laidOut hr hrow h hb (by obtain ⟨n, hn⟩ := h; exact DataW.trod_lt n _ _ _ hn)
section
variable {H : Type} {enc : TypeId × Value → H} {w : World} {base : Nat} {spare : Nat → Bool} {held : Bool}
theorem add_where (a : Addr) (n : Nat) : (a.add n).block = a.block ∧ (a.add n).off = a.off + n := by
  unfold Addr.add
  by_cases h : n = 0
  · rw [if_pos h]; subst h; exact ⟨rfl, rfl⟩
  · rw [if_neg h]; exact ⟨rfl, rfl⟩
theorem spot_none {w : World} {a : Addr} {v : Value} (h : w.cell? a = some v) : a = ⟨a.block, a.off, none⟩ := by
  obtain ⟨b, o, s⟩ := a
  cases s with
  | none => rfl
  | some s =>
    unfold World.cell? at h
    split at h
    · simp at h
    · cases h
set_option maxRecDepth 100000 in
theorem open_glide {b0 : Nat} {v : Value} {d : DataW H} {p : List MemPlace} (hval : Value.okWide Tryz.prog w .any b0 24 v) (h : DataW.Trod enc Tryz.prog w base spare held 24 v d p) :
    ∃ g : Gl, v = vG4 g ∧ g.f.size ≤ maxLen ∧ g.isG := by
  obtain ⟨v0, v1, v2, v3, y0, y1, y2, y3, n, rfl, -, -, t0, t1, t2, t3⟩ := open_agg4 Tryz.underlying24 (by kernel_rfl) (by kernel_rfl) hval h
  obtain ⟨s, e0, -, hs⟩ := DataW.trod_string Tryz.underlying22 t0
  obtain ⟨x, e1, -, hx⟩ := DataW.trod_int Tryz.underlying3 t1
  obtain ⟨st, e2, -, hst⟩ := DataW.trod_int Tryz.underlying3 t2
  obtain ⟨ti, e3, -, hti⟩ := DataW.trod_int Tryz.underlying3 t3
  simp only [List.cons.injEq, and_true] at e0 e1 e2 e3
  subst e0; subst e1; subst e2; subst e3
  exact ⟨(s, x, st, ti), rfl, hs, isI_of hx, isI_of hst, isI_of hti⟩
end
end Go.Proofs.YtflkgkchoagphaaGreatDoor

/- What the rows share whose laws take slices of three ints each. -/
namespace Go.Proofs.YtflkgkchoagphaaGreatDoor
open Go.ChangeShapes Go.WideShapes Go.ChangeAt Go.RowKit Go.Deep Go.Joins
section
variable {H : Type} {enc : TypeId × Value → H} {w : World} {base : Nat} {spare : Nat → Bool} {held : Bool}
set_option maxRecDepth 100000 in
theorem turn_cells {e : TypeId} {f0 f1 f2 : Field} (he : Tryz.prog.underlying e = some (.struct #[f0, f1, f2])) (h0 : f0.type = 3) (h1 : f1.type = 3) (h2 : f2.type = 3) (o0 : f0.offset = 0) (o1 : f1.offset = 1) (o2 : f2.offset = 2)
    {n : Nat} {a : Addr} {cs : List Value} {y : DataW H × List MemPlace} (hc : w.cells? base a 3 = some cs) (ht : DataW.trod enc Tryz.prog w base spare held n e cs = some y) :
    ∃ q : T3, a = ⟨a.block, a.off, none⟩ ∧ T3At w a.block a.off q ∧ isT q := by
  obtain ⟨-, hlen, hcell⟩ := World.cells?_some hc
  obtain ⟨y0, y1, y2, n', -, -, t0, t1, t2⟩ := trod_struct3 he ht
  match cs, hlen with
  | [c0, c1, c2], _ =>
    rw [h0, o0] at t0; rw [h1, o1] at t1; rw [h2, o2] at t2
    obtain ⟨x, e0, -, hx⟩ := DataW.trod_int Tryz.underlying3 t0
    obtain ⟨st, e1, -, hst⟩ := DataW.trod_int Tryz.underlying3 t1
    obtain ⟨ti, e2, -, hti⟩ := DataW.trod_int Tryz.underlying3 t2
    have hn : Tryz.prog.cellsOf 3 = 1 := by kernel_rfl
    have k0 := hcell 0 (by omega)
    have k1 := hcell 1 (by omega)
    have k2 := hcell 2 (by omega)
    have ha : a = ⟨a.block, a.off, none⟩ := spot_none (v := c0) (by simpa [Addr.add] using k0)
    refine ⟨(x, st, ti), ha, ?_, isI_of hx, isI_of hst, isI_of hti⟩
    generalize a.block = b at *
    generalize a.off = o at *
    subst ha
    have g0 : c0 = .int .i64 x := by simpa [hn] using e0
    have g1 : c1 = .int .i64 st := by simpa [hn] using e1
    have g2 : c2 = .int .i64 ti := by simpa [hn] using e2
    subst g0; subst g1; subst g2
    exact ⟨by simpa [WideShapes.add_plain] using k0, by simpa [WideShapes.add_plain] using k1, by simpa [WideShapes.add_plain] using k2⟩
set_option maxRecDepth 100000 in
theorem open_turns {t e : TypeId} {f0 f1 f2 : Field} (hs : Tryz.prog.underlying t = some (.slice e)) (he : Tryz.prog.underlying e = some (.struct #[f0, f1, f2])) (h0 : f0.type = 3) (h1 : f1.type = 3) (h2 : f2.type = 3) (o0 : f0.offset = 0) (o1 : f1.offset = 1) (o2 : f2.offset = 2) (hC : Tryz.prog.cellsOf e = 3)
    {b0 : Nat} {v : Value} {d : DataW H} {p : List MemPlace} (hval : Value.okWide Tryz.prog w .any b0 t v) (h : DataW.Trod enc Tryz.prog w base spare held t v d p) :
    ∃ (a : Option Addr) (l : List T3) (cap : Nat), v = .slice a l.length cap ∧ l.length ≤ cap ∧ cap ≤ maxLen ∧ RdT w a l ∧ ∀ q ∈ l, isT q := by
  obtain ⟨a, n, cap, rfl⟩ := okWide_slice hs hval
  obtain ⟨fuel, hf⟩ := h
  rcases open_slice hs (show DataW.trod enc Tryz.prog w base spare held fuel _ [.slice a n cap] = some (d, p) from hf) with ⟨hcs, -⟩ | ⟨a', len, cap', m, n', D, Pl, hcs, -, hl, hm, hmm, -, hx⟩
  · simp only [List.cons.injEq, Value.slice.injEq, and_true] at hcs
    obtain ⟨rfl, rfl, rfl⟩ := hcs
    exact ⟨none, [], 0, rfl, Nat.le_refl _, Nat.zero_le _, RdT.nil _ _, by simp⟩
  · simp only [List.cons.injEq, Value.slice.injEq, and_true] at hcs
    obtain ⟨rfl, rfl, rfl⟩ := hcs
    have hlm : n ≤ m := by rw [hmm]; split <;> omega
    have each : ∀ i, i < n → ∃ q : T3, (∃ b o, some a' = some ⟨b, o, none⟩ ∧ T3At w b (o + i * 3) q) ∧ isT q := fun i hi => by
      obtain ⟨cs', g1, g2⟩ := hx i (by omega)
      rw [hC] at g1
      obtain ⟨q, ha, hq, h4⟩ := turn_cells he h0 h1 h2 o0 o1 o2 g1 g2
      refine ⟨q, ⟨a'.block, a'.off, ?_, ?_⟩, h4⟩
      · obtain ⟨b, o, s⟩ := a'
        obtain ⟨cs0, g1, g2⟩ := hx 0 (by omega)
        rw [hC] at g1
        obtain ⟨_, ha0, _⟩ := turn_cells he h0 h1 h2 o0 o1 o2 g1 g2
        simpa [Addr.add] using ha0
      · have e1 := (add_where a' (i * 3)).1
        have e2 := (add_where a' (i * 3)).2
        rwa [e1, e2] at hq
    obtain ⟨G, hG⟩ := choose_lt each
    refine ⟨some a', (List.range n).map G, cap, by simp, by simpa using hl, hm, fun k hk => ?_, fun q hq => ?_⟩
    · simp only [List.length_map, List.length_range] at hk
      simpa using (hG k hk).1
    · simp only [List.mem_map, List.mem_range] at hq
      obtain ⟨i, hi, rfl⟩ := hq
      exact (hG i hi).2
end
end Go.Proofs.YtflkgkchoagphaaGreatDoor

/- What the row of GlideReads needs: slices of knots, and how long they can be. -/
namespace Go.Proofs.YtflkgkchoagphaaGreatDoor
open Go.ChangeShapes Go.WideShapes Go.ChangeAt Go.RowKit Go.Deep Go.Joins
section
variable {H : Type} {enc : TypeId × Value → H} {w : World} {base : Nat} {spare : Nat → Bool} {held : Bool}
set_option maxRecDepth 100000 in
theorem knot_cells {e : TypeId} {f0 f1 : Field} (he : Tryz.prog.underlying e = some (.struct #[f0, f1])) (h0 : Tryz.prog.underlying f0.type = some (.int .i64)) (h1 : Tryz.prog.underlying f1.type = some .string) (c0 : Tryz.prog.cellsOf f0.type = 1) (c1 : Tryz.prog.cellsOf f1.type = 1) (o0 : f0.offset = 0) (o1 : f1.offset = 1)
    {n : Nat} {a : Addr} {cs : List Value} {y : DataW H × List MemPlace} (hc : w.cells? base a 2 = some cs) (ht : DataW.trod enc Tryz.prog w base spare held n e cs = some y) :
    ∃ q : Kn, a = ⟨a.block, a.off, none⟩ ∧ KnAt w a.block a.off q ∧ q.2.size ≤ maxLen := by
  obtain ⟨-, hlen, hcell⟩ := World.cells?_some hc
  obtain ⟨y0, y1, n', -, -, t0, t1⟩ := trod_struct2 he ht
  match cs, hlen with
  | [d0, d1], _ =>
    rw [c0, o0] at t0; rw [c1, o1] at t1
    obtain ⟨x, e0, -, hx⟩ := DataW.trod_int h0 t0
    obtain ⟨s, e1, -, hs⟩ := DataW.trod_string h1 t1
    have k0 := hcell 0 (by omega)
    have k1 := hcell 1 (by omega)
    have ha : a = ⟨a.block, a.off, none⟩ := spot_none (v := d0) (by simpa [Addr.add] using k0)
    refine ⟨(x, s), ha, ?_, hs⟩
    generalize a.block = b at *
    generalize a.off = o at *
    subst ha
    have g0 : d0 = .int .i64 x := by simpa using e0
    have g1 : d1 = .string s := by simpa using e1
    subst g0; subst g1
    exact ⟨by simpa [WideShapes.add_plain] using k0, by simpa [WideShapes.add_plain] using k1⟩
set_option maxRecDepth 100000 in
theorem open_knots {t e : TypeId} {f0 f1 : Field} (hs : Tryz.prog.underlying t = some (.slice e)) (he : Tryz.prog.underlying e = some (.struct #[f0, f1])) (h0 : Tryz.prog.underlying f0.type = some (.int .i64)) (h1 : Tryz.prog.underlying f1.type = some .string) (c0 : Tryz.prog.cellsOf f0.type = 1) (c1 : Tryz.prog.cellsOf f1.type = 1) (o0 : f0.offset = 0) (o1 : f1.offset = 1) (hC : Tryz.prog.cellsOf e = 2)
    {b0 : Nat} {v : Value} {d : DataW H} {p : List MemPlace} (hval : Value.okWide Tryz.prog w .any b0 t v) (h : DataW.Trod enc Tryz.prog w base spare held t v d p) :
    ∃ (a : Option Addr) (l : List Kn) (cap : Nat), v = .slice a l.length cap ∧ l.length ≤ cap ∧ cap ≤ maxLen ∧ RdK w a l ∧ (∀ q ∈ l, q.2.size ≤ maxLen) ∧ (l.length = 0 ∨ ∃ elems rest, d = .slice elems rest ∧ elems.length = l.length) := by
  obtain ⟨a, n, cap, rfl⟩ := okWide_slice hs hval
  obtain ⟨fuel, hf⟩ := h
  rcases open_slice hs (show DataW.trod enc Tryz.prog w base spare held fuel _ [.slice a n cap] = some (d, p) from hf) with ⟨hcs, -⟩ | ⟨a', len, cap', m, n', D, Pl, hcs, -, hl, hm, hmm, hdp, hx⟩
  · simp only [List.cons.injEq, Value.slice.injEq, and_true] at hcs
    obtain ⟨rfl, rfl, rfl⟩ := hcs
    exact ⟨none, [], 0, rfl, Nat.le_refl _, Nat.zero_le _, RdK.nil _ _, by simp, .inl rfl⟩
  · simp only [List.cons.injEq, Value.slice.injEq, and_true] at hcs
    obtain ⟨rfl, rfl, rfl⟩ := hcs
    have hlm : n ≤ m := by rw [hmm]; split <;> omega
    have each : ∀ i, i < n → ∃ q : Kn, (∃ b o, some a' = some ⟨b, o, none⟩ ∧ KnAt w b (o + i * 2) q) ∧ q.2.size ≤ maxLen := fun i hi => by
      obtain ⟨cs', g1, g2⟩ := hx i (by omega)
      rw [hC] at g1
      obtain ⟨q, ha, hq, h4⟩ := knot_cells he h0 h1 c0 c1 o0 o1 g1 g2
      refine ⟨q, ⟨a'.block, a'.off, ?_, ?_⟩, h4⟩
      · obtain ⟨b, o, s⟩ := a'
        obtain ⟨cs0, g1, g2⟩ := hx 0 (by omega)
        rw [hC] at g1
        obtain ⟨_, ha0, _⟩ := knot_cells he h0 h1 c0 c1 o0 o1 g1 g2
        simpa [Addr.add] using ha0
      · have e1 := (add_where a' (i * 2)).1
        have e2 := (add_where a' (i * 2)).2
        rwa [e1, e2] at hq
    obtain ⟨G, hG⟩ := choose_lt each
    refine ⟨some a', (List.range n).map G, cap, by simp, by simpa using hl, hm, fun k hk => ?_, fun q hq => ?_, .inr ⟨_, _, congrArg Prod.fst hdp, by simp⟩⟩
    · simp only [List.length_map, List.length_range] at hk
      simpa using (hG k hk).1
    · simp only [List.mem_map, List.mem_range] at hq
      obtain ⟨i, hi, rfl⟩ := hq
      exact (hG i hi).2
end
end Go.Proofs.YtflkgkchoagphaaGreatDoor
