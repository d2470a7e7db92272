/- Row24: Row02, Row04, Row22, joined. -/
import Derived.Test.YtlbnibicehpobaaGreatDoorRatC
import Derived.Test.YtlbnibicehpobaaGreatDoorRet
import Derived.Test.YtlbnibicehpobaaGreatDoorTie
import Derived.Test.YtlbnibicehpobaaGreatDoorCards
import Derived.WalkKit
import Derived.ProofKit
import Derived.OpenShut
import Derived.ShutString
import Derived.LaidMore
import Derived.Stop.Joined
import Derived.Stop.LaidErr
import Derived.SevenTiedAt
import Derived.Below
import Derived.ChangeOld
import Derived.HandedShaped
import Derived.Test.YtlbnibicehpobaaGreatDoorCvWX
import Derived.Lib.SmallJoins
import Derived.Carry
import Derived.SizedLaws
import Derived.ChangeSame
set_option linter.unusedVariables false
set_option linter.unusedSimpArgs false

/- What the rows of layer 2 share. -/
namespace Go.Proofs.YtlbnibicehpobaaGreatDoor
open Go.ChangeShapes Go.WideShapes Go.ChangeAt Go.RowKit
open Go.ChangeMaps (open_string shut_string)

theorem own : ownKnob Tryz.prog.godebug = none := by kernel_rfl
theorem tab_of_head {r : List (String × DataW Unit)} {W : World} (h : laidMet Tryz.prog (("internal/strconv.uint64pow10", Rows.laid_internal_strconv_uint64pow10) :: r) W) : Tab W :=
  Lib.tabIs_of_head (n := 20) (g := 3) (t := 222) (e := 152) (by kernel_rfl) (by kernel_rfl) (by kernel_rfl) (by kernel_rfl) (by kernel_rfl) (by kernel_rfl) h
theorem mx_of_shape {W : World} (h : W.ShapedOpen Tryz.prog) : Mx W :=
  Go.Proofs.cell_of_shapedOpen_int (g := 2) (zero := #[.int .i64 0]) (t := 3) h (of_decide_eq_true (by kernel_rfl)) (by kernel_rfl) rfl (by kernel_rfl) (by kernel_rfl) Tryz.underlying3
/-- a law's contract over worlds that have the form's shape, with a premise of its own -/
theorem handed_shaped {H : Type} {enc : TypeId × Value → H} {a : Assume} {C : Checked} {os : Os} {f : FuncId} {fn : Func} {s : ChangeSpec} {conds : List PathCond} {apart fresh handsOn again : Bool} {X : World → Array Value → Prop}
    (hX : ∀ (w w' : World) (args : Array Value), w.heap = w'.heap → X w args → X w' args)
    (own : ownKnob C.prog.godebug = none) (started : os.Started) (noInit : C.prog.inits.idxOf? f = none) (hfn : C.prog.funcs[f]? = some fn)
    (witness : ∃ (w : World) (tape : Tape) (i : Input), w.os = os ∧ (w.forCall tape i).Shaped C.prog ∧ i.vars = [] ∧ Input.okWide C.prog (w.forCall tape i) .any w.heap.size f i ∧
      ((s.pre enc C.prog fn conds apart (w.forCall tape i).memory i.args ∧ X (w.forCall tape i).memory i.args) ∧ sizedMet enc C.prog fn (OpenSpec.ofChange s) apart (w.forCall tape i).memory i.args) ∧ a.holds C.prog (lone (Frame.enter C.prog f i.args .normal) [] (w.forCall tape i)))
    (contract : ∀ (W : World) (base : Nat) (args : Array Value) (ds gs : List (DataW H)) (before : List MemPlace),
      (∀ (j : Nat) t v, fn.params[j]? = some t → args[j]? = some v → Value.okWide C.prog W .any base t v) →
      DataW.Whole enc C.prog fn.params.toList s.vars apart W args.toList ds gs before →
      conds.all (PathCond.test C.prog ⟨fn.params.toList, ds, s.plain.varTypes C.prog, gs⟩) = true →
      (DataW.weightsEach C.prog (fn.params.toList ++ s.plain.varTypes C.prog) (ds ++ gs)).all (· ≤ reachBytes) = true → X W args → W.ShapedOpen C.prog →
      Calls C.prog f args W fun e W' => ∃ v, e = .returned v ∧ s.post enc C.prog fn apart fresh handsOn again W args v W') :
    ReturnsInHanded a C os f .any (fun w args => (s.pre enc C.prog fn conds apart w args ∧ X w args) ∧ sizedMet enc C.prog fn (OpenSpec.ofChange s) apart w args) (s.post enc C.prog fn apart fresh handsOn again) := by
  refine returnsInHanded_of_calls own started noInit witness ?_
  intro w tape i _ hsh _ hok hpre _
  obtain ⟨_, _, _, fn', hfn', _, _, _, _, hval⟩ := hok
  obtain rfl : fn' = fn := Option.some.inj (hfn'.symm.trans hfn)
  obtain ⟨⟨⟨ds, gs, before, hw, hc⟩, hx⟩, hz⟩ := hpre
  refine (contract (w.forCall tape i) w.heap.size i.args ds gs before hval (DataW.Whole.of_heap (w' := w.forCall tape i) (by rfl) hw) hc (hz.weights hw) (hX _ _ _ (by rfl) hx) hsh).mono fun e W' ⟨v, he, hp⟩ => ?_
  subst he
  exact ChangeSpec.post_blind hp
theorem isI_of {n : Int} (h : (Lit.int .i64 n).wf = true) : -9223372036854775808 ≤ n ∧ n ≤ 9223372036854775807 := by
  exact bounds_i64 h
end Go.Proofs.YtlbnibicehpobaaGreatDoor

/- What the rows share whose laws read strconv.ErrRange. -/
namespace Go.Proofs.YtlbnibicehpobaaGreatDoor
open Go.ChangeShapes Go.WideShapes Go.ChangeAt Go.RowKit
open Go.ChangeMaps (open_string shut_string)

theorem starErr : "*" ++ "errors.errorString" = "*errors.errorString" := by decide
theorem rowErrorString (u : TypeId) (h : Tryz.prog.typeName? 3 u = some "*errors.errorString") : u = 198 :=
  typeName_ptr_named (nm := "errors.errorString") (by rw [starErr]; kernel_rfl) (by kernel_rfl) (by decide) u (by rw [starErr]; exact h)
theorem err_of_head {r : List (String × DataW Unit)} {W : World} (h : laidMet Tryz.prog (("strconv.ErrRange", Rows.laid_strconv_ErrRange) :: r) W) : ErrR W := by
  obtain ⟨a, s, hv, _⟩ := laid_sentinel h (show Tryz.prog.globalNamed "strconv.ErrRange" = some 1 by kernel_rfl) (show (Tryz.prog.globals[1]?).map (·.type) = some 109 by kernel_rfl) Tryz.underlying109 rowErrorString Tryz.underlying198 Tryz.underlying200 rfl rfl Tryz.underlying9 (by kernel_rfl) (by kernel_rfl)
  exact ⟨_, _, hv⟩
end Go.Proofs.YtlbnibicehpobaaGreatDoor

/- What the rows of layer 9 share: slices of points, slices of such slices. -/
namespace Go.Proofs.YtlbnibicehpobaaGreatDoor
open Go.ChangeShapes Go.WideShapes Go.ChangeAt Go.RowKit Go.Deep Go.Joins
open Z
theorem laidOut : laidOutB Tryz.prog = true := by kernel_rfl
/-- an argument reads behind the call as it did, where nothing below the heap's old size has turned -/
theorem arg_stays {H : Type} {enc : TypeId × Value → H} {t : TypeId} (hr : Tryz.prog.readableRec t = true) (hrow : t < Tryz.prog.types.size) {W W' : World} {v : Value} {d : DataW H} {ps : List MemPlace}
    (h : DataW.Trod enc Tryz.prog W 0 (fun _ => true) true t v d ps) (hb : Below W.heap.size W W') : DataW.Trod enc Tryz.prog W' 0 (fun b => decide (b < W.heap.size)) true t v d ps :=
  Below.trod laidOut hr hrow h hb (by obtain ⟨n, hn⟩ := h; exact DataW.trod_lt n _ _ _ hn)
section
variable {H : Type} {enc : TypeId × Value → H} {w : World} {base : Nat} {spare : Nat → Bool} {held : Bool}
theorem add_where (a : Addr) (n : Nat) : (a.add n).block = a.block ∧ (a.add n).off = a.off + n := by
  unfold Addr.add
  by_cases h : n = 0
  · rw [if_pos h]; subst h; exact ⟨rfl, rfl⟩
  · rw [if_neg h]; exact ⟨rfl, rfl⟩
theorem spot_none {w : World} {a : Addr} {v : Value} (h : w.cell? a = some v) : a = ⟨a.block, a.off, none⟩ := by
  obtain ⟨b, o, s⟩ := a
  cases s with
  | none => rfl
  | some s =>
    unfold World.cell? at h
    split at h
    · simp at h
    · cases h
set_option maxRecDepth 100000 in
theorem pt_cells {n : Nat} {a : Addr} {cs : List Value} {y : DataW H × List MemPlace} (hc : w.cells? base a 2 = some cs) (ht : DataW.trod enc Tryz.prog w base spare held n 52 cs = some y) :
    ∃ q : Int × Int, a = ⟨a.block, a.off, none⟩ ∧ w.cell? ⟨a.block, a.off, none⟩ = some (.int .i64 q.1) ∧ w.cell? ⟨a.block, a.off + 1, none⟩ = some (.int .i64 q.2) ∧ isJ q.1 ∧ isJ q.2 := by
  obtain ⟨-, hlen, hcell⟩ := World.cells?_some hc
  obtain ⟨y0, y1, n', -, -, t0, t1⟩ := trod_struct2 Tryz.underlying52 ht
  match cs, hlen with
  | [c0, c1], _ =>
    rw [show Tryz.prog.cellsOf 3 = 1 by kernel_rfl] at t0 t1
    obtain ⟨x, e0, -, hx⟩ := DataW.trod_int Tryz.underlying3 t0
    obtain ⟨st, e1, -, hst⟩ := DataW.trod_int Tryz.underlying3 t1
    have k0 := hcell 0 (by omega)
    have k1 := hcell 1 (by omega)
    have ha : a = ⟨a.block, a.off, none⟩ := spot_none (v := c0) (by simpa [Addr.add] using k0)
    refine ⟨(x, st), ha, ?_, ?_, isI_of hx, isI_of hst⟩
    · have g0 : c0 = .int .i64 x := by simpa using e0
      rw [← g0]
      have : w.cell? a = some c0 := by simpa [Addr.add] using k0
      rwa [ha] at this
    · have g1 : c1 = .int .i64 st := by simpa using e1
      rw [← g1]
      rw [ha, WideShapes.add_plain] at k1
      simpa using k1
set_option maxRecDepth 100000 in
theorem open_ptsC {fuel : Nat} {cs : List Value} {d : DataW H} {p : List MemPlace} (hf : DataW.trod enc Tryz.prog w base spare held fuel 22 cs = some (d, p)) :
    ∃ (a : Option Addr) (l : Pts) (cap : Nat), cs = [.slice a l.length cap] ∧ l.length ≤ cap ∧ cap ≤ maxLen ∧ PtAt w a l ∧ (∀ q ∈ l, isJ q.1 ∧ isJ q.2) ∧ (l.length = 0 ∨ ∃ elems rest, d = .slice elems rest ∧ elems.length = l.length) := by
  rcases open_slice Tryz.underlying22 hf with ⟨hcs, -⟩ | ⟨a', len, cap', m, n', D, Pl, hcs, -, hl, hm, hmm, hdp, hx⟩
  · exact ⟨none, [], 0, hcs, Nat.le_refl _, Nat.zero_le _, .inl ⟨trivial, rfl⟩, by simp, .inl rfl⟩
  · have hlm : len ≤ m := by rw [hmm]; split <;> omega
    by_cases h0 : len = 0
    · subst h0
      exact ⟨some a', [], cap', hcs, by simp, hm, .inl ⟨trivial, rfl⟩, by simp, .inl rfl⟩
    · have ha : a' = ⟨a'.block, a'.off, none⟩ := by
        obtain ⟨cs', g1, g2⟩ := hx 0 (by omega)
        rw [show Tryz.prog.cellsOf 52 = 2 by kernel_rfl] at g1
        obtain ⟨_, ha0, _⟩ := pt_cells g1 g2
        simpa [Addr.add] using ha0
      have each : ∀ i, i < len → ∃ q : Int × Int, (w.cell? ⟨a'.block, a'.off + i * 2, none⟩ = some (.int .i64 q.1) ∧ w.cell? ⟨a'.block, a'.off + i * 2 + 1, none⟩ = some (.int .i64 q.2)) ∧ isJ q.1 ∧ isJ q.2 := fun i hi => by
        obtain ⟨cs', g1, g2⟩ := hx i (by omega)
        rw [show Tryz.prog.cellsOf 52 = 2 by kernel_rfl] at g1
        obtain ⟨q, -, h1, h2, h3, h4⟩ := pt_cells g1 g2
        rw [(add_where a' (i * 2)).1, (add_where a' (i * 2)).2] at h1 h2
        exact ⟨q, ⟨h1, h2⟩, h3, h4⟩
      obtain ⟨G, hG⟩ := choose_lt each
      refine ⟨some a', (List.range len).map G, cap', by simpa using hcs, by simpa using hl, hm, .inr ⟨a'.block, a'.off, by rw [← ha], fun j hj => ?_⟩, fun q hq => ?_, .inr ⟨_, _, congrArg Prod.fst hdp, by simp⟩⟩
      · simp only [List.length_map, List.length_range] at hj
        simpa using (hG j hj).1
      · simp only [List.mem_map, List.mem_range] at hq
        obtain ⟨i, hi, rfl⟩ := hq
        exact (hG i hi).2
set_option maxRecDepth 100000 in
theorem open_pts {b0 : Nat} {v : Value} {d : DataW H} {p : List MemPlace} (hval : Value.okWide Tryz.prog w .any b0 22 v) (h : DataW.Trod enc Tryz.prog w base spare held 22 v d p) :
    ∃ (a : Option Addr) (l : Pts) (cap : Nat), v = .slice a l.length cap ∧ l.length ≤ cap ∧ cap ≤ maxLen ∧ PtAt w a l ∧ (∀ q ∈ l, isJ q.1 ∧ isJ q.2) ∧ (l.length = 0 ∨ ∃ elems rest, d = .slice elems rest ∧ elems.length = l.length) := by
  obtain ⟨a, n, cap, rfl⟩ := okWide_slice Tryz.underlying22 hval
  obtain ⟨fuel, hf⟩ := h
  obtain ⟨a', l, cap', e, h1, h2, h3⟩ := open_ptsC (show DataW.trod enc Tryz.prog w base spare held fuel _ [.slice a n cap] = some (d, p) from hf)
  simp only [List.cons.injEq, Value.slice.injEq, and_true] at e
  obtain ⟨rfl, rfl, rfl⟩ := e
  exact ⟨a, l, cap, rfl, h1, h2, h3⟩
set_option maxRecDepth 100000 in
theorem open_curves {b0 : Nat} {v : Value} {d : DataW H} {p : List MemPlace} (hval : Value.okWide Tryz.prog w .any b0 37 v) (h : DataW.Trod enc Tryz.prog w base spare held 37 v d p) :
    ∃ (a : Option Addr) (L : List Pts) (cap : Nat), v = .slice a L.length cap ∧ L.length ≤ cap ∧ cap ≤ maxLen ∧ CsAt w a L ∧ (∀ c ∈ L, ∀ q ∈ c, isJ q.1 ∧ isJ q.2) ∧ (L.length = 0 ∨ ∃ elems rest, d = .slice elems rest ∧ elems.length = L.length) := by
  obtain ⟨a, n, cap, rfl⟩ := okWide_slice Tryz.underlying37 hval
  obtain ⟨fuel, hf⟩ := h
  rcases open_slice Tryz.underlying37 (show DataW.trod enc Tryz.prog w base spare held fuel _ [.slice a n cap] = some (d, p) from hf) with ⟨hcs, -⟩ | ⟨a', len, cap', m, n', D, Pl, hcs, -, hl, hm, hmm, hdp, hx⟩
  · simp only [List.cons.injEq, Value.slice.injEq, and_true] at hcs
    obtain ⟨rfl, rfl, rfl⟩ := hcs
    exact ⟨none, [], 0, rfl, Nat.le_refl _, Nat.zero_le _, .inl ⟨trivial, rfl⟩, by simp, .inl rfl⟩
  · simp only [List.cons.injEq, Value.slice.injEq, and_true] at hcs
    obtain ⟨rfl, rfl, rfl⟩ := hcs
    have hlm : n ≤ m := by rw [hmm]; split <;> omega
    by_cases h0 : n = 0
    · subst h0
      exact ⟨some a', [], cap, rfl, by simp, hm, .inl ⟨trivial, rfl⟩, by simp, .inl rfl⟩
    · have each : ∀ i, i < n → ∃ q : Pts × Option Addr × Nat, (a'.add i = ⟨a'.block, a'.off + i, none⟩ ∧ w.cell? ⟨a'.block, a'.off + i, none⟩ = some (.slice q.2.1 q.1.length q.2.2) ∧ PtAt w q.2.1 q.1) ∧ ∀ x ∈ q.1, isJ x.1 ∧ isJ x.2 := fun i hi => by
        obtain ⟨cs', g1, g2⟩ := hx i (by omega)
        rw [show Tryz.prog.cellsOf 22 = 1 by kernel_rfl, Nat.mul_one] at g1
        obtain ⟨-, hlen, hcell⟩ := World.cells?_some g1
        obtain ⟨c, l, cp, rfl, h1, h2, h3, h4, -⟩ := open_ptsC g2
        have k0 := hcell 0 (by omega)
        have k1 : w.cell? (a'.add i) = some (.slice c l.length cp) := by simpa [Addr.add] using k0
        have hp : a'.add i = ⟨a'.block, a'.off + i, none⟩ := by
          have := spot_none k1
          rw [this, (add_where a' i).1, (add_where a' i).2]
        rw [hp] at k1
        exact ⟨(l, c, cp), ⟨hp, k1, h3⟩, h4⟩
      have ha : a' = ⟨a'.block, a'.off, none⟩ := by
        obtain ⟨q, ⟨h1, -⟩, -⟩ := each 0 (by omega)
        simpa [Addr.add] using h1
      obtain ⟨G, hG⟩ := choose_lt each
      refine ⟨some a', (List.range n).map fun i => (G i).1, cap, by simp, by simpa using hl, hm, .inr ⟨a'.block, a'.off, by rw [← ha], fun j hj => ?_⟩, fun c hc => ?_, .inr ⟨_, _, congrArg Prod.fst hdp, by simp⟩⟩
      · simp only [List.length_map, List.length_range] at hj
        obtain ⟨⟨-, h2, h3⟩, -⟩ := hG j hj
        exact ⟨(G j).2.1, (G j).2.2, by simpa using h2, by simpa using h3⟩
      · simp only [List.mem_map, List.mem_range] at hc
        obtain ⟨i, hi, rfl⟩ := hc
        exact (hG i hi).2
end
end Go.Proofs.YtlbnibicehpobaaGreatDoor
