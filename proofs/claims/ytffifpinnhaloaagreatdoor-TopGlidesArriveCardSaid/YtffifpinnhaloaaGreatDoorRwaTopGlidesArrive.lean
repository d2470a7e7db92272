/- The walk of TopGlidesArrive, lifted: for every input the law returns true, and each of its arguments reads afterwards as it read before. Conditions: the listed package variables of the library hold what the program text lays in them (the card ties that); nothing else. -/
import Derived.Test.YtffifpinnhaloaaGreatDoorRow05
import Derived.Test.YtffifpinnhaloaaGreatDoorTop02e
import Derived.WalkKit
import Derived.ProofKit
import Derived.OpenShut
import Derived.ShutString
import Derived.LaidMore
import Derived.Stop.Joined
import Derived.Stop.LaidErr
import Derived.SevenTiedAt
import Derived.Below
import Derived.ChangeOld
set_option linter.unusedVariables false
set_option linter.unusedSimpArgs false
namespace Go.Proofs.YtffifpinnhaloaaGreatDoor
open Go.ChangeShapes Go.WideShapes Go.ChangeAt Go.RowKit Go.Deep Go.Joins
section
variable {H : Type} {enc : TypeId × Value → H} {w : World} {base : Nat} {spare : Nat → Bool} {held : Bool}
set_option maxRecDepth 100000 in
theorem turn_cells {e : TypeId} {f0 f1 f2 : Field} (he : Tryz.prog.underlying e = some (.struct #[f0, f1, f2])) (h0 : f0.type = 3) (h1 : f1.type = 3) (h2 : f2.type = 3) (o0 : f0.offset = 0) (o1 : f1.offset = 1) (o2 : f2.offset = 2)
    {n : Nat} {a : Addr} {cs : List Value} {y : DataW H × List MemPlace} (hc : w.cells? base a 3 = some cs) (ht : DataW.trod enc Tryz.prog w base spare held n e cs = some y) :
    ∃ q : T3, a = ⟨a.block, a.off, none⟩ ∧ T3At w a.block a.off q ∧ isT q := by
  obtain ⟨-, hlen, hcell⟩ := World.cells?_some hc
  obtain ⟨y0, y1, y2, n', -, -, t0, t1, t2⟩ := trod_struct3 he ht
  match cs, hlen with
  | [c0, c1, c2], _ =>
    rw [h0, o0] at t0; rw [h1, o1] at t1; rw [h2, o2] at t2
    obtain ⟨x, e0, -, hx⟩ := DataW.trod_int Tryz.underlying3 t0
    obtain ⟨st, e1, -, hst⟩ := DataW.trod_int Tryz.underlying3 t1
    obtain ⟨ti, e2, -, hti⟩ := DataW.trod_int Tryz.underlying3 t2
    have hn : Tryz.prog.cellsOf 3 = 1 := by kernel_rfl
    have k0 := hcell 0 (by omega)
    have k1 := hcell 1 (by omega)
    have k2 := hcell 2 (by omega)
    have ha : a = ⟨a.block, a.off, none⟩ := spot_none (v := c0) (by simpa [Addr.add] using k0)
    refine ⟨(x, st, ti), ha, ?_, isI_of hx, isI_of hst, isI_of hti⟩
    generalize a.block = b at *
    generalize a.off = o at *
    subst ha
    have g0 : c0 = .int .i64 x := by simpa [hn] using e0
    have g1 : c1 = .int .i64 st := by simpa [hn] using e1
    have g2 : c2 = .int .i64 ti := by simpa [hn] using e2
    subst g0; subst g1; subst g2
    exact ⟨by simpa [WideShapes.add_plain] using k0, by simpa [WideShapes.add_plain] using k1, by simpa [WideShapes.add_plain] using k2⟩
set_option maxRecDepth 100000 in
theorem open_turns {t e : TypeId} {f0 f1 f2 : Field} (hs : Tryz.prog.underlying t = some (.slice e)) (he : Tryz.prog.underlying e = some (.struct #[f0, f1, f2])) (h0 : f0.type = 3) (h1 : f1.type = 3) (h2 : f2.type = 3) (o0 : f0.offset = 0) (o1 : f1.offset = 1) (o2 : f2.offset = 2) (hC : Tryz.prog.cellsOf e = 3)
    {b0 : Nat} {v : Value} {d : DataW H} {p : List MemPlace} (hval : Value.okWide Tryz.prog w .any b0 t v) (h : DataW.Trod enc Tryz.prog w base spare held t v d p) :
    ∃ (a : Option Addr) (l : List T3) (cap : Nat), v = .slice a l.length cap ∧ l.length ≤ cap ∧ cap ≤ maxLen ∧ RdT w a l ∧ ∀ q ∈ l, isT q := by
  obtain ⟨a, n, cap, rfl⟩ := okWide_slice hs hval
  obtain ⟨fuel, hf⟩ := h
  rcases open_slice hs (show DataW.trod enc Tryz.prog w base spare held fuel _ [.slice a n cap] = some (d, p) from hf) with ⟨hcs, -⟩ | ⟨a', len, cap', m, n', D, Pl, hcs, -, hl, hm, hmm, -, hx⟩
  · simp only [List.cons.injEq, Value.slice.injEq, and_true] at hcs
    obtain ⟨rfl, rfl, rfl⟩ := hcs
    exact ⟨none, [], 0, rfl, Nat.le_refl _, Nat.zero_le _, RdT.nil _ _, by simp⟩
  · simp only [List.cons.injEq, Value.slice.injEq, and_true] at hcs
    obtain ⟨rfl, rfl, rfl⟩ := hcs
    have hlm : n ≤ m := by rw [hmm]; split <;> omega
    have each : ∀ i, i < n → ∃ q : T3, (∃ b o, some a' = some ⟨b, o, none⟩ ∧ T3At w b (o + i * 3) q) ∧ isT q := fun i hi => by
      obtain ⟨cs', g1, g2⟩ := hx i (by omega)
      rw [hC] at g1
      obtain ⟨q, ha, hq, h4⟩ := turn_cells he h0 h1 h2 o0 o1 o2 g1 g2
      refine ⟨q, ⟨a'.block, a'.off, ?_, ?_⟩, h4⟩
      · obtain ⟨b, o, s⟩ := a'
        obtain ⟨cs0, g1, g2⟩ := hx 0 (by omega)
        rw [hC] at g1
        obtain ⟨_, ha0, _⟩ := turn_cells he h0 h1 h2 o0 o1 o2 g1 g2
        simpa [Addr.add] using ha0
      · have e1 := (add_where a' (i * 3)).1
        have e2 := (add_where a' (i * 3)).2
        rwa [e1, e2] at hq
    obtain ⟨G, hG⟩ := choose_lt each
    refine ⟨some a', (List.range n).map G, cap, by simp, by simpa using hl, hm, fun k hk => ?_, fun q hq => ?_⟩
    · simp only [List.length_map, List.length_range] at hk
      simpa using (hG k hk).1
    · simp only [List.mem_map, List.mem_range] at hq
      obtain ⟨i, hi, rfl⟩ := hq
      exact (hG i hi).2
end
end Go.Proofs.YtffifpinnhaloaaGreatDoor

namespace Go.Proofs.YtffifpinnhaloaaGreatDoor
open Go.ChangeShapes Go.WideShapes Go.ChangeAt Go.RowKit

abbrev laid_topGlidesArrive : List (String × DataW Unit) := Rows.topGlidesArriveRow.laid
theorem door_topGlidesArrive (os : Os) (args : Array Value) : laidMetH Tryz.prog laid_topGlidesArrive ((World.doorLaid Tryz.prog 62 os).forCall (fun _ _ => 0) ⟨#[], args, []⟩).memory :=
  laidMetH_of_parts3 (fuel := 8) (laidMet_of_run' 8 (by kernel_rfl) (by kernel_rfl)) (by kernel_rfl) (by kernel_rfl)
set_option maxRecDepth 100000 in
theorem lifted_topGlidesArrive (os : Os) (started : os.Started) (H : Type) (enc : TypeId × Value → H) :
    ReturnsInHanded {} Tryz.checked os 12 .any (fun w args => (Rows.topGlidesArriveSpec.pre enc Tryz.prog Tryz.f12 [] false w args ∧ laidMetH Tryz.prog laid_topGlidesArrive w) ∧ sizedMet enc Tryz.prog Tryz.f12 (OpenSpec.ofChange Rows.topGlidesArriveSpec) false w args)
      (Rows.topGlidesArriveSpec.post enc Tryz.prog Tryz.f12 false true false false) := by
  refine handed_shaped (C := Tryz.checked) (X := fun w _ => laidMetH Tryz.prog laid_topGlidesArrive w) (fun _ _ _ hh h => h.of_heap hh) own started (by kernel_rfl) Tryz.func12
    (ChangeSpec.witness_shaped (enc := enc) (C := Tryz.checked) (os := os) (X := fun w _ => laidMetH Tryz.prog laid_topGlidesArrive w) false (World.doorLaid Tryz.prog 62 os) #[.agg #[.string ByteArray.empty, .int .i64 0, .int .i64 0, .int .i64 0], .slice none 0 0, .int .u16 0] 8 rfl (World.shaped_of_RefB (by kernel_rfl) (by kernel_rfl)) (by kernel_rfl) (by kernel_rfl) (by kernel_rfl) (door_topGlidesArrive os _)) ?_
  intro W base args ds gs before hval0 hW _ _ hL hsh
  have hmx : Mx W := mx_of_shape hsh
  have hval : ∀ (j : Nat) t v, Tryz.f12.params[j]? = some t → args[j]? = some v → Value.okWide Tryz.prog W .any base t v := hval0
  have hW' := hW
  obtain ⟨p, q, hA0, hV, rfl, hfz, hnd⟩ := hW
  have hA : DataW.TrodAll enc Tryz.prog W 0 (fun _ => true) true Tryz.f12.params.toList args.toList ds p := hA0
  rw [Tryz.params12] at hA hval
  obtain ⟨v0, vs0, d0, ds0, p0, q0, hargs, rfl, rfl, h0, r0⟩ := trodAll_cons hA
  obtain ⟨v1, vs1, d1, ds1, p1, q1, rfl, rfl, rfl, h1, r1⟩ := trodAll_cons r0
  obtain ⟨v2, vs2, d2, ds2, p2, q2, rfl, rfl, rfl, h2, r2⟩ := trodAll_cons r1
  obtain ⟨rfl, rfl, rfl⟩ := trodAll_nil r2
  obtain rfl : args = #[v0, v1, v2] := by cases args; simp_all
  obtain ⟨rfl, rfl⟩ := trodVars_none hV
  obtain ⟨g0, rfl, sz0, is0⟩ := open_glide (hval 0 24 v0 rfl rfl) h0
  obtain ⟨a1, l1, cap1, rfl, hl1, hm1, rd1, all1⟩ := open_turns Tryz.underlying76 Tryz.underlying77 rfl rfl rfl rfl rfl rfl (by kernel_rfl) (hval 1 76 v1 rfl rfl) h1
  obtain ⟨a2, rfl, -, -, w2⟩ := open_int Tryz.underlying86 (hval 2 86 v2 rfl rfl) h2
  clear hA0 hval0
  simp only [List.append_nil] at hW'
  rw [MakeChecks.laidMetH_plain _ _ _ (by kernel_rfl)] at hL
  have htab : Tab W := tab_of_head hL.tail.tail
  have herr : ErrR W := err_of_head hL.tail.tail.tail
  refine (top_TopGlidesArrive htab hmx herr sz0 is0 rd1 all1 hl1 hm1 (bounds_u16 w2) W (Gr.refl W)).mono fun e W' ⟨he, bel⟩ => ?_
  subst he
  have bel' : Below W.heap.size W W' := bel
  exact ⟨_, rfl, _, _, _, [], _, [], hW', trodAll_mk1 (shut_bool Tryz.underlying4 _), (trodAll_cons_mk (arg_stays (by kernel_rfl) (of_decide_eq_true (by kernel_rfl)) h0 bel') (trodAll_cons_mk (arg_stays (by kernel_rfl) (of_decide_eq_true (by kernel_rfl)) h1 bel') (trodAll_cons_mk (arg_stays (by kernel_rfl) (of_decide_eq_true (by kernel_rfl)) h2 bel') trodAll_mk0))), rfl, bel'.frame _, fun h => by cases h⟩
end Go.Proofs.YtffifpinnhaloaaGreatDoor
