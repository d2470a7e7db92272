/- A loop over an iterator that lays new blocks itself, and whose rounds lay a new block for their variables. Of no program of its own. -/
import Derived.Test.YtlbnibicehpobaaGreatDoorRange
set_option linter.unusedVariables false
set_option linter.unusedSimpArgs false
namespace Go.Proofs.YtlbnibicehpobaaGreatDoor
open Go.RowKit Go.Shelf

/-- an iterator that asks for N rounds at most, the k-th of them at the k-th arguments; it reads nothing but the blocks of S, and lays new blocks -/
def RoundsA (P : Program) (g : Nat) (lb : Array Value) (args : Nat → Array Value) (N : Nat) (S : Nat → Prop) (w0 : World) : Prop :=
  ∀ (l : Nat) (J : Nat → World → Prop) (Jx : World → Prop) (W : World), KeepB S w0 W → (∀ k A A', Gr A A' → J k A → J k A') →
    (∀ k W1, k < N → J k W1 → YieldAt WF 1 P l (args k) W1 fun e W' => (e = .returned (.bool true) ∧ J (k + 1) W' ∧ KeepB S W1 W') ∨ (e = .returned (.bool false) ∧ Jx W')) →
    J 0 W → CallsIn WF 2 P g (#[.func (.yield l) #[] #[]] ++ lb) W fun e W' => (∃ v, e = .returned v) ∧ (J N W' ∨ Jx W')
theorem Gr.keepB {S : Nat → Prop} {W W' : World} (h : Gr W W') (hS : ∀ k, S k → k < W.heap.size) : KeepB S W W' := KeepB.gr h hS

theorem wp_roundsA {P : Program} {g : Operand} {ps : Array Tmp} {assign body : Code} {Q : Exit → Act → World → Prop} {a : Act} {w : World}
    {gf : Nat} {lb : Array Value} (hg : a.eval g = .func (.func gf) #[] lb) (eg : ∀ args w, (callFunc gf args).run P w = .ok (.enter gf args) w)
    {args : Nat → Array Value} {N : Nat} {S : Nat → Prop} (hS : ∀ k, S k → k < w.heap.size) (hseq : RoundsA P gf lb args N S w) (hps : ∀ k, (args k).size = ps.size)
    (I : Nat → World → Prop) (Ix : Code → World → Prop) (hI : OwnFrom w.heap.size I) (hIx : ∀ c, OwnFrom w.heap.size (fun (_ : Unit) => Ix c)) (h0 : I 0 w) (J : Nat → Act → World → Prop) (hJ : OwnFrom w.heap.size (fun (p : Nat × Act) => J p.1 p.2))
    (hassign : ∀ (l k : Nat) (W : World), w.heap.size ≤ W.heap.size → k < N → I k W →
      assign.wpIn (WF.inRound l) 1 P (Exit.then (fun a1 W1 => J k a1 W1 ∧ Gr W W1) (fun _ _ _ => False)) { tmps := (ps.zip (args k)).foldl (fun t (p, v) => t.setIfInBounds p v) a.tmps, defers := [] } W)
    (hbody : ∀ (l k : Nat) (a1 : Act) (W : World), k < N → J k a1 W → body.wpIn (WF.inRound l) 1 P (roundEnd w.heap.size S I Ix k W) a1 W)
    (hdone : ∀ (D : Nat) (W : World), w.heap.size ≤ D → I N W → W.heap[D]? = some (.deferred (some [])) → Q .normal { a with defers := { target := .collected D, args := #[] } :: a.defers } W)
    (hstop : ∀ (D : Nat) (c : Code) (W : World), w.heap.size ≤ D → Ix c W → W.heap[D]? = some (.deferred (some [])) → c.wpIn WF 3 P Q { a with defers := { target := .collected D, args := #[] } :: a.defers } W) :
    (Code.rangeFunc g ps assign body).wpIn WF 3 P Q a w := by
  refine wpIn_rangeFunc fun fn hfn => ?_
  have hro : WF.round = none := rfl
  rw [hro]
  -- the record of the loop lies at L, the block for the deferred calls of its rounds below it
  generalize hLd : w.heap.size + 1 = L
  obtain ⟨rec, hrec⟩ : ∃ rec : LoopState → Option Code → Loop, ∀ st pe, rec st pe = { state := st, pending := pe, fn, tmps := a.tmps, params := ps, assign, body, defers := w.heap.size } := ⟨_, fun _ _ => rfl⟩
  obtain ⟨V, hV⟩ : ∃ V, V = (w.alloc (.deferred (some []))).alloc (.loop (rec .ready none)) := ⟨_, rfl⟩
  have vL : V.heap[L]? = some (.loop (rec .ready none)) := by
    have h := World.alloc_heap_new (w.alloc (.deferred (some []))) (.loop (rec .ready none))
    rw [World.size_alloc, hLd, ← hV] at h; exact h
  have vD : V.heap[w.heap.size]? = some (.deferred (some [])) := by
    rw [hV]; exact (Below.heap_alloc _ _ _ (by simp)).trans (World.alloc_heap_new w _)
  have vI : I 0 V := by rw [hV]; exact hI.alloc _ (hI.alloc _ h0)
  have vB : KeepB S w V := by rw [hV]; exact KeepB.gr (((Gr.refl w).alloc _).alloc _) hS
  have hSL : ¬ S L := fun h => by have := hS _ h; omega
  refine ⟨L, [{ target := .collected w.heap.size, args := #[] }], V, { target := .fn (.func gf) lb, args := #[.func (.yield L) #[] #[]] }, V, gf, #[.func (.yield L) #[] #[]] ++ lb, V, ?_, ?_, fun _ _ => trivial, ?_, fun _ => by omega, ?_⟩
  · rw [hV, hrec, ← hLd]; exact run_enterLoop_outer _ _ _ _ _
  · simp only [resolve, hg]
    simp [go_sem]
  · simp [invoke, go_sem, eg]
  · refine (hseq L (fun k W => I k W ∧ W.heap[L]? = some (.loop (rec .ready none)) ∧ W.heap[w.heap.size]? = some (.deferred (some [])))
      (fun W => ∃ c, Ix c W ∧ W.heap[L]? = some (.loop (rec .done (some c))) ∧ W.heap[w.heap.size]? = some (.deferred (some []))) V vB
      (fun k A A' hg ⟨h1, h2, h3⟩ => ⟨hI _ _ _ none h1 ⟨hg.os, hg.tape, hg.output, hg.size, fun j hj _ => hg.block j hj⟩ (fun r e => by cases e), (hg.block _ (Array.getElem?_eq_some_iff.1 h2).1).trans h2, (hg.block _ (Array.getElem?_eq_some_iff.1 h3).1).trans h3⟩) ?_ ⟨vI, vL, vD⟩).mono ?_
    · -- the k-th round
      rintro k W hk ⟨wI, wL, wD⟩
      have lL : L < W.heap.size := (Array.getElem?_eq_some_iff.1 wL).1
      have hy := run_yield (P := P) (args := args k) wL (by rw [hrec]; exact hps k)
      rw [hrec] at hy
      have lD : w.heap.size < W.heap.size := (Array.getElem?_eq_some_iff.1 wD).1
      refine ⟨fn, _, assign, body, hy, roundIn_of_wpIn hfn (wpIn_mono (hassign _ k W (by omega) hk wI) ?_)⟩
      intro e a1 W1 he
      obtain ⟨rfl, hj, hgr⟩ : e = .normal ∧ J k a1 W1 ∧ Gr W W1 := by cases e <;> first | exact ⟨rfl, he⟩ | exact he.elim
      have w1L : W1.heap[L]? = some (.loop (rec .ready none)) := (hgr.block L lL).trans wL
      have w1D : W1.heap[w.heap.size]? = some (.deferred (some [])) := (hgr.block _ lD).trans wD
      have l1L : L < W1.heap.size := (Array.getElem?_eq_some_iff.1 w1L).1
      refine ⟨_, run_beginRound w1L (by rw [hrec]), ?_⟩
      obtain ⟨X, hX⟩ : ∃ X, X = W1.putObj L (.loop { rec .ready none with state := .busy }) := ⟨_, rfl⟩
      rw [← hX]
      have xL : X.heap[L]? = some (.loop { rec .ready none with state := .busy }) := by rw [hX]; exact World.putObj_heap_same l1L
      have xD : X.heap[w.heap.size]? = some (.deferred (some [])) := by rw [hX]; exact (World.putObj_heap_other (by omega)).trans w1D
      have xI : J k a1 X := by rw [hX]; exact hJ.putObj (s := (k, a1)) _ hj (by omega) w1L rfl
      have xB : KeepB S W X := by rw [hX]; exact (KeepB.gr hgr (fun k hk => by have := hS k hk; omega)).trans (KeepB.putObj hSL)
      refine wpIn_mono (hbody L k a1 X hk xI) ?_
      have shut : ∀ (jump : Option Code) (Y : World), KeepsFrom w.heap.size X Y →
          (Instr.endRound L jump).run P Y = .ok (.bool jump.isNone) (Y.putObj L (.loop (rec (if jump.isNone then .ready else .done) jump))) ∧ Y.heap[L]? = some (.loop { rec .ready none with state := .busy }) ∧
          (Y.putObj L (.loop (rec (if jump.isNone then .ready else .done) jump))).heap[L]? = some (.loop (rec (if jump.isNone then .ready else .done) jump)) ∧
          (Y.putObj L (.loop (rec (if jump.isNone then .ready else .done) jump))).heap[w.heap.size]? = some (.deferred (some [])) := by
        intro jump Y hk3
        have yL := hk3.same _ _ (by omega) xL rfl
        have yD := hk3.same _ _ (Nat.le_refl _) xD rfl
        have hend := run_endRound (P := P) jump yL
        rw [hrec] at hend
        refine ⟨by rw [hend, hrec], yL, World.putObj_heap_same (Array.getElem?_eq_some_iff.1 yL).1, (World.putObj_heap_other (by omega)).trans yD⟩
      rintro e a3 Y hp
      cases e with
      | normal =>
        obtain ⟨h1, h2, h3⟩ := hp
        obtain ⟨r, y1, y2, y3⟩ := shut none Y h1
        exact ⟨_, _, r, .inl ⟨rfl, ⟨hI.putObj _ h3 (by omega) y1 rfl, y2, y3⟩, (xB.trans h2).trans (KeepB.putObj hSL)⟩⟩
      | ret =>
        obtain ⟨h1, h2⟩ := hp
        obtain ⟨r, y1, y2, y3⟩ := shut (some .ret) Y h1
        exact ⟨_, _, r, .inr ⟨rfl, .ret, (hIx _).putObj (s := ()) _ h2 (by omega) y1 rfl, y2, y3⟩⟩
      | exit id =>
        obtain ⟨h1, h2⟩ := hp
        obtain ⟨r, y1, y2, y3⟩ := shut (some (.exit id)) Y h1
        exact ⟨_, _, r, .inr ⟨rfl, .exit id, (hIx _).putObj (s := ()) _ h2 (by omega) y1 rfl, y2, y3⟩⟩
      | goto t => exact hp.elim
      | panic ch => exact hp.elim
      | outgrown => exact hp.elim
    · -- behind the iterator
      rintro e W2 ⟨⟨v, rfl⟩, (⟨hi, hl, hd⟩ | ⟨c, hi, hl, hd⟩)⟩
      · have hend := run_endLoop (P := P) hl (by rw [hrec]; simp)
        rw [hrec] at hend
        exact ⟨none, _, hend, hdone _ _ (Nat.le_refl _) (hI.putObj _ hi (by omega) hl rfl) ((World.putObj_heap_other (by omega)).trans hd)⟩
      · have hend := run_endLoop (P := P) hl (by rw [hrec]; simp)
        rw [hrec] at hend
        exact ⟨some c, _, hend, hstop _ c _ (Nat.le_refl _) ((hIx c).putObj (s := ()) _ hi (by omega) hl rfl) ((World.putObj_heap_other (by omega)).trans hd)⟩
end Go.Proofs.YtlbnibicehpobaaGreatDoor
