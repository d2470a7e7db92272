/- Law 14: Every, of both sides. -/
import Derived.Test.YtmcngnnbfmjajaaGpI
import Derived.Laws.ResultCell
set_option linter.unusedVariables false
set_option linter.unusedSimpArgs false
namespace Go.Proofs.Ytmcngnnbfmjajaa.Z
open Go
/-- every s-th element from a place on -/
def evF (l : List Int) (s : Nat) : Nat → Nat → List Int
  | 0, _ => []
  | n + 1, j => if h : j < l.length then l[j] :: evF l s n (j + s) else []
def evR (l : List Int) (s j : Nat) : List Int := evF l s (l.length - j) j
theorem evF_more (l : List Int) (s : Nat) (hs : 0 < s) : ∀ n m j, l.length - j ≤ n → l.length - j ≤ m → evF l s n j = evF l s m j
  | 0, 0, _, _, _ => rfl
  | 0, m + 1, j, h, _ => by unfold evF; rw [dif_neg (by omega)]
  | n + 1, 0, j, _, h => by unfold evF; rw [dif_neg (by omega)]
  | n + 1, m + 1, j, h1, h2 => by
    unfold evF
    by_cases h : j < l.length
    · rw [dif_pos h, dif_pos h, evF_more l s hs n m (j + s) (by omega) (by omega)]
    · rw [dif_neg h, dif_neg h]
theorem evR_step {l : List Int} {s j : Nat} (hs : 0 < s) (h : j < l.length) : evR l s j = l[j] :: evR l s (j + s) := by
  unfold evR
  obtain ⟨n, hn⟩ : ∃ n, l.length - j = n + 1 := ⟨l.length - j - 1, by omega⟩
  rw [hn]
  conv => lhs; unfold evF
  rw [dif_pos h, evF_more l s hs n (l.length - (j + s)) (j + s) (by omega) (by omega)]
theorem evR_end {l : List Int} {s j : Nat} (h : ¬ j < l.length) : evR l s j = [] := by
  unfold evR
  rw [show l.length - j = 0 by omega]; rfl
theorem evR_len (l : List Int) (s : Nat) (hs : 0 < s) : ∀ j, (evR l s j).length ≤ l.length - j := by
  have : ∀ n j, (evF l s n j).length ≤ n := by
    intro n
    induction n with
    | zero => intro j; simp [evF]
    | succ n ih =>
      intro j
      unfold evF
      split
      · have := ih (j + s); simp; omega
      · simp
  intro j
  exact this _ _
end Go.Proofs.Ytmcngnnbfmjajaa.Z
namespace Go.Proofs.Ytmcngnnbfmjajaa
open Go.RowKit
open Z
theorem push_w {i : TypeInfo} (hi : Try.prog.info? 3 = some i) (hz0 : i.zero = some (.int .i64 0)) (hz1 : i.size = 1) (hz2 : i.bytes = 8)
    {o : Oper} {a : Act} {K : Act → World → Prop} {Q : Exit → Act → World → Prop} {w : World} {B : Nat} (s x : Operand)
    (ho : o.op = .call { callee := .builtin .append, args := #[s, x], argTypes := #[23, 23] }) (v : Value) (xs : List Int) (hs : a.eval s = v) (hown : OwnI B w v xs) (hB : B ≤ w.heap.size)
    (t : Int) (N : Nat) (hN : N = w.heap.size) (hx : a.eval x = .slice (some ⟨N, 0, none⟩) 1 1) (hlen : xs.length ≤ 3000000)
    (h : ∀ v' w', OwnI B w' v' (xs ++ [t]) → Below B w w' → K (a.put o.dst v') w') :
    o.wp Try.prog a (w.alloc (.cells #[.int .i64 t] 3)) K Q := by
  subst hN
  refine wp_append_own _ s x _ ho B 3 i (.int .i64 0) 1 8 Try.underlying23 hi hz0 hz1 hz2 rfl (by decide) v xs.length (iv xs) hs (World.ownsRow.alloc hown _) ⟨w.heap.size, 0, none⟩ 1 1 [.int .i64 t] hx rfl
    (fun j u hj => ?_) (fun u hu => by simp only [List.mem_singleton] at hu; subst hu; rfl) (by unfold maxLen; omega) (by omega) (by simp; omega) (fun v' w' hown' hgrow _ => h v' w' ?_ (Below.grown (Below.alloc (Below.refl B w) hB _) hgrow (by simp; omega) (fun k hk => (World.ownsRow.lt hown k hk).1)))
  · rw [WideShapes.add_plain]
    match j, hj with
    | 0, hj => simp only [List.getElem?_cons_zero, Option.some.injEq] at hj; subst hj; rw [World.cell?_alloc_at _ _ _ _ rfl]; rfl
    | j + 1, hj => simp at hj
  · show World.ownsRow _ _ _ _ _ _ _
    rw [show iv (xs ++ [t]) = iv xs ++ [.int .i64 t] by simp [iv], List.length_append]; exact hown'
theorem Try.infoG : (Try.prog.info? 25).map (fun i => (i.zero, i.size)) = some (some (.agg #[.int .i64 0, .slice none 0 0]), 2) := by kernel_rfl
def GB (w : World) (g : Nat) (p q : Value) : Prop := w.heap[g]? = some (.cells #[p, q] 25 (0, 0))
theorem GB.row {w : World} {g : Nat} {p q : Value} (H : GB w g p q) (p' q' : Value) : GB (w.setRow g #[p', q']) g p' q' := setRow_heap w g _ _ _ _ H
theorem run_loadG {w : World} {g : Nat} {p q : Value} (hg : GB w g p q) : (loadVar 25 ⟨g, 0, none⟩).run Try.prog w = .ok (.agg #[p, q]) w :=
  run_loadVar_row w g _ _ _ (0, 0) _ hg Try.underlying25 rfl (by rw [(zero_of_info Try.infoG).2]; rfl)
theorem wpl_storeG {ops : Array Oper} {rest : List Oper} {o : Oper} {a : Act} {Q : Exit → Act → World → Prop} {w : World} {x y : Operand} {g : Nat} {p q p' q' : Value} (hg : o.guard = none) (ho : o.op = .store 25 x y) (hx : a.eval x = .pointer (some ⟨g, 0, none⟩)) (hy : a.eval y = .agg #[p', q']) (h1 : p'.oneCell' = true) (h2 : q'.oneCell' = true) (hP : GB w g p q)
    (hK : wpList Try.prog ops Q rest (a.put o.dst undef) (w.setRow g #[p', q'])) : wpList Try.prog ops Q (o :: rest) a w := by
  refine wpList_plain hg fun K hK' => ?_
  have hz := (zero_of_info Try.infoG).2
  have h3 : (storeVar 25 ⟨g, 0, none⟩ (.agg #[p', q'])).run Try.prog w = .ok () (w.setRow g #[p', q']) :=
    run_storeVar_row w g _ _ _ _ hP (by rw [hz]; rfl) rfl (by simp [h1, h2])
  unfold Oper.wp execOp
  rw [ho]
  simp only [hx, hy, Instr.storeAt, Instr.sureAddr, Sem.run_bind, Sem.run_pure, Result.andThen, h3]
  rw [Oper.upon_skip]
  exact hK' _ _ hK
theorem heap_row {w : World} {g k : Nat} {c : Array Value} (h : k ≠ g) : (w.setRow g c).heap[k]? = w.heap[k]? := by
  simp only [World.setRow, Array.getElem?_modify]
  rw [if_neg (fun e => h e.symm)]
theorem Gr.row {w w' : World} (h : Gr w w') {g : Nat} (hb : w.heap.size ≤ g) (c : Array Value) : Gr w (w'.setRow g c) := by
  have hs : (w'.setRow g c).heap.size = w'.heap.size := by simp [World.setRow]
  exact ⟨h.os, h.tape, h.output, by rw [hs]; exact h.size, fun k hk => (heap_row (by omega)).trans (h.block k hk)⟩
theorem OwnI.row {B : Nat} {w : World} {u : Value} {xs : List Int} (h : OwnI B w u xs) {g : Nat} (hg : g < B) (c : Array Value) : OwnI B (w.setRow g c) u xs := by
  refine World.ownsRow.kept (row := some g) h ⟨rfl, rfl, rfl, by simp [World.setRow], fun k hk hne => heap_row (fun e => hne (by rw [e]))⟩ ?_
  rcases hv : u.ownBlock with _ | k
  · exact .inl rfl
  · refine .inr (fun e => ?_)
    have h2 := (World.ownsRow.lt h k hv).1
    have : k = g := Option.some.inj e
    omega
theorem OwnI.one {B : Nat} {w : World} {u : Value} {xs : List Int} (h : OwnI B w u xs) : u.oneCell' = true := by
  obtain ⟨a, cap, rfl, -⟩ := h.shape
  rfl
/-- a group of one's own, whose channels grow: block q holds x and v; u owns the row -/
structure SA (w3 W : World) (q : Nat) (x : Int) (v u : Value) (xs : List Int) : Prop where
  cell : W.heap[q]? = some (.cells #[.int .i64 x, v] 25 (0, 0))
  own : OwnI (q + 1) W u xs
  gr : Gr w3 W
  lo : w3.heap.size ≤ q
theorem SA.c1 {w3 W : World} {q : Nat} {x : Int} {v u : Value} {xs : List Int} (h : SA w3 W q x v u xs) : W.cell? ⟨q, 1, none⟩ = some v := by rw [cell_of_row _ _ _ _ _ _ h.cell]; rfl
theorem SA.c0 {w3 W : World} {q : Nat} {x : Int} {v u : Value} {xs : List Int} (h : SA w3 W q x v u xs) : W.cell? ⟨q, 0, none⟩ = some (.int .i64 x) := by rw [cell_of_row _ _ _ _ _ _ h.cell]; rfl
theorem SA.lt {w3 W : World} {q : Nat} {x : Int} {v u : Value} {xs : List Int} (h : SA w3 W q x v u xs) : q < W.heap.size := cellLt h.c0
theorem SA.frz {w3 W : World} {q : Nat} {x : Int} {v u : Value} {xs : List Int} (h : SA w3 W q x v u xs) : W.frozen? ⟨q, 1, none⟩ = false := by simp [World.frozen?, h.cell]
theorem SA.gr' {w3 W W' : World} {q : Nat} {x : Int} {v u : Value} {xs : List Int} (h : SA w3 W q x v u xs) (hg : Gr W W') : SA w3 W' q x v u xs :=
  ⟨(hg.block q h.lt).trans h.cell, h.own.gr hg, h.gr.trans hg, h.lo⟩
theorem SA.push {w3 W W' : World} {q : Nat} {x : Int} {v u u' : Value} {xs ys : List Int} (h : SA w3 W q x v u xs) (ho : OwnI (q + 1) W' u' ys) (hb : Below (q + 1) W W') : SA w3 W' q x v u' ys :=
  ⟨(hb.block q (by omega)).trans h.cell, ho, Below.trans h.gr (Below.mono hb (by have := h.lo; omega)), h.lo⟩
theorem SA.set {w3 W : World} {q : Nat} {x : Int} {v u : Value} {xs : List Int} (h : SA w3 W q x v u xs) : SA w3 (W.setCell ⟨q, 1, none⟩ u) q x u u xs := by
  refine ⟨?_, ?_, h.gr.set h.lo _, h.lo⟩
  · have := heap_setCell_same W q 1 _ _ u h.cell
    simpa using this
  · refine World.ownsRow.kept (row := some q) h.own ⟨rfl, rfl, rfl, by simp, fun k hk hne => ?_⟩ ?_
    · exact Below.heap_setCell W _ _ k (fun e => hne (by rw [e]))
    · rcases hv : u.ownBlock with _ | g
      · exact .inl rfl
      · refine .inr (fun e => ?_)
        have h2 := (World.ownsRow.lt h.own g hv).1
        have : g = q := Option.some.inj e
        omega
set_option maxRecDepth 100000 in
set_option maxHeartbeats 2000000 in
theorem gp_Every {v : Value} (g : Gp) (s f : Nat) (w : World) (hv : GpV w v g) (hg : gpR g = 0) (hs : 1 ≤ s) (hs2 : s ≤ 256) (hf : f ≤ 256) :
    Calls Try.prog 33 #[v, .int .i64 (s : Int), .int .i64 (f : Int)] w fun e w' => (∃ u, e = .returned (.tuple #[u, .int .i64 0]) ∧ GpV w' u (g.1, evR g.2 s f)) ∧ Gr w w' := by
  obtain ⟨i0, hi, hz0, hz1, hz2⟩ := info_parts Try.infoI
  have HCK := Lib.hid (fun (W : World) (hW : Gr w W) => gp_Check g W (hv.gr hW))
  rw [hg] at HCK
  obtain ⟨a, cap, rfl, ra, la, ma⟩ := hv
  unfold maxLen at ma
  have hl256 := (gpR_zero.1 hg).2.1
  obtain ⟨x, l⟩ := g
  simp only at ra la hl256 HCK ⊢
  clear hg
  obtain ⟨n, hn⟩ : ∃ n, n = l.length := ⟨_, rfl⟩
  have HN := Lib.hid hn
  rw [← hn] at la hl256 HCK ⊢
  clear hn
  obtain ⟨E, hE⟩ : ∃ E, evR l s f = E := ⟨_, rfl⟩
  rw [hE]
  have HE := Lib.hid hE
  clear hE
  obtain ⟨w1, hw1⟩ : ∃ w1, w1 = w.alloc (.cells #[.int .i64 x, .slice a n cap] 25) := ⟨_, rfl⟩
  obtain ⟨w2, hw2⟩ : ∃ w2, w2 = w1.alloc (.cells #[.int .i64 0, .slice none 0 0] 25) := ⟨_, rfl⟩
  have hG1 : Gr w w1 := by rw [hw1]; exact (Gr.refl w).alloc _
  have hG2 : Gr w1 w2 := by rw [hw2]; exact (Gr.refl w1).alloc _
  have hB := show w1.cell? ⟨w.heap.size, 0, none⟩ = some (.int .i64 x) ∧ w1.cell? ⟨w.heap.size, 1, none⟩ = some (.slice a n cap) by rw [hw1]; exact box2 _ _ _ _
  have HC6 := Lib.hid (show w2.heap[w.heap.size + 1]? = some (.cells #[.int .i64 0, .slice none 0 0] 25 (0, 0)) by rw [hw2, show w.heap.size + 1 = w1.heap.size by rw [hw1, World.size_alloc]]; exact heap_alloc_last w1 _)
  have HS1 := Lib.hid (show w.heap.size + 1 = w1.heap.size by rw [hw1, World.size_alloc])
  have HCK2 := Lib.hid (HCK.out w2 (hG1.trans hG2))
  have HR := Lib.hid (ra.gr (hG1.trans hG2))
  have HG := Lib.hid (hG1.trans hG2)
  have HG1 := Lib.hid hG1
  have hb0 := gr_cell hG2 hB.1
  have hb1 := gr_cell hG2 hB.2
  clear ra hG1 hG2 hB HCK
  obtain ⟨p3, hp3⟩ : ∃ p3, p3 = w.heap.size := ⟨_, rfl⟩
  rw [← hp3] at hb0 hb1 HC6 HS1
  have I1 := Lib.hid (fun w => in_yes (n := (s : Int)) (a := 1) (b := 256) ⟨by omega, by omega⟩ w)
  have I2 := Lib.hid (fun w => in_yes (n := (f : Int)) (a := 0) (b := 256) ⟨by omega, by omega⟩ w)
  go_enter Try.func33, Try.ntmps33
  go_wp2_with fail
  rw [← hw1, ← hw2]
  clear hw1 hw2
  refine HCK2.out.mono ?_; rintro e w3 ⟨rfl, hg3⟩
  have HG3 := Lib.hid (HG.out.trans hg3)
  have HG23 := Lib.hid hg3
  have hb0 := gr_cell hg3 hb0
  have hb1 := gr_cell hg3 hb1
  have HR3 := Lib.hid (HR.out.gr hg3)
  have HC63 := Lib.hid ((hg3.block _ (cellLt (cell_of_row _ _ 0 _ _ _ HC6.out))).trans HC6.out)
  clear hg3 HR HG HCK2 HC6
  rw [← hp3]
  have HP3 := Lib.hid hp3
  clear hp3
  go_wp2_with fail
  refine (I1.out _).mono ?_; rintro e w' ⟨rfl, rfl⟩
  go_wp2_with fail
  refine (I2.out _).mono ?_; rintro e w' ⟨rfl, rfl⟩
  obtain ⟨q, hq⟩ : ∃ q, q = w3.heap.size := ⟨_, rfl⟩
  obtain ⟨w4, hw4⟩ : ∃ w4, w4 = w3.alloc (.cells #[.int .i64 x, .slice none 0 0] 25) := ⟨_, rfl⟩
  have HS4 := Lib.hid (show SA w3 w4 q x (.slice none 0 0) (.slice none 0 0) [] by
    rw [hw4, hq]
    exact ⟨heap_alloc_last w3 _, OwnI.nil _ _, (Gr.refl _).alloc _, Nat.le_refl _⟩)
  go_wp2_with fail
  rw [← hw4, ← hq]
  have HQ := Lib.hid hq
  clear hw4 hq
  go_loopw [10] (fun i wr => ∃ (j : Nat) (v : Value) (xs : List Int), i = .int .i64 j ∧ j ≤ 512 ∧ Hid (SA w3 wr q x v v xs) ∧ Hid (xs ++ evR l s j = E)) (fun i _ => 512 - (intOf i).toNat)
  case atStart => exact ⟨f, _, [], rfl, by omega, HS4, HE⟩
  case round =>
    obtain ⟨j, v, xs, rfl, hj, HS, HX⟩ := hrel
    have hb0r := gr_cell HS.out.gr hb0
    have hb1r := gr_cell HS.out.gr hb1
    by_cases hlt : j < n
    · have hjl : j < l.length := by rw [← HN.out]; exact hlt
      obtain ⟨b, o, rfl, hc⟩ := HR3.out j hjl
      have HX2 := Lib.hid (show xs ++ (l[j] :: evR l s (j + s)) = E by rw [← evR_step (by omega) hjl]; exact HX.out)
      have hxl : xs.length ≤ 300 := by
        have h1 := congrArg List.length HX.out
        have h2 := congrArg List.length HE.out
        have h3 := evR_len l s (by omega) f
        rw [List.length_append] at h1
        have := HN.out
        omega
      generalize l[j] = c at *
      go_wp2_with fail
      clear HX hb0r hb1r
      have hS0 : (fun w' : World => Gr w3 w') wr.drew := HS.out.gr.drew
      have HD := Lib.hid (HS.out.gr' ((Gr.refl _).drew))
      clear HS
      refine wp_region_held (S := fun w' : World => Gr w3 w') (by kernel_rfl) ?_
      change wpAnyH _ _ _ _ _ _ _ _ wr.drew
      refine wpAnyH_take (i := 0) (v := .pointer (some ⟨q, 1, none⟩)) rfl (by kernel_rfl) (by kernel_rfl) (by kernel_rfl) (fun _ _ _ h => h) (Or.inl ⟨by rfl, ?_⟩) hS0 ?_
      · intro w hSw; go_simp
      try simp only [Act.put, List.getElem_toArray, List.getElem_cons_succ, List.getElem_cons_zero, List.setIfInBounds_toArray, List.set_cons_zero, List.set_cons_succ]
      refine wpAnyH_take (i := 2) (v := .pointer (some ⟨p3, 1, none⟩)) rfl (by kernel_rfl) (by kernel_rfl) (by kernel_rfl) (fun _ _ _ h => h) (Or.inl ⟨by rfl, ?_⟩) hS0 ?_
      · intro w hSw; go_simp
      try simp only [Act.put, List.getElem_toArray, List.getElem_cons_succ, List.getElem_cons_zero, List.setIfInBounds_toArray, List.set_cons_zero, List.set_cons_succ]
      refine wpAnyH_take (i := 3) (v := .slice (some ⟨b, o, none⟩) n cap) rfl (by kernel_rfl) (by kernel_rfl) (by kernel_rfl) (fun _ _ _ h => h) (Or.inl ⟨by rfl, ?_⟩) hS0 ?_
      · intro w hSw; have s1 := gr_cell hSw hb1; go_simp
      try simp only [Act.put, List.getElem_toArray, List.getElem_cons_succ, List.getElem_cons_zero, List.setIfInBounds_toArray, List.set_cons_zero, List.set_cons_succ]
      refine wpAnyH_take (i := 4) (v := .int .i64 j) rfl (by kernel_rfl) (by kernel_rfl) (by kernel_rfl) (fun _ _ _ h => h) (Or.inl ⟨by rfl, ?_⟩) hS0 ?_
      · intro w hSw; go_simp
      try simp only [Act.put, List.getElem_toArray, List.getElem_cons_succ, List.getElem_cons_zero, List.setIfInBounds_toArray, List.set_cons_zero, List.set_cons_succ]
      refine wpAnyH_take (i := 5) (v := .pointer (some ⟨b, o + j, none⟩)) rfl (by kernel_rfl) (by kernel_rfl) (by kernel_rfl) (fun _ _ _ h => h) (Or.inl ⟨by rfl, ?_⟩) hS0 ?_
      · intro w hSw; go_simp
      try simp only [Act.put, List.getElem_toArray, List.getElem_cons_succ, List.getElem_cons_zero, List.setIfInBounds_toArray, List.set_cons_zero, List.set_cons_succ]
      refine wpAnyH_take (i := 6) (v := .int .i64 c) rfl (by kernel_rfl) (by kernel_rfl) (by kernel_rfl) (fun _ _ _ h => h) (Or.inl ⟨by rfl, ?_⟩) hS0 ?_
      · intro w hSw; have s1 := gr_cell hSw hc; go_simp
      try simp only [Act.put, List.getElem_toArray, List.getElem_cons_succ, List.getElem_cons_zero, List.setIfInBounds_toArray, List.set_cons_zero, List.set_cons_succ]
      refine wpAnyH_ready (rs := [1, 7]) (by kernel_rfl) (by simp) (AllReadyH.cons rfl (fun K' hK' => ?_) (AllReadyH.cons rfl (fun K' hK' => ?_) AllReadyH.nil))
      · have s1 := HD.out.c1
        go_simp
        refine hK'.out _ _ HD.out.gr (fun hSa => ?_)
        clear hK' K' s1
        try simp only [Act.put, List.getElem_toArray, List.getElem_cons_succ, List.getElem_cons_zero, List.setIfInBounds_toArray, List.set_cons_zero, List.set_cons_succ]
        refine wpAnyH_ready (rs := [7]) (by kernel_rfl) (by simp) (AllReadyH.cons rfl (fun K' hK' => ?_) AllReadyH.nil)
        go_simp
        have HD2 := Lib.hid (HD.out.gr' ((Gr.refl _).alloc (.cells #[.int .i64 c] 3)))
        refine hK'.out _ _ HD2.out.gr (fun hSb => ?_)
        clear hK' K'
        try simp only [Act.put, List.getElem_toArray, List.getElem_cons_succ, List.getElem_cons_zero, List.setIfInBounds_toArray, List.set_cons_zero, List.set_cons_succ]
        try simp only [Act.put, List.getElem_toArray, List.getElem_cons_succ, List.getElem_cons_zero, List.setIfInBounds_toArray, List.set_cons_zero, List.set_cons_succ]
        refine wpAnyH_ready (rs := [8]) (by kernel_rfl) (by simp) (AllReadyH.cons rfl (fun K' hK' => ?_) AllReadyH.nil)
        rw [if_pos (by rfl)]
        refine push_w hi hz0 hz1 hz2 _ _ rfl v xs rfl HD.out.own HD.out.lt c wr.heap.size rfl rfl (by omega) ?_
        intro v5 w5 ho5 hb5
        obtain ⟨a5, cap5, hv5, -⟩ := ho5.shape
        generalize (xs ++ [c]).length = m5 at hv5
        subst hv5
        have HD3 := Lib.hid (HD.out.push ho5 hb5)
        clear ho5 hb5
        refine hK'.out _ _ HD3.out.gr (fun hSc => ?_)
        clear hK' K'
        try simp only [Act.put, List.getElem_toArray, List.getElem_cons_succ, List.getElem_cons_zero, List.setIfInBounds_toArray, List.set_cons_zero, List.set_cons_succ]
        refine wpAnyH_take (i := 9) (v := .pointer (some ⟨q, 1, none⟩)) rfl (by kernel_rfl) (by kernel_rfl) (by kernel_rfl) (fun _ _ _ h => h) (Or.inl ⟨by rfl, ?_⟩) hSc ?_
        · intro w hSw; go_simp
        try simp only [Act.put, List.getElem_toArray, List.getElem_cons_succ, List.getElem_cons_zero, List.setIfInBounds_toArray, List.set_cons_zero, List.set_cons_succ]
        refine wpAnyH_ready (rs := [10]) (by kernel_rfl) (by simp) (AllReadyH.cons rfl (fun K' hK' => ?_) AllReadyH.nil)
        have s2 := HD3.out.c1
        have s3 := HD3.out.frz
        go_simp
        have HD4 := Lib.hid HD3.out.set
        refine hK'.out _ _ HD4.out.gr (fun hSd => wpAnyH_done (by kernel_rfl) ?_ _)
        clear hK' K' s2 s3
        go_wp2
        go_roundw
        case rel => exact ⟨j + s, _, xs ++ [c], by go_num, by omega, HD4, Lib.hid (by rw [List.append_assoc]; exact HX2.out)⟩
        case measure => simp [intOf]; omega
      · go_simp
        have HD2 := Lib.hid (HD.out.gr' ((Gr.refl _).alloc (.cells #[.int .i64 c] 3)))
        refine hK'.out _ _ HD2.out.gr (fun hSb => ?_)
        clear hK' K'
        try simp only [Act.put, List.getElem_toArray, List.getElem_cons_succ, List.getElem_cons_zero, List.setIfInBounds_toArray, List.set_cons_zero, List.set_cons_succ]
        refine wpAnyH_ready (rs := [1]) (by kernel_rfl) (by simp) (AllReadyH.cons rfl (fun K' hK' => ?_) AllReadyH.nil)
        have s1 := HD.out.c1; have s2 := HD2.out.c1; have s4 := HD.out.lt; have s5 : (wr.alloc (.cells #[.int .i64 c] 3)).cell? ⟨q, 1, none⟩ = some v := HD2.out.c1
        go_simp
        refine hK'.out _ _ HD2.out.gr (fun hSb2 => ?_)
        clear hK' K' s1 s2 s4 s5
        try simp only [Act.put, List.getElem_toArray, List.getElem_cons_succ, List.getElem_cons_zero, List.setIfInBounds_toArray, List.set_cons_zero, List.set_cons_succ]
        try simp only [Act.put, List.getElem_toArray, List.getElem_cons_succ, List.getElem_cons_zero, List.setIfInBounds_toArray, List.set_cons_zero, List.set_cons_succ]
        refine wpAnyH_ready (rs := [8]) (by kernel_rfl) (by simp) (AllReadyH.cons rfl (fun K' hK' => ?_) AllReadyH.nil)
        rw [if_pos (by rfl)]
        refine push_w hi hz0 hz1 hz2 _ _ rfl v xs rfl HD.out.own HD.out.lt c wr.heap.size rfl rfl (by omega) ?_
        intro v5 w5 ho5 hb5
        obtain ⟨a5, cap5, hv5, -⟩ := ho5.shape
        generalize (xs ++ [c]).length = m5 at hv5
        subst hv5
        have HD3 := Lib.hid (HD.out.push ho5 hb5)
        clear ho5 hb5
        refine hK'.out _ _ HD3.out.gr (fun hSc => ?_)
        clear hK' K'
        try simp only [Act.put, List.getElem_toArray, List.getElem_cons_succ, List.getElem_cons_zero, List.setIfInBounds_toArray, List.set_cons_zero, List.set_cons_succ]
        refine wpAnyH_take (i := 9) (v := .pointer (some ⟨q, 1, none⟩)) rfl (by kernel_rfl) (by kernel_rfl) (by kernel_rfl) (fun _ _ _ h => h) (Or.inl ⟨by rfl, ?_⟩) hSc ?_
        · intro w hSw; go_simp
        try simp only [Act.put, List.getElem_toArray, List.getElem_cons_succ, List.getElem_cons_zero, List.setIfInBounds_toArray, List.set_cons_zero, List.set_cons_succ]
        refine wpAnyH_ready (rs := [10]) (by kernel_rfl) (by simp) (AllReadyH.cons rfl (fun K' hK' => ?_) AllReadyH.nil)
        have s2 := HD3.out.c1
        have s3 := HD3.out.frz
        go_simp
        have HD4 := Lib.hid HD3.out.set
        refine hK'.out _ _ HD4.out.gr (fun hSd => wpAnyH_done (by kernel_rfl) ?_ _)
        clear hK' K' s2 s3
        go_wp2
        go_roundw
        case rel => exact ⟨j + s, _, xs ++ [c], by go_num, by omega, HD4, Lib.hid (by rw [List.append_assoc]; exact HX2.out)⟩
        case measure => simp [intOf]; omega
    · have HXe := Lib.hid (show xs = E by have := HX.out; rwa [evR_end (by rw [← HN.out]; exact hlt), List.append_nil] at this)
      have hc0 := HS.out.c0
      have hc1 := HS.out.c1
      have H6 := Lib.hid (show GB wr (p3 + 1) _ _ from (HS.out.gr.block _ (cellLt (cell_of_row _ _ 0 _ _ _ HC63.out))).trans HC63.out)
      go_wp2_with (refine wpl_storeG rfl rfl rfl rfl rfl HS.out.own.one H6.out ?_)
      have hlt6 := cellLt (cell_of_row _ _ 0 _ _ _ HC63.out)
      have hx := HXe.out
      subst hx
      obtain ⟨a', cap', hu, -, hc1', hc2'⟩ := HS.out.own.shape
      have ho := HS.out.own.row (g := p3 + 1) (by have := HQ.out; omega) #[.int .i64 x, v]
      refine bodyPost_ret (v := .tuple #[.agg #[.int .i64 x, v], .int .i64 0]) ?_ rfl ⟨⟨_, rfl, ?_⟩, ?_⟩
      · rw [results_cell_tmp rfl]
        simp [asAddr, Result.andThen]
        rw [run_loadG (H6.out.row _ _)]
      · obtain ⟨a2, cap2, hu2, hr2, hc3, hc4⟩ := ho.shape
        exact ⟨a2, cap2, by rw [hu2], hr2, hc3, hc4⟩
      · exact (HG3.out.trans HS.out.gr).row (by have := HP3.out; omega) _
set_option maxRecDepth 100000 in
set_option maxHeartbeats 2000000 in
theorem r14_Every {v : Value} (g : Gp) (s f : Nat) (w : World) (hv : GpV w v g) (hg : gpR g = 0) (hs : 1 ≤ s) (hs2 : s ≤ 256) (hf : f ≤ 256) :
    Calls Try.prog 34 #[v, .int .i64 (s : Int), .int .i64 (f : Int)] w fun e w' => (∃ u, e = .returned (.tuple #[u, .int .i64 0]) ∧ GpV w' u (g.1, evR g.2 s f)) ∧ Gr w w' := by
  obtain ⟨i0, hi, hz0, hz1, hz2⟩ := info_parts Try.infoI
  have HCK := Lib.hid (fun (W : World) (hW : Gr w W) => r14_Check g W (hv.gr hW))
  rw [hg] at HCK
  obtain ⟨a, cap, rfl, ra, la, ma⟩ := hv
  unfold maxLen at ma
  have hl256 := (gpR_zero.1 hg).2.1
  obtain ⟨x, l⟩ := g
  simp only at ra la hl256 HCK ⊢
  clear hg
  obtain ⟨n, hn⟩ : ∃ n, n = l.length := ⟨_, rfl⟩
  have HN := Lib.hid hn
  rw [← hn] at la hl256 HCK ⊢
  clear hn
  obtain ⟨E, hE⟩ : ∃ E, evR l s f = E := ⟨_, rfl⟩
  rw [hE]
  have HE := Lib.hid hE
  clear hE
  obtain ⟨w1, hw1⟩ : ∃ w1, w1 = w.alloc (.cells #[.int .i64 x, .slice a n cap] 25) := ⟨_, rfl⟩
  obtain ⟨w2, hw2⟩ : ∃ w2, w2 = w1.alloc (.cells #[.int .i64 0, .slice none 0 0] 25) := ⟨_, rfl⟩
  have hG1 : Gr w w1 := by rw [hw1]; exact (Gr.refl w).alloc _
  have hG2 : Gr w1 w2 := by rw [hw2]; exact (Gr.refl w1).alloc _
  have hB := show w1.cell? ⟨w.heap.size, 0, none⟩ = some (.int .i64 x) ∧ w1.cell? ⟨w.heap.size, 1, none⟩ = some (.slice a n cap) by rw [hw1]; exact box2 _ _ _ _
  have HC6 := Lib.hid (show w2.heap[w.heap.size + 1]? = some (.cells #[.int .i64 0, .slice none 0 0] 25 (0, 0)) by rw [hw2, show w.heap.size + 1 = w1.heap.size by rw [hw1, World.size_alloc]]; exact heap_alloc_last w1 _)
  have HS1 := Lib.hid (show w.heap.size + 1 = w1.heap.size by rw [hw1, World.size_alloc])
  have HCK2 := Lib.hid (HCK.out w2 (hG1.trans hG2))
  have HR := Lib.hid (ra.gr (hG1.trans hG2))
  have HG := Lib.hid (hG1.trans hG2)
  have HG1 := Lib.hid hG1
  have hb0 := gr_cell hG2 hB.1
  have hb1 := gr_cell hG2 hB.2
  clear ra hG1 hG2 hB HCK
  obtain ⟨p3, hp3⟩ : ∃ p3, p3 = w.heap.size := ⟨_, rfl⟩
  rw [← hp3] at hb0 hb1 HC6 HS1
  go_enter Try.func34, Try.ntmps34
  go_wp2_with fail
  rw [← hw1, ← hw2]
  clear hw1 hw2
  refine HCK2.out.mono ?_; rintro e w3 ⟨rfl, hg3⟩
  have HG3 := Lib.hid (HG.out.trans hg3)
  have HG23 := Lib.hid hg3
  have hb0 := gr_cell hg3 hb0
  have hb1 := gr_cell hg3 hb1
  have HR3 := Lib.hid (HR.out.gr hg3)
  have HC63 := Lib.hid ((hg3.block _ (cellLt (cell_of_row _ _ 0 _ _ _ HC6.out))).trans HC6.out)
  clear hg3 HR HG HCK2 HC6
  rw [← hp3]
  have HP3 := Lib.hid hp3
  clear hp3
  obtain ⟨q, hq⟩ : ∃ q, q = w3.heap.size := ⟨_, rfl⟩
  obtain ⟨w4, hw4⟩ : ∃ w4, w4 = w3.alloc (.cells #[.int .i64 x, .slice none 0 0] 25) := ⟨_, rfl⟩
  have HS4 := Lib.hid (show SA w3 w4 q x (.slice none 0 0) (.slice none 0 0) [] by
    rw [hw4, hq]
    exact ⟨heap_alloc_last w3 _, OwnI.nil _ _, (Gr.refl _).alloc _, Nat.le_refl _⟩)
  go_wp2_with fail
  rw [← hw4, ← hq]
  have HQ := Lib.hid hq
  clear hw4 hq
  go_loopw [10] (fun i wr => ∃ (j : Nat) (v : Value) (xs : List Int), i = .int .i64 j ∧ j ≤ 512 ∧ Hid (SA w3 wr q x v v xs) ∧ Hid (xs ++ evR l s j = E)) (fun i _ => 512 - (intOf i).toNat)
  case atStart => exact ⟨f, _, [], rfl, by omega, HS4, HE⟩
  case round =>
    obtain ⟨j, v, xs, rfl, hj, HS, HX⟩ := hrel
    have hb0r := gr_cell HS.out.gr hb0
    have hb1r := gr_cell HS.out.gr hb1
    by_cases hlt : j < n
    · have hjl : j < l.length := by rw [← HN.out]; exact hlt
      obtain ⟨b, o, rfl, hc⟩ := HR3.out j hjl
      have HX2 := Lib.hid (show xs ++ (l[j] :: evR l s (j + s)) = E by rw [← evR_step (by omega) hjl]; exact HX.out)
      have hxl : xs.length ≤ 300 := by
        have h1 := congrArg List.length HX.out
        have h2 := congrArg List.length HE.out
        have h3 := evR_len l s (by omega) f
        rw [List.length_append] at h1
        have := HN.out
        omega
      generalize l[j] = c at *
      go_wp2_with fail
      clear HX hb0r hb1r
      have hS0 : (fun w' : World => Gr w3 w') wr.drew := HS.out.gr.drew
      have HD := Lib.hid (HS.out.gr' ((Gr.refl _).drew))
      clear HS
      refine wp_region_held (S := fun w' : World => Gr w3 w') (by kernel_rfl) ?_
      change wpAnyH _ _ _ _ _ _ _ _ wr.drew
      refine wpAnyH_take (i := 0) (v := .pointer (some ⟨q, 1, none⟩)) rfl (by kernel_rfl) (by kernel_rfl) (by kernel_rfl) (fun _ _ _ h => h) (Or.inl ⟨by rfl, ?_⟩) hS0 ?_
      · intro w hSw; go_simp
      try simp only [Act.put, List.getElem_toArray, List.getElem_cons_succ, List.getElem_cons_zero, List.setIfInBounds_toArray, List.set_cons_zero, List.set_cons_succ]
      refine wpAnyH_take (i := 2) (v := .pointer (some ⟨p3, 1, none⟩)) rfl (by kernel_rfl) (by kernel_rfl) (by kernel_rfl) (fun _ _ _ h => h) (Or.inl ⟨by rfl, ?_⟩) hS0 ?_
      · intro w hSw; go_simp
      try simp only [Act.put, List.getElem_toArray, List.getElem_cons_succ, List.getElem_cons_zero, List.setIfInBounds_toArray, List.set_cons_zero, List.set_cons_succ]
      refine wpAnyH_take (i := 3) (v := .slice (some ⟨b, o, none⟩) n cap) rfl (by kernel_rfl) (by kernel_rfl) (by kernel_rfl) (fun _ _ _ h => h) (Or.inl ⟨by rfl, ?_⟩) hS0 ?_
      · intro w hSw; have s1 := gr_cell hSw hb1; go_simp
      try simp only [Act.put, List.getElem_toArray, List.getElem_cons_succ, List.getElem_cons_zero, List.setIfInBounds_toArray, List.set_cons_zero, List.set_cons_succ]
      refine wpAnyH_take (i := 4) (v := .int .i64 j) rfl (by kernel_rfl) (by kernel_rfl) (by kernel_rfl) (fun _ _ _ h => h) (Or.inl ⟨by rfl, ?_⟩) hS0 ?_
      · intro w hSw; go_simp
      try simp only [Act.put, List.getElem_toArray, List.getElem_cons_succ, List.getElem_cons_zero, List.setIfInBounds_toArray, List.set_cons_zero, List.set_cons_succ]
      refine wpAnyH_take (i := 5) (v := .pointer (some ⟨b, o + j, none⟩)) rfl (by kernel_rfl) (by kernel_rfl) (by kernel_rfl) (fun _ _ _ h => h) (Or.inl ⟨by rfl, ?_⟩) hS0 ?_
      · intro w hSw; go_simp
      try simp only [Act.put, List.getElem_toArray, List.getElem_cons_succ, List.getElem_cons_zero, List.setIfInBounds_toArray, List.set_cons_zero, List.set_cons_succ]
      refine wpAnyH_take (i := 6) (v := .int .i64 c) rfl (by kernel_rfl) (by kernel_rfl) (by kernel_rfl) (fun _ _ _ h => h) (Or.inl ⟨by rfl, ?_⟩) hS0 ?_
      · intro w hSw; have s1 := gr_cell hSw hc; go_simp
      try simp only [Act.put, List.getElem_toArray, List.getElem_cons_succ, List.getElem_cons_zero, List.setIfInBounds_toArray, List.set_cons_zero, List.set_cons_succ]
      refine wpAnyH_ready (rs := [1, 7]) (by kernel_rfl) (by simp) (AllReadyH.cons rfl (fun K' hK' => ?_) (AllReadyH.cons rfl (fun K' hK' => ?_) AllReadyH.nil))
      · have s1 := HD.out.c1
        go_simp
        refine hK'.out _ _ HD.out.gr (fun hSa => ?_)
        clear hK' K' s1
        try simp only [Act.put, List.getElem_toArray, List.getElem_cons_succ, List.getElem_cons_zero, List.setIfInBounds_toArray, List.set_cons_zero, List.set_cons_succ]
        refine wpAnyH_ready (rs := [7]) (by kernel_rfl) (by simp) (AllReadyH.cons rfl (fun K' hK' => ?_) AllReadyH.nil)
        go_simp
        have HD2 := Lib.hid (HD.out.gr' ((Gr.refl _).alloc (.cells #[.int .i64 c] 3)))
        refine hK'.out _ _ HD2.out.gr (fun hSb => ?_)
        clear hK' K'
        try simp only [Act.put, List.getElem_toArray, List.getElem_cons_succ, List.getElem_cons_zero, List.setIfInBounds_toArray, List.set_cons_zero, List.set_cons_succ]
        try simp only [Act.put, List.getElem_toArray, List.getElem_cons_succ, List.getElem_cons_zero, List.setIfInBounds_toArray, List.set_cons_zero, List.set_cons_succ]
        refine wpAnyH_ready (rs := [8]) (by kernel_rfl) (by simp) (AllReadyH.cons rfl (fun K' hK' => ?_) AllReadyH.nil)
        rw [if_pos (by rfl)]
        refine push_w hi hz0 hz1 hz2 _ _ rfl v xs rfl HD.out.own HD.out.lt c wr.heap.size rfl rfl (by omega) ?_
        intro v5 w5 ho5 hb5
        obtain ⟨a5, cap5, hv5, -⟩ := ho5.shape
        generalize (xs ++ [c]).length = m5 at hv5
        subst hv5
        have HD3 := Lib.hid (HD.out.push ho5 hb5)
        clear ho5 hb5
        refine hK'.out _ _ HD3.out.gr (fun hSc => ?_)
        clear hK' K'
        try simp only [Act.put, List.getElem_toArray, List.getElem_cons_succ, List.getElem_cons_zero, List.setIfInBounds_toArray, List.set_cons_zero, List.set_cons_succ]
        refine wpAnyH_take (i := 9) (v := .pointer (some ⟨q, 1, none⟩)) rfl (by kernel_rfl) (by kernel_rfl) (by kernel_rfl) (fun _ _ _ h => h) (Or.inl ⟨by rfl, ?_⟩) hSc ?_
        · intro w hSw; go_simp
        try simp only [Act.put, List.getElem_toArray, List.getElem_cons_succ, List.getElem_cons_zero, List.setIfInBounds_toArray, List.set_cons_zero, List.set_cons_succ]
        refine wpAnyH_ready (rs := [10]) (by kernel_rfl) (by simp) (AllReadyH.cons rfl (fun K' hK' => ?_) AllReadyH.nil)
        have s2 := HD3.out.c1
        have s3 := HD3.out.frz
        go_simp
        have HD4 := Lib.hid HD3.out.set
        refine hK'.out _ _ HD4.out.gr (fun hSd => wpAnyH_done (by kernel_rfl) ?_ _)
        clear hK' K' s2 s3
        go_wp2
        go_roundw
        case rel => exact ⟨j + s, _, xs ++ [c], by go_num, by omega, HD4, Lib.hid (by rw [List.append_assoc]; exact HX2.out)⟩
        case measure => simp [intOf]; omega
      · go_simp
        have HD2 := Lib.hid (HD.out.gr' ((Gr.refl _).alloc (.cells #[.int .i64 c] 3)))
        refine hK'.out _ _ HD2.out.gr (fun hSb => ?_)
        clear hK' K'
        try simp only [Act.put, List.getElem_toArray, List.getElem_cons_succ, List.getElem_cons_zero, List.setIfInBounds_toArray, List.set_cons_zero, List.set_cons_succ]
        refine wpAnyH_ready (rs := [1]) (by kernel_rfl) (by simp) (AllReadyH.cons rfl (fun K' hK' => ?_) AllReadyH.nil)
        have s1 := HD.out.c1; have s2 := HD2.out.c1; have s4 := HD.out.lt; have s5 : (wr.alloc (.cells #[.int .i64 c] 3)).cell? ⟨q, 1, none⟩ = some v := HD2.out.c1
        go_simp
        refine hK'.out _ _ HD2.out.gr (fun hSb2 => ?_)
        clear hK' K' s1 s2 s4 s5
        try simp only [Act.put, List.getElem_toArray, List.getElem_cons_succ, List.getElem_cons_zero, List.setIfInBounds_toArray, List.set_cons_zero, List.set_cons_succ]
        try simp only [Act.put, List.getElem_toArray, List.getElem_cons_succ, List.getElem_cons_zero, List.setIfInBounds_toArray, List.set_cons_zero, List.set_cons_succ]
        refine wpAnyH_ready (rs := [8]) (by kernel_rfl) (by simp) (AllReadyH.cons rfl (fun K' hK' => ?_) AllReadyH.nil)
        rw [if_pos (by rfl)]
        refine push_w hi hz0 hz1 hz2 _ _ rfl v xs rfl HD.out.own HD.out.lt c wr.heap.size rfl rfl (by omega) ?_
        intro v5 w5 ho5 hb5
        obtain ⟨a5, cap5, hv5, -⟩ := ho5.shape
        generalize (xs ++ [c]).length = m5 at hv5
        subst hv5
        have HD3 := Lib.hid (HD.out.push ho5 hb5)
        clear ho5 hb5
        refine hK'.out _ _ HD3.out.gr (fun hSc => ?_)
        clear hK' K'
        try simp only [Act.put, List.getElem_toArray, List.getElem_cons_succ, List.getElem_cons_zero, List.setIfInBounds_toArray, List.set_cons_zero, List.set_cons_succ]
        refine wpAnyH_take (i := 9) (v := .pointer (some ⟨q, 1, none⟩)) rfl (by kernel_rfl) (by kernel_rfl) (by kernel_rfl) (fun _ _ _ h => h) (Or.inl ⟨by rfl, ?_⟩) hSc ?_
        · intro w hSw; go_simp
        try simp only [Act.put, List.getElem_toArray, List.getElem_cons_succ, List.getElem_cons_zero, List.setIfInBounds_toArray, List.set_cons_zero, List.set_cons_succ]
        refine wpAnyH_ready (rs := [10]) (by kernel_rfl) (by simp) (AllReadyH.cons rfl (fun K' hK' => ?_) AllReadyH.nil)
        have s2 := HD3.out.c1
        have s3 := HD3.out.frz
        go_simp
        have HD4 := Lib.hid HD3.out.set
        refine hK'.out _ _ HD4.out.gr (fun hSd => wpAnyH_done (by kernel_rfl) ?_ _)
        clear hK' K' s2 s3
        go_wp2
        go_roundw
        case rel => exact ⟨j + s, _, xs ++ [c], by go_num, by omega, HD4, Lib.hid (by rw [List.append_assoc]; exact HX2.out)⟩
        case measure => simp [intOf]; omega
    · have HXe := Lib.hid (show xs = E by have := HX.out; rwa [evR_end (by rw [← HN.out]; exact hlt), List.append_nil] at this)
      have hc0 := HS.out.c0
      have hc1 := HS.out.c1
      have H6 := Lib.hid (show GB wr (p3 + 1) _ _ from (HS.out.gr.block _ (cellLt (cell_of_row _ _ 0 _ _ _ HC63.out))).trans HC63.out)
      go_wp2_with (refine wpl_storeG rfl rfl rfl rfl rfl HS.out.own.one H6.out ?_)
      have hlt6 := cellLt (cell_of_row _ _ 0 _ _ _ HC63.out)
      have hx := HXe.out
      subst hx
      obtain ⟨a', cap', hu, -, hc1', hc2'⟩ := HS.out.own.shape
      have ho := HS.out.own.row (g := p3 + 1) (by have := HQ.out; omega) #[.int .i64 x, v]
      refine bodyPost_ret (v := .tuple #[.agg #[.int .i64 x, v], .int .i64 0]) ?_ rfl ⟨⟨_, rfl, ?_⟩, ?_⟩
      · rw [results_cell_tmp rfl]
        simp [asAddr, Result.andThen]
        rw [run_loadG (H6.out.row _ _)]
      · obtain ⟨a2, cap2, hu2, hr2, hc3, hc4⟩ := ho.shape
        exact ⟨a2, cap2, by rw [hu2], hr2, hc3, hc4⟩
      · exact (HG3.out.trans HS.out.gr).row (by have := HP3.out; omega) _
set_option maxRecDepth 100000 in
set_option maxHeartbeats 2000000 in
theorem gp_Every_err {v : Value} (g : Gp) (s f : Int) (w : World) (hv : GpV w v g) (hg : ¬ gpR g = 0) :
    Calls Try.prog 33 #[v, .int .i64 s, .int .i64 f] w fun e w' => e = .returned (.tuple #[.agg #[.int .i64 0, .slice none 0 0], .int .i64 (gpR g)]) ∧ Gr w w' := by
  have HCK := Lib.hid (fun (W : World) (hW : Gr w W) => gp_Check g W (hv.gr hW))
  have hz : (gpR g == 0) = false := by simp [hg]
  generalize gpR g = E at *
  obtain ⟨a, cap, rfl, ra, la, ma⟩ := hv
  obtain ⟨x, l⟩ := g
  simp only at ra la HCK ⊢
  clear hg ra la
  generalize l.length = n at *
  obtain ⟨w1, hw1⟩ : ∃ w1, w1 = w.alloc (.cells #[.int .i64 x, .slice a n cap] 25) := ⟨_, rfl⟩
  obtain ⟨w2, hw2⟩ : ∃ w2, w2 = w1.alloc (.cells #[.int .i64 0, .slice none 0 0] 25) := ⟨_, rfl⟩
  have hG1 : Gr w w1 := by rw [hw1]; exact (Gr.refl w).alloc _
  have hG2 : Gr w1 w2 := by rw [hw2]; exact (Gr.refl w1).alloc _
  have H6 := Lib.hid (show GB w2 (w.heap.size + 1) (.int .i64 0) (.slice none 0 0) by rw [hw2, show w.heap.size + 1 = w1.heap.size by rw [hw1, World.size_alloc]]; exact heap_alloc_last w1 _)
  have HCK2 := Lib.hid (HCK.out w2 (hG1.trans hG2))
  have HG := Lib.hid (hG1.trans hG2)
  clear HCK
  go_enter Try.func33, Try.ntmps33
  go_wp2_with fail
  rw [← hw1, ← hw2]
  clear hw1 hw2 hG1 hG2
  refine HCK2.out.mono ?_; rintro e w3 ⟨rfl, hg3⟩
  have HG3 := Lib.hid (HG.out.trans hg3)
  have H63 := Lib.hid (show GB w3 _ _ _ from (hg3.block _ (cellLt (cell_of_row _ _ 0 _ _ _ H6.out))).trans H6.out)
  clear hg3 HCK2 H6 HG
  go_wp2_with (refine wpl_storeG rfl rfl rfl rfl rfl rfl H63.out ?_)
  refine bodyPost_ret (v := .tuple #[.agg #[.int .i64 0, .slice none 0 0], .int .i64 E]) ?_ rfl ⟨rfl, HG3.out.row (by omega) _⟩
  rw [results_cell_tmp rfl]
  simp [asAddr, Result.andThen]
  rw [run_loadG (H63.out.row _ _)]
set_option maxRecDepth 100000 in
set_option maxHeartbeats 2000000 in
theorem gp_Every_rng {v : Value} (g : Gp) (s f : Int) (w : World) (hv : GpV w v g) (hg : gpR g = 0) (hsf : ¬ ((1 ≤ s ∧ s ≤ 256) ∧ (0 ≤ f ∧ f ≤ 256))) :
    Calls Try.prog 33 #[v, .int .i64 s, .int .i64 f] w fun e w' => e = .returned (.tuple #[.agg #[.int .i64 0, .slice none 0 0], .int .i64 2]) ∧ Gr w w' := by
  have HCK := Lib.hid (fun (W : World) (hW : Gr w W) => gp_Check g W (hv.gr hW))
  rw [hg] at HCK
  obtain ⟨a, cap, rfl, ra, la, ma⟩ := hv
  obtain ⟨x, l⟩ := g
  simp only at ra la HCK ⊢
  clear hg ra la
  generalize l.length = n at *
  obtain ⟨w1, hw1⟩ : ∃ w1, w1 = w.alloc (.cells #[.int .i64 x, .slice a n cap] 25) := ⟨_, rfl⟩
  obtain ⟨w2, hw2⟩ : ∃ w2, w2 = w1.alloc (.cells #[.int .i64 0, .slice none 0 0] 25) := ⟨_, rfl⟩
  have hG1 : Gr w w1 := by rw [hw1]; exact (Gr.refl w).alloc _
  have hG2 : Gr w1 w2 := by rw [hw2]; exact (Gr.refl w1).alloc _
  have H6 := Lib.hid (show GB w2 (w.heap.size + 1) (.int .i64 0) (.slice none 0 0) by rw [hw2, show w.heap.size + 1 = w1.heap.size by rw [hw1, World.size_alloc]]; exact heap_alloc_last w1 _)
  have HCK2 := Lib.hid (HCK.out w2 (hG1.trans hG2))
  have HG := Lib.hid (hG1.trans hG2)
  clear HCK
  by_cases h1 : 1 ≤ s ∧ s ≤ 256
  · have h2 : ¬ (0 ≤ f ∧ f ≤ 256) := fun h2 => hsf ⟨h1, h2⟩
    have I1 := Lib.hid (fun w => in_yes h1 w)
    have I2 := Lib.hid (fun w => in_no h2 w)
    clear h1 h2 hsf
    go_enter Try.func33, Try.ntmps33
    go_wp2_with fail
    rw [← hw1, ← hw2]
    clear hw1 hw2 hG1 hG2
    refine HCK2.out.mono ?_; rintro e w3 ⟨rfl, hg3⟩
    have HG3 := Lib.hid (HG.out.trans hg3)
    have H63 := Lib.hid (show GB w3 _ _ _ from (hg3.block _ (cellLt (cell_of_row _ _ 0 _ _ _ H6.out))).trans H6.out)
    clear hg3 HCK2 H6 HG
    go_wp2_with fail
    refine (I1.out _).mono ?_; rintro e w' ⟨rfl, rfl⟩
    go_wp2_with fail
    refine (I2.out _).mono ?_; rintro e w' ⟨rfl, rfl⟩
    go_wp2_with (refine wpl_storeG rfl rfl rfl rfl rfl rfl H63.out ?_)
    refine bodyPost_ret (v := .tuple #[.agg #[.int .i64 0, .slice none 0 0], .int .i64 2]) ?_ rfl ⟨rfl, HG3.out.row (by omega) _⟩
    rw [results_cell_tmp rfl]
    simp [asAddr, Result.andThen]
    rw [run_loadG (H63.out.row _ _)]
  · have I1 := Lib.hid (fun w => in_no h1 w)
    clear h1 hsf
    go_enter Try.func33, Try.ntmps33
    go_wp2_with fail
    rw [← hw1, ← hw2]
    clear hw1 hw2 hG1 hG2
    refine HCK2.out.mono ?_; rintro e w3 ⟨rfl, hg3⟩
    have HG3 := Lib.hid (HG.out.trans hg3)
    have H63 := Lib.hid (show GB w3 _ _ _ from (hg3.block _ (cellLt (cell_of_row _ _ 0 _ _ _ H6.out))).trans H6.out)
    clear hg3 HCK2 H6 HG
    go_wp2_with fail
    refine (I1.out _).mono ?_; rintro e w' ⟨rfl, rfl⟩
    go_wp2_with (refine wpl_storeG rfl rfl rfl rfl rfl rfl H63.out ?_)
    refine bodyPost_ret (v := .tuple #[.agg #[.int .i64 0, .slice none 0 0], .int .i64 2]) ?_ rfl ⟨rfl, HG3.out.row (by omega) _⟩
    rw [results_cell_tmp rfl]
    simp [asAddr, Result.andThen]
    rw [run_loadG (H63.out.row _ _)]
set_option maxRecDepth 100000 in
set_option maxHeartbeats 2000000 in
theorem r14_Every_err {v : Value} (g : Gp) (s f : Int) (w : World) (hv : GpV w v g) (hg : ¬ gpR g = 0) :
    Calls Try.prog 34 #[v, .int .i64 s, .int .i64 f] w fun e w' => e = .returned (.tuple #[.agg #[.int .i64 0, .slice none 0 0], .int .i64 (gpR g)]) ∧ Gr w w' := by
  have HCK := Lib.hid (fun (W : World) (hW : Gr w W) => r14_Check g W (hv.gr hW))
  have hz : (gpR g == 0) = false := by simp [hg]
  generalize gpR g = E at *
  obtain ⟨a, cap, rfl, ra, la, ma⟩ := hv
  obtain ⟨x, l⟩ := g
  simp only at ra la HCK ⊢
  clear hg ra la
  generalize l.length = n at *
  obtain ⟨w1, hw1⟩ : ∃ w1, w1 = w.alloc (.cells #[.int .i64 x, .slice a n cap] 25) := ⟨_, rfl⟩
  obtain ⟨w2, hw2⟩ : ∃ w2, w2 = w1.alloc (.cells #[.int .i64 0, .slice none 0 0] 25) := ⟨_, rfl⟩
  have hG1 : Gr w w1 := by rw [hw1]; exact (Gr.refl w).alloc _
  have hG2 : Gr w1 w2 := by rw [hw2]; exact (Gr.refl w1).alloc _
  have H6 := Lib.hid (show GB w2 (w.heap.size + 1) (.int .i64 0) (.slice none 0 0) by rw [hw2, show w.heap.size + 1 = w1.heap.size by rw [hw1, World.size_alloc]]; exact heap_alloc_last w1 _)
  have HCK2 := Lib.hid (HCK.out w2 (hG1.trans hG2))
  have HG := Lib.hid (hG1.trans hG2)
  clear HCK
  go_enter Try.func34, Try.ntmps34
  go_wp2_with fail
  rw [← hw1, ← hw2]
  clear hw1 hw2 hG1 hG2
  refine HCK2.out.mono ?_; rintro e w3 ⟨rfl, hg3⟩
  have HG3 := Lib.hid (HG.out.trans hg3)
  have H63 := Lib.hid (show GB w3 _ _ _ from (hg3.block _ (cellLt (cell_of_row _ _ 0 _ _ _ H6.out))).trans H6.out)
  clear hg3 HCK2 H6 HG
  go_wp2_with (refine wpl_storeG rfl rfl rfl rfl rfl rfl H63.out ?_)
  refine bodyPost_ret (v := .tuple #[.agg #[.int .i64 0, .slice none 0 0], .int .i64 E]) ?_ rfl ⟨rfl, HG3.out.row (by omega) _⟩
  rw [results_cell_tmp rfl]
  simp [asAddr, Result.andThen]
  rw [run_loadG (H63.out.row _ _)]
set_option maxRecDepth 100000 in
set_option maxHeartbeats 2000000 in
theorem r14_Every_rng {v : Value} (g : Gp) (s f : Int) (w : World) (hv : GpV w v g) (hg : gpR g = 0) (hsf : ¬ ((1 ≤ s ∧ s ≤ 256) ∧ (0 ≤ f ∧ f ≤ 256))) :
    Calls Try.prog 34 #[v, .int .i64 s, .int .i64 f] w fun e w' => e = .returned (.tuple #[.agg #[.int .i64 0, .slice none 0 0], .int .i64 2]) ∧ Gr w w' := by
  have HCK := Lib.hid (fun (W : World) (hW : Gr w W) => r14_Check g W (hv.gr hW))
  rw [hg] at HCK
  obtain ⟨a, cap, rfl, ra, la, ma⟩ := hv
  obtain ⟨x, l⟩ := g
  simp only at ra la HCK ⊢
  clear hg ra la
  generalize l.length = n at *
  obtain ⟨w1, hw1⟩ : ∃ w1, w1 = w.alloc (.cells #[.int .i64 x, .slice a n cap] 25) := ⟨_, rfl⟩
  obtain ⟨w2, hw2⟩ : ∃ w2, w2 = w1.alloc (.cells #[.int .i64 0, .slice none 0 0] 25) := ⟨_, rfl⟩
  have hG1 : Gr w w1 := by rw [hw1]; exact (Gr.refl w).alloc _
  have hG2 : Gr w1 w2 := by rw [hw2]; exact (Gr.refl w1).alloc _
  have H6 := Lib.hid (show GB w2 (w.heap.size + 1) (.int .i64 0) (.slice none 0 0) by rw [hw2, show w.heap.size + 1 = w1.heap.size by rw [hw1, World.size_alloc]]; exact heap_alloc_last w1 _)
  have HCK2 := Lib.hid (HCK.out w2 (hG1.trans hG2))
  have HG := Lib.hid (hG1.trans hG2)
  clear HCK
  have hor : s < 1 ∨ (¬ s < 1 ∧ 256 < s) ∨ (¬ s < 1 ∧ ¬ 256 < s ∧ f < 0) ∨ (¬ s < 1 ∧ ¬ 256 < s ∧ ¬ f < 0 ∧ 256 < f) := by omega
  clear hsf
  rcases hor with h1 | ⟨h1, h2⟩ | ⟨h1, h2, h3⟩ | ⟨h1, h2, h3, h4⟩
  all_goals
    go_enter Try.func34, Try.ntmps34
    go_wp2_with fail
    rw [← hw1, ← hw2]
    clear hw1 hw2 hG1 hG2
    refine HCK2.out.mono ?_; rintro e w3 ⟨rfl, hg3⟩
    have HG3 := Lib.hid (HG.out.trans hg3)
    have H63 := Lib.hid (show GB w3 _ _ _ from (hg3.block _ (cellLt (cell_of_row _ _ 0 _ _ _ H6.out))).trans H6.out)
    clear hg3 HCK2 H6 HG
    go_wp2_with (refine wpl_storeG rfl rfl rfl rfl rfl rfl H63.out ?_)
    refine bodyPost_ret (v := .tuple #[.agg #[.int .i64 0, .slice none 0 0], .int .i64 2]) ?_ rfl ⟨rfl, HG3.out.row (by omega) _⟩
    rw [results_cell_tmp rfl]
    simp [asAddr, Result.andThen]
    rw [run_loadG (H63.out.row _ _)]
end Go.Proofs.Ytmcngnnbfmjajaa
