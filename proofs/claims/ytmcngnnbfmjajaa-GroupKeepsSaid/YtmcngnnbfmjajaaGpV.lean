/- Law 14: own tables; slices.Grow and Concat of groups; copyOfAll. -/
import Derived.Test.YtmcngnnbfmjajaaGpU
import Derived.Test.YtmcngnnbfmjajaaGpQ
import Derived.Lib.AppendZerosOnto
import Derived.Laws.AppendOwnNone
set_option linter.unusedVariables false
set_option linter.unusedSimpArgs false
namespace Go.Proofs.Ytmcngnnbfmjajaa
open Go.RowKit
open Z
/-- a group in memory: its number, where its channels lie, how many, their room -/
abbrev GV := Int × Option Addr × Nat × Nat
def gsl (m : GV) : Value := .slice m.2.1 m.2.2.1 m.2.2.2
def gvv (M : List GV) : List Value := M.flatMap fun m => [.int .i64 m.1, gsl m]
theorem gvv_app (M K : List GV) : gvv (M ++ K) = gvv M ++ gvv K := by simp [gvv]
theorem gvv_len (M : List GV) : (gvv M).length = M.length * 2 := by
  induction M with
  | nil => rfl
  | cons a r ih => simp only [gvv, List.flatMap_cons, List.length_append, List.length_cons, List.length_nil] at *; omega
theorem gvv_get : ∀ (M : List GV) (k : Nat) (h : k < M.length), (gvv M)[k * 2]? = some (.int .i64 M[k].1) ∧ (gvv M)[k * 2 + 1]? = some (gsl M[k])
  | [], _, h => absurd h (by simp)
  | g :: M, 0, _ => ⟨rfl, rfl⟩
  | g :: M, k + 1, h => by
    have ih := gvv_get M k (by simpa using h)
    have e : ∀ j, (gvv (g :: M))[(k + 1) * 2 + j]? = (gvv M)[k * 2 + j]? := fun j => by
      show ([Value.int .i64 g.1, gsl g] ++ gvv M)[(k + 1) * 2 + j]? = _
      rw [List.getElem?_append_right (by simp; omega)]
      congr 1; simp; omega
    refine ⟨?_, ?_⟩
    · have := e 0
      simpa using this.trans ih.1
    · rw [e 1]; simpa using ih.2
theorem gvv_one {M : List GV} : ∀ u ∈ gvv M, u.oneCell' = true := fun u hu => by
  obtain ⟨m, -, hm⟩ := List.mem_flatMap.1 hu
  simp only [List.mem_cons, List.not_mem_nil, or_false] at hm
  rcases hm with rfl | rfl <;> rfl
def RdGV (w : World) (a : Option Addr) (M : List GV) : Prop := ∀ k (h : k < M.length), ∃ b o, a = some ⟨b, o, none⟩ ∧ w.cell? ⟨b, o + k * 2, none⟩ = some (.int .i64 M[k].1) ∧ w.cell? ⟨b, o + k * 2 + 1, none⟩ = some (gsl M[k])
theorem RdGV.gr {w w' : World} {a : Option Addr} {M : List GV} (h : RdGV w a M) (hg : Gr w w') : RdGV w' a M := fun k hk => by
  obtain ⟨b, o, h1, h2, h3⟩ := h k hk
  exact ⟨b, o, h1, gr_cell hg h2, gr_cell hg h3⟩
def ChAt (w : World) (m : GV) (g : Gp) : Prop := m.1 = g.1 ∧ m.2.2.1 = g.2.length ∧ RdI w m.2.1 g.2 ∧ g.2.length ≤ m.2.2.2 ∧ m.2.2.2 ≤ maxLen
def ChL (w : World) (M : List GV) (l : List Gp) : Prop := M.length = l.length ∧ ∀ k (h : k < M.length) (h' : k < l.length), ChAt w M[k] l[k]
theorem ChAt.gr {w w' : World} {m : GV} {g : Gp} (h : ChAt w m g) (hg : Gr w w') : ChAt w' m g := ⟨h.1, h.2.1, h.2.2.1.gr hg, h.2.2.2⟩
theorem ChL.gr {w w' : World} {M : List GV} {l : List Gp} (h : ChL w M l) (hg : Gr w w') : ChL w' M l := ⟨h.1, fun k h1 h2 => (h.2 k h1 h2).gr hg⟩
theorem ChL.nil (w : World) : ChL w [] [] := ⟨rfl, fun k h => absurd h (by simp)⟩
theorem ChL.take {w : World} {M : List GV} {l : List Gp} (h : ChL w M l) (n : Nat) : ChL w (M.take n) (l.take n) := ⟨by rw [List.length_take, List.length_take, h.1], fun k h1 h2 => by
  rw [List.length_take] at h1 h2
  rw [List.getElem_take, List.getElem_take]
  exact h.2 k (by omega) (by omega)⟩
theorem ChL.drop {w : World} {M : List GV} {l : List Gp} (h : ChL w M l) (n : Nat) : ChL w (M.drop n) (l.drop n) := ⟨by rw [List.length_drop, List.length_drop, h.1], fun k h1 h2 => by
  rw [List.length_drop] at h1 h2
  rw [List.getElem_drop, List.getElem_drop]
  exact h.2 (n + k) (by omega) (by omega)⟩
theorem ChL.app {w : World} {M K : List GV} {l r : List Gp} (h : ChL w M l) (h' : ChL w K r) : ChL w (M ++ K) (l ++ r) := ⟨by rw [List.length_append, List.length_append, h.1, h'.1], fun k h1 h2 => by
  rw [List.length_append] at h1 h2
  by_cases hk : k < M.length
  · rw [List.getElem_append_left hk, List.getElem_append_left (by rw [← h.1]; exact hk)]
    exact h.2 k hk (by rw [← h.1]; exact hk)
  · rw [List.getElem_append_right (by omega), List.getElem_append_right (by rw [← h.1]; omega)]
    have e := h.1
    have := h'.2 (k - M.length) (by omega) (by omega)
    simpa [e] using this⟩
theorem ChL.one {w : World} {m : GV} {g : Gp} (h : ChAt w m g) : ChL w [m] [g] := ⟨rfl, fun k h1 h2 => by
  have : k = 0 := by simp at h1; omega
  subst this; exact h⟩
theorem RdG.split {w : World} {a : Option Addr} {l : List Gp} (h : RdG w a l) : ∃ M, RdGV w a M ∧ ChL w M l := by
  have h2 : ∀ k (hk : k < l.length), ∃ m : GV, (∃ b o, a = some ⟨b, o, none⟩ ∧ w.cell? ⟨b, o + k * 2, none⟩ = some (.int .i64 m.1) ∧ w.cell? ⟨b, o + k * 2 + 1, none⟩ = some (gsl m)) ∧ ChAt w m l[k] := fun k hk => by
    obtain ⟨b, o, c, cap, h1, h2, h3, h4, h5, h6⟩ := h k hk
    exact ⟨(l[k].1, c, l[k].2.length, cap), ⟨b, o, h1, h2, h3⟩, rfl, rfl, h4, h5, h6⟩
  let f : Nat → GV := fun k => if hk : k < l.length then Classical.choose (h2 k hk) else (0, none, 0, 0)
  have hf : ∀ k (hk : k < l.length), (∃ b o, a = some ⟨b, o, none⟩ ∧ w.cell? ⟨b, o + k * 2, none⟩ = some (.int .i64 (f k).1) ∧ w.cell? ⟨b, o + k * 2 + 1, none⟩ = some (gsl (f k))) ∧ ChAt w (f k) l[k] := fun k hk => by
    have : f k = Classical.choose (h2 k hk) := dif_pos hk
    rw [this]
    exact Classical.choose_spec (h2 k hk)
  refine ⟨(List.range l.length).map f, fun k hk => ?_, by simp, fun k h1 h3 => ?_⟩
  · have hk2 : k < l.length := by simpa using hk
    simpa using (hf k hk2).1
  · simpa using (hf k h3).2
theorem RdGV.join {w : World} {a : Option Addr} {M : List GV} {l : List Gp} (h : RdGV w a M) (hc : ChL w M l) : RdG w a l := fun k hk => by
  have hk2 : k < M.length := by rw [hc.1]; exact hk
  obtain ⟨b, o, h1, h2, h3⟩ := h k hk2
  obtain ⟨e1, e2, h4, h5, h6⟩ := hc.2 k hk2 hk
  refine ⟨b, o, M[k].2.1, M[k].2.2.2, h1, by rw [← e1]; exact h2, ?_, h4, h5, h6⟩
  rw [h3, gsl, e2]
theorem Try.infoGr : (Try.prog.info? 25).map (fun i => (i.zero, i.size, i.bytes)) = some (some (.agg #[.int .i64 0, .slice none 0 0]), 2, 32) := by kernel_rfl
def OwnV (B : Nat) (w : World) (v : Value) (M : List GV) : Prop := w.ownsRow B 25 2 v M.length (gvv M)
theorem OwnV.gr {B : Nat} {w w' : World} {v : Value} {l : List GV} (h : OwnV B w v l) (hg : Gr w w') : OwnV B w' v l := ownsRow_gr h hg
theorem OwnV.nil (B : Nat) (w : World) : OwnV B w (.slice none 0 0) [] := World.ownsRow_nil _ _ _ _
theorem OwnV.low {B B' : Nat} {w : World} {v : Value} {l : List GV} (h : OwnV B w v l) (hB : B' ≤ B) : OwnV B' w v l := by
  refine ⟨h.1, ?_⟩
  rcases h.2 with h2 | ⟨g, cap, cur, h1, hb, h3⟩
  · exact .inl h2
  · exact .inr ⟨g, cap, cur, h1, Nat.le_trans hB hb, h3⟩
theorem OwnV.shape {B : Nat} {w : World} {v : Value} {l : List GV} (h : OwnV B w v l) : ∃ a cap, v = .slice a l.length cap ∧ RdGV w a l ∧ l.length ≤ cap ∧ cap ≤ maxLen ∧ ((a = none ∧ cap = 0) ∨ ∃ b o, a = some ⟨b, o, none⟩) := by
  rcases id h.2 with ⟨rfl, h0⟩ | ⟨g, cap, cur, rfl, -, -, hn1, hn2, -⟩
  · have : l = [] := List.eq_nil_of_length_eq_zero h0
    subst this
    exact ⟨none, 0, rfl, fun k hk => absurd hk (by simp), by simp, by unfold maxLen; omega, .inl ⟨rfl, rfl⟩⟩
  · refine ⟨_, cap, rfl, fun k hk => ⟨g, 0, rfl, ?_⟩, hn1, hn2, .inr ⟨g, 0, rfl⟩⟩
    obtain ⟨h0, h1⟩ := gvv_get l k hk
    have c : ∀ j u, (gvv l)[j]? = some u → w.cell? ⟨g, 0 + j, none⟩ = some u := fun j u hj => by
      have := World.ownsRow.cells h (g := g) rfl j u hj
      rwa [WideShapes.add_plain] at this
    rw [Nat.zero_add]
    exact ⟨by simpa using c _ _ h0, by simpa [Nat.add_assoc] using c _ _ h1⟩
theorem OwnV.typed {B : Nat} {w : World} {v : Value} {M : List GV} (h : OwnV B w v M) {p : Nat} {cur : Array Value} {fz : Nat × Nat} (hp : w.heap[p]? = some (Obj.cells cur 3 fz)) : v.ownBlock ≠ some p := fun e => by
  rcases id h.2 with ⟨rfl, -⟩ | ⟨g', cap, cur', rfl, -, h3, -⟩
  · cases e
  · simp only [Value.ownBlock, Option.some.injEq] at e
    subst e
    rw [h3] at hp
    simp at hp
/-- append of a whole slice of groups -/
theorem join_g {i : TypeInfo} (hi : Try.prog.info? 25 = some i) (hz0 : i.zero = some (.agg #[.int .i64 0, .slice none 0 0])) (hz1 : i.size = 2) (hz2 : i.bytes = 32)
    {ops : Array Oper} {rest : List Oper} {o : Oper} {a : Act} {Q : Exit → Act → World → Prop} {B : Nat} {w : World} (hgd : o.guard = none) (s x : Operand)
    (ho : o.op = .call { callee := .builtin .append, args := #[s, x], argTypes := #[22, 22] }) (v : Value) (xs : List GV) (hs : a.eval s = v) (hown : OwnV B w v xs) (hB : B ≤ w.heap.size)
    (b : Option Addr) (ys : List GV) (c : Nat) (hx : a.eval x = .slice b ys.length c) (hy : RdGV w b ys) (hc : (b = none ∧ c = 0) ∨ ∃ p q, b = some ⟨p, q, none⟩) (hlen : xs.length + ys.length ≤ 1000000)
    (h : ∀ v' w', Hid (OwnV B w' v' (xs ++ ys)) → Below B w w' → (∀ (p : Nat) (cur : Array Value) (fz : Nat × Nat), w.heap[p]? = some (Obj.cells cur 3 fz) → w'.heap[p]? = w.heap[p]?) → wpList Try.prog ops Q rest (a.put o.dst v') w') :
    wpList Try.prog ops Q (o :: rest) a w := by
  rcases hc with ⟨rfl, rfl⟩ | ⟨p, q, rfl⟩
  · have hys : ys = [] := by
      cases ys with
      | nil => rfl
      | cons y t => obtain ⟨_, _, e, -⟩ := hy 0 (by simp); cases e
    subst hys
    refine wpList_append_own_none hgd s x _ ho B 25 i 2 Try.underlying22 hi v xs.length (gvv xs) hs hown hx (h v w (Lib.hid (by rw [List.append_nil]; exact hown)) (Below.refl _ _) fun _ _ _ _ => rfl)
  · refine wpList_append_own _ hgd s x _ ho B 25 i (.agg #[.int .i64 0, .slice none 0 0]) 2 32 Try.underlying22 hi hz0 hz1 hz2 rfl (by decide) v xs.length (gvv xs) hs hown ⟨p, q, none⟩ ys.length c (gvv ys) hx (gvv_len ys)
      (fun j u hj => ?_) gvv_one (by unfold maxLen; omega) (by omega) hB (fun v' w' hown' hgrow _ => h v' w' ?_ (Below.grown (Below.refl B w) hgrow hB (fun k hk => (World.ownsRow.lt hown k hk).1)) fun r cur fz hr => hgrow.block r (Array.getElem?_eq_some_iff.1 hr).1 (fun e => OwnV.typed hown hr e.symm))
    · rw [WideShapes.add_plain]
      have hjl : j < ys.length * 2 := by
        have := (List.getElem?_eq_some_iff.1 hj).1
        rwa [gvv_len] at this
      obtain ⟨_, _, e, c0, c1⟩ := hy (j / 2) (by omega)
      cases e
      obtain ⟨g0, g1⟩ := gvv_get ys (j / 2) (by omega)
      rcases (show j = j / 2 * 2 ∨ j = j / 2 * 2 + 1 by omega) with h | h
      · rw [h, g0] at hj; cases hj; rw [show q + j = q + j / 2 * 2 by omega]; exact c0
      · rw [h, g1] at hj; cases hj; rw [show q + j = q + j / 2 * 2 + 1 by omega]; exact c1
    · show World.ownsRow _ _ _ _ _ _ _
      rw [gvv_app, List.length_append]; exact hown'
set_option maxRecDepth 100000 in
set_option maxHeartbeats 2000000 in
theorem sl_Grow0 (w : World) : Calls Try.prog 66 #[.slice none 0 0, .int .i64 0] w fun e w' => e = .returned (.slice none 0 0) ∧ w = w' := by
  go_enter Try.func66, Try.ntmps66
  go_wp2
  go_ret
  exact ⟨rfl, rfl⟩
set_option maxRecDepth 100000 in
set_option maxHeartbeats 2000000 in
theorem sl_GrowP (n : Nat) (w : World) (h0 : 0 < n) (hn : n ≤ 10000) :
    Calls Try.prog 66 #[.slice none 0 0, .int .i64 (n : Int)] w fun e w' => ∃ v, e = .returned v ∧ OwnV w.heap.size w' v [] ∧ Gr w w' := by
  obtain ⟨i0, hi, hz0, hz1, hz2⟩ := info_parts Try.infoGr
  have hold : (Builtin.firstCells i0.size 0 (.slice none 0 0)).run Try.prog w.drew = .ok (([] : List Value).toArray) w.drew := run_firstCells_none w.drew i0.size 0 0 0
  have hrz : ∀ ty, (Builtin.append_ #[22, 3] ty #[.slice none 0 0, .int .i64 (n : Int)]).run Try.prog w =
      .ok (.slice (some ⟨w.heap.size, 0, none⟩) n (grownCap w n 0 25)) (w.drew.alloc (.cells ((([] : List Value).toArray) ++ Builtin.zeroCells (Value.agg #[.int .i64 0, .slice none 0 0]).cells n ++ Builtin.zeroCells (Value.agg #[.int .i64 0, .slice none 0 0]).cells (grownCap w n 0 25 - n)) 25)) := fun ty => by
    have h := Lib.run_append_grow_zeros w 22 3 ty 25 i0 (.agg #[.int .i64 0, .slice none 0 0]) .i64 .i64 Try.underlying22 Try.underlying3 hi hz0 none 0 0 [] hold n h0 (by omega) (by omega) (by omega) (by rw [hz2]; omega)
      (growslice_fits (by omega) (by rw [hz2]; omega))
    simpa only [Nat.zero_add] using h
  have hge : n ≤ grownCap w n 0 25 := grownCap_ge w _ _ _
  have hle := grownCap_le_maxLen w n 0 25 (by unfold maxLen; omega)
  generalize grownCap w n 0 25 = C at *
  have HO : Hid (OwnV w.heap.size (w.drew.alloc (.cells ((([] : List Value).toArray) ++ Builtin.zeroCells (Value.agg #[.int .i64 0, .slice none 0 0]).cells n ++ Builtin.zeroCells (Value.agg #[.int .i64 0, .slice none 0 0]).cells (C - n)) 25)) (.slice (some ⟨w.heap.size, 0, none⟩) 0 C) []) := Lib.hid (by
    refine ⟨rfl, .inr ⟨w.heap.size, C, _, rfl, Nat.le_refl _, heap_alloc_last w.drew _, Nat.zero_le _, hle, ?_, rfl⟩⟩
    rw [Array.size_append, Array.size_append, size_zeroCells, size_zeroCells]
    simp [Value.cells]
    omega)
  have HG : Hid (Gr w (w.drew.alloc (.cells ((([] : List Value).toArray) ++ Builtin.zeroCells (Value.agg #[.int .i64 0, .slice none 0 0]).cells n ++ Builtin.zeroCells (Value.agg #[.int .i64 0, .slice none 0 0]).cells (C - n)) 25))) := Lib.hid ((Below.drew (Gr.refl w)).alloc (Nat.le_refl _) _)
  have hC : C ≤ 9223372036854775807 := hle
  generalize (w.drew.alloc (.cells ((([] : List Value).toArray) ++ Builtin.zeroCells (Value.agg #[.int .i64 0, .slice none 0 0]).cells n ++ Builtin.zeroCells (Value.agg #[.int .i64 0, .slice none 0 0]).cells (C - n)) 25)) = W at *
  clear hold
  go_enter Try.func66, Try.ntmps66
  go_wp2_with (at_builtin; refine Lib.wpList_append_run _ rfl _ _ _ _ rfl _ _ rfl rfl _ _ (hrz _) ?_)
  go_ret
  exact ⟨_, rfl, HO.out, HG.out⟩
theorem sl_Grow (n : Nat) (w : World) (hn : n ≤ 10000) :
    Calls Try.prog 66 #[.slice none 0 0, .int .i64 (n : Int)] w fun e w' => ∃ v, e = .returned v ∧ OwnV w.heap.size w' v [] ∧ Gr w w' := by
  by_cases h0 : n = 0
  · subst h0
    refine (sl_Grow0 w).mono ?_
    rintro e w' ⟨rfl, rfl⟩
    exact ⟨_, rfl, OwnV.nil _ _, Gr.refl _⟩
  · exact sl_GrowP n w (by omega) hn
/-- slices of groups, one behind the other -/
def PartsAt (w : World) (p : Nat) (P : List (List GV)) : Prop := ∀ k (h : k < P.length), ∃ a c, w.cell? ⟨p, k, none⟩ = some (.slice a P[k].length c) ∧ RdGV w a P[k] ∧ ((a = none ∧ c = 0) ∨ ∃ b o, a = some ⟨b, o, none⟩)
theorem PartsAt.gr {w w' : World} {p : Nat} {P : List (List GV)} (h : PartsAt w p P) (hg : Gr w w') : PartsAt w' p P := fun k hk => by
  obtain ⟨a, c, h1, h2, h3⟩ := h k hk
  exact ⟨a, c, gr_cell hg h1, h2.gr hg, h3⟩
theorem flat_nxt {P : List (List GV)} {k : Nat} (h : k < P.length) : (P.take (k + 1)).flatten = (P.take k).flatten ++ P[k] := by
  rw [List.take_succ_eq_append_getElem h, List.flatten_append]; simp
theorem flat_len (P : List (List GV)) (k : Nat) : (P.take k).flatten.length ≤ P.flatten.length := by
  conv => rhs; rw [← List.take_append_drop k P, List.flatten_append, List.length_append]
  omega
set_option maxRecDepth 100000 in
set_option maxHeartbeats 2000000 in
theorem sl_Concat (p : Nat) (P : List (List GV)) (cap : Nat) (w : World) (hP : PartsAt w p P) (hm : P.length ≤ 10) (h1 : P.flatten.length ≤ 10000) :
    Calls Try.prog 47 #[.slice (some ⟨p, 0, none⟩) P.length cap] w fun e w' => ∃ v, e = .returned v ∧ OwnV w.heap.size w' v P.flatten ∧ Gr w w' := by
  obtain ⟨i0, hi, hz0, hz1, hz2⟩ := info_parts Try.infoGr
  have HP := Lib.hid hP
  have HL := Lib.hid (fun k => Nat.le_trans (flat_len P k) h1)
  have HGR := Lib.hid (fun w' => sl_Grow P.flatten.length w' h1)
  obtain ⟨m, hmm⟩ : ∃ m, P.length = m := ⟨_, rfl⟩
  have HM := Lib.hid hmm
  rw [hmm] at hm ⊢
  clear hP hmm
  go_enter Try.func47, Try.ntmps47
  go_wp2
  go_loopw [3, 11] (fun s i wr => ∃ k : Nat, i = .int .i64 k ∧ k ≤ m ∧ s = .int .i64 ((P.take k).flatten.length : Nat) ∧ Hid (Gr w wr)) (fun _ i _ => m - (intOf i).toNat)
  case atStart => exact ⟨0, rfl, by omega, by simp, Lib.hid (Gr.refl w)⟩
  case round =>
    obtain ⟨k, rfl, hk, rfl, HG⟩ := hrel
    by_cases hlt : k < m
    · have hkP : k < P.length := by rw [HM.out]; exact hlt
      obtain ⟨a, c, c0, -, -⟩ := HP.out.gr HG.out k hkP
      have HF := Lib.hid (congrArg List.length (flat_nxt hkP))
      have hl1 := HL.out (k + 1)
      rw [HF.out, List.length_append] at hl1
      rw [List.length_append] at HF
      generalize (P.take k).flatten.length = s at *
      generalize P[k].length = l at *
      go_wp2
      go_roundw
      case rel => exact ⟨k + 1, by go_num, by omega, by rw [HF.out]; go_num, HG⟩
      case measure => simp [intOf]; omega
    · have hk2 : k = P.length := by rw [HM.out]; omega
      have HT : Hid ((P.take k).flatten.length = P.flatten.length) := Lib.hid (by rw [hk2, List.take_length])
      rw [HT.out]
      clear hk2 HT
      have HGq := Lib.hid (HGR.out wr)
      clear HGR
      generalize P.flatten.length = T at *
      go_wp2_with fail
      refine HGq.out.mono ?_; rintro e w2 ⟨v, rfl, ho, hg⟩
      have HG2 := Lib.hid (Gr.trans HG.out hg)
      have HO := Lib.hid (ho.low HG.out.size)
      clear ho hg HG HGq
      go_wp2
      go_loopw [6, 27] (fun ow i wr => ∃ k : Nat, i = .int .i64 k ∧ k ≤ m ∧ Hid (OwnV w.heap.size wr ow (P.take k).flatten) ∧ Hid (Gr w wr)) (fun _ i _ => m - (intOf i).toNat)
      case atStart => exact ⟨0, rfl, by omega, Lib.hid (by simpa using HO.out), HG2⟩
      case round =>
        obtain ⟨k, rfl, hk, HO, HG⟩ := hrel
        by_cases hlt : k < m
        · have hkP : k < P.length := by rw [HM.out]; exact hlt
          obtain ⟨a, c, c0, hy, hc⟩ := HP.out.gr HG.out k hkP
          have HF := Lib.hid (flat_nxt hkP)
          have hl1 := HL.out (k + 1)
          rw [HF.out, List.length_append] at hl1
          generalize (P.take k).flatten = xs at *
          generalize P[k] = ys at *
          have HY := Lib.hid hy
          have HC := Lib.hid hc
          clear hy hc
          go_wp2_with (at_builtin; refine join_g hi hz0 hz1 hz2 rfl _ _ rfl _ xs rfl HO.out HG.out.size a ys c rfl HY.out HC.out (by omega) ?_; rintro v5 w5 HO5 hg5 -; have HG5 := Lib.hid (Below.trans HG.out hg5); clear hg5)
          go_roundw
          case rel => exact ⟨k + 1, by go_num, by omega, Lib.hid (by rw [HF.out]; exact HO5.out), HG5⟩
          case measure => simp [intOf]; omega
        · have hk2 : k = P.length := by rw [HM.out]; omega
          have ho := HO.out
          rw [hk2, List.take_length] at ho
          have HOe := Lib.hid ho
          clear HO ho hk2
          go_wp2
          go_ret
          exact ⟨_, rfl, HOe.out, HG.out⟩
end Go.Proofs.Ytmcngnnbfmjajaa
