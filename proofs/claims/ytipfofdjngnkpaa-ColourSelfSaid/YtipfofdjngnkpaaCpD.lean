/- Law 11: own lists of colours; slices.Index and ContainsFunc of colours; the functions of ColourSelf. -/
import Derived.Test.YtipfofdjngnkpaaCoY
set_option linter.unusedVariables false
set_option linter.unusedSimpArgs false
namespace Go.Proofs.Ytipfofdjngnkpaa.Z
open Go
theorem sq_nonneg (u : Int) : 0 ≤ u * u := by
  have h : u * u = (u.natAbs * u.natAbs : Nat) := by rw [Int.natCast_mul]; exact (Int.natAbs_mul_self' _).symm
  rw [h]; omega
theorem farR_nonneg (c d : C3) : 0 ≤ farR c d := by
  have h1 := sq_nonneg (c.1 - d.1)
  have h2 := sq_nonneg (c.2.1 - d.2.1)
  have h3 := sq_nonneg (c.2.2 - d.2.2)
  unfold farR; omega
theorem farR_self (c : C3) : farR c c = 0 := by unfold farR; simp
theorem farR_zero {c d : C3} (h : farR c d ≤ 0) : c = d := by
  have h1 := sq_nonneg (c.1 - d.1)
  have h2 := sq_nonneg (c.2.1 - d.2.1)
  have h3 := sq_nonneg (c.2.2 - d.2.2)
  unfold farR at h
  have z : ∀ u : Int, u * u = 0 → u = 0 := fun u hu => by rcases Int.mul_eq_zero.1 hu with e | e <;> exact e
  have e1 := z _ (by omega : (c.1 - d.1) * (c.1 - d.1) = 0)
  have e2 := z _ (by omega : (c.2.1 - d.2.1) * (c.2.1 - d.2.1) = 0)
  have e3 := z _ (by omega : (c.2.2 - d.2.2) * (c.2.2 - d.2.2) = 0)
  obtain ⟨x, y, z⟩ := c
  obtain ⟨x', y', z'⟩ := d
  simp only at e1 e2 e3
  have f1 : x = x' := by omega
  have f2 : y = y' := by omega
  have f3 : z = z' := by omega
  rw [f1, f2, f3]
theorem bestN_spec (c : C3) (l : List C3) : ∀ i j, j < i → farR c (l.getD (bestN c l i) (0, 0, 0)) ≤ farR c (l.getD j (0, 0, 0)) ∧ (j < bestN c l i → farR c (l.getD (bestN c l i) (0, 0, 0)) < farR c (l.getD j (0, 0, 0)))
  | 0, j, h => absurd h (by omega)
  | i + 1, j, h => by
    have hle := bestN_le c l i
    unfold bestN
    by_cases hj : j = i
    · subst hj
      split
      · exact ⟨by omega, fun h => by omega⟩
      · exact ⟨by omega, fun h => by omega⟩
    · have ih := bestN_spec c l i j (by omega)
      split
      · exact ⟨by omega, fun h => by omega⟩
      · exact ih
theorem bestN_min (c : C3) {l : List C3} (h0 : 0 < l.length) {j : Nat} (hj : j < l.length) : ∃ h : bestN c l l.length < l.length, farR c l[bestN c l l.length] ≤ farR c l[j] := by
  refine ⟨bestN_lt c h0 _ (Nat.le_refl _), ?_⟩
  have h := (bestN_spec c l l.length j hj).1
  have hb := bestN_lt c h0 l.length (Nat.le_refl _)
  simpa [List.getD, List.getElem?_eq_getElem hj, List.getElem?_eq_getElem hb] using h
theorem bestN_first {l : List C3} {k : Nat} (hk : k < l.length) (hn : ∀ j (hj : j < l.length), j < k → l[j] ≠ l[k]) : bestN l[k] l l.length = k := by
  have hb := bestN_lt l[k] (l := l) (by omega) l.length (Nat.le_refl _)
  obtain ⟨h1, h2⟩ := bestN_spec l[k] l l.length k hk
  have e1 : l.getD k (0, 0, 0) = l[k] := by simp [List.getD, List.getElem?_eq_getElem hk]
  generalize hm : bestN l[k] l l.length = m at *
  have e2 : l.getD m (0, 0, 0) = l[m] := by simp [List.getD, List.getElem?_eq_getElem hb]
  rw [e1, e2, farR_self] at h1 h2
  have he : l[k] = l[m] := farR_zero h1
  by_cases hlt : m < k
  · exact absurd he.symm (hn m hb hlt)
  · by_cases hgt : k < m
    · have := h2 hgt
      have := farR_nonneg l[k] l[m]
      omega
    · omega
end Go.Proofs.Ytipfofdjngnkpaa.Z
namespace Go.Proofs.Ytipfofdjngnkpaa
open Go.RowKit
open Z
def cv (l : List C3) : List Value := l.flatMap fun c => [.int .i64 c.1, .int .i64 c.2.1, .int .i64 c.2.2]
theorem cv_snoc (l : List C3) (c : C3) : cv (l ++ [c]) = cv l ++ [.int .i64 c.1, .int .i64 c.2.1, .int .i64 c.2.2] := by simp [cv]
theorem cv_get : ∀ (l : List C3) (k : Nat) (h : k < l.length), (cv l)[k * 3]? = some (.int .i64 l[k].1) ∧ (cv l)[k * 3 + 1]? = some (.int .i64 l[k].2.1) ∧ (cv l)[k * 3 + 2]? = some (.int .i64 l[k].2.2)
  | [], _, h => absurd h (by simp)
  | g :: l, 0, _ => ⟨rfl, rfl, rfl⟩
  | g :: l, k + 1, h => by
    have ih := cv_get l k (by simpa using h)
    have e : ∀ j, (cv (g :: l))[(k + 1) * 3 + j]? = (cv l)[k * 3 + j]? := fun j => by
      show ([Value.int .i64 g.1, .int .i64 g.2.1, .int .i64 g.2.2] ++ cv l)[(k + 1) * 3 + j]? = _
      rw [List.getElem?_append_right (by simp; omega)]
      congr 1; simp; omega
    refine ⟨?_, ?_, ?_⟩
    · have := e 0
      simpa using this.trans ih.1
    · rw [e 1]; simpa using ih.2.1
    · rw [e 2]; simpa using ih.2.2
theorem cv_one {x y z : Int} : ∀ u ∈ ([Value.int .i64 x, .int .i64 y, .int .i64 z] : List Value), u.oneCell' = true := fun u hu => by
  simp only [List.mem_cons, List.not_mem_nil, or_false] at hu
  rcases hu with rfl | rfl | rfl <;> rfl
theorem Try.infoCC : (Try.prog.info? 23).map (fun i => (i.zero, i.size, i.bytes)) = some (some (.agg #[.int .i64 0, .int .i64 0, .int .i64 0]), 3, 24) := by kernel_rfl
def OwnC (B : Nat) (w : World) (v : Value) (l : List C3) : Prop := w.ownsRow B 23 3 v l.length (cv l)
theorem OwnC.nil (B : Nat) (w : World) : OwnC B w (.slice none 0 0) [] := World.ownsRow_nil _ _ _ _
theorem OwnC.gr {B : Nat} {w w' : World} {v : Value} {l : List C3} (h : OwnC B w v l) (hg : Gr w w') : OwnC B w' v l := ownsRow_gr h hg
theorem OwnC.type {B : Nat} {w : World} {v : Value} {l : List C3} (h : OwnC B w v l) : ∀ g, v.ownBlock = some g → ∃ cur, w.heap[g]? = some (.cells cur 23 (0, 0)) := fun g hg => by
  rcases id h.2 with ⟨rfl, -⟩ | ⟨g', cap, cur, rfl, -, hc, -⟩
  · cases hg
  · simp only [Value.ownBlock, Option.some.injEq] at hg
    subst hg
    exact ⟨cur, hc⟩
/-- nothing of the list's block has turned -/
theorem OwnC.same {B : Nat} {w w' : World} {v : Value} {l : List C3} (h : OwnC B w v l) (hs : ∀ g, v.ownBlock = some g → w'.heap[g]? = w.heap[g]?) : OwnC B w' v l := by
  refine ⟨h.1, ?_⟩
  rcases h.2 with h2 | ⟨g, cap, cur, h1, hb, h3, h4⟩
  · exact .inl h2
  · exact .inr ⟨g, cap, cur, h1, hb, (hs g (by rw [h1]; rfl)).trans h3, h4⟩
theorem OwnC.shape {B : Nat} {w : World} {v : Value} {l : List C3} (h : OwnC B w v l) : ∃ a cap, v = .slice a l.length cap ∧ Rd3 w a l ∧ l.length ≤ cap ∧ cap ≤ maxLen := by
  rcases id h.2 with ⟨rfl, h0⟩ | ⟨g, cap, cur, rfl, -, -, hn1, hn2, -⟩
  · have : l = [] := List.eq_nil_of_length_eq_zero h0
    subst this
    exact ⟨none, 0, rfl, fun k hk => absurd hk (by simp), by simp, by unfold maxLen; omega⟩
  · refine ⟨_, cap, rfl, fun k hk => ⟨g, 0, rfl, ?_⟩, hn1, hn2⟩
    obtain ⟨h0, h1, h2⟩ := cv_get l k hk
    have c : ∀ j u, (cv l)[j]? = some u → w.cell? ⟨g, 0 + j, none⟩ = some u := fun j u hj => by
      have := World.ownsRow.cells h (g := g) rfl j u hj
      rwa [WideShapes.add_plain] at this
    rw [Nat.zero_add]
    exact ⟨by simpa using c _ _ h0, by simpa [Nat.add_assoc] using c _ _ h1, by simpa [Nat.add_assoc] using c _ _ h2⟩
theorem push_c {i : TypeInfo} (hi : Try.prog.info? 23 = some i) (hz0 : i.zero = some (.agg #[.int .i64 0, .int .i64 0, .int .i64 0])) (hz1 : i.size = 3) (hz2 : i.bytes = 24)
    {ops : Array Oper} {rest : List Oper} {o : Oper} {a : Act} {Q : Exit → Act → World → Prop} {B : Nat} {w : World} (hgd : o.guard = none) (s x : Operand)
    (ho : o.op = .call { callee := .builtin .append, args := #[s, x], argTypes := #[41, 41] }) (v : Value) (xs : List C3) (hs : a.eval s = v) (hown : OwnC B w v xs) (hB : B ≤ w.heap.size)
    (t : C3) (N : Nat) (hN : N = w.heap.size) (hx : a.eval x = .slice (some ⟨N, 0, none⟩) 1 1) (hlen : xs.length + 1 ≤ 1000000)
    (h : ∀ v' w', Hid (OwnC B w' v' (xs ++ [t])) → Below B w w' → (∀ k, k < w.heap.size → (∀ g, v.ownBlock = some g → k ≠ g) → w'.heap[k]? = w.heap[k]?) → wpList Try.prog ops Q rest (a.put o.dst v') w') :
    wpList Try.prog ops Q (o :: rest) a (w.alloc (.cells #[.int .i64 t.1, .int .i64 t.2.1, .int .i64 t.2.2] 23)) := by
  subst hN
  refine wpList_append_own _ hgd s x _ ho B 23 i (.agg #[.int .i64 0, .int .i64 0, .int .i64 0]) 3 24 Try.underlying41 hi hz0 hz1 hz2 rfl (by decide) v xs.length (cv xs) hs (World.ownsRow.alloc hown _) ⟨w.heap.size, 0, none⟩ 1 1 [.int .i64 t.1, .int .i64 t.2.1, .int .i64 t.2.2] hx rfl
    (fun j u hj => ?_) cv_one (by unfold maxLen; omega) (by omega) (by simp; omega) (fun v' w' hown' hgrow _ => h v' w' ?_ (Below.grown ((Below.refl B w).alloc hB _) hgrow (by simp; omega) (fun k hk => (World.ownsRow.lt hown k hk).1)) fun k hk hne => (hgrow.block k (by simp; omega) (fun e => hne k e.symm rfl)).trans (Below.heap_alloc _ _ _ hk))
  · rw [WideShapes.add_plain]
    match j, hj with
    | 0, hj => simp only [List.getElem?_cons_zero, Option.some.injEq] at hj; subst hj; rw [World.cell?_alloc_at _ _ _ _ rfl]; rfl
    | 1, hj => simp only [List.getElem?_cons_succ, List.getElem?_cons_zero, Option.some.injEq] at hj; subst hj; rw [World.cell?_alloc_at _ _ _ _ rfl]; rfl
    | 2, hj => simp only [List.getElem?_cons_succ, List.getElem?_cons_zero, Option.some.injEq] at hj; subst hj; rw [World.cell?_alloc_at _ _ _ _ rfl]; rfl
    | j + 3, hj => simp at hj
  · show World.ownsRow _ _ _ _ _ _ _
    rw [cv_snoc, List.length_append]; exact hown'
set_option maxRecDepth 100000 in
set_option maxHeartbeats 2000000 in
/-- the first place of a colour that is in the list -/
theorem sl_Index {a : Option Addr} {l : List C3} {cap : Nat} (c : C3) (w : World) (hr : Rd3 w a l) (hl : l.length ≤ 1000) {m : Nat} (hm : m < l.length) (hc : l[m] = c) :
    Calls Try.prog 26 #[.slice a l.length cap, vC c] w fun e w' => (∃ k, ∃ h : k < l.length, e = .returned (.int .i64 k) ∧ l[k] = c ∧ ∀ j (hj : j < l.length), j < k → l[j] ≠ l[k]) ∧ Gr w w' := by
  obtain ⟨w0, hw0⟩ : ∃ v, v = w.alloc (.cells #[.int .i64 c.1, .int .i64 c.2.1, .int .i64 c.2.2] 23) := ⟨_, rfl⟩
  have HC0 := Lib.hid (show C3At w0 w.heap.size c by rw [hw0]; exact C3At.new w c)
  have HG0 := Lib.hid (show Gr w w0 by rw [hw0]; exact (Gr.refl w).alloc _)
  have HW0 := Lib.hid hw0
  have HR := Lib.hid hr
  have HX := Lib.hid (fun (h : ∀ j (hj : j < l.length), l[j] ≠ c) => h m hm hc)
  clear hw0 hr hm hc
  obtain ⟨n, hn⟩ : ∃ n, n = l.length := ⟨_, rfl⟩
  have HN := Lib.hid hn
  have hpost : ∀ k, (∃ h : k < l.length, l[k] = c ∧ ∀ j (hj : j < l.length), j < k → l[j] ≠ l[k]) → ∃ k', ∃ h : k' < l.length, Ending.returned (Value.int .i64 (k : Nat)) = .returned (.int .i64 k') ∧ l[k'] = c ∧ ∀ j (hj : j < l.length), j < k' → l[j] ≠ l[k'] := fun k ⟨h1, h2, h3⟩ => ⟨k, h1, rfl, h2, h3⟩
  have HPO := Lib.hid hpost
  clear hpost
  rw [← hn] at hl
  have hgoal : (Value.slice a l.length cap) = .slice a n cap := by rw [← hn]
  rw [hgoal]
  clear hgoal hn
  obtain ⟨x, y, z⟩ := c
  have heq := run_eq3'
  unfold vC
  go_enter Try.func26, Try.ntmps26
  go_wp2_with fail
  rw [← HW0.out]
  clear HW0
  go_loopw [5, 8] (fun _ i wr => ∃ k : Nat, i = .int .i64 k ∧ k ≤ n ∧ Hid (Gr w0 wr) ∧ Hid (∀ j (hj : j < l.length), j < k → l[j] ≠ (x, y, z))) (fun _ i _ => n - (intOf i).toNat)
  case atStart => exact ⟨0, rfl, Nat.zero_le _, Gr.refl _, fun j hj h => absurd h (by omega)⟩
  case round =>
    obtain ⟨k, rfl, hk, HG, HK⟩ := hrel
    by_cases hlt : k < n
    · have hkl : k < l.length := by rw [← HN.out]; exact hlt
      obtain ⟨b, o, rfl, d0, d1, d2⟩ := (HR.out.gr (HG0.out.trans HG.out)) k hkl
      have hq := HC0.out.gr HG.out
      have c0 := hq.c0
      have c1 := hq.c1
      have c2 := hq.c2
      simp only at c0 c1 c2
      have HQ : Hid (l[k] ≠ (x, y, z) → ∀ j (hj : j < l.length), j < k + 1 → l[j] ≠ (x, y, z)) := Lib.hid fun e j hj h => by
        by_cases hjk : j = k
        · subst hjk; exact e
        · exact HK.out j hj (by omega)
      have HD : Hid (l[k] = (x, y, z) → ∃ h : k < l.length, l[k] = (x, y, z) ∧ ∀ j (hj : j < l.length), j < k → l[j] ≠ l[k]) := Lib.hid fun e => ⟨hkl, e, fun j hj h => by rw [e]; exact HK.out j hj h⟩
      clear HK hq
      generalize hu : l[k] = u at *
      obtain ⟨u0, u1, u2⟩ := u
      simp only at d0 d1 d2
      by_cases he : (u0, u1, u2) = (x, y, z)
      · have HDD := Lib.hid (HPO.out k (by obtain ⟨h1, h2, h3⟩ := HD.out he; exact ⟨h1, by rw [hu]; exact he, h3⟩))
        cases he
        clear HD HQ hu
        go_wp2_with fail
        go_region
        have HGd := Lib.hid HG.out.drew
        go_wp2
        go_ret
        exact ⟨HDD.out, HG0.out.trans HGd.out⟩
      · have hne : (x == u0 && (y == u1 && z == u2)) = false := by
          rw [Bool.eq_false_iff]; intro h
          simp only [Bool.and_eq_true, beq_iff_eq] at h
          exact he (by rw [h.1, h.2.1, h.2.2])
        have HQ1 := Lib.hid (HQ.out he)
        clear HD HQ he hu
        go_wp2_with fail
        go_region
        have HGd := Lib.hid HG.out.drew
        clear HG d0 d1 d2 c0 c1 c2
        generalize wr.drew = wx at *
        go_wp2
        go_roundw
        case rel => exact ⟨k + 1, by go_num, by omega, HGd.out, HQ1.out⟩
        case measure => simp [intOf]; omega
    · exact absurd (HX.out fun j hj => HK.out j hj (by have := HN.out; omega)) id
set_option maxRecDepth 100000 in
set_option maxHeartbeats 2000000 in
theorem lw_far (x : C3) (d : C3) (hx : isC x = true) (hd : isC d = true) (p : Nat) (w : World) (hp : C3At w p x) : Calls Try.prog 27 #[vC d, .pointer (some ⟨p, 0, none⟩)] w fun e w' => e = .returned (.int .i64 (farR x d)) ∧ Gr w w' := by
  rw [farR_comm]
  have hb := isC_iff.1 hx
  have hb2 := isC_iff.1 hd
  have HG := Lib.hid ((Gr.refl w).alloc (.cells #[.int .i64 d.1, .int .i64 d.2.1, .int .i64 d.2.2] 23))
  have hc0 := hp.c0
  have hc1 := hp.c1
  have hc2 := hp.c2
  obtain ⟨u, v, t⟩ := d
  obtain ⟨u', v', t'⟩ := x
  unfold farR
  simp only at hb hb2 HG hc0 hc1 hc2 ⊢
  obtain ⟨p0, p1⟩ := sq_bound hb2.1.1 hb2.1.2 hb.1.1 hb.1.2
  obtain ⟨q0, q1⟩ := sq_bound hb2.2.1.1 hb2.2.1.2 hb.2.1.1 hb.2.1.2
  obtain ⟨r0, r1⟩ := sq_bound hb2.2.2.1 hb2.2.2.2 hb.2.2.1 hb.2.2.2
  obtain ⟨⟨a0, a1⟩, ⟨a2, a3⟩, ⟨a4, a5⟩⟩ := hb
  obtain ⟨⟨b0, b1⟩, ⟨b2, b3⟩, ⟨b4, b5⟩⟩ := hb2
  obtain ⟨P, hP⟩ : ∃ P, (u - u') * (u - u') = P := ⟨_, rfl⟩
  obtain ⟨Q, hQ⟩ : ∃ Q, (v - v') * (v - v') = Q := ⟨_, rfl⟩
  obtain ⟨R, hR⟩ : ∃ R, (t - t') * (t - t') = R := ⟨_, rfl⟩
  rw [hP] at p0 p1 ⊢
  rw [hQ] at q0 q1 ⊢
  rw [hR] at r0 r1 ⊢
  have hlt := cellLt hc0
  have g := (Gr.refl w).alloc (.cells #[.int .i64 u, .int .i64 v, .int .i64 t] 23)
  have e0 := gr_cell g hc0
  have e1 := gr_cell g hc1
  have e2 := gr_cell g hc2
  unfold vC
  clear hp hx hd g
  go_enter Try.func27, Try.ntmps27
  go_wp2
  go_ret
  exact ⟨rfl, HG.out⟩
end Go.Proofs.Ytipfofdjngnkpaa
