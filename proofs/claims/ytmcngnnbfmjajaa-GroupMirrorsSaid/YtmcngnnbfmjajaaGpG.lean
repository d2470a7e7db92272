/- Law 14: the fans of the program. -/
import Derived.Test.YtmcngnnbfmjajaaGpF
set_option linter.unusedVariables false
set_option linter.unusedSimpArgs false
namespace Go.Proofs.Ytmcngnnbfmjajaa
open Go.RowKit
open Z
theorem Try.infoI : (Try.prog.info? 3).map (fun i => (i.zero, i.size, i.bytes)) = some (some (.int .i64 0), 1, 8) := by kernel_rfl
def iv (l : List Int) : List Value := l.map fun k => .int .i64 k
def OwnI (B : Nat) (w : World) (v : Value) (l : List Int) : Prop := w.ownsRow B 3 1 v l.length (iv l)
theorem ownsRow_gr {w w' : World} {base : Nat} {e : TypeId} {size : Nat} {v : Value} {n : Nat} {xs : List Value} (h : w.ownsRow base e size v n xs) (hg : Gr w w') : w'.ownsRow base e size v n xs :=
  h.kept ⟨hg.os, hg.tape, hg.output, hg.size, fun k hk _ => hg.block k hk⟩ (row := none) (by cases hv : v.ownBlock <;> simp)
theorem OwnI.gr {B : Nat} {w w' : World} {v : Value} {l : List Int} (h : OwnI B w v l) (hg : Gr w w') : OwnI B w' v l := ownsRow_gr h hg
theorem OwnI.nil (B : Nat) (w : World) : OwnI B w (.slice none 0 0) [] := World.ownsRow_nil _ _ _ _
theorem OwnI.shape {B : Nat} {w : World} {v : Value} {l : List Int} (h : OwnI B w v l) : ∃ a cap, v = .slice a l.length cap ∧ RdI w a l ∧ l.length ≤ cap ∧ cap ≤ maxLen := by
  rcases id h.2 with ⟨rfl, h0⟩ | ⟨g, cap, cur, rfl, -, -, hn1, hn2, -⟩
  · have : l = [] := List.eq_nil_of_length_eq_zero h0
    subst this
    exact ⟨none, 0, rfl, fun k hk => absurd hk (by simp), by simp, by unfold maxLen; omega⟩
  · refine ⟨_, cap, rfl, fun k hk => ⟨g, 0, rfl, ?_⟩, hn1, hn2⟩
    have := World.ownsRow.cells h (g := g) rfl k (.int .i64 l[k]) (by simp [iv, List.getElem?_eq_getElem hk])
    rwa [WideShapes.add_plain] at this
theorem push_i {i : TypeInfo} (hi : Try.prog.info? 3 = some i) (hz0 : i.zero = some (.int .i64 0)) (hz1 : i.size = 1) (hz2 : i.bytes = 8)
    {ops : Array Oper} {rest : List Oper} {o : Oper} {a : Act} {Q : Exit → Act → World → Prop} {w0 w : World} (hgd : o.guard = none) (s x : Operand)
    (ho : o.op = .call { callee := .builtin .append, args := #[s, x], argTypes := #[23, 23] }) (v : Value) (xs : List Int) (hs : a.eval s = v) (hown : OwnI w0.heap.size w v xs) (hg : Gr w0 w)
    (t : Int) (N : Nat) (hN : N = w.heap.size) (hx : a.eval x = .slice (some ⟨N, 0, none⟩) 1 1) (hlen : xs.length ≤ 3000000)
    (h : ∀ v' w', Hid (OwnI w0.heap.size w' v' (xs ++ [t])) → Gr w0 w' → wpList Try.prog ops Q rest (a.put o.dst v') w') :
    wpList Try.prog ops Q (o :: rest) a (w.alloc (.cells #[.int .i64 t] 3)) := by
  have hgs := hg.size
  subst hN
  refine wpList_append_own _ hgd s x _ ho w0.heap.size 3 i (.int .i64 0) 1 8 Try.underlying23 hi hz0 hz1 hz2 rfl (by decide) v xs.length (iv xs) hs (World.ownsRow.alloc hown _) ⟨w.heap.size, 0, none⟩ 1 1 [.int .i64 t] hx rfl
    (fun j u hj => ?_) (fun u hu => by simp only [List.mem_singleton] at hu; subst hu; rfl) (by unfold maxLen; omega) (by omega) (by simp; omega) (fun v' w' hown' hgrow _ => h v' w' ?_ (Below.grown (hg.alloc _) hgrow (by simp; omega) (fun k hk => (World.ownsRow.lt hown k hk).1)))
  · rw [WideShapes.add_plain]
    match j, hj with
    | 0, hj => simp only [List.getElem?_cons_zero, Option.some.injEq] at hj; subst hj; rw [World.cell?_alloc_at _ _ _ _ rfl]; rfl
    | j + 1, hj => simp at hj
  · show World.ownsRow _ _ _ _ _ _ _
    rw [show iv (xs ++ [t]) = iv xs ++ [.int .i64 t] by simp [iv], List.length_append]; exact hown'
theorem take_map_range {n i : Nat} (f : Nat → Int) (h : i < n) : ((List.range n).map f).take (i + 1) = ((List.range n).map f).take i ++ [f i] := by
  rw [List.take_succ_eq_append_getElem (by simpa using h)]; simp
theorem mul_b {a d : Int} (ha : 0 ≤ a) (ha2 : a ≤ 65535) (hd : 0 ≤ d) (hd2 : d ≤ 300) : ∃ X : Nat, a * d = (X : Int) ∧ X ≤ 20000000 := by
  have h1 : 0 ≤ a * d := Int.mul_nonneg ha hd
  have h2 : a * d ≤ 65535 * d := Int.mul_le_mul_of_nonneg_right ha2 hd
  exact ⟨(a * d).toNat, by omega, by omega⟩
set_option maxRecDepth 100000 in
set_option maxHeartbeats 1000000 in
theorem gp_mix {a b p q : Int} (w : World) (ha : 0 ≤ a) (ha2 : a ≤ 65535) (hb : 0 ≤ b) (hb2 : b ≤ 65535) (hp : 0 ≤ p) (hpq : p ≤ q) (hq : 1 ≤ q) (hq2 : q ≤ 300) :
    Calls Try.prog 67 #[.int .i64 a, .int .i64 b, .int .i64 p, .int .i64 q] w fun e w' => e = .returned (.int .i64 (btw a b p q)) ∧ w = w' := by
  obtain ⟨d, hd⟩ : ∃ d, q - p = d := ⟨_, rfl⟩
  obtain ⟨X, hX, hX2⟩ := mul_b (d := d) ha ha2 (by omega) (by omega)
  obtain ⟨Y, hY, hY2⟩ := mul_b (d := p) hb hb2 (by omega) (by omega)
  obtain ⟨R, hR⟩ : ∃ R, btw a b p q = R := ⟨_, rfl⟩
  rw [hR]
  have hR2 : (2 * ((X : Int) + Y) + q).tdiv (2 * q) = R := by
    rw [← hR, btw, if_neg (by omega), Int.tdiv_eq_ediv_of_nonneg (by omega), ← hX, ← hY]
    congr 2
    rw [← hd, Int.mul_sub, Int.sub_mul]; omega
  have hRb := btw_bounds (a := a) (b := b) ha ha2 hb hb2 hp hpq
  rw [hR] at hRb
  clear hR
  have HRW := Lib.hid (IntWalk.wrap64_in R (by omega))
  clear hRb
  have hnz : ((2 * q) == 0) = false := by simp; omega
  have h2q : 2 * q ≤ 600 := by omega
  have hbig : 2 * ((X : Int) + Y) + q ≤ 1000000000 := by omega
  go_enter Try.func67, Try.ntmps67
  go_wp2
  go_ret
  exact ⟨ret_int HRW.out, rfl⟩
theorem exec_max2 {o : Oper} {ev : Operand → Value} {w : World} {p q : Operand} {x y : Int} (ho : o.op = .call { callee := .builtin .max, args := #[p, q], argTypes := #[3, 3] })
    (hp : ev p = .int .i64 x) (hq : ev q = .int .i64 y) : (execOp ev o).run Try.prog w = .ok (.value (.int .i64 (max x y))) w := by
  have hv : (if x < y then y else x) = max x y := by
    split <;> omega
  unfold execOp
  rw [ho]
  simp [hp, hq, go_sem]
  rw [hv]
theorem wpl_max2 {ops : Array Oper} {rest : List Oper} {o : Oper} {a : Act} {Q : Exit → Act → World → Prop} {w : World} {p q : Operand} {x y : Int} (hg : o.guard = none) (ho : o.op = .call { callee := .builtin .max, args := #[p, q], argTypes := #[3, 3] })
    (hp : a.eval p = .int .i64 x) (hq : a.eval q = .int .i64 y) (hK : wpList Try.prog ops Q rest (a.put o.dst (.int .i64 (max x y))) w) : wpList Try.prog ops Q (o :: rest) a w := by
  refine wpList_plain hg fun K hK' => ?_
  unfold Oper.wp
  rw [exec_max2 ho hp hq, Oper.upon_value]
  exact hK' _ _ hK
set_option maxRecDepth 100000 in
set_option maxHeartbeats 2000000 in
theorem gp_spreadF {a b st : Int} {m : Nat} (f : Nat → Int) (w : World) (ha : 0 ≤ a) (ha2 : a ≤ 65535) (hb : 0 ≤ b) (hb2 : b ≤ 65535) (hm : m ≤ 256) (hst : st ≤ 300) (hf : ∀ i, i < m → 0 ≤ f i ∧ f i ≤ max st 1)
    (hF : ∀ i, i < m → ∀ W, Gr w W → Calls Try.prog 52 (#[.int .i64 (i : Int)] ++ #[]) W fun e w' => e = .returned (.int .i64 (f i)) ∧ Gr W w') :
    Calls Try.prog 51 #[.int .i64 a, .int .i64 b, .int .i64 (m : Int), .int .i64 st, .func (.func 52) #[] #[]] w fun e w' => (∃ v, e = .returned (.tuple #[v, .int .i64 0]) ∧ OwnI w.heap.size w' v ((List.range m).map fun i => btw a b (f i) (max st 1))) ∧ Gr w w' := by
  obtain ⟨i0, hi, hz0, hz1, hz2⟩ := info_parts Try.infoI
  have I1 := Lib.hid (fun w => in_yes (n := a) (a := 0) (b := 65535) ⟨ha, ha2⟩ w)
  have I2 := Lib.hid (fun w => in_yes (n := b) (a := 0) (b := 65535) ⟨hb, hb2⟩ w)
  have I3 := Lib.hid (fun w => in_yes (n := (m : Int)) (a := 0) (b := 256) ⟨by omega, by omega⟩ w)
  obtain ⟨q, hq⟩ : ∃ q, max st 1 = q := ⟨_, rfl⟩
  have hq1 : 1 ≤ q := by omega
  have hq3 : q ≤ 300 := by omega
  rw [hq] at hf ⊢
  have HQ := Lib.hid hq
  clear hq
  have HX : Hid (∀ i, i < m → ∀ W, Calls Try.prog 67 #[.int .i64 a, .int .i64 b, .int .i64 (f i), .int .i64 q] W fun e w' => e = .returned (.int .i64 (btw a b (f i) q)) ∧ W = w') := Lib.hid fun i hi W => gp_mix W ha ha2 hb hb2 (hf i hi).1 (hf i hi).2 hq1 hq3
  have HF := Lib.hid hF
  clear hF hf hst hq1 hq3
  obtain ⟨L, hL⟩ : ∃ L, (List.range m).map (fun i => btw a b (f i) q) = L := ⟨_, rfl⟩
  rw [hL]
  have HLs : Hid (∀ k, k < m → L.take (k + 1) = L.take k ++ [btw a b (f k) q]) := Lib.hid fun k hk => by rw [← hL]; exact take_map_range _ hk
  have HLl : Hid (L.length = m) := Lib.hid (by rw [← hL]; simp)
  clear hL ha ha2 hb hb2
  have HM := Lib.hid (fun (x : Int) => (rfl : x = x))
  go_enter Try.func51, Try.ntmps51
  go_wp2_with fail
  refine (I1.out _).mono ?_; rintro e w' ⟨rfl, rfl⟩
  go_wp2_with fail
  refine (I2.out _).mono ?_; rintro e w' ⟨rfl, rfl⟩
  go_wp2_with fail
  refine (I3.out _).mono ?_; rintro e w' ⟨rfl, rfl⟩
  clear I1 I2 I3
  go_wp2_with (refine wpl_max2 (x := st) (y := 1) rfl rfl rfl rfl ?_; rw [HQ.out])
  go_loopw [12, 30] (fun v i wr => ∃ k : Nat, i = .int .i64 k ∧ k ≤ m ∧ Hid (OwnI w.heap.size wr v (L.take k)) ∧ Hid (Gr w wr)) (fun _ i _ => m - (intOf i).toNat)
  case atStart => exact ⟨0, rfl, Nat.zero_le _, Lib.hid (by simpa using OwnI.nil _ _), Lib.hid (Gr.refl _)⟩
  case round =>
    obtain ⟨k, rfl, hk, HO, HG⟩ := hrel
    by_cases hlt : k < m
    · have HF1 := Lib.hid (HF.out k hlt wr HG.out)
      have HX1 := Lib.hid (HX.out k hlt)
      have HL1 := Lib.hid (HLs.out k hlt)
      have hll : (L.take k).length ≤ 300 := by rw [List.length_take]; omega
      generalize f k = p at *
      generalize btw a b p q = r at *
      generalize L.take k = xs at *
      go_wp2_with fail
      refine HF1.out.mono ?_; rintro e w2 ⟨rfl, hg2⟩
      have HO2 := Lib.hid (HO.out.gr hg2)
      have HG2 := Lib.hid (HG.out.trans hg2)
      clear hg2 HO HG HF1
      go_wp2_with fail
      refine (HX1.out _).mono ?_; rintro e w' ⟨rfl, rfl⟩
      clear HX1
      go_wp2_with (at_builtin; refine push_i hi hz0 hz1 hz2 rfl _ _ rfl _ xs rfl HO2.out HG2.out r _ rfl rfl (by omega) ?_; rintro v5 w5 HO5 hg5; have HG5 := Lib.hid hg5; clear hg5)
      go_roundw
      case rel => exact ⟨k + 1, by go_num, by omega, Lib.hid (by rw [HL1.out]; exact HO5.out), HG5⟩
      case measure => simp [intOf]; omega
    · have hk2 : k = m := by omega
      subst hk2
      have ho := HO.out
      rw [List.take_of_length_le (by rw [HLl.out]; exact Nat.le_refl _)] at ho
      have HOe := Lib.hid ho
      clear HO ho HX HF
      go_wp2
      go_ret2
      exact ⟨⟨_, rfl, HOe.out⟩, HG.out⟩
set_option maxRecDepth 100000 in
set_option maxHeartbeats 2000000 in
theorem gp_spreadC {a b st : Int} {m : Nat} (f : Nat → Int) {pn pl : Nat} (w : World) (ha : 0 ≤ a) (ha2 : a ≤ 65535) (hb : 0 ≤ b) (hb2 : b ≤ 65535) (hm : m ≤ 256) (hst : st ≤ 300) (hf : ∀ i, i < m → 0 ≤ f i ∧ f i ≤ max st 1)
    (hF : ∀ i, i < m → ∀ W, Gr w W → Calls Try.prog 55 (#[.int .i64 (i : Int)] ++ #[.pointer (some ⟨pn, 0, none⟩), .pointer (some ⟨pl, 0, none⟩)]) W fun e w' => e = .returned (.int .i64 (f i)) ∧ Gr W w') :
    Calls Try.prog 51 #[.int .i64 a, .int .i64 b, .int .i64 (m : Int), .int .i64 st, .func (.func 55) #[] #[.pointer (some ⟨pn, 0, none⟩), .pointer (some ⟨pl, 0, none⟩)]] w fun e w' => (∃ v, e = .returned (.tuple #[v, .int .i64 0]) ∧ OwnI w.heap.size w' v ((List.range m).map fun i => btw a b (f i) (max st 1))) ∧ Gr w w' := by
  obtain ⟨i0, hi, hz0, hz1, hz2⟩ := info_parts Try.infoI
  have I1 := Lib.hid (fun w => in_yes (n := a) (a := 0) (b := 65535) ⟨ha, ha2⟩ w)
  have I2 := Lib.hid (fun w => in_yes (n := b) (a := 0) (b := 65535) ⟨hb, hb2⟩ w)
  have I3 := Lib.hid (fun w => in_yes (n := (m : Int)) (a := 0) (b := 256) ⟨by omega, by omega⟩ w)
  obtain ⟨q, hq⟩ : ∃ q, max st 1 = q := ⟨_, rfl⟩
  have hq1 : 1 ≤ q := by omega
  have hq3 : q ≤ 300 := by omega
  rw [hq] at hf ⊢
  have HQ := Lib.hid hq
  clear hq
  have HX : Hid (∀ i, i < m → ∀ W, Calls Try.prog 67 #[.int .i64 a, .int .i64 b, .int .i64 (f i), .int .i64 q] W fun e w' => e = .returned (.int .i64 (btw a b (f i) q)) ∧ W = w') := Lib.hid fun i hi W => gp_mix W ha ha2 hb hb2 (hf i hi).1 (hf i hi).2 hq1 hq3
  have HF := Lib.hid hF
  clear hF hf hst hq1 hq3
  obtain ⟨L, hL⟩ : ∃ L, (List.range m).map (fun i => btw a b (f i) q) = L := ⟨_, rfl⟩
  rw [hL]
  have HLs : Hid (∀ k, k < m → L.take (k + 1) = L.take k ++ [btw a b (f k) q]) := Lib.hid fun k hk => by rw [← hL]; exact take_map_range _ hk
  have HLl : Hid (L.length = m) := Lib.hid (by rw [← hL]; simp)
  clear hL ha ha2 hb hb2
  have HM := Lib.hid (fun (x : Int) => (rfl : x = x))
  go_enter Try.func51, Try.ntmps51
  go_wp2_with fail
  refine (I1.out _).mono ?_; rintro e w' ⟨rfl, rfl⟩
  go_wp2_with fail
  refine (I2.out _).mono ?_; rintro e w' ⟨rfl, rfl⟩
  go_wp2_with fail
  refine (I3.out _).mono ?_; rintro e w' ⟨rfl, rfl⟩
  clear I1 I2 I3
  go_wp2_with (refine wpl_max2 (x := st) (y := 1) rfl rfl rfl rfl ?_; rw [HQ.out])
  go_loopw [12, 30] (fun v i wr => ∃ k : Nat, i = .int .i64 k ∧ k ≤ m ∧ Hid (OwnI w.heap.size wr v (L.take k)) ∧ Hid (Gr w wr)) (fun _ i _ => m - (intOf i).toNat)
  case atStart => exact ⟨0, rfl, Nat.zero_le _, Lib.hid (by simpa using OwnI.nil _ _), Lib.hid (Gr.refl _)⟩
  case round =>
    obtain ⟨k, rfl, hk, HO, HG⟩ := hrel
    by_cases hlt : k < m
    · have HF1 := Lib.hid (HF.out k hlt wr HG.out)
      have HX1 := Lib.hid (HX.out k hlt)
      have HL1 := Lib.hid (HLs.out k hlt)
      have hll : (L.take k).length ≤ 300 := by rw [List.length_take]; omega
      generalize f k = p at *
      generalize btw a b p q = r at *
      generalize L.take k = xs at *
      go_wp2_with fail
      refine HF1.out.mono ?_; rintro e w2 ⟨rfl, hg2⟩
      have HO2 := Lib.hid (HO.out.gr hg2)
      have HG2 := Lib.hid (HG.out.trans hg2)
      clear hg2 HO HG HF1
      go_wp2_with fail
      refine (HX1.out _).mono ?_; rintro e w' ⟨rfl, rfl⟩
      clear HX1
      go_wp2_with (at_builtin; refine push_i hi hz0 hz1 hz2 rfl _ _ rfl _ xs rfl HO2.out HG2.out r _ rfl rfl (by omega) ?_; rintro v5 w5 HO5 hg5; have HG5 := Lib.hid hg5; clear hg5)
      go_roundw
      case rel => exact ⟨k + 1, by go_num, by omega, Lib.hid (by rw [HL1.out]; exact HO5.out), HG5⟩
      case measure => simp [intOf]; omega
    · have hk2 : k = m := by omega
      subst hk2
      have ho := HO.out
      rw [List.take_of_length_le (by rw [HLl.out]; exact Nat.le_refl _)] at ho
      have HOe := Lib.hid ho
      clear HO ho HX HF
      go_wp2
      go_ret2
      exact ⟨⟨_, rfl, HOe.out⟩, HG.out⟩
end Go.Proofs.Ytmcngnnbfmjajaa
