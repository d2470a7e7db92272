/- Law 15: refers, resolved, Find and Level of the program. -/
import Derived.Test.YtgjlcmheipmmlaaPaH
set_option linter.unusedVariables false
set_option linter.unusedSimpArgs false
namespace Go.Proofs.Ytgjlcmheipmmlaa
open Go.RowKit
open Z
abbrev enV (x : En) : Value := .agg #[.int .i64 x.1, .int .i64 x.2.1, .int .i64 x.2.2.1, .int .i64 x.2.2.2]
set_option maxRecDepth 100000 in
theorem pl_refers (x : En) (w : World) (hx : x.2.2.1 ≤ 1048576) : Calls Try.prog 70 #[enV x] w fun e w' => e = .returned (.bool (decide (0 < x.2.2.1))) ∧ Gr w w' := by
  obtain ⟨c, a, q, v⟩ := x
  simp only at hx ⊢
  have HR := Lib.hid (fun w => pl_isReference q v w)
  rw [show decide (1 ≤ q ∧ q ≤ 1048576) = decide (0 < q) by rw [Bool.eq_iff_iff]; simp only [decide_eq_true_eq]; omega] at HR
  generalize decide (0 < q) = D at *
  have HG := Lib.hid ((Gr.refl w).alloc (.cells #[.int .i64 c, .int .i64 a, .int .i64 q, .int .i64 v] 57))
  go_enter Try.func70, Try.ntmps70
  go_wp2_with fail
  refine (HR.out _).mono ?_; rintro e w' ⟨rfl, hg⟩
  have HG2 := Lib.hid (HG.out.trans hg)
  clear hg
  go_wp2
  go_ret
  exact ⟨rfl, HG2.out⟩
set_option maxRecDepth 100000 in
set_option maxHeartbeats 2000000 in
theorem pl_resolved {al : Option Addr} {l : List Pl} {cap : Nat} (x : En) (w : World) (hr : RdP w al l) (hok : palR l = 0) (hx : x.2.2.1 ≤ 1048576) :
    Calls Try.prog 67 #[.slice al l.length cap, enV x] w fun e w' => e = .returned (enV (flatE l x)) ∧ Gr w w' := by
  have HRF := Lib.hid (fun W => pl_refers x W hx)
  obtain ⟨w2, hw2⟩ : ∃ w2, w2 = (w.alloc (.cells (shE.enc x).toArray 57)).alloc (.cells #[.int .i64 0, .int .i64 0, .int .i64 0, .int .i64 0] 57) := ⟨_, rfl⟩
  obtain ⟨p, hp⟩ : ∃ p, p = w.heap.size := ⟨_, rfl⟩
  have hG2 : Gr w w2 := by rw [hw2]; exact ((Gr.refl w).alloc _).alloc _
  have HB := Lib.hid (show Blk shE w2 (p + 1) (0, 0, 0, 0) by
    have := Blk.new shE (w.alloc (.cells (shE.enc x).toArray 57)) (0, 0, 0, 0)
    rw [World.size_alloc] at this
    rw [hw2, hp]; exact this)
  have HX := Lib.hid (show Blk shE w2 p x by rw [hw2, hp]; exact (Blk.new shE w x).gr ((Gr.refl _).alloc _))
  have HPL := Lib.hid (show w.heap.size ≤ p + 1 by omega)
  have HH := Lib.hid (fun W (hW : Gr w W) => pl_hueOf (cap := cap) x.2.2.1 x.1 x.2.1 W (hr.gr hW) hok)
  have HG2 := Lib.hid hG2
  have HF := Lib.hid (show flatE l x = if 0 < x.2.2.1 then (match hueL l x.2.2.1 x.1 x.2.1 with | some v => (x.1, x.2.1, 0, v) | none => (x.1, x.2.1, -1, 0)) else x from rfl)
  obtain ⟨c, a, q, v⟩ := x
  simp only at HRF HH HF hx hw2
  generalize l.length = m at *
  generalize hueL l q c a = V at *
  generalize flatE l (c, a, q, v) = R at *
  clear hr hok hG2
  by_cases h0 : 0 < q
  · rw [decide_eq_true h0] at HRF
    rw [if_pos h0] at HF
    go_enter Try.func67, Try.ntmps67
    go_wp2_with fail
    refine (HRF.out _).mono ?_; rintro e w3 ⟨rfl, hg3⟩
    have hg3' : Gr w2 w3 := by rw [hw2]; exact hg3
    rw [← hp]
    clear hg3 hw2 hp
    have HG3 := Lib.hid (HG2.out.trans hg3')
    have HB3 := Lib.hid (HB.out.gr hg3')
    have HX3 := Lib.hid (HX.out.gr hg3')
    clear hg3' HB HX HG2
    have c0 := HX3.out.cell (k := 0) rfl
    have c1 := HX3.out.cell (k := 1) rfl
    have c2 := HX3.out.cell (k := 2) rfl
    go_wp2_with fail
    refine (HH.out _ HG3.out).mono ?_; rintro e w4 ⟨⟨h, rfl, hx4⟩, hg4⟩
    have d0 := gr_cell hg4 c0
    have d1 := gr_cell hg4 c1
    have e0 := gr_cell ((Gr.refl w4).alloc (.cells #[.int .i64 h.1, .int .i64 h.2.1, .int .i64 h.2.2] 110)) d0
    have e1 := gr_cell ((Gr.refl w4).alloc (.cells #[.int .i64 h.1, .int .i64 h.2.1, .int .i64 h.2.2] 110)) d1
    have HG5 := Lib.hid (HG3.out.trans (hg4.alloc (.cells #[.int .i64 h.1, .int .i64 h.2.1, .int .i64 h.2.2] 110)))
    have HB5 := Lib.hid (HB3.out.gr (hg4.alloc (.cells #[.int .i64 h.1, .int .i64 h.2.1, .int .i64 h.2.2] 110)))
    have e2 := fresh w4 [.int .i64 h.1, .int .i64 h.2.1, .int .i64 h.2.2] 110 (k := 2) rfl
    clear hg4 HG3 HB3 HX3 c0 c1 c2 d0 d1
    cases V with
    | none =>
      have hR : R = (c, a, -1, 0) := HF.out
      subst hR
      clear hx4 HF HH
      trace_state
      go_wp2_with (refine wpl_storeS shE (c, a, -1, 0) rfl rfl rfl rfl HB5.out ?_)
      have k0 := (HB5.out.row (c, a, -1, 0)).cell (k := 0) rfl
      have k1 := (HB5.out.row (c, a, -1, 0)).cell (k := 1) rfl
      have k2 := (HB5.out.row (c, a, -1, 0)).cell (k := 2) rfl
      have k3 := (HB5.out.row (c, a, -1, 0)).cell (k := 3) rfl
      refine bodyPost_ret (v := enV (c, a, -1, 0)) ?_ rfl ⟨rfl, HG5.out.row HPL.out _⟩
      simp [results, Try.results67, go_sem, k0, k1, k2, k3]
    | some y =>
      have hR : R = (c, a, 0, y) := HF.out
      have hy : h.2.2 = y := hx4 y rfl
      subst hR
      clear hx4 HF HH
      obtain ⟨h1, h2, h3⟩ := h
      simp only at hy
      subst hy
      go_wp2_with (refine wpl_storeS shE (c, a, 0, h3) rfl rfl rfl rfl HB5.out ?_)
      have k0 := (HB5.out.row (c, a, 0, h3)).cell (k := 0) rfl
      have k1 := (HB5.out.row (c, a, 0, h3)).cell (k := 1) rfl
      have k2 := (HB5.out.row (c, a, 0, h3)).cell (k := 2) rfl
      have k3 := (HB5.out.row (c, a, 0, h3)).cell (k := 3) rfl
      refine bodyPost_ret (v := enV (c, a, 0, h3)) ?_ rfl ⟨rfl, HG5.out.row HPL.out _⟩
      simp [results, Try.results67, go_sem, k0, k1, k2, k3]
  · rw [decide_eq_false h0] at HRF
    rw [if_neg h0] at HF
    have hR : R = (c, a, q, v) := HF.out
    subst hR
    clear HF HH
    go_enter Try.func67, Try.ntmps67
    go_wp2_with fail
    refine (HRF.out _).mono ?_; rintro e w3 ⟨rfl, hg3⟩
    have hg3' : Gr w2 w3 := by rw [hw2]; exact hg3
    rw [← hp]
    clear hg3 hw2 hp
    have HG3 := Lib.hid (HG2.out.trans hg3')
    have HB3 := Lib.hid (HB.out.gr hg3')
    have HX3 := Lib.hid (HX.out.gr hg3')
    clear hg3' HB HX HG2
    have c0 := HX3.out.cell (k := 0) rfl
    have c1 := HX3.out.cell (k := 1) rfl
    have c2 := HX3.out.cell (k := 2) rfl
    have c3 := HX3.out.cell (k := 3) rfl
    go_wp2_with (refine wpl_storeS shE (c, a, q, v) rfl rfl rfl rfl HB3.out ?_)
    have k0 := (HB3.out.row (c, a, q, v)).cell (k := 0) rfl
    have k1 := (HB3.out.row (c, a, q, v)).cell (k := 1) rfl
    have k2 := (HB3.out.row (c, a, q, v)).cell (k := 2) rfl
    have k3 := (HB3.out.row (c, a, q, v)).cell (k := 3) rfl
    refine bodyPost_ret (v := enV (c, a, q, v)) ?_ rfl ⟨rfl, HG3.out.row HPL.out _⟩
    simp [results, Try.results67, go_sem, k0, k1, k2, k3]
def findI (l : List Pl) (n : Int) : Int := if palR l = 0 then max (idF l n) 0 else 0
/-- there is a place for each number -/
theorem LoAt.ex {l : List Pl} {n : Int} (ha : asc l) : ∃ i, LoAt l i n := by
  refine ⟨(l.filter fun g => decide (g.1 < n)).length, ?_⟩
  induction l with
  | nil => exact ⟨by simp, fun k h => absurd h (by simp), fun k h => absurd h (by simp)⟩
  | cons a r ih =>
    have h := List.pairwise_cons.1 ha
    have ih := ih h.2
    by_cases hn : a.1 < n
    · rw [List.filter_cons, if_pos (by simpa using hn), List.length_cons]
      refine ⟨by have := ih.1; simp; omega, fun k hk hlt => ?_, fun k hk hle => ?_⟩
      · cases k with
        | zero => exact hn
        | succ k => exact ih.2.1 k (by simpa using hk) (by omega)
      · cases k with
        | zero => omega
        | succ k => exact ih.2.2 k (by simpa using hk) (by omega)
    · have h0 : r.filter (fun x => decide (x.1 < n)) = [] := List.filter_eq_nil_iff.2 fun x hx => by have := h.1 x hx; simp; omega
      rw [List.filter_cons, if_neg (by simpa using hn), h0]
      refine ⟨by simp, fun k hk hlt => absurd hlt (by simp), fun k hk hle => ?_⟩
      cases k with
      | zero => show n ≤ a.1; omega
      | succ k => have := h.1 (r[k]'(by simpa using hk)) (List.getElem_mem _); show n ≤ (r[k]'(by simpa using hk)).1; omega
theorem exec_max2 {o : Oper} {ev : Operand → Value} {w : World} {p q : Operand} {x y : Int} (ho : o.op = .call { callee := .builtin .max, args := #[p, q], argTypes := #[3, 3] })
    (hp : ev p = .int .i64 x) (hq : ev q = .int .i64 y) : (execOp ev o).run Try.prog w = .ok (.value (.int .i64 (max x y))) w := by
  have hv : (if x < y then y else x) = max x y := by
    split <;> omega
  unfold execOp
  rw [ho]
  simp [hp, hq, go_sem]
  rw [hv]
theorem wpl_max2 {ops : Array Oper} {rest : List Oper} {o : Oper} {a : Act} {Q : Exit → Act → World → Prop} {w : World} {p q : Operand} {x y : Int} (hg : o.guard = none) (ho : o.op = .call { callee := .builtin .max, args := #[p, q], argTypes := #[3, 3] })
    (hp : a.eval p = .int .i64 x) (hq : a.eval q = .int .i64 y) (hK : wpList Try.prog ops Q rest (a.put o.dst (.int .i64 (max x y))) w) : wpList Try.prog ops Q (o :: rest) a w := by
  refine wpList_plain hg fun K hK' => ?_
  unfold Oper.wp
  rw [exec_max2 ho hp hq, Oper.upon_value]
  exact hK' _ _ hK
set_option maxRecDepth 100000 in
set_option maxHeartbeats 1000000 in
theorem pl_Find {a : Option Addr} {l : List Pl} {cap : Nat} (n : Int) (w : World) (hr : RdP w a l) (hlen : l.length ≤ 9223372036854775807) (hin : ∀ g ∈ l, g.2.length ≤ 9223372036854775807) :
    Calls Try.prog 19 #[.slice a l.length cap, .int .i64 n] w fun e w' => e = .returned (.tuple #[.int .i64 (findI l n), .bool (decide (palR l = 0) && hasN l n), .int .i64 (palR l)]) ∧ Gr w w' := by
  have HC := Lib.hid (pl_Check (cap := cap) w hr hlen hin)
  by_cases h0 : palR l = 0
  · obtain ⟨h32, hall, hasc⟩ := palR_zero.1 h0
    have HP := Lib.hid (fun W (hW : Gr w W) => pl_place (cap := cap) n W (hr.gr hW) hasc (by omega))
    have hF : findI l n = max (idF l n) 0 := if_pos h0
    rw [h0] at HC ⊢
    rw [hF]
    clear hF
    have HI := Lib.hid (show ∀ i : Nat, LoAt l i n → max (idF l n) 0 = if hasN l n = true then (i : Int) else 0 from fun i hi => by rw [idF_lo hasc hi]; split <;> omega)
    have HI2 := Lib.hid (show idF l n < 0 ↔ hasN l n = false from by
      obtain ⟨i, hi⟩ : ∃ i, LoAt l i n := LoAt.ex hasc
      rw [idF_lo hasc hi]; split <;> simp_all <;> omega)
    have HB := Lib.hid (show -1 ≤ idF l n ∧ idF l n < 100 from by
      obtain ⟨i, hi⟩ : ∃ i, LoAt l i n := LoAt.ex hasc
      rw [idF_lo hasc hi]; have := hi.1; split <;> omega)
    simp only [decide_true, Bool.true_and, if_true]
    clear hr hin hall hasc hlen h32
    generalize l.length = m at *
    generalize hasN l n = V at *
    generalize idF l n = J at *
    obtain ⟨K, hK⟩ : ∃ K, max J 0 = K := ⟨_, rfl⟩
    rw [hK] at HI ⊢
    have HK := Lib.hid hK
    clear hK
    go_enter Try.func19, Try.ntmps19
    go_wp2_with fail
    refine HC.out.mono ?_; rintro e w1 ⟨rfl, hg1⟩
    have HG1 := Lib.hid hg1
    have HP1 := Lib.hid (HP.out w1 hg1)
    clear hg1 HC HP
    go_wp2_with fail
    refine HP1.out.mono ?_; rintro e w2 ⟨⟨i, rfl, hlo⟩, hg2⟩
    have HG2 := Lib.hid (HG1.out.trans hg2)
    have hJ := HI.out i hlo
    have HJ := Lib.hid hJ
    clear hg2 HG1 HP1 hlo HI hJ HI2 HB
    cases V
    · have hK : K = 0 := by have := HJ.out; simpa using this
      subst hK
      clear HJ HK
      go_wp2
      go_ret3
      exact ⟨rfl, HG2.out⟩
    · have hK : K = (i : Int) := by have := HJ.out; simpa using this
      subst hK
      clear HJ HK
      go_wp2
      go_ret3
      exact ⟨rfl, HG2.out⟩
  · rw [show findI l n = 0 from if_neg h0, decide_eq_false h0, Bool.false_and]
    have hz : (palR l == 0) = false := by simp [h0]
    clear hr hin hlen h0
    generalize palR l = E at *
    generalize l.length = m at *
    go_enter Try.func19, Try.ntmps19
    go_wp2_with fail
    refine HC.out.mono ?_; rintro e w1 ⟨rfl, hg1⟩
    have HG1 := Lib.hid hg1
    clear hg1 HC
    go_wp2
    go_ret3
    exact ⟨rfl, HG1.out⟩
end Go.Proofs.Ytgjlcmheipmmlaa
