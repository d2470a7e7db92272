/- Law 14: Fan and Centre of the program. -/
import Derived.Test.YtmcngnnbfmjajaaGpG
set_option linter.unusedVariables false
set_option linter.unusedSimpArgs false
namespace Go.Proofs.Ytmcngnnbfmjajaa
open Go.RowKit
open Z
set_option maxRecDepth 100000 in
set_option maxHeartbeats 1000000 in
theorem gp_spreadFe {a b n st : Int} (w : World) (h : okF a b n = false) :
    Calls Try.prog 51 #[.int .i64 a, .int .i64 b, .int .i64 n, .int .i64 st, .func (.func 52) #[] #[]] w fun e w' => e = .returned (.tuple #[.slice none 0 0, .int .i64 2]) ∧ Gr w w' := by
  by_cases h1 : 0 ≤ a ∧ a ≤ 65535
  · by_cases h2 : 0 ≤ b ∧ b ≤ 65535
    · have h3 : ¬ (0 ≤ n ∧ n ≤ 256) := fun h3 => by
        rw [Bool.eq_false_iff] at h
        exact h (okF_iff.2 ⟨h1.1, h1.2, h2.1, h2.2, h3.1, h3.2⟩)
      have I1 := Lib.hid (fun w => in_yes h1 w)
      have I2 := Lib.hid (fun w => in_yes h2 w)
      have I3 := Lib.hid (fun w => in_no h3 w)
      clear h1 h2 h3 h
      go_enter Try.func51, Try.ntmps51
      go_wp2_with fail
      refine (I1.out _).mono ?_; rintro e w' ⟨rfl, rfl⟩
      go_wp2_with fail
      refine (I2.out _).mono ?_; rintro e w' ⟨rfl, rfl⟩
      go_wp2_with fail
      refine (I3.out _).mono ?_; rintro e w' ⟨rfl, rfl⟩
      go_wp2
      go_ret2
      exact ⟨rfl, Gr.refl _⟩
    · have I1 := Lib.hid (fun w => in_yes h1 w)
      have I2 := Lib.hid (fun w => in_no h2 w)
      clear h1 h2 h
      go_enter Try.func51, Try.ntmps51
      go_wp2_with fail
      refine (I1.out _).mono ?_; rintro e w' ⟨rfl, rfl⟩
      go_wp2_with fail
      refine (I2.out _).mono ?_; rintro e w' ⟨rfl, rfl⟩
      go_wp2
      go_ret2
      exact ⟨rfl, Gr.refl _⟩
  · have I1 := Lib.hid (fun w => in_no h1 w)
    clear h1 h
    go_enter Try.func51, Try.ntmps51
    go_wp2_with fail
    refine (I1.out _).mono ?_; rintro e w' ⟨rfl, rfl⟩
    go_wp2
    go_ret2
    exact ⟨rfl, Gr.refl _⟩
set_option maxRecDepth 100000 in
set_option maxHeartbeats 1000000 in
theorem gp_spreadCe {a b n st : Int} {pn pl : Nat} (w : World) (h : okF a b n = false) :
    Calls Try.prog 51 #[.int .i64 a, .int .i64 b, .int .i64 n, .int .i64 st, .func (.func 55) #[] #[.pointer (some ⟨pn, 0, none⟩), .pointer (some ⟨pl, 0, none⟩)]] w fun e w' => e = .returned (.tuple #[.slice none 0 0, .int .i64 2]) ∧ Gr w w' := by
  by_cases h1 : 0 ≤ a ∧ a ≤ 65535
  · by_cases h2 : 0 ≤ b ∧ b ≤ 65535
    · have h3 : ¬ (0 ≤ n ∧ n ≤ 256) := fun h3 => by
        rw [Bool.eq_false_iff] at h
        exact h (okF_iff.2 ⟨h1.1, h1.2, h2.1, h2.2, h3.1, h3.2⟩)
      have I1 := Lib.hid (fun w => in_yes h1 w)
      have I2 := Lib.hid (fun w => in_yes h2 w)
      have I3 := Lib.hid (fun w => in_no h3 w)
      clear h1 h2 h3 h
      go_enter Try.func51, Try.ntmps51
      go_wp2_with fail
      refine (I1.out _).mono ?_; rintro e w' ⟨rfl, rfl⟩
      go_wp2_with fail
      refine (I2.out _).mono ?_; rintro e w' ⟨rfl, rfl⟩
      go_wp2_with fail
      refine (I3.out _).mono ?_; rintro e w' ⟨rfl, rfl⟩
      go_wp2
      go_ret2
      exact ⟨rfl, Gr.refl _⟩
    · have I1 := Lib.hid (fun w => in_yes h1 w)
      have I2 := Lib.hid (fun w => in_no h2 w)
      clear h1 h2 h
      go_enter Try.func51, Try.ntmps51
      go_wp2_with fail
      refine (I1.out _).mono ?_; rintro e w' ⟨rfl, rfl⟩
      go_wp2_with fail
      refine (I2.out _).mono ?_; rintro e w' ⟨rfl, rfl⟩
      go_wp2
      go_ret2
      exact ⟨rfl, Gr.refl _⟩
  · have I1 := Lib.hid (fun w => in_no h1 w)
    clear h1 h
    go_enter Try.func51, Try.ntmps51
    go_wp2_with fail
    refine (I1.out _).mono ?_; rintro e w' ⟨rfl, rfl⟩
    go_wp2
    go_ret2
    exact ⟨rfl, Gr.refl _⟩
set_option maxRecDepth 100000 in
theorem gp_Fan1 (i : Int) (w : World) : Calls Try.prog 52 #[.int .i64 i] w fun e w' => e = .returned (.int .i64 i) ∧ Gr w w' := by
  go_enter Try.func52, Try.ntmps52
  go_wp2
  go_ret
  exact ⟨rfl, Gr.refl _⟩
theorem fan_same {a b : Int} {m : Nat} (ha : 0 ≤ a) (hm : m ≤ 256) : ((List.range m).map fun i : Nat => btw a b (i : Int) (max ((m : Int) - 1) 1)) = fanL a b m := by
  unfold fanL
  refine List.map_congr_left fun i hi => ?_
  rw [List.mem_range] at hi
  by_cases h1 : m = 1
  · subst h1
    have : i = 0 := by omega
    subst this
    rw [show max (((1 : Nat) : Int) - 1) 1 = 1 by decide, show (((1 : Nat) : Int) - 1) = 0 by decide]
    exact (btw_zero a b 1 (by omega)).trans (btw_zero a b 0 (by omega)).symm
  · rw [show max ((m : Int) - 1) 1 = (m : Int) - 1 by omega]
set_option maxRecDepth 100000 in
set_option maxHeartbeats 1000000 in
theorem gp_Fan {a b : Int} {m : Nat} (w : World) (ha : 0 ≤ a) (ha2 : a ≤ 65535) (hb : 0 ≤ b) (hb2 : b ≤ 65535) (hm : m ≤ 256) :
    Calls Try.prog 26 #[.int .i64 a, .int .i64 b, .int .i64 (m : Int)] w fun e w' => (∃ v, e = .returned (.tuple #[v, .int .i64 0]) ∧ OwnI w.heap.size w' v (fanL a b m)) ∧ Gr w w' := by
  have HS := Lib.hid (gp_spreadF (a := a) (b := b) (st := (m : Int) - 1) (m := m) (fun i => (i : Int)) w ha ha2 hb hb2 hm (by omega) (fun i hi => by omega) (fun i _ W _ => gp_Fan1 _ W))
  rw [fan_same ha hm] at HS
  generalize fanL a b m = L at *
  go_enter Try.func26, Try.ntmps26
  go_wp2_with fail
  refine HS.out.mono ?_; rintro e w1 ⟨⟨v, rfl, ho⟩, hg1⟩
  have HO := Lib.hid ho
  have HG := Lib.hid hg1
  clear ho hg1 HS
  go_wp2
  go_ret2
  exact ⟨⟨_, rfl, HO.out⟩, HG.out⟩
set_option maxRecDepth 100000 in
set_option maxHeartbeats 1000000 in
theorem gp_Fan_err {a b n : Int} (w : World) (h : okF a b n = false) :
    Calls Try.prog 26 #[.int .i64 a, .int .i64 b, .int .i64 n] w fun e w' => e = .returned (.tuple #[.slice none 0 0, .int .i64 2]) ∧ Gr w w' := by
  have HS := Lib.hid (gp_spreadFe (st := IntKind.i64.wrap (n - 1)) w h)
  clear h
  generalize hx : IntKind.i64.wrap (n - 1) = x at *
  go_enter Try.func26, Try.ntmps26
  go_wp2_with fail
  refine HS.out.mono ?_; rintro e w1 ⟨rfl, hg1⟩
  have HG := Lib.hid hg1
  clear hg1 HS
  go_wp2
  go_ret2
  exact ⟨rfl, HG.out⟩
/-- a world's cell of one int, laid behind -/
theorem box1 (w : World) (p : Value) (t : TypeId) : (w.alloc (.cells #[p] t)).cell? ⟨w.heap.size, 0, none⟩ = some p := by
  have h := heap_alloc_last w (.cells #[p] t)
  rw [cell_of_row _ _ _ _ _ _ h]; rfl
set_option maxRecDepth 100000 in
set_option maxHeartbeats 1000000 in
theorem gp_Centre1 {pn pl m i : Nat} {e : Int} (w : World) (hn : w.cell? ⟨pn, 0, none⟩ = some (.int .i64 (m : Int))) (hl : w.cell? ⟨pl, 0, none⟩ = some (.int .i64 e)) (he : parE m = e) (hm : m ≤ 256) (hi : i < m) :
    Calls Try.prog 55 #[.int .i64 (i : Int), .pointer (some ⟨pn, 0, none⟩), .pointer (some ⟨pl, 0, none⟩)] w fun e w' => e = .returned (.int .i64 (disC m i)) ∧ Gr w w' := by
  have hd : max (2 * (i : Int) - ((m : Int) - 1)) ((m : Int) - 1 - 2 * (i : Int)) - e = disC m i := by rw [← he]; rfl
  have he2 : 0 ≤ e ∧ e ≤ 1 := by rw [← he]; unfold parE; split <;> decide
  clear he
  obtain ⟨M, hM⟩ : ∃ M, max (2 * (i : Int) - ((m : Int) - 1)) ((m : Int) - 1 - 2 * (i : Int)) = M := ⟨_, rfl⟩
  have hM2 : -1000 ≤ M ∧ M ≤ 1000 := by omega
  have HM := Lib.hid hM
  rw [hM] at hd
  clear hM
  go_enter Try.func55, Try.ntmps55
  go_wp2_with (refine wpl_max2 (x := 2 * (i : Int) - ((m : Int) - 1)) (y := (m : Int) - 1 - 2 * (i : Int)) rfl rfl rfl rfl ?_; rw [HM.out])
  go_ret
  exact ⟨rfl, Gr.refl _⟩
set_option maxRecDepth 100000 in
set_option maxHeartbeats 1000000 in
theorem ownI_low {B B' : Nat} {w : World} {v : Value} {l : List Int} (h : OwnI B w v l) (hB : B' ≤ B) : OwnI B' w v l := by
  refine ⟨h.1, ?_⟩
  rcases h.2 with h2 | ⟨g, cap, cur, h1, hb, h3⟩
  · exact .inl h2
  · exact .inr ⟨g, cap, cur, h1, Nat.le_trans hB hb, h3⟩
set_option maxRecDepth 100000 in
set_option maxHeartbeats 1000000 in
theorem gp_Centre {a b : Int} {m : Nat} (w : World) (ha : 0 ≤ a) (ha2 : a ≤ 65535) (hb : 0 ≤ b) (hb2 : b ≤ 65535) (hm : m ≤ 256) :
    Calls Try.prog 28 #[.int .i64 a, .int .i64 b, .int .i64 (m : Int)] w fun e w' => (∃ v, e = .returned (.tuple #[v, .int .i64 0]) ∧ OwnI w.heap.size w' v (cenL a b m)) ∧ Gr w w' := by
  obtain ⟨e, he⟩ : ∃ e, parE m = e := ⟨_, rfl⟩
  have he2 : 0 ≤ e ∧ e ≤ 1 := by rw [← he]; unfold parE; split <;> decide
  have hpar : ((m : Int) + 1).tmod 2 = e := by
    rw [← he, Int.tmod_eq_emod_of_nonneg (by omega)]
    unfold parE; split <;> omega
  have HD : Hid (∀ i : Nat, i < m → 0 ≤ disC m i ∧ disC m i ≤ max ((m : Int) - 1 - e) 1) := Lib.hid fun i hi => by
    have := disC_bounds (n := (m : Int)) (i := (i : Int)) (by omega) (by omega)
    rw [he] at this
    omega
  have HL : Hid ((List.range m).map (fun i : Nat => btw a b (disC m i) (max ((m : Int) - 1 - e) 1)) = cenL a b m) := Lib.hid (by
    unfold cenL
    rw [he]
    refine List.map_congr_left fun i hi => ?_
    rw [List.mem_range] at hi
    by_cases h1 : 1 ≤ (m : Int) - 1 - e
    · rw [show max ((m : Int) - 1 - e) 1 = (m : Int) - 1 - e by omega]
    · have h2 := disC_bounds (n := (m : Int)) (i := (i : Int)) (by omega) (by omega)
      rw [he] at h2
      rw [show disC (m : Int) (i : Int) = 0 by omega, show max ((m : Int) - 1 - e) 1 = 1 by omega, show (m : Int) - 1 - e = 0 by omega]
      exact (btw_zero a b 1 (by omega)).trans (btw_zero a b 0 (by omega)).symm)
  have HE := Lib.hid he
  clear he
  obtain ⟨w1, hw1⟩ : ∃ w1, w1 = w.alloc (.cells #[.int .i64 (m : Int)] 3) := ⟨_, rfl⟩
  obtain ⟨w2, hw2⟩ : ∃ w2, w2 = w1.alloc (.cells #[.int .i64 e] 3) := ⟨_, rfl⟩
  have HB1 := Lib.hid (show w1.cell? ⟨w.heap.size, 0, none⟩ = some (.int .i64 (m : Int)) by rw [hw1]; exact box1 _ _ _)
  have HG1 := Lib.hid (show Gr w w1 by rw [hw1]; exact (Gr.refl w).alloc _)
  have HB2 := Lib.hid (show w2.cell? ⟨w1.heap.size, 0, none⟩ = some (.int .i64 e) by rw [hw2]; exact box1 _ _ _)
  have HG2 := Lib.hid (show Gr w1 w2 by rw [hw2]; exact (Gr.refl w1).alloc _)
  have HS := Lib.hid (gp_spreadC (pn := w.heap.size) (pl := w1.heap.size) (a := a) (b := b) (st := (m : Int) - 1 - e) (m := m) (fun i => disC m i) w2 ha ha2 hb hb2 hm (by omega) HD.out (fun i hi W hW => gp_Centre1 W (gr_cell (HG2.out.trans hW) HB1.out) (gr_cell hW HB2.out) HE.out hm hi))
  rw [HL.out] at HS
  clear HD HL ha ha2 hb hb2
  generalize cenL a b m = L at *
  have hB1 := HB1.out
  have hsz : w1.heap.size = w.heap.size + 1 := by rw [hw1, World.size_alloc]
  rw [hsz] at HS
  clear hsz HB1 HB2
  go_enter Try.func28, Try.ntmps28
  go_wp2_with fail
  rw [← hw1, ← hw2]
  clear hw1 hw2
  refine HS.out.mono ?_; rintro e w3 ⟨⟨v, rfl, ho⟩, hg3⟩
  have HO := Lib.hid (ownI_low ho (Nat.le_trans HG1.out.size HG2.out.size))
  have HG := Lib.hid (HG1.out.trans (HG2.out.trans hg3))
  clear ho hg3 HS
  go_wp2
  go_ret2
  exact ⟨⟨_, rfl, HO.out⟩, HG.out⟩
set_option maxRecDepth 100000 in
set_option maxHeartbeats 1000000 in
theorem gp_Centre_err {a b n : Int} (w : World) (h : okF a b n = false) :
    Calls Try.prog 28 #[.int .i64 a, .int .i64 b, .int .i64 n] w fun e w' => e = .returned (.tuple #[.slice none 0 0, .int .i64 2]) ∧ Gr w w' := by
  obtain ⟨y, hy⟩ : ∃ y, (IntKind.i64.wrap (n + 1)).tmod 2 = y := ⟨_, rfl⟩
  obtain ⟨w1, hw1⟩ : ∃ w1, w1 = w.alloc (.cells #[.int .i64 n] 3) := ⟨_, rfl⟩
  obtain ⟨w2, hw2⟩ : ∃ w2, w2 = w1.alloc (.cells #[.int .i64 y] 3) := ⟨_, rfl⟩
  have HG := Lib.hid (show Gr w w2 by rw [hw2, hw1]; exact ((Gr.refl w).alloc _).alloc _)
  have hB1 := show w1.cell? ⟨w.heap.size, 0, none⟩ = some (.int .i64 n) by rw [hw1]; exact box1 _ _ _
  have HS := Lib.hid (gp_spreadCe (pn := w.heap.size) (pl := w.heap.size + 1) (st := IntKind.i64.wrap (IntKind.i64.wrap (n - 1) - y)) w2 h)
  clear h
  have hyb : -1 ≤ y ∧ y ≤ 1 := by
    rw [← hy]
    have h1 := Int.tmod_lt_of_pos (IntKind.i64.wrap (n + 1)) (show (0 : Int) < 2 by decide)
    have h2 := Int.lt_tmod_of_pos (IntKind.i64.wrap (n + 1)) (show (0 : Int) < 2 by decide)
    omega
  generalize hx0 : IntKind.i64.wrap (n - 1) = x0 at *
  generalize hx : IntKind.i64.wrap (x0 - y) = x at *
  generalize hz : IntKind.i64.wrap (n + 1) = z at *
  go_enter Try.func28, Try.ntmps28
  go_wp2_with fail
  rw [← hw1]
  go_wp2_with fail
  rw [← hw2]
  clear hw1 hw2
  refine HS.out.mono ?_; rintro e w3 ⟨rfl, hg3⟩
  have HG3 := Lib.hid (HG.out.trans hg3)
  clear hg3 HS HG
  go_wp2
  go_ret2
  exact ⟨rfl, HG3.out⟩
end Go.Proofs.Ytmcngnnbfmjajaa
