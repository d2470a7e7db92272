/- Records: the examples of the chapter. -/
import Derived.Test.YtebniicnaofdoaaRcF
set_option linter.unusedVariables false
set_option linter.unusedSimpArgs false
namespace Go.Proofs.Ytebniicnaofdoaa
open Go.RowKit
open Z Rc

theorem lit_Int (n : Int) (b : ByteArray) (w : World) (h1 : -9223372036854775808 ≤ n) (h2 : n < 9223372036854775808) (h : int8 n = b.data.toList) :
    Calls Try.prog 14 #[.int .i64 n] w fun e w' => e = .returned (.string b) ∧ Gr w w' := by
  have H := rc_Int n w h1 h2
  have e : str (int8 n) = b := ba_ext (by rw [data_str, h])
  rw [e] at H; exact H
theorem lit_GetInt (n : Int) (b : ByteArray) (w : World) (h1 : -9223372036854775808 ≤ n) (h2 : n < 9223372036854775808) (h : int8 n = b.data.toList) (hb : b.size ≤ 10) :
    Calls Try.prog 12 #[.string b, .int .i64 0] w fun e w' => e = .returned (.tuple #[.int .i64 n, .int .i64 (b.size : Int), .int .i64 0]) ∧ w = w' := by
  have H := rc_GetInt b 0 w (by unfold maxLen; omega)
  have e := getI_at [] [] n h1 h2
  have e2 : b.data.toList.length = b.size := by simp
  simp only [List.nil_append, List.append_nil, List.length_nil, Nat.zero_add, h, e2] at e
  unfold gV at H
  have e' : getI b.data.toList 0 = (n, (b.size : Int), 0) := e
  rw [e'] at H; exact H
theorem i8_0 : int8 0 = [0] := by unfold int8; rw [gr_small (by decide)]; rfl
theorem i8_m1 : int8 (-1) = [1] := by unfold int8; rw [gr_small (by decide)]; rfl
theorem i8_64 : int8 64 = [128, 1] := by unfold int8; rw [gr_big (by decide), gr_small (by decide)]; rfl
theorem i8_300 : int8 300 = [216, 4] := by unfold int8; rw [gr_big (by decide), gr_small (by decide)]; rfl
theorem lit_Pack (w : World) : Calls Try.prog 20 #[.agg #[.int .i64 1, .string ⟨#[65]⟩]] w fun e w' => e = .returned (.tuple #[.string ⟨#[1, 0, 1, 65, 71, 67]⟩, .int .i64 0]) ∧ Gr w w' := by
  have H := rc_Pack ((1 : Int), ⟨#[65]⟩) w (by unfold maxLen; decide)
  have e : xV (packE ((1 : Int), ⟨#[65]⟩)) = .tuple #[.string ⟨#[1, 0, 1, 65, 71, 67]⟩, .int .i64 0] := by rfl
  rw [e] at H; exact H
theorem lit_Sum (w : World) : Calls Try.prog 22 #[.string ⟨#[1, 2]⟩] w fun e w' => e = .returned (.int .i64 1027) ∧ w = w' := by
  have H := rc_Sum ⟨#[1, 2]⟩ w (by unfold maxLen; decide)
  exact H
def AwC (w : World) (b : Nat) : Prop :=
  w.cell? ⟨b, 0, none⟩ = some (.int .i64 0) ∧ w.cell? ⟨b, 1, none⟩ = some (.string ⟨#[0]⟩) ∧ w.cell? ⟨b, 2, none⟩ = some (.int .i64 (-1)) ∧ w.cell? ⟨b, 3, none⟩ = some (.string ⟨#[1]⟩) ∧ w.cell? ⟨b, 4, none⟩ = some (.int .i64 64) ∧ w.cell? ⟨b, 5, none⟩ = some (.string ⟨#[128, 1]⟩) ∧ w.cell? ⟨b, 6, none⟩ = some (.int .i64 300) ∧ w.cell? ⟨b, 7, none⟩ = some (.string ⟨#[216, 4]⟩)
theorem AwC.gr {w w' : World} {b : Nat} (h : AwC w b) (hg : Gr w w') : AwC w' b :=
  ⟨gr_cell hg h.1, gr_cell hg h.2.1, gr_cell hg h.2.2.1, gr_cell hg h.2.2.2.1, gr_cell hg h.2.2.2.2.1, gr_cell hg h.2.2.2.2.2.1, gr_cell hg h.2.2.2.2.2.2.1, gr_cell hg h.2.2.2.2.2.2.2⟩
set_option maxHeartbeats 4000000 in
set_option maxRecDepth 100000 in
theorem l8_awake (w : World) : Calls Try.prog 11 #[] w fun e w' => e = .returned (.bool true) ∧ Gr w w' := by
  have I0 := Lib.hid (fun w => lit_Int 0 ⟨#[0]⟩ w (by omega) (by omega) i8_0)
  have I1 := Lib.hid (fun w => lit_Int (-1) ⟨#[1]⟩ w (by omega) (by omega) i8_m1)
  have I2 := Lib.hid (fun w => lit_Int 64 ⟨#[128, 1]⟩ w (by omega) (by omega) i8_64)
  have I3 := Lib.hid (fun w => lit_Int 300 ⟨#[216, 4]⟩ w (by omega) (by omega) i8_300)
  have G0 := Lib.hid (fun w => lit_GetInt 0 ⟨#[0]⟩ w (by omega) (by omega) i8_0 (by decide))
  have G1 := Lib.hid (fun w => lit_GetInt (-1) ⟨#[1]⟩ w (by omega) (by omega) i8_m1 (by decide))
  have G2 := Lib.hid (fun w => lit_GetInt 64 ⟨#[128, 1]⟩ w (by omega) (by omega) i8_64 (by decide))
  have G3 := Lib.hid (fun w => lit_GetInt 300 ⟨#[216, 4]⟩ w (by omega) (by omega) i8_300 (by decide))
  go_enter Try.func11, Try.ntmps11
  go_wp2
  generalize hw0 : World.alloc _ _ = w0
  have hA : AwC w0 w.heap.size := by rw [← hw0]; exact ⟨by simp, by simp, by simp, by simp, by simp, by simp, by simp, by simp⟩
  have HG0 : Hid (Gr w w0) := by rw [← hw0]; exact (Gr.refl w).alloc _
  have HA := Lib.hid hA
  clear hw0 hA
  go_loopw [14] (fun i wr => ∃ k : Nat, i = .int .i64 k ∧ k ≤ 4 ∧ Hid (Gr w0 wr)) (fun i _ => 4 - (intOf i).toNat)
  case atStart => exact ⟨0, rfl, by omega, Gr.refl _⟩
  case round =>
    obtain ⟨k, rfl, hk, HG⟩ := hrel
    by_cases hlt : k < 4
    · have hg := HG.out
      obtain ⟨a0, a1, a2, a3, a4, a5, a6, a7⟩ := id (HA.out.gr hg)
      have hk4 : k = 0 ∨ k = 1 ∨ k = 2 ∨ k = 3 := by omega
      rcases hk4 with rfl | rfl | rfl | rfl
      · go_wp2_with fail
        refine (G0.out _).mono ?_; rintro e w' ⟨rfl, rfl⟩
        go_wp2_with fail
        have g1 : Gr w0 (wr.alloc (.cells #[.int .i64 0, .string ⟨#[0]⟩] 69)).drew := (hg.alloc _).drew
        have e0 : (wr.alloc (.cells #[.int .i64 0, .string ⟨#[0]⟩] 69)).drew.cell? ⟨wr.heap.size, 0, none⟩ = some (.int .i64 0) := by simp
        have e1 : (wr.alloc (.cells #[.int .i64 0, .string ⟨#[0]⟩] 69)).drew.cell? ⟨wr.heap.size, 1, none⟩ = some (.string ⟨#[0]⟩) := by simp
        go_region_held3 (fun w' => w'.cell? ⟨wr.heap.size, 0, none⟩ = some (.int .i64 0) ∧ w'.cell? ⟨wr.heap.size, 1, none⟩ = some (.string ⟨#[0]⟩)) (go_keep) (first
          | (go_at_call 14; refine (I0.out _).mono ?_; rintro e w6 ⟨rfl, h6⟩; have g6 : Gr w0 w6 := Gr.trans (by assumption) h6; have d0 : w6.cell? ⟨wr.heap.size, 0, none⟩ = some (.int .i64 0) := gr_cell h6 (by assumption); have d1 : w6.cell? ⟨wr.heap.size, 1, none⟩ = some (.string ⟨#[0]⟩) := gr_cell h6 (by assumption)))
        have HG6 := Lib.hid (show Gr w0 w6 from by assumption)
        clear e0 e1 g1
        go_wp2
        go_roundw
        case rel => exact ⟨1, rfl, by omega, HG6.out⟩
        case measure => simp [intOf]
      · go_wp2_with fail
        refine (G1.out _).mono ?_; rintro e w' ⟨rfl, rfl⟩
        go_wp2_with fail
        have g1 : Gr w0 (wr.alloc (.cells #[.int .i64 (-1), .string ⟨#[1]⟩] 69)).drew := (hg.alloc _).drew
        have e0 : (wr.alloc (.cells #[.int .i64 (-1), .string ⟨#[1]⟩] 69)).drew.cell? ⟨wr.heap.size, 0, none⟩ = some (.int .i64 (-1)) := by simp
        have e1 : (wr.alloc (.cells #[.int .i64 (-1), .string ⟨#[1]⟩] 69)).drew.cell? ⟨wr.heap.size, 1, none⟩ = some (.string ⟨#[1]⟩) := by simp
        go_region_held3 (fun w' => w'.cell? ⟨wr.heap.size, 0, none⟩ = some (.int .i64 (-1)) ∧ w'.cell? ⟨wr.heap.size, 1, none⟩ = some (.string ⟨#[1]⟩)) (go_keep) (first
          | (go_at_call 14; refine (I1.out _).mono ?_; rintro e w6 ⟨rfl, h6⟩; have g6 : Gr w0 w6 := Gr.trans (by assumption) h6; have d0 : w6.cell? ⟨wr.heap.size, 0, none⟩ = some (.int .i64 (-1)) := gr_cell h6 (by assumption); have d1 : w6.cell? ⟨wr.heap.size, 1, none⟩ = some (.string ⟨#[1]⟩) := gr_cell h6 (by assumption)))
        have HG6 := Lib.hid (show Gr w0 w6 from by assumption)
        clear e0 e1 g1
        go_wp2
        go_roundw
        case rel => exact ⟨2, rfl, by omega, HG6.out⟩
        case measure => simp [intOf]
      · go_wp2_with fail
        refine (G2.out _).mono ?_; rintro e w' ⟨rfl, rfl⟩
        go_wp2_with fail
        have g1 : Gr w0 (wr.alloc (.cells #[.int .i64 64, .string ⟨#[128, 1]⟩] 69)).drew := (hg.alloc _).drew
        have e0 : (wr.alloc (.cells #[.int .i64 64, .string ⟨#[128, 1]⟩] 69)).drew.cell? ⟨wr.heap.size, 0, none⟩ = some (.int .i64 64) := by simp
        have e1 : (wr.alloc (.cells #[.int .i64 64, .string ⟨#[128, 1]⟩] 69)).drew.cell? ⟨wr.heap.size, 1, none⟩ = some (.string ⟨#[128, 1]⟩) := by simp
        go_region_held3 (fun w' => w'.cell? ⟨wr.heap.size, 0, none⟩ = some (.int .i64 64) ∧ w'.cell? ⟨wr.heap.size, 1, none⟩ = some (.string ⟨#[128, 1]⟩)) (go_keep) (first
          | (go_at_call 14; refine (I2.out _).mono ?_; rintro e w6 ⟨rfl, h6⟩; have g6 : Gr w0 w6 := Gr.trans (by assumption) h6; have d0 : w6.cell? ⟨wr.heap.size, 0, none⟩ = some (.int .i64 64) := gr_cell h6 (by assumption); have d1 : w6.cell? ⟨wr.heap.size, 1, none⟩ = some (.string ⟨#[128, 1]⟩) := gr_cell h6 (by assumption)))
        have HG6 := Lib.hid (show Gr w0 w6 from by assumption)
        clear e0 e1 g1
        go_wp2
        go_roundw
        case rel => exact ⟨3, rfl, by omega, HG6.out⟩
        case measure => simp [intOf]
      · go_wp2_with fail
        refine (G3.out _).mono ?_; rintro e w' ⟨rfl, rfl⟩
        go_wp2_with fail
        have g1 : Gr w0 (wr.alloc (.cells #[.int .i64 300, .string ⟨#[216, 4]⟩] 69)).drew := (hg.alloc _).drew
        have e0 : (wr.alloc (.cells #[.int .i64 300, .string ⟨#[216, 4]⟩] 69)).drew.cell? ⟨wr.heap.size, 0, none⟩ = some (.int .i64 300) := by simp
        have e1 : (wr.alloc (.cells #[.int .i64 300, .string ⟨#[216, 4]⟩] 69)).drew.cell? ⟨wr.heap.size, 1, none⟩ = some (.string ⟨#[216, 4]⟩) := by simp
        go_region_held3 (fun w' => w'.cell? ⟨wr.heap.size, 0, none⟩ = some (.int .i64 300) ∧ w'.cell? ⟨wr.heap.size, 1, none⟩ = some (.string ⟨#[216, 4]⟩)) (go_keep) (first
          | (go_at_call 14; refine (I3.out _).mono ?_; rintro e w6 ⟨rfl, h6⟩; have g6 : Gr w0 w6 := Gr.trans (by assumption) h6; have d0 : w6.cell? ⟨wr.heap.size, 0, none⟩ = some (.int .i64 300) := gr_cell h6 (by assumption); have d1 : w6.cell? ⟨wr.heap.size, 1, none⟩ = some (.string ⟨#[216, 4]⟩) := gr_cell h6 (by assumption)))
        have HG6 := Lib.hid (show Gr w0 w6 from by assumption)
        clear e0 e1 g1
        go_wp2
        go_roundw
        case rel => exact ⟨4, rfl, by omega, HG6.out⟩
        case measure => simp [intOf]
    · have hk4 : k = 4 := by omega
      subst hk4
      have P := Lib.hid lit_Pack
      have S := Lib.hid lit_Sum
      clear I0 I1 I2 I3 G0 G1 G2 G3
      go_wp2_with fail
      refine (P.out _).mono ?_; rintro e w1 ⟨rfl, hg1⟩
      have HG1 := Lib.hid (Gr.trans HG0.out (Gr.trans HG.out hg1))
      clear hg1
      go_wp2_with fail
      refine (S.out _).mono ?_; rintro e w1 ⟨rfl, rfl⟩
      go_wp2
      go_ret
      exact ⟨rfl, HG1.out⟩
end Go.Proofs.Ytebniicnaofdoaa
