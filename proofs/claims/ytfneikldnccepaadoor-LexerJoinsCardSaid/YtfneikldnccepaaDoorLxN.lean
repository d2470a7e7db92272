/- Law 7: the reference's letter, digit, plain, sign, word, number, quoted. -/
import Derived.Test.YtfneikldnccepaaDoorLxM
set_option linter.unusedVariables false
set_option linter.unusedSimpArgs false
namespace Go.Proofs.YtfneikldnccepaaDoor
open Go.RowKit Go.Shelf
open Z
set_option maxRecDepth 100000 in
set_option maxHeartbeats 1000000 in
theorem r7_letter (c : UInt8) (w : World) : Calls Tryd.prog 53 #[.int .u8 (c.toNat : Int)] w fun e w' => e = .returned (.bool (letP c)) ∧ w' = w := by
  unfold letP
  generalize c.toNat = m at *
  go_enter Tryd.func53, Tryd.ntmps53
  go_wp2
  all_goals
    go_ret
    exact ⟨ret_bool (by rw [Bool.eq_iff_iff]; simp; try omega), rfl⟩
set_option maxRecDepth 100000 in
set_option maxHeartbeats 1000000 in
theorem r7_digit (c : UInt8) (w : World) : Calls Tryd.prog 56 #[.int .u8 (c.toNat : Int)] w fun e w' => e = .returned (.bool (isD c)) ∧ w' = w := by
  unfold isD
  generalize c.toNat = m at *
  go_enter Tryd.func56, Tryd.ntmps56
  go_wp2
  all_goals
    go_ret
    exact ⟨ret_bool (by rw [Bool.eq_iff_iff]; simp; try omega), rfl⟩
theorem byte_int (c : UInt8) (v : Nat) (hv : v < 256) : ((c.toNat : Int) == (v : Int)) = (c == UInt8.ofNat v) := by
  rw [Bool.eq_iff_iff, beq_iff_eq, beq_iff_eq]
  constructor
  · intro h
    rw [← UInt8.toNat_inj, show (UInt8.ofNat v).toNat = v from by simp; omega]
    omega
  · rintro rfl
    rw [show (UInt8.ofNat v).toNat = v from by simp; omega]
set_option maxRecDepth 100000 in
set_option maxHeartbeats 1000000 in
theorem r7_plain (c : UInt8) (w : World) : Calls Tryd.prog 95 #[.int .u8 (c.toNat : Int)] w fun e w' => e = .returned (.bool (plainP c)) ∧ w' = w := by
  unfold plainP
  have hq : (c == 34) = ((c.toNat : Int) == 34) := (byte_int c 34 (by decide)).symm
  rw [hq]
  clear hq
  generalize c.toNat = m at *
  go_enter Tryd.func95, Tryd.ntmps95
  go_wp2
  all_goals
    go_ret
    exact ⟨ret_bool (by rw [Bool.eq_iff_iff]; simp; try omega), rfl⟩
def signS : ByteArray := ⟨#[43, 45, 47, 46, 44, 64, 58, 61, 37, 40, 41]⟩
set_option maxRecDepth 100000 in
set_option maxHeartbeats 2000000 in
theorem r7_sign (c : UInt8) (w : World) : Calls Tryd.prog 94 #[.int .u8 (c.toNat : Int)] w fun e w' => e = .returned (.bool (signP c)) ∧ w' = w := by
  have HB : Hid (∀ v : UInt8, ((v.toNat : Int) == (c.toNat : Int)) = (c == v)) := Lib.hid fun v => by
    rw [Bool.eq_iff_iff, beq_iff_eq, beq_iff_eq, ← UInt8.toNat_inj]
    omega
  obtain ⟨P, hP⟩ : ∃ P, signP c = P := ⟨_, rfl⟩
  have HP : Hid ((signL.drop 0).contains c = P) := Lib.hid hP
  rw [hP]
  clear hP
  generalize hm : c.toNat = m at *
  clear hm
  go_enter Tryd.func94, Tryd.ntmps94
  go_wp2
  go_loop [3] (fun i => ∃ k : Nat, k ≤ 11 ∧ i = .int .i64 k ∧ Hid ((signL.drop k).contains c = P)) (fun i => 11 - (intOf i).toNat)
  case atStart => exact ⟨0, by omega, rfl, HP⟩
  case round =>
    obtain ⟨k, hk, rfl, HK⟩ := hrel
    by_cases hlt : k < 11
    · have hd : signL.drop k = (signS[k]'(hlt)) :: signL.drop (k + 1) := List.drop_eq_getElem_cons (l := signL) hlt
      have h2 := HK.out
      rw [hd, List.contains_cons] at h2
      have h1 := HB.out (signS[k]'(hlt))
      rw [show (c == signS[k]'(hlt)) = (((signS[k]'(hlt)).toNat : Int) == (m : Int)) from h1.symm] at h2
      unfold signS at h2
      clear h1 hd HB HK
      cases hz : (((⟨#[43, 45, 47, 46, 44, 64, 58, 61, 37, 40, 41]⟩ : ByteArray)[k]'hlt).toNat : Int) == (m : Int)
      · rw [hz, Bool.false_or] at h2
        have HS := Lib.hid h2
        clear h2
        go_wp2
        go_round
        case rel => exact ⟨k + 1, by omega, by go_num, HS⟩
        case measure => simp [intOf]; omega
      · rw [hz, Bool.true_or] at h2
        have HS := Lib.hid h2
        clear h2
        go_wp2
        go_ret
        exact ⟨ret_bool HS.out, rfl⟩
    · have hk11 : k = 11 := by omega
      subst hk11
      have HF : Hid (P = false) := Lib.hid (by rw [← HK.out]; rfl)
      go_wp2
      go_ret
      exact ⟨ret_bool HF.out.symm, rfl⟩
end Go.Proofs.YtfneikldnccepaaDoor
