/- math/bits.Div64: for all dividends that fit. -/
import Derived.Test.YtlbnibicehpobaaGreatDoorDiv64
import Derived.Deep.QuietTactic
import Derived.BigQuiet
set_option linter.unusedVariables false
set_option linter.unusedSimpArgs false
namespace Go.Proofs.YtlbnibicehpobaaGreatDoor
open Go.RowKit Go.Shelf
open Z

def Div64RetN (q r : Nat) (w w' : World) (e : Ending) : Prop := e = .returned (.tuple #[.int .u64 q, .int .u64 r]) ∧ ∃ m, w' = w.drewN m
set_option maxHeartbeats 4000000 in
set_option maxRecDepth 100000 in
theorem i_Div64z (lo y : Nat) (w : World) (h2 : 0 < y) (h3 : lo < 18446744073709551616) (h4 : y < 18446744073709551616) :
    Calls Tryz.prog 200 #[.int .u64 0, .int .u64 lo, .int .u64 y] w (fun e w' => Div64RetN (lo / y) (lo % y) w w' e) := by
  have hq : (lo : Int).tdiv (y : Int) = ((lo / y : Nat) : Int) := rfl
  have hm : (lo : Int).tmod (y : Int) = ((lo % y : Nat) : Int) := rfl
  have hql : lo / y ≤ lo := Nat.div_le_self _ _
  have hrl : lo % y < y := Nat.mod_lt _ h2
  generalize lo / y = q at hq hql ⊢
  generalize lo % y = r at hm hrl ⊢
  have hwq : IntKind.u64.wrap (q : Int) = (q : Int) := IntWalk.u64_in _ (by omega)
  have hwr : IntKind.u64.wrap (r : Int) = (r : Int) := IntWalk.u64_in _ (by omega)
  go_enter Tryz.func200, Tryz.ntmps200
  go_wp2
  go_quiet (fail)
  all_goals
    go_wp2
    go_ret2
    exact ⟨rfl, _, rfl⟩
theorem i_Div64 (hi lo y : Nat) (w : World) (h2 : hi < y) (h3 : lo < 18446744073709551616) (h4 : y < 18446744073709551616) :
    Calls Tryz.prog 200 #[.int .u64 hi, .int .u64 lo, .int .u64 y] w (fun e w' => Div64RetN ((hi * 18446744073709551616 + lo) / y) ((hi * 18446744073709551616 + lo) % y) w w' e) := by
  rcases Nat.eq_zero_or_pos hi with rfl | h1
  · rw [Nat.zero_mul, Nat.zero_add]
    exact i_Div64z lo y w h2 h3 h4
  · obtain ⟨s, hs, hsl, hY, hY2⟩ := normed (y := y) (by omega) h4
    have hA : hi * 2 ^ s < y * 2 ^ s := Nat.mul_lt_mul_of_pos_right h2 (Nat.two_pow_pos _)
    have hmv := moved (hi := hi) (lo := lo) (y := y) hs h3 (by omega)
    have hor := or_parts (hi := hi) (lo := lo) hs h3
    have hlo : lo / 2 ^ (64 - s) ≤ lo := Nat.div_le_self _ _
    have hu : hi * 2 ^ s + lo / 2 ^ (64 - s) < y * 2 ^ s := by
      have e : 18446744073709551616 = 2 ^ (64 - s) * 2 ^ s := by rw [← Nat.pow_add, show 64 - s + s = 64 by omega]
      have h : lo / 2 ^ (64 - s) < 2 ^ s := Nat.div_lt_of_lt_mul (by rw [← e]; exact h3)
      have : (hi + 1) * 2 ^ s ≤ y * 2 ^ s := Nat.mul_le_mul_right _ h2
      rw [Nat.add_mul, Nat.one_mul] at this
      omega
    have hdiv : (hi * 18446744073709551616 + lo) * 2 ^ s / (y * 2 ^ s) = (hi * 18446744073709551616 + lo) / y := Nat.mul_div_mul_right _ _ (Nat.two_pow_pos _)
    have hmod : (hi * 18446744073709551616 + lo) * 2 ^ s % (y * 2 ^ s) / 2 ^ s = (hi * 18446744073709551616 + lo) % y := by
      rw [Nat.mul_mod_mul_right]; exact Nat.mul_div_cancel _ (Nat.two_pow_pos _)
    generalize hYe : y * 2 ^ s = Y at hY hY2 hA hu hdiv hmod
    generalize hue : hi * 2 ^ s + lo / 2 ^ (64 - s) = u at hmv hor hu
    generalize hve : lo * 2 ^ s % 18446744073709551616 = v at hmv
    have hv : v < 18446744073709551616 := by rw [← hve]; exact Nat.mod_lt _ (by omega)
    obtain ⟨q0, p0, r0, g1, g2, g3, g4, g5, g6, g7⟩ := half_start hY hu hY2
    refine (i_Div64b hi lo y s Y (Y / 4294967296) (Y % 4294967296) (hi * 2 ^ s) u v (v / 4294967296) (v % 4294967296) p0 r0 q0 w h1 h2 h3 h4 hs hsl ?_ rfl (and_low Y hY2) ?_ ?_ ?_ rfl (and_low v hv) g1 g2 g3 g4 g5 g6 (g7 _ (by omega)) hY hY2 hu (by omega) (by omega) rfl rfl (by omega) (by omega) (by omega) (by omega) hv ?_ ?_).mono ?_
    · rw [cast_mulpow, hYe]; exact IntWalk.u64_in _ (by omega)
    · rw [cast_mulpow]; exact IntWalk.u64_in _ (by omega)
    · rw [cast_divpow, bits_or_u64_nat _ _ (by omega) (by omega), hor]
    · rw [cast_mulpow]; exact wrap_of (by rw [← hve]; rfl)
    · show _ = _
      rw [← hdiv, ← hmv, ← y_cut v]
    · show _ = _
      rw [← hmod, ← hmv, ← y_cut v]
    · rintro e w' ⟨rfl, rfl⟩
      exact ⟨rfl, 0, rfl⟩
end Go.Proofs.YtlbnibicehpobaaGreatDoor

