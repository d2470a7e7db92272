/- math/bits.Div64: the quotient of 128 bits by 64 bits. -/
import Derived.Test.YtlbnibicehpobaaGreatDoorIntC
import Derived.Test.YtlbnibicehpobaaGreatDoorShelf
import Derived.IntWalk
import Derived.Laws.Bits64b
set_option linter.unusedVariables false
set_option linter.unusedSimpArgs false
namespace Go.Proofs.YtlbnibicehpobaaGreatDoor
open Go.RowKit Go.Shelf
open Z

theorem bitLen_range : ∀ (n x : Nat), x < 2 ^ n → n ≤ 64 → x ≠ 0 → 1 ≤ Lib.bitLen x ∧ Lib.bitLen x ≤ n ∧ 2 ^ (Lib.bitLen x - 1) ≤ x ∧ x < 2 ^ Lib.bitLen x := by
  intro n
  induction n with
  | zero => intro x h _ h0; omega
  | succ n ih =>
    intro x h hn h0
    have h64 : x < 2 ^ 64 := Nat.lt_of_lt_of_le h (Nat.pow_le_pow_right (by omega) hn)
    rw [Lib.bitLen_half x h0 h64]
    by_cases e : x / 2 = 0
    · have : x = 1 := by omega
      subst this
      have : Lib.bitLen (1 / 2) = 0 := by decide
      rw [this]; simp
    · have hx2 : x / 2 < 2 ^ n := by rw [Nat.pow_succ] at h; omega
      obtain ⟨i1, i2, i3, i4⟩ := ih (x / 2) hx2 (by omega) e
      generalize Lib.bitLen (x / 2) = l at i1 i2 i3 i4
      obtain ⟨k, rfl⟩ : ∃ k, l = k + 1 := ⟨l - 1, by omega⟩
      rw [show 1 + (k + 1) - 1 = k + 1 by omega, show 1 + (k + 1) = k + 1 + 1 by omega]
      rw [show k + 1 - 1 = k by omega] at i3
      rw [Nat.pow_succ 2 (k + 1)]
      rw [Nat.pow_succ] at i4 ⊢
      exact ⟨by omega, by omega, by omega, by omega⟩
/-- the divisor, moved up until its top bit is set -/
theorem normed {y : Nat} (h0 : 0 < y) (h : y < 18446744073709551616) : ∃ s : Nat, s < 64 ∧ (64 - (Lib.bitLen y : Int)) = (s : Int) ∧ 9223372036854775808 ≤ y * 2 ^ s ∧ y * 2 ^ s < 18446744073709551616 := by
  obtain ⟨h1, h2, h3, h4⟩ := bitLen_range 64 y (by omega) (by omega) (by omega)
  generalize Lib.bitLen y = l at h1 h2 h3 h4
  refine ⟨64 - l, by omega, by omega, ?_, ?_⟩
  · have : 2 ^ (l - 1) * 2 ^ (64 - l) ≤ y * 2 ^ (64 - l) := Nat.mul_le_mul_right _ h3
    rw [← Nat.pow_add, show l - 1 + (64 - l) = 63 by omega] at this
    exact this
  · have : y * 2 ^ (64 - l) < 2 ^ l * 2 ^ (64 - l) := Nat.mul_lt_mul_of_pos_right h4 (Nat.two_pow_pos _)
    rw [← Nat.pow_add, show l + (64 - l) = 64 by omega] at this
    exact this
theorem wrap_of {n : Int} {m : Nat} (h : n % 18446744073709551616 = (m : Int)) : IntKind.u64.wrap n = (m : Int) := by rw [IntKind.wrap_u64]; exact h
theorem and_low (x : Nat) (h : x < 18446744073709551616) : bits BinOp.and .u64 (x : Int) 4294967295 = ((x % 4294967296 : Nat) : Int) := by
  rw [show (4294967295 : Int) = ((4294967295 : Nat) : Int) from rfl, bits_and_u64_nat x _ h (by omega)]
  congr 1
  exact Nat.and_two_pow_sub_one_eq_mod x 32
theorem cast_mulpow (y s : Nat) : (y : Int) * 2 ^ s = ((y * 2 ^ s : Nat) : Int) := by simp
theorem cast_divpow (y s : Nat) : (y : Int) / 2 ^ s = ((y / 2 ^ s : Nat) : Int) := by simp
/-- what a half step's rest is -/
theorem rest_wrap {u a P r m1 m2 : Nat} (h1 : m1 = u * 4294967296 % 18446744073709551616) (h2 : m2 = P % 18446744073709551616) (h : P + r = u * 4294967296 + a) (hr : r < 18446744073709551616) : IntKind.u64.wrap ((m1 : Int) + (a : Int) - (m2 : Int)) = (r : Int) :=
  wrap_of (by omega)
/-- how a half step begins, for the walk -/
theorem half_start {u Y : Nat} (hy : 9223372036854775808 ≤ Y) (hu : u < Y) (hy2 : Y < 18446744073709551616) :
    ∃ q p r : Nat, (u : Int) / ((Y / 4294967296 : Nat) : Int) = (q : Int) ∧ (q : Int) * ((Y / 4294967296 : Nat) : Int) = (p : Int) ∧ p ≤ u ∧ (u : Int) - (p : Int) = (r : Int) ∧ q ≤ 4294967297 ∧ r < 4294967296 ∧ ∀ a, a < 4294967296 → HStep u a Y q r := by
  have h := fun a ha => HStep.start (un := a) hy hu ha hy2
  have h0 := h 0 (by omega)
  have h1 := Nat.div_add_mod u (Y / 4294967296)
  refine ⟨u / (Y / 4294967296), u / (Y / 4294967296) * (Y / 4294967296), u % (Y / 4294967296), rfl, by rw [Int.natCast_mul], by rw [Nat.mul_comm]; omega, ?_, h0.2.1, h0.2.2, fun a ha => (h a ha).1⟩
  rw [Nat.mul_comm]; omega
/-- what stands behind a half step, for the walk -/
theorem half_rest {u a Y q : Nat} (hq : q = (u * 4294967296 + a) / Y) (hY : 0 < Y) (hY2 : Y < 18446744073709551616) (ha : a < 4294967296) :
    ∃ m1 m2 r : Nat, IntKind.u64.wrap ((u : Int) * 4294967296) = (m1 : Int) ∧ m1 ≤ 18446744069414584320 ∧ IntKind.u64.wrap ((q : Int) * (Y : Int)) = (m2 : Int) ∧ m2 < 18446744073709551616 ∧ IntKind.u64.wrap ((m1 : Int) + (a : Int) - (m2 : Int)) = (r : Int) ∧ Hid (r = (u * 4294967296 + a) % Y) ∧ r < Y := by
  have h := rem_of hq
  have hr : (u * 4294967296 + a) % Y < Y := Nat.mod_lt _ hY
  refine ⟨u * 4294967296 % 18446744073709551616, q * Y % 18446744073709551616, (u * 4294967296 + a) % Y, wrap_of (by omega), by omega, wrap_of (by rw [← Int.natCast_mul]; rfl), Nat.mod_lt _ (by omega), ?_, rfl, hr⟩
  exact rest_wrap rfl rfl h (by omega)
theorem half_end {u a b Y q q2 r1 Q : Nat} (hq : q = (u * 4294967296 + a) / Y) (hr : r1 = (u * 4294967296 + a) % Y) (hq2 : q2 = (r1 * 4294967296 + b) / Y) (hY : 0 < Y) (hQ : (u * 18446744073709551616 + (a * 4294967296 + b)) / Y = Q) : q * 4294967296 + q2 = Q := by
  rw [← hQ, ← two_steps hY, ← hr, ← hq, ← hq2]
theorem qlt {u a Y q : Nat} (hq : q = (u * 4294967296 + a) / Y) (hu : u < Y) (ha : a < 4294967296) : q < 4294967296 := by rw [hq]; exact quot_lt hu ha
/-- the ways of a round of a half step -/
theorem half_ways {u a Y Y1 Y0 q r : Nat} (hq : q ≤ 4294967297) (hr : r < 4294967296) (HI : HStep u a Y q r) (hu : u < Y) (ha : a < 4294967296) (HY1 : Y1 = Y / 4294967296) (HY0 : Y0 = Y % 4294967296) :
    (∃ m : Nat, (q : Int) * (Y0 : Int) = (m : Int) ∧ m < 18446744073709551616 ∧ ¬ (4294967296 : Int) ≤ (q : Int) ∧ ¬ (4294967296 : Int) * (r : Int) + (a : Int) < (m : Int) ∧ Hid (q = (u * 4294967296 + a) / Y)) ∨
    (∃ k, q = k + 1 ∧ (4294967296 : Int) ≤ (k : Int) + 1 ∧ k ≤ 4294967296 ∧ ¬ (4294967296 : Int) ≤ (r : Int) + (Y1 : Int) ∧ Hid (HStep u a Y k (r + Y1))) ∨
    (∃ k, q = k + 1 ∧ (4294967296 : Int) ≤ (k : Int) + 1 ∧ k ≤ 4294967296 ∧ (4294967296 : Int) ≤ (r : Int) + (Y1 : Int) ∧ Hid (k = (u * 4294967296 + a) / Y)) ∨
    (∃ k, q = k + 1 ∧ ∃ m : Nat, ((k : Int) + 1) * (Y0 : Int) = (m : Int) ∧ m < 18446744073709551616 ∧ ¬ (4294967296 : Int) ≤ (k : Int) + 1 ∧ (4294967296 : Int) * (r : Int) + (a : Int) < (m : Int) ∧ ¬ (4294967296 : Int) ≤ (r : Int) + (Y1 : Int) ∧ Hid (HStep u a Y k (r + Y1))) ∨
    (∃ k, q = k + 1 ∧ ∃ m : Nat, ((k : Int) + 1) * (Y0 : Int) = (m : Int) ∧ m < 18446744073709551616 ∧ ¬ (4294967296 : Int) ≤ (k : Int) + 1 ∧ (4294967296 : Int) * (r : Int) + (a : Int) < (m : Int) ∧ (4294967296 : Int) ≤ (r : Int) + (Y1 : Int) ∧ Hid (k = (u * 4294967296 + a) / Y)) := by
  have hY0 : Y0 < 4294967296 := by omega
  have hm : q < 4294967296 → q * Y0 < 18446744073709551616 := by
    intro h
    have : q * Y0 ≤ 4294967296 * Y0 := Nat.mul_le_mul_right _ (by omega)
    omega
  have hd := fun h => HI.down hu ha h
  rw [← HY0, ← HY1] at hd
  by_cases e1 : 4294967296 ≤ q
  · obtain ⟨h1, h2⟩ := hd (.inl e1)
    obtain ⟨k, rfl⟩ : ∃ k, q = k + 1 := ⟨q - 1, by omega⟩
    rw [Nat.add_sub_cancel] at h1
    by_cases e3 : r + Y1 < 4294967296
    · exact .inr (.inl ⟨k, rfl, by omega, by omega, by omega, h1⟩)
    · exact .inr (.inr (.inl ⟨k, rfl, by omega, by omega, by omega, h1.leave (by omega) (by omega) (by omega)⟩))
  · have hm' := hm (by omega)
    by_cases e2 : 4294967296 * r + a < q * Y0
    · obtain ⟨h1, h2⟩ := hd (.inr e2)
      obtain ⟨k, rfl⟩ : ∃ k, q = k + 1 := ⟨q - 1, by omega⟩
      rw [Nat.add_sub_cancel] at h1
      have hc : ((k : Int) + 1) * (Y0 : Int) = (((k + 1) * Y0 : Nat) : Int) := by rw [Int.natCast_mul]; rfl
      by_cases e3 : r + Y1 < 4294967296
      · exact .inr (.inr (.inr (.inl ⟨k, rfl, _, hc, hm', by omega, by omega, by omega, h1⟩)))
      · exact .inr (.inr (.inr (.inr ⟨k, rfl, _, hc, hm', by omega, by omega, by omega, h1.leave (by omega) (by omega) (by omega)⟩)))
    · refine .inl ⟨_, by rw [Int.natCast_mul], hm', by omega, by omega, HI.stop (by omega) (by rw [← HY0]; omega)⟩
theorem rem_two {u a b Y : Nat} : ((u * 4294967296 + a) % Y * 4294967296 + b) % Y = (u * 18446744073709551616 + (a * 4294967296 + b)) % Y := by
  have h1 := Nat.div_add_mod (u * 4294967296 + a) Y
  have h2 : u * 18446744073709551616 + (a * 4294967296 + b) = Y * ((u * 4294967296 + a) / Y * 4294967296) + ((u * 4294967296 + a) % Y * 4294967296 + b) := by
    rw [← Nat.mul_assoc]; omega
  rw [h2, Nat.mul_add_mod]
theorem last_rest {u a b Y r1 r2 s R : Nat} (h1 : r1 = (u * 4294967296 + a) % Y) (h2 : r2 = (r1 * 4294967296 + b) % Y) (h : (u * 18446744073709551616 + (a * 4294967296 + b)) % Y / 2 ^ s = R) : (r2 : Int) / 2 ^ s = (R : Int) := by
  rw [cast_divpow, h2, h1, rem_two, h]
theorem ret_uu {q r q' r' : Nat} (h : q = q') (h' : r = r') : Ending.returned (.tuple #[.int .u64 (q : Nat), .int .u64 (r : Nat)]) = .returned (.tuple #[.int .u64 (q' : Nat), .int .u64 (r' : Nat)]) := by rw [h, h']
def Div64Ret (q r : Nat) (w w' : World) (e : Ending) : Prop := e = .returned (.tuple #[.int .u64 q, .int .u64 r]) ∧ w = w'
/-- the state of a half step's loop -/
def HLoop (u a Y q r : Nat) : Prop := HStep u a Y q r

set_option maxHeartbeats 4000000 in
set_option maxRecDepth 100000 in
theorem i_Div64b (hi lo y s Y Y1 Y0 A u v a b p0 r0 q0 : Nat) (w : World) (h1 : 0 < hi) (h2 : hi < y) (h3 : lo < 18446744073709551616) (h4 : y < 18446744073709551616) (hs : s < 64) (hsl : (64 - (Lib.bitLen y : Int)) = s)
    (E1 : IntKind.u64.wrap ((y : Int) * 2 ^ s) = (Y : Int)) (E2 : (Y : Int) / 4294967296 = (Y1 : Int)) (E3 : bits BinOp.and .u64 (Y : Int) 4294967295 = (Y0 : Int)) (E4 : IntKind.u64.wrap ((hi : Int) * 2 ^ s) = (A : Int))
    (E5 : bits BinOp.or .u64 (A : Int) ((lo : Int) / 2 ^ (64 - s)) = (u : Int)) (E6 : IntKind.u64.wrap ((lo : Int) * 2 ^ s) = (v : Int)) (E7 : (v : Int) / 4294967296 = (a : Int)) (E8 : bits BinOp.and .u64 (v : Int) 4294967295 = (b : Int))
    (E9 : (u : Int) / (Y1 : Int) = (q0 : Int)) (E10 : (q0 : Int) * (Y1 : Int) = (p0 : Int)) (E11 : p0 ≤ u) (E12 : (u : Int) - (p0 : Int) = (r0 : Int)) (hq0 : q0 ≤ 4294967297) (hr0 : r0 < 4294967296) (HI0 : Hid (HStep u a Y q0 r0))
    (hY : 9223372036854775808 ≤ Y) (hY2 : Y < 18446744073709551616) (hu : u < Y) (ha : a < 4294967296) (hb : b < 4294967296) (HY1 : Hid (Y1 = Y / 4294967296)) (HY0 : Hid (Y0 = Y % 4294967296)) (hY1 : 2147483648 ≤ Y1) (hY12 : Y1 < 4294967296) (hY0 : Y0 < 4294967296) (hA : A < 18446744073709551616) (hv : v < 18446744073709551616)
    (HF : Hid ((u * 18446744073709551616 + (a * 4294967296 + b)) / Y = (hi * 18446744073709551616 + lo) / y))
    (HF2 : Hid ((u * 18446744073709551616 + (a * 4294967296 + b)) % Y / 2 ^ s = (hi * 18446744073709551616 + lo) % y)) :
    Calls Tryz.prog 200 #[.int .u64 hi, .int .u64 lo, .int .u64 y] w (fun e w' => Div64Ret ((hi * 18446744073709551616 + lo) / y) ((hi * 18446744073709551616 + lo) % y) w w' e) := by
  have HL := Lib.hid (fun w => Tryz.bits_LeadingZeros64 y w (by omega) (by omega))
  have HS := Lib.hid hsl; clear hsl
  go_enter Tryz.func200, Tryz.ntmps200
  go_wp2_with fail
  refine (HL.out _).mono ?_
  rintro e w1 ⟨rfl, rfl⟩
  rw [show (y : Int).toNat = y from rfl, HS.out]
  go_wp2
  go_loopw [15, 16] (fun x z wr => ∃ qq rr : Nat, x = .int .u64 qq ∧ z = .int .u64 rr ∧ qq ≤ 4294967297 ∧ rr < 4294967296 ∧ Hid (HStep u a Y qq rr) ∧ w1 = wr) (fun q _ _ => (intOf q).toNat)
  case atStart => exact ⟨q0, r0, rfl, rfl, hq0, hr0, HI0.out, rfl⟩
  case round =>
    clear E9 E10 E11 E12 hq0 hr0 HI0 E1 E3 E4 E5 E6 E8
    obtain ⟨q, r, rfl, rfl, hq, hr, HI, rfl⟩ := hrel
    have hw := half_ways hq hr HI.out hu ha HY1.out HY0.out
    clear HI hq
    rcases hw with ⟨m, EM, hm, e1, e2, HQ⟩ | ⟨k, rfl, e1, hk, e3, HC⟩ | ⟨q, rfl, e1, hk, e3, HQ⟩ | ⟨k, rfl, m, EM, hm, e1, e2, e3, HC⟩ | ⟨q, rfl, m, EM, hm, e1, e2, e3, HQ⟩
    all_goals first
      | (have hc := HC.out
         clear hc
         go_wp2
         go_roundw
         case rel => exact ⟨k, r + Y1, by go_num, by go_num, by omega, by omega, HC.out, trivial⟩
         case measure => simp only [intOf]; omega)
      | (have hc := HQ.out
         clear hc
         obtain ⟨m1, m2, r1, F1, F2, F3, F4, F5, HR1, hr1⟩ := half_rest HQ.out (by omega) hY2 ha
         obtain ⟨q2, p2, rr2, G1, G2, G3, G4, G5, G6, HI2⟩ := half_start hY hr1 hY2
         rw [← HY1.out] at G1 G2
         have HI3 := Lib.hid (HI2 b hb)
         have HQ1 : Hid (q = (u * 4294967296 + a) / Y) := HQ.out
         have hl1 := qlt HQ1.out hu ha
         obtain ⟨q1, rfl⟩ : ∃ q1, q1 = q := ⟨q, rfl⟩
         clear HI2 HQ
         go_wp2
         go_loopw [18, 16] (fun x z wr => ∃ qq rr : Nat, x = .int .u64 qq ∧ z = .int .u64 rr ∧ qq ≤ 4294967297 ∧ rr < 4294967296 ∧ Hid (HStep r1 b Y qq rr) ∧ w1 = wr) (fun q _ _ => (intOf q).toNat)
         case atStart => exact ⟨q2, rr2, rfl, rfl, G5, G6, HI3.out, rfl⟩
         case round =>
           clear G1 G2 G3 G4 G5 G6 HI3 F1 F2 F3
           obtain ⟨q, r, rfl, rfl, hq, hr, HI, rfl⟩ := hrel
           have hw := half_ways hq hr HI.out hr1 hb HY1.out HY0.out
           clear HI hq
           rcases hw with ⟨m, EM, hm, e1, e2, HQ⟩ | ⟨k, rfl, e1, hk, e3, HC⟩ | ⟨q, rfl, e1, hk, e3, HQ⟩ | ⟨k, rfl, m, EM, hm, e1, e2, e3, HC⟩ | ⟨q, rfl, m, EM, hm, e1, e2, e3, HQ⟩
           all_goals first
             | (have hc := HC.out
                clear hc
                go_wp2
                go_roundw
                case rel => exact ⟨k, r + Y1, by go_num, by go_num, by omega, by omega, HC.out, trivial⟩
                case measure => simp only [intOf]; omega)
             | (have hc := HQ.out
                clear hc
                have HE : Hid (q1 * 4294967296 + q = (hi * 18446744073709551616 + lo) / y) := half_end HQ1.out HR1.out HQ.out (by omega) HF.out
                have hl2 := qlt HQ.out hr1 hb
                obtain ⟨n1, n2, r2, K1, K2, K3, K4, K5, HR2, hr2⟩ := half_rest HQ.out (by omega) hY2 hb
                obtain ⟨R, HR⟩ : ∃ R, Hid (R = (hi * 18446744073709551616 + lo) % y) := ⟨_, rfl⟩
                have K6 : (r2 : Int) / 2 ^ s = (R : Int) := last_rest HR1.out HR2.out (by rw [HR.out]; exact HF2.out)
                clear HQ
                go_wp2
                go_ret2
                exact ⟨ret_uu HE.out HR.out, rfl⟩
                )
         )
end Go.Proofs.YtlbnibicehpobaaGreatDoor
