/- CvWX: CvW, CvX, joined. -/
import Derived.Test.YtlbnibicehpobaaGreatDoorCvST
import Derived.Test.YtlbnibicehpobaaGreatDoorCvP
import Derived.Test.YtlbnibicehpobaaGreatDoorLvC
import Derived.Test.YtlbnibicehpobaaGreatDoorCvUV
set_option linter.unusedVariables false
set_option linter.unusedSimpArgs false

/- Curves: climb and at of the program. -/
namespace Go.Proofs.YtlbnibicehpobaaGreatDoor.Z
open Go
theorem fsplit {a b : Int} (hb : 0 < b) : a = a.fdiv b * b + a.fmod b ∧ 0 ≤ a.fmod b ∧ a.fmod b < b := by
  rw [Int.fdiv_eq_ediv_of_nonneg _ (Int.le_of_lt hb), Int.fmod_eq_emod_of_nonneg _ (Int.le_of_lt hb)]
  have h1 := Int.emod_nonneg a (Int.ne_of_gt hb)
  have h2 := Int.emod_lt_of_pos a hb
  have h3 := Int.emod_add_mul_ediv a b
  refine ⟨?_, h1, h2⟩
  rw [Int.mul_comm]; omega
theorem fq_range {a b : Int} (hb : 0 < b) (ha : 0 ≤ a) : 0 ≤ a.fdiv b ∧ a.fdiv b ≤ a := by
  rw [Int.fdiv_eq_ediv_of_nonneg _ (Int.le_of_lt hb)]
  exact ⟨Int.ediv_nonneg ha (Int.le_of_lt hb), Int.ediv_le_self b ha⟩
theorem fexact {a g : Int} (hg : 0 < g) (h : g ∣ a) : a.fdiv g * g = a := by
  rw [Int.fdiv_eq_ediv_of_nonneg _ (Int.le_of_lt hg)]
  exact Int.ediv_mul_cancel h
theorem mul_b {a b A B : Int} (ha : 0 ≤ a ∧ a ≤ A) (hb : 0 ≤ b ∧ b ≤ B) : 0 ≤ a * b ∧ a * b ≤ A * B :=
  ⟨Int.mul_nonneg ha.1 hb.1, Int.mul_le_mul ha.2 hb.2 hb.1 (Int.le_trans ha.1 ha.2)⟩
theorem gcd_facts {p q : Int} (hq : 0 < q) : 0 < ((Nat.gcd p.natAbs q.natAbs : Nat) : Int) ∧ ((Nat.gcd p.natAbs q.natAbs : Nat) : Int) ≤ q ∧ ((Nat.gcd p.natAbs q.natAbs : Nat) : Int) ∣ p ∧ ((Nat.gcd p.natAbs q.natAbs : Nat) : Int) ∣ q := by
  have h1 := gcd_pos (p := p) (q := q) (by omega)
  have h2 : Nat.gcd p.natAbs q.natAbs ≤ q.natAbs := Nat.le_of_dvd (by omega) (Nat.gcd_dvd_right _ _)
  refine ⟨by omega, by omega, ?_, ?_⟩
  · exact Int.ofNat_dvd_left.2 (Nat.gcd_dvd_left _ _)
  · exact Int.ofNat_dvd_left.2 (Nat.gcd_dvd_right _ _)
theorem neg_cast (x : Int) : ((-x : Int) : Rat) = -(x : Rat) := Rat.intCast_neg x
theorem le_parts {x : Int} {r : Rat} : ((x : Rat) ≤ r → x * r.den ≤ r.num) ∧ (r ≤ (x : Rat) → r.num ≤ x * r.den) := by
  constructor
  · intro h
    have h2 : ¬ r < (x : Rat) := Rat.not_lt.2 h
    rw [lt_parts, Rat.num_intCast, Rat.den_intCast] at h2
    simp only [Int.natCast_one, Int.mul_one] at h2
    omega
  · intro h
    have h2 : ¬ (x : Rat) < r := Rat.not_lt.2 h
    rw [lt_parts, Rat.num_intCast, Rat.den_intCast] at h2
    simp only [Int.natCast_one, Int.mul_one] at h2
    omega
end Go.Proofs.YtlbnibicehpobaaGreatDoor.Z
namespace Go.Proofs.YtlbnibicehpobaaGreatDoor
open Go.RowKit Go.Shelf
open Z
section
variable {w0 : World} (htab : Tab w0) (hmx : Mx w0) (herr : ErrR w0)
include htab hmx
set_option maxHeartbeats 2000000 in
theorem cv_climb {fx fy tx ty : Int} {r : Rat} {k : Nat} (hr : Sh k r) (hk : k ≤ 3000) (hx : -65535 ≤ fx) (hxx : fx < tx) (hx' : tx ≤ 65535) (hd : tx - fx ≤ 65535) (hy : 0 ≤ fy) (hyy : fy ≤ ty) (hy' : ty ≤ 65535) (h0 : (fx : Rat) ≤ r) (h1 : r ≤ (tx : Rat)) :
    RetG w0 73 #[vSg fx fy tx ty, .string (RT r)] (.tuple #[.string (RT (segV (fx, fy) (tx, ty) r)), .int .i64 0]) := by
  have hfit := fit_of hr (by omega)
  have hInR : InR r := hr.inR (by omega)
  have hw : 0 < tx - fx := by omega
  have hsl := climb_slope (rise := ty - fy) hw
  have hup1 := num_le (p := ty - fy) (q := tx - fx) (by omega)
  have hwd1 := den_le (p := ty - fy) (q := tx - fx) (by omega)
  have hwd0 := den_pos (Rat.divInt (ty - fy) (tx - fx))
  have hsIn : InR (Rat.divInt (ty - fy) (tx - fx)) := InR.divInt (by omega) (lg_false.2 (Nat.le_trans ((nDigits_le_iff _ 5 (by omega)).2 (by omega)) (show 5 ≤ 4096 by omega))) (lg_false.2 (Nat.le_trans ((nDigits_le_iff _ 5 (by omega)).2 (by omega)) (show 5 ≤ 4096 by omega)))
  have CP := RetG.of4 fun w1 h => ret_QPart (w0 := w1) (htab_gr htab h) (n := ty - fy) (d := tx - fx) (by omega) (by omega) (by omega) (by omega)
  have hpr : partR (ty - fy) (tx - fx) = (RT (Rat.divInt (ty - fy) (tx - fx)), 0) := by unfold partR; rw [if_neg (by omega)]
  rw [hpr] at CP
  unfold vSI at CP
  simp only [] at CP
  have CPs := cv_parts htab hmx hsIn
  have CPv := cv_parts htab hmx hInR
  have hD0 := den_pos r
  have hn0 := le_parts.1 h0
  have hn1 := le_parts.2 h1
  obtain ⟨s, hs⟩ : ∃ s, Rat.divInt (ty - fy) (tx - fx) = s := ⟨_, rfl⟩
  rw [hs] at hsl hup1 hwd1 hwd0 hsIn CP CPs
  obtain ⟨up, hup⟩ : ∃ up, s.num = up := ⟨_, rfl⟩
  obtain ⟨wide, hwide⟩ : ∃ wide : Int, (s.den : Int) = wide := ⟨_, rfl⟩
  obtain ⟨num0, hnum0⟩ : ∃ num0, r.num = num0 := ⟨_, rfl⟩
  obtain ⟨D, hDD⟩ : ∃ D : Int, (r.den : Int) = D := ⟨_, rfl⟩
  rw [hup] at hsl hup1 CPs
  rw [hwide] at hsl hwd0 CPs
  rw [hnum0] at hn0 hn1 CPv
  rw [hDD] at hD0 hn0 hn1 CPv
  have hwd2 : wide ≤ 65535 := by omega
  have hup0 : 0 ≤ up := by
    have h2 : 0 ≤ up * (tx - fx) := by rw [hsl]; exact Int.mul_nonneg (by omega) (by omega)
    exact Int.nonneg_of_mul_nonneg_left h2 hw
  have hup2 : up ≤ 65535 := by omega
  obtain ⟨e0, r0, r1⟩ := fsplit (a := num0) hD0
  obtain ⟨whole, hwh⟩ : ∃ x, num0.fdiv D = x := ⟨_, rfl⟩
  obtain ⟨rest, hre⟩ : ∃ x, num0.fmod D = x := ⟨_, rfl⟩
  rw [hwh, hre] at e0
  rw [hre] at r0 r1
  have hwl : fx ≤ whole := by
    have h2 : fx * D < (whole + 1) * D := by rw [Int.add_mul]; omega
    have := Int.lt_of_mul_lt_mul_right h2 (Int.le_of_lt hD0)
    omega
  have hwr : whole ≤ tx := by
    have h2 : whole * D ≤ tx * D := by omega
    exact Int.le_of_mul_le_mul_right h2 hD0
  obtain ⟨d1, hd1⟩ : ∃ x, whole - fx = x := ⟨_, rfl⟩
  have bd1 : 0 ≤ d1 ∧ d1 ≤ 65535 := by omega
  have bm1 := mul_b (a := wide) (b := fy) (A := 65535) (B := 65535) (by omega) (by omega)
  have bm2 := mul_b (a := up) (b := d1) (A := 65535) (B := 65535) (by omega) bd1
  obtain ⟨base, hba⟩ : ∃ x, wide * fy + up * d1 = x := ⟨_, rfl⟩
  have bba : 0 ≤ base ∧ base ≤ 8589672450 := by omega
  obtain ⟨g0, g1, g2, g3⟩ := gcd_facts (p := up) hD0
  obtain ⟨c1, hc1⟩ : ∃ x, ((Nat.gcd up.natAbs D.natAbs : Nat) : Int) = x := ⟨_, rfl⟩
  rw [hc1] at g0 g1 g2 g3
  have eu := fexact g0 g2
  have ed := fexact g0 g3
  have bu := fq_range g0 hup0
  have bd := fq_range g0 (Int.le_of_lt hD0)
  obtain ⟨up1, hup1'⟩ : ∃ x, up.fdiv c1 = x := ⟨_, rfl⟩
  obtain ⟨den1, hden1⟩ : ∃ x, D.fdiv c1 = x := ⟨_, rfl⟩
  rw [hup1'] at eu bu
  rw [hden1] at ed bd
  have hden0 : 0 < den1 := by
    rcases Int.lt_or_le 0 den1 with h | h
    · exact h
    · exfalso
      have : den1 = 0 := by omega
      rw [this, Int.zero_mul] at ed
      omega
  obtain ⟨e3, s0, s1⟩ := fsplit (a := den1) hwd0
  have bq3 := fq_range hwd0 (Int.le_of_lt hden0)
  obtain ⟨e4, t0, t1⟩ := fsplit (a := rest) hwd0
  have bq4 := fq_range hwd0 r0
  obtain ⟨q3, hq3⟩ : ∃ x, den1.fdiv wide = x := ⟨_, rfl⟩
  obtain ⟨denL, hdenL⟩ : ∃ x, den1.fmod wide = x := ⟨_, rfl⟩
  obtain ⟨q4, hq4⟩ : ∃ x, rest.fdiv wide = x := ⟨_, rfl⟩
  obtain ⟨restL, hrestL⟩ : ∃ x, rest.fmod wide = x := ⟨_, rfl⟩
  rw [hq3, hdenL] at e3
  rw [hdenL] at s0 s1
  rw [hq3] at bq3
  rw [hq4, hrestL] at e4
  rw [hrestL] at t0 t1
  rw [hq4] at bq4
  have bm3 := mul_b (a := base) (b := denL) (A := 8589672450) (B := 65535) bba (by omega)
  have bm4 := mul_b (a := up1) (b := restL) (A := 65535) (B := 65535) (by omega) (by omega)
  obtain ⟨sA, hsA⟩ : ∃ x, base * denL + up1 * restL = x := ⟨_, rfl⟩
  have bsA : 0 ≤ sA ∧ sA ≤ 600000000000000 := by omega
  obtain ⟨k0, k1, k2, k3⟩ := gcd_facts (p := sA) hwd0
  obtain ⟨c2, hc2⟩ : ∃ x, ((Nat.gcd sA.natAbs wide.natAbs : Nat) : Int) = x := ⟨_, rfl⟩
  rw [hc2] at k0 k1 k2 k3
  obtain ⟨e5, u0, u1⟩ := fsplit (a := den1) k0
  have bdw := fq_range k0 (Int.le_of_lt hden0)
  obtain ⟨e6, v0, v1⟩ := fsplit (a := rest) k0
  have brw := fq_range k0 r0
  obtain ⟨denW, hdenW⟩ : ∃ x, den1.fdiv c2 = x := ⟨_, rfl⟩
  obtain ⟨denL2, hdenL2⟩ : ∃ x, den1.fmod c2 = x := ⟨_, rfl⟩
  obtain ⟨restW, hrestW⟩ : ∃ x, rest.fdiv c2 = x := ⟨_, rfl⟩
  obtain ⟨restL2, hrestL2⟩ : ∃ x, rest.fmod c2 = x := ⟨_, rfl⟩
  rw [hdenW, hdenL2] at e5
  rw [hdenL2] at u0 u1
  rw [hdenW] at bdw
  rw [hrestW, hrestL2] at e6
  rw [hrestL2] at v0 v1
  rw [hrestW] at brw
  have bm5 := mul_b (a := base) (b := denL2) (A := 8589672450) (B := 65535) bba (by omega)
  have bm6 := mul_b (a := up1) (b := restL2) (A := 65535) (B := 65535) (by omega) (by omega)
  have hdvd : c2 ∣ base * denL2 + up1 * restL2 := climb_dvd k3 (by rw [hsA]; exact k2) e3 e4 e5 e6
  obtain ⟨sB, hsB⟩ : ∃ x, base * denL2 + up1 * restL2 = x := ⟨_, rfl⟩
  rw [hsB] at hdvd
  have bsB : 0 ≤ sB ∧ sB ≤ 600000000000000 := by omega
  have el := fexact k0 hdvd
  have ble := fq_range k0 bsB.1
  obtain ⟨left, hle⟩ : ∃ x, sB.fdiv c2 = x := ⟨_, rfl⟩
  rw [hle] at el ble
  have bm7 := mul_b (a := base) (b := denW) (A := 8589672450) (B := D) bba (by omega)
  have bm8 := mul_b (a := up1) (b := restW) (A := 65535) (B := D) (by omega) (by omega)
  obtain ⟨sC, hsC⟩ : ∃ x, base * denW + up1 * restW = x := ⟨_, rfl⟩
  obtain ⟨num, hnum⟩ : ∃ x, sC + left = x := ⟨_, rfl⟩
  have ew := fexact k0 k3
  have bw2 := fq_range k0 (Int.le_of_lt hwd0)
  obtain ⟨w2, hw2⟩ : ∃ x, wide.fdiv c2 = x := ⟨_, rfl⟩
  rw [hw2] at ew bw2
  have hw20 : 0 < w2 := by
    rcases Int.lt_or_le 0 w2 with h | h
    · exact h
    · exfalso
      have : w2 = 0 := by omega
      rw [this, Int.zero_mul] at ew
      omega
  have bden := mul_b (a := w2) (b := den1) (A := 65535) (B := D) (by omega) (by omega)
  obtain ⟨den, hden⟩ : ∃ x, w2 * den1 = x := ⟨_, rfl⟩
  have hdenne : den ≠ 0 := by rw [← hden]; exact Int.mul_ne_zero (by omega) (by omega)
  obtain ⟨hE1, hE2⟩ := climb_eq (num0 := num0) (den0 := D) (whole := whole) (rest := rest) (up := up) (wide := wide) (fy := fy) (fx := fx) (base := base) (g1 := c1) (up1 := up1) (den1 := den1) (c2 := c2) (w2 := w2) (denW := denW) (denL2 := denL2) (restW := restW) (restL2 := restL2) (left := left) (num := num) (den := den)
    e0 (by rw [← hba, ← hd1]) (by rw [Int.mul_comm]; exact eu.symm) (by rw [Int.mul_comm]; exact ed.symm) e5 e6 (by rw [hsB]; exact el) ew.symm (by rw [hsC]; exact hnum.symm) hden.symm
  have hval := climb_val (num := num) (den := den) (K := c2 * c1) (up := up) (wide := wide) (fx := fx) (fy := fy) (tx := tx) (ty := ty) (r := r) hdenne (Int.mul_ne_zero (by omega) (by omega)) hxx (by rw [hsl]) (by rw [hDD, hnum0]; exact hE1) (by rw [hDD]; exact hE2)
  -- lengths
  have F : ∀ x : Int, -10000000000000000000000 * D ≤ x → x ≤ 10000000000000000000000 * D → In x := fun x a b => hfit.2 x (by omega)
  have n0 : In num0 := F _ (by have := Int.mul_le_mul_of_nonneg_right hx (Int.le_of_lt hD0); omega) (by have := Int.mul_le_mul_of_nonneg_right hx' (Int.le_of_lt hD0); omega)
  have nD : In D := F _ (by omega) (by omega)
  have nwh : In whole := F _ (by omega) (by omega)
  have nre : In rest := F _ (by omega) (by omega)
  have nfx : In fx := F _ (by omega) (by omega)
  have nfy : In fy := F _ (by omega) (by omega)
  have nd1 : In d1 := F _ (by omega) (by omega)
  have nw : In wide := F _ (by omega) (by omega)
  have nup : In up := F _ (by omega) (by omega)
  have nm1 : In (wide * fy) := F _ (by omega) (by omega)
  have nm2 : In (up * d1) := F _ (by omega) (by omega)
  have nba : In base := F _ (by omega) (by omega)
  have nc1 : In c1 := F _ (by omega) (by omega)
  have nu1 : In up1 := F _ (by omega) (by omega)
  have nde1 : In den1 := F _ (by omega) (by omega)
  have nq3 : In q3 := F _ (by omega) (by omega)
  have ndl : In denL := F _ (by omega) (by omega)
  have nq4 : In q4 := F _ (by omega) (by omega)
  have nrl : In restL := F _ (by omega) (by omega)
  have nm3 : In (base * denL) := F _ (by omega) (by omega)
  have nm4 : In (up1 * restL) := F _ (by omega) (by omega)
  have nsA : In sA := F _ (by omega) (by omega)
  have nc2 : In c2 := F _ (by omega) (by omega)
  have ndw : In denW := F _ (by omega) (by omega)
  have ndl2 : In denL2 := F _ (by omega) (by omega)
  have nrw : In restW := F _ (by omega) (by omega)
  have nrl2 : In restL2 := F _ (by omega) (by omega)
  have nm5 : In (base * denL2) := F _ (by omega) (by omega)
  have nm6 : In (up1 * restL2) := F _ (by omega) (by omega)
  have nsB : In sB := F _ (by omega) (by omega)
  have nle : In left := F _ (by omega) (by omega)
  have nm7 : In (base * denW) := F _ (by omega) (by omega)
  have nm8 : In (up1 * restW) := F _ (by omega) (by omega)
  have nsC : In sC := F _ (by omega) (by omega)
  have nnum : In num := F _ (by omega) (by omega)
  have nw2 : In w2 := F _ (by omega) (by omega)
  have nden : In den := F _ (by omega) (by omega)
  have Quo : ∀ {a b c : Int}, In a → In b → b ≠ 0 → a.fdiv b = c → In c → RetG w0 95 #[.string (Tx a), .string (Tx b)] (.tuple #[.string (Tx c), .int .i64 0]) := fun ha hb h0 e hc => by
    subst e; exact retG_Quo htab ha hb h0 hc
  have Rem : ∀ {a b c : Int}, In a → In b → b ≠ 0 → a.fmod b = c → In c → RetG w0 123 #[.string (Tx a), .string (Tx b)] (.tuple #[.string (Tx c), .int .i64 0]) := fun ha hb h0 e hc => by
    subst e; exact retG_Rem htab ha hb h0 hc
  have Mul : ∀ {a b : Int}, In a → In b → In (a * b) → RetG w0 107 #[.string (Tx a), .string (Tx b)] (.tuple #[.string (Tx (a * b)), .int .i64 0]) := fun ha hb hc => RetG.of4 fun w1 h => ret_Mul (htab_gr htab h) ha hb hc
  have Add : ∀ {a b c : Int}, In a → In b → a + b = c → In c → RetG w0 106 #[.string (Tx a), .string (Tx b)] (.tuple #[.string (Tx c), .int .i64 0]) := fun ha hb e hc => by
    subst e; exact RetG.of4 fun w1 h => ret_Add (htab_gr htab h) ha hb hc
  have Sub : ∀ {a b c : Int}, In a → In b → a - b = c → In c → RetG w0 104 #[.string (Tx a), .string (Tx b)] (.tuple #[.string (Tx c), .int .i64 0]) := fun ha hb e hc => by
    subst e; exact RetG.of4 fun w1 h => ret_Sub (htab_gr htab h) ha hb hc
  have Gcd : ∀ {a b c : Int}, In a → In b → ((Nat.gcd a.natAbs b.natAbs : Nat) : Int) = c → In c → RetG w0 105 #[.string (Tx a), .string (Tx b)] (.tuple #[.string (Tx c), .int .i64 0]) := fun ha hb e hc => by
    subst e; exact RetG.of4 fun w1 h => ret_Gcd (htab_gr htab h) ha hb hc
  have OF := RetG.of4 fun w1 h => ret_QOf (w0 := w1) (htab_gr htab h) (s := Tx num) (t := Tx den) (by have := (In.sm nnum).size; omega) (by have := (In.sm nden).size; omega)
  have hofR : ofR (Tx num) (Tx den) = (RT (segV (fx, fy) (tx, ty) r), 0) := by
    unfold ofR
    rw [if_pos (nnum.both nden), data_Tx, data_Tx, ival_itoa, ival_itoa, if_neg hdenne, hval]
  rw [hofR] at OF
  unfold vSI at OF
  simp only [] at OF
  exact cv_climbW (by omega) (by omega) (by omega) (by omega) CP CPs CPv (RetG.of4 fun w1 h => ret_Of (htab_gr htab h) (by omega) (by omega)) (RetG.of4 fun w1 h => ret_Of (htab_gr htab h) (by omega) (by omega)) OF
    (Quo n0 nD (by omega) hwh nwh) (Rem n0 nD (by omega) hre nre) (Sub nwh nfx hd1 nd1) (Mul nw nfy nm1) (Mul nup nd1 nm2) (Add nm1 nm2 hba nba)
    (Gcd nup nD hc1 nc1) (Quo nup nc1 (by omega) hup1' nu1) (Quo nD nc1 (by omega) hden1 nde1) (Quo nde1 nw (by omega) hq3 nq3) (Rem nde1 nw (by omega) hdenL ndl) (Quo nre nw (by omega) hq4 nq4) (Rem nre nw (by omega) hrestL nrl)
    (Mul nba ndl nm3) (Mul nu1 nrl nm4) (Add nm3 nm4 hsA nsA) (Gcd nsA nw hc2 nc2) (Quo nde1 nc2 (by omega) hdenW ndw) (Rem nde1 nc2 (by omega) hdenL2 ndl2) (Quo nre nc2 (by omega) hrestW nrw) (Rem nre nc2 (by omega) hrestL2 nrl2)
    (Mul nba ndl2 nm5) (Mul nu1 nrl2 nm6) (Add nm5 nm6 hsB nsB) (Quo nsB nc2 (by omega) hle nle) (Mul nba ndw nm7) (Mul nu1 nrw nm8) (Add nm7 nm8 hsC nsC) (Add nsC nle hnum nnum)
    (Quo nw nc2 (by omega) hw2 nw2) (by have := Mul nw2 nde1 (by rw [hden]; exact nden); rwa [hden] at this)
set_option maxHeartbeats 2000000 in
set_option maxRecDepth 100000 in
theorem cv_at {p q : Int × Int} {r : Rat} {k : Nat} (hr : Sh k r) (hk : k ≤ 3000) (hp : lvP p) (hq : lvP q) (hxx : p.1 < q.1) (h0 : (p.1 : Rat) ≤ r) (h1 : r ≤ (q.1 : Rat)) :
    RetG w0 42 #[vSg p.1 p.2 q.1 q.2, .string (RT r)] (.tuple #[.string (RT (segV p q r)), .int .i64 0]) := by
  obtain ⟨fx, fy⟩ := p
  obtain ⟨tx, ty⟩ := q
  obtain ⟨⟨p0, p1⟩, p2, p3⟩ := hp
  obtain ⟨⟨q0, q1⟩, q2, q3⟩ := hq
  simp only at *
  have HR := Lib.hid (fun w => cv_rise fx fy tx ty w (by omega) (by omega))
  by_cases hyy : fy ≤ ty
  · have HC := Lib.hid (cv_climb htab hmx (fx := fx) (fy := fy) (tx := tx) (ty := ty) hr hk (by omega) hxx (by omega) (by omega) p2 hyy q3 h0 h1)
    have hge : decide (0 ≤ ty - fy) = true := decide_eq_true (by omega)
    have hge2 : ¬ ty - fy < 0 := by omega
    generalize RT (segV (fx, fy) (tx, ty) r) = R at *
    generalize RT r = s at *
    clear htab hmx hr h0 h1
    intro w hg
    have k0 := sg_new w fx fy tx ty
    have HK := Lib.hid k0
    have HG1 := Lib.hid ((Gr.refl w).alloc (oSg fx fy tx ty))
    have HG0 := Lib.hid hg
    obtain ⟨a0, a1, a2, a3⟩ := id k0
    clear k0 hg
    go_enter Tryz.func42, Tryz.ntmps42
    go_wp2_with fail
    refine (HR.out _).mono ?_
    rintro e w2 ⟨rfl, hg⟩
    have HG2 := Lib.hid (Gr.trans HG1.out hg)
    replace a0 := cv_cell hg a0
    replace a1 := cv_cell hg a1
    replace a2 := cv_cell hg a2
    replace a3 := cv_cell hg a3
    clear hg
    go_wp2_with fail
    refine (HC.out _ (Gr.trans HG0.out HG2.out)).mono ?_
    rintro e w3 ⟨rfl, hg⟩
    have HG3 := Lib.hid (Gr.trans HG2.out hg)
    clear hg
    go_wp2
    go_ret2
    exact ⟨rfl, HG3.out⟩
  · have hrn : Sh k (-r) := hr.neg
    have hn0 : ((-tx : Int) : Rat) ≤ -r := by rw [neg_cast]; grind
    have hn1 : -r ≤ ((-fx : Int) : Rat) := by rw [neg_cast]; grind
    have CC := cv_climb htab hmx (fx := -tx) (fy := ty) (tx := -fx) (ty := fy) hrn hk (by omega) (by omega) (by omega) (by omega) q2 (by omega) p3 hn0 hn1
    have hv : segV (-tx, ty) (-fx, fy) (-r) = segV (fx, fy) (tx, ty) r := by
      obtain ⟨m, e1, e2, -⟩ := seg_m (p := (fx, fy)) (q := (tx, ty)) hxx
      simp only at e1 e2
      rw [segV_of (p := (-tx, ty)) (q := (-fx, fy)) (by show -tx < -fx; omega) (m := -m) (by simp only [neg_cast]; grind), e2]
      simp only [neg_cast]
      grind
    rw [hv] at CC
    have HC := Lib.hid CC
    have HN := Lib.hid (RetG.of4 fun w1 h => (ret_QNeg (w0 := w1) (htab_gr htab h) (hmx.gr h) (RT_small (hr.inR (by omega)))).si (negR_ok (hr.inR (by omega))))
    have hge : decide (0 ≤ ty - fy) = false := decide_eq_false (by omega)
    have hge2 : ty - fy < 0 := by omega
    have g1 : IntKind.i64.wrap (-tx) = -tx := IntWalk.i64_in _ (by omega)
    have g2 : IntKind.i64.wrap (-fx) = -fx := IntWalk.i64_in _ (by omega)
    generalize RT (segV (fx, fy) (tx, ty) r) = R at *
    generalize RT (-r) = t at *
    generalize RT r = s at *
    clear htab hmx hr h0 h1 hrn hn0 hn1 hv CC
    intro w hg
    have k0 := sg_new w fx fy tx ty
    have HG1 := Lib.hid ((Gr.refl w).alloc (oSg fx fy tx ty))
    have HG0 := Lib.hid hg
    obtain ⟨a0, a1, a2, a3⟩ := id k0
    clear k0 hg
    go_enter Tryz.func42, Tryz.ntmps42
    go_wp2_with fail
    refine (HR.out _).mono ?_
    rintro e w2 ⟨rfl, hg⟩
    have HG2 := Lib.hid (Gr.trans HG1.out hg)
    replace a0 := cv_cell hg a0
    replace a1 := cv_cell hg a1
    replace a2 := cv_cell hg a2
    replace a3 := cv_cell hg a3
    clear hg
    go_wp2_with fail
    refine (HN.out _ (Gr.trans HG0.out HG2.out)).mono ?_
    rintro e w3 ⟨rfl, hg⟩
    have HG3 := Lib.hid (Gr.trans HG2.out hg)
    replace a0 := cv_cell hg a0
    replace a1 := cv_cell hg a1
    replace a2 := cv_cell hg a2
    replace a3 := cv_cell hg a3
    clear hg
    obtain ⟨b0, b1, b2, b3⟩ := sg_new w3 (-tx) ty (-fx) fy
    have HG4 := Lib.hid (Gr.trans HG3.out ((Gr.refl w3).alloc (oSg (-tx) ty (-fx) fy)))
    go_wp2_with fail
    refine (HC.out _ (Gr.trans HG0.out HG4.out)).mono ?_
    rintro e w5 ⟨rfl, hg⟩
    have HG5 := Lib.hid (Gr.trans HG4.out hg)
    clear hg
    go_wp2
    go_ret2
    exact ⟨rfl, HG5.out⟩
end
end Go.Proofs.YtlbnibicehpobaaGreatDoor

/- Curves: Through of both, At of the program. -/
namespace Go.Proofs.YtlbnibicehpobaaGreatDoor.Z
open Go
def errs : List Pts → Int
  | [] => 0
  | c :: L => if cvC c ≠ 0 then cvC c else errs L
def allV (L : List Pts) (r : Rat) : Rat := L.foldl (fun v c => valC c v) r
def thruC (L : List Pts) (s : ByteArray) : ByteArray × Int :=
  if 16 < L.length then (⟨#[]⟩, 5) else if errs L ≠ 0 then (⟨#[]⟩, errs L) else if compE s ≠ 0 then (⟨#[]⟩, compE s) else (RT (allV L (rv s)), 0)
theorem errs_drop {L : List Pts} {j : Nat} (h : j < L.length) : errs (L.drop j) = if cvC L[j] ≠ 0 then cvC L[j] else errs (L.drop (j + 1)) := by
  rw [List.drop_eq_getElem_cons h]; rfl
theorem errs_zero {L : List Pts} (h : errs L = 0) : ∀ c ∈ L, Cv c := by
  induction L with
  | nil => intro c hc; cases hc
  | cons d L ih =>
    unfold errs at h
    by_cases hd : cvC d = 0
    · rw [if_neg (by simp [hd])] at h
      intro c hc
      rcases List.mem_cons.1 hc with rfl | hc
      · exact (cvC_iff _).1 hd
      · exact ih h c hc
    · rw [if_pos hd] at h; exact absurd h hd
theorem allV_lvl {L : List Pts} (h : ∀ c ∈ L, Cv c) : ∀ {r : Rat}, lvlQ r = true → lvlQ (allV L r) = true := by
  induction L with
  | nil => intro r hr; exact hr
  | cons c L ih =>
    intro r hr
    have hc := h c (List.mem_cons_self ..)
    obtain ⟨h0, h1⟩ := lvlQ_iff.1 hr
    obtain ⟨k, hk⟩ := hc.seg h0 h1
    exact ih (fun d hd => h d (List.mem_cons_of_mem _ hd)) (lvlQ_iff.2 (seg_lvl hc hk))
theorem allV_take {L : List Pts} {r : Rat} {j : Nat} (h : j < L.length) : allV (L.take (j + 1)) r = valC L[j] (allV (L.take j) r) := by
  unfold allV
  rw [List.take_succ_eq_append_getElem h, List.foldl_append]; rfl
end Go.Proofs.YtlbnibicehpobaaGreatDoor.Z
namespace Go.Proofs.YtlbnibicehpobaaGreatDoor
open Go.RowKit Go.Shelf
open Z
theorem cv_shV {k : Nat} {r : Rat} {l : Pts} (hc : Cv l) (hl : lvlQ r = true) (h : Sh k r) : Sh (k + 30) (valC l r) := by
  obtain ⟨h0, h1⟩ := lvlQ_iff.1 hl
  obtain ⟨j, hj⟩ := hc.seg h0 h1
  rw [valC_at hc.asc hj]
  exact sh_seg h (hc.lv _ (List.getElem_mem _)) (hc.lv _ (List.getElem_mem _)) (hc.asc j hj.1)
/-- curves in memory -/
def CsAt (W : World) (a : Option Addr) (L : List Pts) : Prop :=
  (True ∧ L = []) ∨ ∃ b off, a = some ⟨b, off, none⟩ ∧ ∀ j (h : j < L.length), ∃ c cap, W.cell? ⟨b, off + j, none⟩ = some (.slice c L[j].length cap) ∧ PtAt W c L[j]
theorem CsAt.gr {w w' : World} {a : Option Addr} {L : List Pts} (h : CsAt w a L) (hg : Gr w w') : CsAt w' a L := by
  rcases h with h | ⟨b, off, ha, hc⟩
  · exact .inl h
  · exact .inr ⟨b, off, ha, fun j hj => by obtain ⟨c, cap, h1, h2⟩ := hc j hj; exact ⟨c, cap, cv_cell hg h1, h2.gr hg⟩⟩
theorem CsAt.at {w : World} {a : Option Addr} {L : List Pts} (h : CsAt w a L) {j : Nat} (hj : j < L.length) : ∃ b off c cap, a = some ⟨b, off, none⟩ ∧ w.cell? ⟨b, off + j, none⟩ = some (.slice c L[j].length cap) ∧ PtAt w c L[j] := by
  rcases h with ⟨-, h⟩ | ⟨b, off, ha, hc⟩
  · subst h; simp at hj
  · obtain ⟨c, cap, h1, h2⟩ := hc j hj; exact ⟨b, off, c, cap, ha, h1, h2⟩
def Right (L : List Pts) : Prop := ∀ c ∈ L, ∀ p ∈ c, isJ p.1 ∧ isJ p.2
set_option maxHeartbeats 1000000 in
theorem cv_CheckX (a : Option Addr) (R : Pts) (cap : Nat) (w : World) (hR : PtAt w a R) (hJ : ∀ p ∈ R, isJ p.1 ∧ isJ p.2) :
    Calls Tryz.prog 15 #[.slice a R.length cap] w fun e w' => e = .returned (.int .i64 (cvC R)) ∧ Gr w w' := by
  by_cases hlen : R.length ≤ 10000000000000
  · exact cv_Check a R cap w hR hJ hlen
  · have hv : cvC R = 5 := by unfold cvC; rw [if_neg (by omega), if_pos (by omega)]
    rw [hv]
    generalize R.length = n at *
    have k0 : decide ((n : Int) < 2) = false := decide_eq_false (by omega)
    have k1 : decide ((16 : Int) < n) = true := decide_eq_true (by omega)
    have k2 : decide ((n : Int) > 16) = true := decide_eq_true (by omega)
    clear hv hR hJ
    go_enter Tryz.func15, Tryz.ntmps15
    go_wp2
    go_ret
    exact ⟨rfl, Gr.refl w⟩
set_option maxHeartbeats 1000000 in
theorem r9_CheckX (a : Option Addr) (R : Pts) (cap : Nat) (w : World) (hR : PtAt w a R) (hJ : ∀ p ∈ R, isJ p.1 ∧ isJ p.2) :
    Calls Tryz.prog 16 #[.slice a R.length cap] w fun e w' => e = .returned (.int .i64 (cvC R)) ∧ Gr w w' := by
  by_cases hlen : R.length ≤ 10000000000000
  · exact r9_Check a R cap w hR hJ hlen
  · have hv : cvC R = 5 := by unfold cvC; rw [if_neg (by omega), if_pos (by omega)]
    rw [hv]
    generalize R.length = n at *
    have k0 : decide ((n : Int) < 2) = false := decide_eq_false (by omega)
    have k1 : decide ((16 : Int) < n) = true := decide_eq_true (by omega)
    have k2 : decide ((n : Int) > 16) = true := decide_eq_true (by omega)
    clear hv hR hJ
    go_enter Tryz.func16, Tryz.ntmps16
    go_wp2
    go_ret
    exact ⟨rfl, Gr.refl w⟩
set_option maxHeartbeats 4000000 in
set_option maxRecDepth 100000 in
theorem r9_All {a : Option Addr} {cap : Nat} {L : List Pts} (w : World) (hp : CsAt w a L) (hR : Right L) (hlen : L.length ≤ 10000000000000) :
    Calls Tryz.prog 43 #[.slice a L.length cap] w fun e w' => e = .returned (.int .i64 (if 16 < L.length then 5 else errs L)) ∧ Gr w w' := by
  by_cases h16 : 16 < L.length
  · rw [if_pos h16]
    generalize L.length = n at *
    have k1 : decide ((16 : Int) < n) = true := decide_eq_true (by omega)
    clear hp hR
    go_enter Tryz.func43, Tryz.ntmps43
    go_wp2
    go_ret
    exact ⟨rfl, Gr.refl w⟩
  · rw [if_neg h16]
    have HP := Lib.hid hp
    have HR := Lib.hid hR
    obtain ⟨n, hn⟩ : ∃ n, L.length = n := ⟨_, rfl⟩
    have HN := Lib.hid hn
    rw [hn] at h16 hlen ⊢
    have k1 : decide ((16 : Int) < n) = false := decide_eq_false (by omega)
    obtain ⟨E, hE⟩ : ∃ E, errs L = E := ⟨_, rfl⟩
    rw [hE]
    have HE := Lib.hid (show errs (L.drop 0) = E from hE)
    clear hp hR hn hE
    go_enter Tryz.func43, Tryz.ntmps43
    go_wp2
    go_loopw [3] (fun i wr => ∃ j : Nat, i = .int .i64 j ∧ j ≤ n ∧ Hid (errs (L.drop j) = E) ∧ Hid (Gr w wr)) (fun i _ => n - (intOf i).toNat)
    case atStart => exact ⟨0, rfl, Nat.zero_le _, HE, Lib.hid (Gr.refl w)⟩
    case round =>
      obtain ⟨j, rfl, hj, HD, HG⟩ := hrel
      by_cases hlt : j < n
      · have l0 : j < L.length := by rw [HN.out]; exact hlt
        obtain ⟨b, off, c, cp, rfl, d0, hc⟩ := (HP.out.gr HG.out).at l0
        have hrc := HR.out _ (List.getElem_mem l0)
        have C := Lib.hid (r9_CheckX c L[j] cp wr hc hrc)
        have hd := HD.out
        rw [errs_drop l0] at hd
        clear hc hrc
        by_cases h : cvC L[j] = 0
        · rw [if_neg (by simp [h])] at hd
          rw [h] at C
          have HD2 := Lib.hid hd
          generalize L[j].length = m at *
          clear hd HD h
          go_wp2_with fail
          refine C.out.mono ?_; rintro e w1 ⟨rfl, hg⟩
          have HG1 := Lib.hid (Gr.trans HG.out hg)
          clear hg C HG d0
          go_wp2
          go_roundw
          case rel => exact ⟨j + 1, by go_num, by omega, HD2, HG1⟩
          case measure => simp [intOf]; omega
        · rw [if_pos h] at hd
          have HD2 := Lib.hid hd
          generalize L[j].length = m at *
          generalize cvC L[j] = K at *
          have hk : (K == 0) = false := by rw [beq_eq_false_iff_ne]; exact h
          clear hd HD
          go_wp2_with fail
          refine C.out.mono ?_; rintro e w1 ⟨rfl, hg⟩
          have HG1 := Lib.hid (Gr.trans HG.out hg)
          clear hg C HG d0
          go_wp2
          go_ret
          exact ⟨by rw [HD2.out]; rfl, HG1.out⟩
      · obtain rfl : j = n := by omega
        have hd := HD.out
        rw [List.drop_of_length_le (by rw [HN.out]; exact Nat.le_refl _)] at hd
        have hd' : E = 0 := hd.symm
        subst hd'
        clear hd HD
        go_wp2
        go_ret
        exact ⟨rfl, HG.out⟩
set_option maxHeartbeats 4000000 in
set_option maxRecDepth 100000 in
theorem r9_Through {a : Option Addr} {cap : Nat} {L : List Pts} {s : ByteArray} (w : World) (hp : CsAt w a L) (hR : Right L) (hlen : L.length ≤ 10000000000000) (hs : s.size ≤ 2000) :
    Calls Tryz.prog 22 #[.slice a L.length cap, .string s] w fun e w' => e = .returned (vSI (thruC L s)) ∧ Gr w w' := by
  have CA := r9_All (cap := cap) w hp hR hlen
  unfold thruC
  by_cases h16 : 16 < L.length
  · rw [if_pos h16] at CA ⊢
    have CA := Lib.hid CA
    generalize L.length = n at *
    unfold vSI
    clear hp hR
    go_enter Tryz.func22, Tryz.ntmps22
    go_wp2_with fail
    refine CA.out.mono ?_; rintro e w1 ⟨rfl, hg⟩
    have HG1 := Lib.hid hg
    clear hg CA
    go_wp2
    go_ret2
    exact ⟨rfl, HG1.out⟩
  · rw [if_neg h16] at CA ⊢
    by_cases h : errs L = 0
    · rw [if_neg (by simp [h])]
      rw [h] at CA
      have CA := Lib.hid CA
      have CI := Lib.hid (RetG.of4 (w0 := w) fun w1 _ => ret9_in (w0 := w1) (s := s) (by omega))
      by_cases hv : compE s = 0
      · rw [if_neg (by simp [hv])]
        rw [hv] at CI
        obtain ⟨r, rfl, hr, hl⟩ := compE_zero hv
        obtain ⟨r', e1, e2, e3⟩ := text_sh (s := RT r) (k := 2000) (chkS_RT hr) hs
        have e4 := RT_inj e1
        subst e4
        rw [rv_RT]
        have hcv := errs_zero h
        have HP := Lib.hid hp
        have HCV := Lib.hid hcv
        have HL := Lib.hid hl
        have HS0 : Hid (Sh (2000 + 30 * 0) (allV (L.take 0) r)) := Lib.hid e2
        have HLV : Hid (∀ j, lvlQ (allV (L.take j) r) = true) := Lib.hid fun j => allV_lvl (fun c hc => hcv c (List.mem_of_mem_take hc)) hl
        have HV0 : Hid (RT r = RT (allV (L.take 0) r)) := Lib.hid rfl
        obtain ⟨V, hV⟩ : ∃ V, RT (allV L r) = V := ⟨_, rfl⟩
        rw [hV]
        have HV := Lib.hid hV
        obtain ⟨n, hn⟩ : ∃ n, L.length = n := ⟨_, rfl⟩
        have HN := Lib.hid hn
        rw [hn] at CA h16 ⊢
        unfold vSI
        generalize RT r = t at *
        clear hp hR h hv hr hl e1 e2 e3 hcv hV hn hlen hs
        go_enter Tryz.func22, Tryz.ntmps22
        go_wp2_with fail
        refine CA.out.mono ?_; rintro e w1 ⟨rfl, hg⟩
        have HG1 := Lib.hid hg
        clear hg CA
        go_wp2_with fail
        refine (CI.out _ HG1.out).mono ?_; rintro e w2 ⟨rfl, hg⟩
        have HG2 := Lib.hid (Gr.trans HG1.out hg)
        clear hg HG1
        go_wp2
        go_loopw [1, 8] (fun v i wr => ∃ (j : Nat) (x : ByteArray), i = .int .i64 j ∧ v = .string x ∧ j ≤ n ∧ Hid (x = RT (allV (L.take j) r)) ∧ Hid (Sh (2000 + 30 * j) (allV (L.take j) r)) ∧ Hid (Gr w wr)) (fun _ i _ => n - (intOf i).toNat)
        case atStart => exact ⟨0, t, rfl, rfl, Nat.zero_le _, HV0, HS0, HG2⟩
        case round =>
          obtain ⟨j, x, rfl, rfl, hj, HX, HS, HG⟩ := hrel
          by_cases hlt : j < n
          · have l0 : j < L.length := by rw [HN.out]; exact hlt
            obtain ⟨b, off, c, cp, rfl, d0, hc⟩ := (HP.out.gr HG.out).at l0
            have hcj := HCV.out _ (List.getElem_mem l0)
            have C := Lib.hid (r9_Value (cap := cp) hcj (HLV.out j) HS.out (by omega) wr hc)
            have HS2 : Hid (Sh (2000 + 30 * (j + 1)) (allV (L.take (j + 1)) r)) := Lib.hid (by rw [allV_take l0]; exact (cv_shV hcj (HLV.out j) HS.out).mono (by omega))
            rw [← HX.out, ← allV_take l0] at C
            generalize L[j].length = m at *
            have HX2 : Hid (RT (allV (L.take (j + 1)) r) = RT (allV (L.take (j + 1)) r)) := Lib.hid rfl
            generalize hy : RT (allV (L.take (j + 1)) r) = y at C
            rw [hy] at HX2
            have HX3 := Lib.hid hy.symm
            clear hc hcj HX2 hy HX HS
            go_wp2_with fail
            refine C.out.mono ?_; rintro e w3 ⟨rfl, hg⟩
            have HG3 := Lib.hid (Gr.trans HG.out hg)
            clear hg C HG d0
            go_wp2
            go_roundw
            case rel => exact ⟨j + 1, y, by go_num, rfl, by omega, HX3, HS2, HG3⟩
            case measure => simp [intOf]; omega
          · obtain rfl : j = n := by omega
            have hx : x = V := by
              rw [HX.out, ← HV.out, List.take_of_length_le (by rw [HN.out]; exact Nat.le_refl _)]
            subst hx
            clear HX HV
            go_wp2
            go_ret2
            exact ⟨rfl, HG.out⟩
      · rw [if_pos hv]
        generalize compE s = K at *
        generalize L.length = n at *
        have hk : (K == 0) = false := by rw [beq_eq_false_iff_ne]; exact hv
        unfold vSI
        clear hp hR h
        go_enter Tryz.func22, Tryz.ntmps22
        go_wp2_with fail
        refine CA.out.mono ?_; rintro e w1 ⟨rfl, hg⟩
        have HG1 := Lib.hid hg
        clear hg CA
        go_wp2_with fail
        refine (CI.out _ HG1.out).mono ?_; rintro e w2 ⟨rfl, hg⟩
        have HG2 := Lib.hid (Gr.trans HG1.out hg)
        clear hg HG1
        go_wp2
        go_ret2
        exact ⟨rfl, HG2.out⟩
    · rw [if_pos h]
      have CA := Lib.hid CA
      generalize errs L = K at *
      generalize L.length = n at *
      have hk : (K == 0) = false := by rw [beq_eq_false_iff_ne]; exact h
      unfold vSI
      clear hp hR
      go_enter Tryz.func22, Tryz.ntmps22
      go_wp2_with fail
      refine CA.out.mono ?_; rintro e w1 ⟨rfl, hg⟩
      have HG1 := Lib.hid hg
      clear hg CA
      go_wp2
      go_ret2
      exact ⟨rfl, HG1.out⟩
theorem thru_one (l : Pts) (s : ByteArray) : thruC [l] s = atC l s := by
  have e : errs [l] = cvC l := by
    unfold errs
    by_cases h : cvC l = 0
    · rw [if_neg (by simp [h]), h]; rfl
    · rw [if_pos h]
  unfold thruC atC
  rw [if_neg (by simp), e]; rfl
section
variable {w0 : World} (htab : Tab w0) (hmx : Mx w0) (herr : ErrR w0)
include htab hmx herr
set_option maxHeartbeats 8000000 in
set_option maxRecDepth 100000 in
theorem cv_Through {a : Option Addr} {cap : Nat} {L : List Pts} {s : ByteArray} (w : World) (hg0 : Gr w0 w) (hp : CsAt w a L) (hR : Right L) (hlen : L.length ≤ 10000000000000) (hs : s.size ≤ 2000) :
    Calls Tryz.prog 21 #[.slice a L.length cap, .string s] w fun e w' => e = .returned (vSI (thruC L s)) ∧ Gr w w' := by
  unfold thruC
  by_cases h16 : 16 < L.length
  · rw [if_pos h16]
    generalize L.length = n at *
    have k1 : decide ((16 : Int) < n) = true := decide_eq_true (by omega)
    unfold vSI
    clear hp hR htab hmx herr
    go_enter Tryz.func21, Tryz.ntmps21
    go_wp2
    go_ret2
    exact ⟨rfl, Gr.refl w⟩
  · rw [if_neg h16]
    have HP := Lib.hid hp
    have HR := Lib.hid hR
    have CI := RetG.of4 (w0 := w) fun w1 h => ret_GCheck (w0 := w1) (htab_gr htab (Gr.trans hg0 h)) (hmx.gr (Gr.trans hg0 h)) (herr.gr (Gr.trans hg0 h)) (s := s) (by omega) 0 0 0
    rw [glE_zero] at CI
    have CI := Lib.hid CI
    have CF := Lib.hid (fun (b off cap : Nat) (l : Pts) (r : Rat) (hc : Cv l) (hl : lvlQ r = true) (hr : InR r) (w' : World) (hg : Gr w w') (hp : PtAt w' (some ⟨b, off, none⟩) l) => cv_find (cap := cap) htab hmx herr hc hl hr w' (Gr.trans hg0 hg) hp)
    have CT := Lib.hid (fun (p q : Int × Int) (r : Rat) (k : Nat) (hr : Sh k r) (hk : k ≤ 3000) (hp : lvP p) (hq : lvP q) (hxx : p.1 < q.1) (h0 : (p.1 : Rat) ≤ r) (h1 : r ≤ (q.1 : Rat)) => (cv_at htab hmx hr hk hp hq hxx h0 h1).up hg0)
    obtain ⟨n, hn⟩ : ∃ n, L.length = n := ⟨_, rfl⟩
    have HN := Lib.hid hn
    rw [hn] at h16 hlen ⊢
    have k1 : decide ((16 : Int) < n) = false := decide_eq_false (by omega)
    obtain ⟨E, hE⟩ : ∃ E, errs L = E := ⟨_, rfl⟩
    rw [hE]
    have HE := Lib.hid (show errs (L.drop 0) = E from hE)
    have HE0 := Lib.hid hE
    obtain ⟨A, hA⟩ : ∃ A, (if E ≠ 0 then ((⟨#[]⟩ : ByteArray), E) else if compE s ≠ 0 then (⟨#[]⟩, compE s) else (RT (allV L (rv s)), 0)) = A := ⟨_, rfl⟩
    rw [hA]
    have HA := Lib.hid hA
    unfold vSI
    obtain ⟨A1, A2⟩ := A
    simp only []
    clear hp hR hn hE hA htab hmx herr hg0
    go_enter Tryz.func21, Tryz.ntmps21
    go_wp2
    go_loopw [19] (fun i wr => ∃ j : Nat, i = .int .i64 j ∧ j ≤ n ∧ Hid (errs (L.drop j) = E) ∧ Hid (Gr w wr)) (fun i _ => n - (intOf i).toNat)
    case atStart => exact ⟨0, rfl, Nat.zero_le _, HE, Lib.hid (Gr.refl w)⟩
    case round =>
      obtain ⟨j, rfl, hj, HD, HG⟩ := hrel
      by_cases hlt : j < n
      · have l0 : j < L.length := by rw [HN.out]; exact hlt
        obtain ⟨b, off, c, cp, rfl, d0, hc⟩ := (HP.out.gr HG.out).at l0
        have hrc := HR.out _ (List.getElem_mem l0)
        have C := Lib.hid (cv_CheckX c L[j] cp wr hc hrc)
        have hd := HD.out
        rw [errs_drop l0] at hd
        clear hc hrc
        by_cases h : cvC L[j] = 0
        · rw [if_neg (by simp [h])] at hd
          rw [h] at C
          have HD2 := Lib.hid hd
          generalize L[j].length = m at *
          clear hd HD h
          go_wp2_with fail
          refine C.out.mono ?_; rintro e w1 ⟨rfl, hg⟩
          have HG1 := Lib.hid (Gr.trans HG.out hg)
          clear hg C HG d0
          go_wp2
          go_roundw
          case rel => exact ⟨j + 1, by go_num, by omega, HD2, HG1⟩
          case measure => simp [intOf]; omega
        · rw [if_pos h] at hd
          have ha := HA.out
          rw [if_pos (by rw [← hd]; exact h), ← hd, Prod.mk.injEq] at ha
          obtain ⟨rfl, ha2⟩ := ha
          have HD2 := Lib.hid ha2
          generalize L[j].length = m at *
          generalize cvC L[j] = K at *
          have hk : (K == 0) = false := by rw [beq_eq_false_iff_ne]; exact h
          clear hd HD ha2 HA
          go_wp2_with fail
          refine C.out.mono ?_; rintro e w1 ⟨rfl, hg⟩
          have HG1 := Lib.hid (Gr.trans HG.out hg)
          clear hg C HG d0
          go_wp2
          go_ret2
          exact ⟨by rw [← HD2.out]; rfl, HG1.out⟩
      · obtain rfl : j = n := by omega
        have hd := HD.out
        rw [List.drop_of_length_le (by rw [HN.out]; exact Nat.le_refl _)] at hd
        have hd' : E = 0 := hd.symm
        subst hd'
        have HCV := Lib.hid (errs_zero HE0.out)
        have ha := HA.out
        rw [if_neg (by simp)] at ha
        clear hd HD HE HA HE0
        by_cases hv : compE s = 0
        · rw [hv] at CI
          rw [if_neg (by simp [hv])] at ha
          obtain ⟨r, rfl, hr, hl⟩ := compE_zero hv
          obtain ⟨r', e1, e2, e3⟩ := text_sh (s := RT r) (k := 2000) (chkS_RT hr) hs
          have e4 := RT_inj e1
          subst e4
          rw [rv_RT, Prod.mk.injEq] at ha
          obtain ⟨ha1, rfl⟩ := ha
          have HV := Lib.hid ha1
          have HS0 : Hid (Sh (2000 + 30 * 0) (allV (L.take 0) r)) := Lib.hid e2
          have HLV : Hid (∀ j, lvlQ (allV (L.take j) r) = true) := Lib.hid fun j => allV_lvl (fun c hc => HCV.out c (List.mem_of_mem_take hc)) hl
          have HV0 : Hid (RT r = RT (allV (L.take 0) r)) := Lib.hid rfl
          generalize RT r = t at *
          clear hv hr hl e1 e2 e3 ha1 hs
          go_wp2_with fail
          refine (CI.out _ HG.out).mono ?_; rintro e w2 ⟨rfl, hg⟩
          have HG2 := Lib.hid (Gr.trans HG.out hg)
          clear hg HG CI
          go_wp2
          go_loopw [1, 37] (fun v i wr => ∃ (i' : Nat) (x : ByteArray), i = .int .i64 i' ∧ v = .string x ∧ i' ≤ j ∧ Hid (x = RT (allV (L.take i') r)) ∧ Hid (Sh (2000 + 30 * i') (allV (L.take i') r)) ∧ Hid (Gr w wr)) (fun _ i _ => j - (intOf i).toNat)
          case atStart => exact ⟨0, t, rfl, rfl, Nat.zero_le _, HV0, HS0, HG2⟩
          case round =>
            obtain ⟨i, x, rfl, rfl, hi, HX, HS, HG⟩ := hrel
            by_cases hlt2 : i < j
            · have l0 : i < L.length := by rw [HN.out]; exact hlt2
              obtain ⟨b, off, c, cp, rfl, d0, hc⟩ := (HP.out.gr HG.out).at l0
              have hcj := HCV.out _ (List.getElem_mem l0)
              have h2j := hcj.two
              obtain ⟨cb, co, rfl, -⟩ := hc.block (by omega)
              have HF := Lib.hid (CF.out cb co cp L[i] (allV (L.take i) r) hcj (HLV.out i) (HS.out.inR (by omega)) wr HG.out hc)
              have HTT := Lib.hid (fun (k : Nat) (p q : Int × Int) (hs : IsSeg L[i] (allV (L.take i) r) k) (hp : L[i][k]? = some p) (hq : L[i][k + 1]? = some q) => (show RetG w 42 #[vSg p.1 p.2 q.1 q.2, .string x] (.tuple #[.string (RT (allV (L.take (i + 1)) r)), .int .i64 0]) by
                have hk1 := hs.1
                rw [List.getElem?_eq_getElem (by omega), Option.some.injEq] at hp
                rw [List.getElem?_eq_getElem hk1, Option.some.injEq] at hq
                have hseg := hs.2
                rw [hp, hq] at hseg
                have := CT.out p q (allV (L.take i) r) _ HS.out (by omega) (by rw [← hp]; exact hcj.lv _ (List.getElem_mem _)) (by rw [← hq]; exact hcj.lv _ (List.getElem_mem _)) (by rw [← hp, ← hq]; exact hcj.asc k hk1) hseg.1 hseg.2
                have e : segV p q (allV (L.take i) r) = allV (L.take (i + 1)) r := by rw [allV_take l0, valC_at hcj.asc hs]; simp only [hp, hq]
                rwa [e, ← HX.out] at this))
              have HS2 : Hid (Sh (2000 + 30 * (i + 1)) (allV (L.take (i + 1)) r)) := Lib.hid (by rw [allV_take l0]; exact (cv_shV hcj (HLV.out i) HS.out).mono (by omega))
              rw [← HX.out] at HF
              generalize L[i].length = m at *
              generalize hy : RT (allV (L.take (i + 1)) r) = y at HTT
              have HX3 := Lib.hid hy.symm
              clear hc hcj hy HX HS h2j
              go_wp2_with fail
              refine HF.out.mono ?_; rintro e w3 ⟨⟨k, p, q, hs1, hp1, hq1, rfl⟩, hg⟩
              have HTK := Lib.hid (HTT.out k p q hs1 hp1 hq1)
              have HG3 := Lib.hid (Gr.trans HG.out hg)
              obtain ⟨px, py⟩ := p
              obtain ⟨qx, qy⟩ := q
              clear hg HF HTT hs1 hp1 hq1 HG d0
              go_wp2_with fail
              refine (HTK.out _ HG3.out).mono ?_; rintro e w4 ⟨rfl, hg⟩
              have HG4 := Lib.hid (Gr.trans HG3.out hg)
              clear hg HTK HG3
              go_wp2
              go_roundw
              case rel => exact ⟨i + 1, y, by go_num, rfl, by omega, HX3, HS2, HG4⟩
              case measure => simp [intOf]; omega
            · obtain rfl : i = j := by omega
              have hx : x = A1 := by
                rw [HX.out, ← HV.out, List.take_of_length_le (by rw [HN.out]; exact Nat.le_refl _)]
              subst hx
              clear HX HV
              go_wp2
              go_ret2
              exact ⟨rfl, HG.out⟩
        · rw [if_pos hv, Prod.mk.injEq] at ha
          obtain ⟨rfl, ha2⟩ := ha
          generalize compE s = K at *
          have HA2 := Lib.hid ha2
          clear ha2
          have hk : (K == 0) = false := by rw [beq_eq_false_iff_ne]; exact hv
          go_wp2_with fail
          refine (CI.out _ HG.out).mono ?_; rintro e w2 ⟨rfl, hg⟩
          have HG2 := Lib.hid (Gr.trans HG.out hg)
          clear hg HG
          go_wp2
          go_ret2
          exact ⟨by rw [← HA2.out]; rfl, HG2.out⟩
set_option maxHeartbeats 2000000 in
set_option maxRecDepth 100000 in
theorem cv_At {a : Option Addr} {cap : Nat} {l : Pts} {s : ByteArray} (w : World) (hg0 : Gr w0 w) (hp : PtAt w a l) (hJ : ∀ p ∈ l, isJ p.1 ∧ isJ p.2) (hlen : l.length ≤ 10000000000000) (hs : s.size ≤ 2000) :
    Calls Tryz.prog 13 #[.slice a l.length cap, .string s] w fun e w' => e = .returned (vSI (atC l s)) ∧ Gr w w' := by
  have hg1 : Gr w (w.alloc (.cells #[.slice a l.length cap] 22)) := (Gr.refl w).alloc _
  have hcs : CsAt (w.alloc (.cells #[.slice a l.length cap] 22)) (some ⟨w.heap.size, 0, none⟩) [l] := .inr ⟨_, _, rfl, fun j hj => by
    obtain rfl : j = 0 := by simp at hj; omega
    exact ⟨a, cap, by simp, hp.gr hg1⟩⟩
  have CT := cv_Through (cap := 1) htab hmx herr (s := s) _ (Gr.trans hg0 hg1) hcs (fun c hc => by rw [List.mem_singleton.1 hc]; exact hJ) (by simp) hs
  rw [thru_one] at CT
  have HC := Lib.hid CT
  have HG1 := Lib.hid hg1
  obtain ⟨A, hA⟩ : ∃ A, atC l s = A := ⟨_, rfl⟩
  rw [hA] at HC ⊢
  obtain ⟨A1, A2⟩ := A
  unfold vSI at *
  simp only [] at HC ⊢
  generalize l.length = n at *
  clear htab hmx herr hg0 hp hcs CT hA hg1 hJ
  go_enter Tryz.func13, Tryz.ntmps13
  go_wp2_with fail
  refine HC.out.mono ?_; rintro e w2 ⟨rfl, hg⟩
  have HG2 := Lib.hid (Gr.trans HG1.out hg)
  clear hg
  go_wp2
  go_ret2
  exact ⟨rfl, HG2.out⟩
end
end Go.Proofs.YtlbnibicehpobaaGreatDoor
