/- Law 6: the reference's decimal, Text, Format. -/
import Derived.Test.YtifccpdkpgfnlaaDoorRbM
import Derived.Laws.Runes
set_option linter.unusedVariables false
set_option linter.unusedSimpArgs false
namespace Go.Proofs.YtifccpdkpgfnlaaDoor.Z
open Go
/-- the texts of ranges, one behind the other, each but the first behind ' + ' -/
def txtR (R : List (Int × Int)) : List UInt8 := match R with
  | [] => []
  | r :: R => termT r ++ Lib.joinTail [32, 43, 32] (R.map termT)
theorem txtR_join (R : List (Int × Int)) : Lib.join (R.map termT) [32, 43, 32] = txtR R := by
  cases R with
  | nil => rfl
  | cons r R => rw [List.map_cons, Lib.join_cons]; rfl
theorem txtR_snoc (R : List (Int × Int)) (r : Int × Int) (h : R ≠ []) : txtR (R ++ [r]) = txtR R ++ [32, 43, 32] ++ termT r := by
  cases R with
  | nil => exact absurd rfl h
  | cons x R => simp [txtR, Lib.joinTail]
theorem txtR_len (R : List (Int × Int)) (hR : ∀ r ∈ R, isRg r = true) : (txtR R).length ≤ 15 * R.length := by
  cases R with
  | nil => simp [txtR]
  | cons r R =>
    have h1 := joinTail_len R (fun x hx => hR x (List.mem_cons_of_mem _ hx))
    have hb := (isRg_iff r).1 (hR r (by simp))
    have h2 := (dig_ok r.1.toNat (by omega)).2.2.2
    have h3 := (dig_ok r.2.toNat (by omega)).2.2.2
    have h4 : (termT r).length ≤ 12 := by
      unfold termT
      split <;> simp <;> omega
    unfold txtR
    rw [List.length_append, List.length_cons]
    omega
end Go.Proofs.YtifccpdkpgfnlaaDoor.Z
namespace Go.Proofs.YtifccpdkpgfnlaaDoor
open Go.RowKit Go.Shelf
open Z
set_option maxHeartbeats 2000000 in
set_option maxRecDepth 100000 in
theorem r6_decimal (n : Nat) (w : World) (h1 : 1 ≤ n) (hn : n ≤ 999) :
    Calls Tryd.prog 81 #[.int .i64 (n : Int)] w fun e w' => e = .returned (.string (str (Lib.decDigits n))) ∧ w = w' := by
  rw [← pre_zero h1]
  go_enter Tryd.func81, Tryd.ntmps81
  go_wp2
  go_loop [0, 3] (fun x o => ∃ (m : Nat) (r : List UInt8), x = .int .i64 m ∧ o = .string (str r) ∧ m ≤ 999 ∧ r.length + m ≤ 1000 ∧ Hid (pre m 0 ++ r = pre n 0)) (fun x o => (intOf x).toNat)
  case atStart => exact ⟨n, [], rfl, rfl, hn, by simp; omega, Lib.hid (by simp)⟩
  case round =>
    obtain ⟨m, r, rfl, rfl, hm, hr, HP⟩ := hrel
    have hsz : (str r).size = r.length := str_size r
    have hd : m % 10 < 10 := Nat.mod_lt _ (by decide)
    have hu := enc_digit hd
    have hmod : (m : Int).tmod 10 = ((m % 10 : Nat) : Int) := by rw [Int.tmod_eq_emod_of_nonneg (by omega)]; omega
    have hdiv : (m : Int).tdiv 10 = ((m / 10 : Nat) : Int) := by rw [Int.tdiv_eq_ediv_of_nonneg (by omega)]; omega
    have hdv : m / 10 ≤ m := Nat.div_le_self _ _
    have HD : Hid (0 < m → m / 10 < m) := Lib.hid fun h => by omega
    have HS : Hid (0 < m → pre (m / 10) 0 ++ (UInt8.ofNat (48 + m % 10) :: r) = pre n 0) := Lib.hid fun h => by
      rw [← HP.out, pre_step (n := m) (k := 0) (by omega)]; simp
    have HX : Hid ((⟨#[UInt8.ofNat (48 + m % 10)]⟩ : ByteArray) ++ str r = str (UInt8.ofNat (48 + m % 10) :: r)) := by
      show _ = _
      rw [show (⟨#[UInt8.ofNat (48 + m % 10)]⟩ : ByteArray) = str [UInt8.ofNat (48 + m % 10)] from rfl, str_app]; rfl
    have hz1 : (⟨#[UInt8.ofNat (48 + m % 10)]⟩ : ByteArray).size = 1 := rfl
    generalize (⟨#[UInt8.ofNat (48 + m % 10)]⟩ : ByteArray) = ub at *
    generalize UInt8.ofNat (48 + m % 10) = u8 at *
    generalize m % 10 = d at *
    generalize hq : m / 10 = q at *
    clear hq
    by_cases h0 : 0 < m
    · have HS1 := Lib.hid (HS.out (by omega))
      have HD1 := Lib.hid (HD.out h0)
      go_wp2
      go_round
      case rel => exact ⟨q, u8 :: r, rfl, by rw [HX.out], by omega, by simp; have := HD1.out; omega, HS1.out⟩
      case measure => simp only [intOf]; have := HD1.out; simp; omega
    · have HP2 : Hid (str r = str (pre n 0)) := by
        have hp := HP.out
        have hz : m = 0 := by omega
        rw [hz, pre_nil, List.nil_append] at hp
        show str r = _
        rw [hp]
      clear HP HS HD
      go_wp2
      go_ret
      exact ⟨by rw [← HP2.out]; rfl, rfl⟩
theorem nil_app (s : ByteArray) : (⟨#[]⟩ : ByteArray) ++ s = s := by apply ba_ext; simp
set_option maxHeartbeats 2000000 in
set_option maxRecDepth 100000 in
theorem r6_Text (a : Option Addr) (R : List (Int × Int)) (cap : Nat) (w : World) (hR : RngAt w a R) (hlen : R.length ≤ 1000) (hrg : ∀ r ∈ R, isRg r = true) :
    Calls Tryd.prog 68 #[.slice a R.length cap] w fun e w' => e = .returned (.string (str (txtR R))) ∧ Gr w w' := by
  have HR := Lib.hid hR
  have HP := Lib.hid hrg
  obtain ⟨n, hn⟩ : ∃ n, R.length = n := ⟨_, rfl⟩
  have HN := Lib.hid hn
  rw [hn] at hlen ⊢
  clear hR hn hrg
  go_enter Tryd.func68, Tryd.ntmps68
  go_wp2
  go_loopw [3, 4] (fun o i wr => ∃ k : Nat, i = .int .i64 k ∧ k ≤ n ∧ o = .string (str (txtR (R.take k))) ∧ Hid (Gr w wr)) (fun _ i _ => n - (intOf i).toNat)
  case atStart => exact ⟨0, rfl, by omega, rfl, Gr.refl w⟩
  case round =>
    obtain ⟨k, rfl, hk, rfl, HG⟩ := hrel
    by_cases hlt : k < n
    · have hkR : k < R.length := by rw [HN.out]; exact hlt
      obtain ⟨b, off, rfl, c0, c1⟩ := (HR.out.gr HG.out).at hkR
      have hb := (isRg_iff _).1 (HP.out _ (List.getElem_mem hkR))
      have htl : (str (txtR (R.take k))).size ≤ 15000 := by
        rw [str_size]
        have h1 := txtR_len (R.take k) (fun r hr => HP.out r (List.mem_of_mem_take hr))
        rw [List.length_take] at h1; omega
      have HS : Hid (k = 0 → str (txtR (R.take (k + 1))) = str (termT R[k])) := Lib.hid fun h => by
        rw [List.take_succ_eq_append_getElem hkR]; subst h; simp [txtR, Lib.joinTail]
      have HT : Hid (0 < k → str (txtR (R.take (k + 1))) = str (txtR (R.take k)) ++ (⟨#[32, 43, 32]⟩ : ByteArray) ++ str (termT R[k])) := Lib.hid fun h => by
        rw [List.take_succ_eq_append_getElem hkR, txtR_snoc _ _ (fun e => by have := congrArg List.length e; rw [List.length_take, List.length_nil] at this; omega), ← str_app, ← str_app]; rfl
      generalize R[k] = r at *
      obtain ⟨f, t⟩ := r
      simp only at c0 c1 hb
      obtain ⟨f, rfl⟩ : ∃ F : Nat, f = F := ⟨f.toNat, by omega⟩
      obtain ⟨t, rfl⟩ : ∃ F : Nat, t = F := ⟨t.toNat, by omega⟩
      have hf := dig_ok f (by omega)
      have ht := dig_ok t (by omega)
      have DF := Lib.hid (fun w => r6_decimal f w (by omega) (by omega))
      have DT := Lib.hid (fun w => r6_decimal t w (by omega) (by omega))
      have hfz : (str (Lib.decDigits f)).size ≤ 3 := by rw [str_size]; exact hf.2.2.2
      have htz : (str (Lib.decDigits t)).size ≤ 3 := by rw [str_size]; exact ht.2.2.2
      have HE1 : Hid (f < t → str (termT ((f : Int), (t : Int))) = str (Lib.decDigits f) ++ ((⟨#[32, 116, 104, 114, 117, 32]⟩ : ByteArray) ++ str (Lib.decDigits t))) := Lib.hid fun h => by
        unfold termT; simp only [Int.toNat_natCast]; rw [if_pos (by omega), ← str_app, ← str_app]; rfl
      have HE2 : Hid (¬ f < t → str (termT ((f : Int), (t : Int))) = str (Lib.decDigits f)) := Lib.hid fun h => by
        unfold termT; simp only [Int.toNat_natCast]; rw [if_neg (by omega), List.append_nil]
      generalize str (termT ((f : Int), (t : Int))) = tt at *
      generalize str (Lib.decDigits f) = fs at *
      generalize str (Lib.decDigits t) = ts at *
      have HZ : Hid (k = 0 → str (txtR (R.take k)) = (⟨#[]⟩ : ByteArray)) := Lib.hid fun h => by subst h; rfl
      generalize str (txtR (R.take k)) = xs at *
      clear hf ht
      by_cases hk0 : k = 0
      · by_cases hft : f < t
        · have HX := Lib.hid (HS.out hk0)
          rw [HE1.out hft] at HX
          have k1 : decide (f < t) = true := decide_eq_true hft
          subst hk0
          have HX0 : Hid (xs = (⟨#[]⟩ : ByteArray)) := Lib.hid (by have := HZ.out rfl; exact this)
          simp only [Nat.zero_mul, Nat.add_zero] at c0 c1
          clear HS HT HE1 HE2 HZ hft
          go_wp2_with fail
          refine (DF.out _).mono ?_; rintro e w1 ⟨rfl, rfl⟩
          go_wp2_with fail
          go_quiet (fail)
          rename_i nq
          have HG3 := Lib.hid (below_drewN HG.out nq)
          have c2 := cell_gr (below_drewN (Gr.refl wr) nq) c1
          generalize wr.drewN nq = w2 at *
          go_wp2_with fail
          refine (DT.out _).mono ?_; rintro e w3 ⟨rfl, rfl⟩
          go_wp2
          go_roundw
          case rel => exact ⟨0 + 1, by go_num, by omega, by rw [HX.out]; simp [HX0.out, nil_app], HG3⟩
          case measure => simp [intOf]; omega
        · have HX := Lib.hid (HS.out hk0)
          rw [HE2.out hft] at HX
          have k1 : decide (f < t) = false := decide_eq_false hft
          subst hk0
          have HX0 : Hid (xs = (⟨#[]⟩ : ByteArray)) := Lib.hid (by have := HZ.out rfl; exact this)
          simp only [Nat.zero_mul, Nat.add_zero] at c0 c1
          clear HS HT HE1 HE2 HZ hft
          go_wp2_with fail
          refine (DF.out _).mono ?_; rintro e w1 ⟨rfl, rfl⟩
          go_wp2_with fail
          go_quiet (fail)
          rename_i nq
          have HG3 := Lib.hid (below_drewN HG.out nq)
          have c2 := cell_gr (below_drewN (Gr.refl wr) nq) c1
          generalize wr.drewN nq = w2 at *
          go_wp2
          go_roundw
          case rel => exact ⟨0 + 1, by go_num, by omega, by rw [HX.out]; simp [HX0.out, nil_app], HG3⟩
          case measure => simp [intOf]; omega
      · by_cases hft : f < t
        · have hk1 : 0 < k := by omega
          have HX := Lib.hid (HT.out hk1)
          rw [HE1.out hft] at HX
          have k1 : decide (f < t) = true := decide_eq_true hft
          clear HS HT HE1 HE2 HZ hft
          go_wp2_with fail
          refine (DF.out _).mono ?_; rintro e w1 ⟨rfl, rfl⟩
          go_wp2_with fail
          go_quiet (fail)
          rename_i nq
          have HG3 := Lib.hid (below_drewN HG.out nq)
          have c2 := cell_gr (below_drewN (Gr.refl wr) nq) c1
          generalize wr.drewN nq = w2 at *
          go_wp2_with fail
          refine (DT.out _).mono ?_; rintro e w3 ⟨rfl, rfl⟩
          go_wp2
          go_roundw
          case rel => exact ⟨k + 1, by go_num, by omega, by first | (rw [HX.out]; done) | (rw [HX.out]; simp [ByteArray.append_assoc]), HG3⟩
          case measure => simp [intOf]; omega
        · have hk1 : 0 < k := by omega
          have HX := Lib.hid (HT.out hk1)
          rw [HE2.out hft] at HX
          have k1 : decide (f < t) = false := decide_eq_false hft
          clear HS HT HE1 HE2 HZ hft
          go_wp2_with fail
          refine (DF.out _).mono ?_; rintro e w1 ⟨rfl, rfl⟩
          go_wp2_with fail
          go_quiet (fail)
          rename_i nq
          have HG3 := Lib.hid (below_drewN HG.out nq)
          have c2 := cell_gr (below_drewN (Gr.refl wr) nq) c1
          generalize wr.drewN nq = w2 at *
          go_wp2
          go_roundw
          case rel => exact ⟨k + 1, by go_num, by omega, by first | (rw [HX.out]; done) | (rw [HX.out]; simp [ByteArray.append_assoc]), HG3⟩
          case measure => simp [intOf]; omega
    · have hk2 : k = R.length := by rw [HN.out]; omega
      have HX := Lib.hid (show R.take k = R from by rw [hk2, List.take_length])
      clear hk2
      go_wp2
      go_ret
      exact ⟨by rw [HX.out]; rfl, HG.out⟩
set_option maxRecDepth 100000 in
set_option maxHeartbeats 1000000 in
theorem r6_Format (a : Option Addr) (R : List (Int × Int)) (cap : Nat) (w : World) (hR : RngAt w a R) (hlen : R.length ≤ 1000) :
    Calls Tryd.prog 34 #[.slice a R.length cap] w fun e w' => e = .returned (.tuple #[.string (str (formatR R).1), .int .i64 (formatR R).2]) ∧ Gr w w' := by
  have C := Lib.hid (r6_Check a R cap w hR (by omega))
  unfold formatR
  by_cases h : checkR R = 0
  · have D := Lib.hid (fun w' (hg : Gr w w') => r6_Text a R cap w' (hR.gr hg) hlen (checkL_each h))
    rw [h] at C ⊢
    rw [if_neg (by simp), txtR_join]
    simp only
    generalize str (txtR R) = V at *
    generalize R.length = n at *
    clear hR h
    go_enter Tryd.func34, Tryd.ntmps34
    go_wp2_with fail
    refine C.out.mono ?_; rintro e w2 ⟨rfl, hg2⟩
    have HG2 := Lib.hid hg2
    clear hg2
    go_wp2_with fail
    refine (D.out _ HG2.out).mono ?_; rintro e w3 ⟨rfl, hg2⟩
    have HG3 := Lib.hid (Gr.trans HG2.out hg2)
    clear hg2
    go_wp2
    go_ret2
    exact ⟨rfl, HG3.out⟩
  · rw [if_pos h]
    simp only
    generalize checkR R = v at *
    have hv : (v == 0) = false := by rw [beq_eq_false_iff_ne]; exact h
    generalize R.length = n at *
    clear hR
    go_enter Tryd.func34, Tryd.ntmps34
    go_wp2_with fail
    refine C.out.mono ?_; rintro e w2 ⟨rfl, hg2⟩
    have HG2 := Lib.hid hg2
    clear hg2
    go_wp2
    go_ret2
    exact ⟨rfl, HG2.out⟩
end Go.Proofs.YtifccpdkpgfnlaaDoor
