/- Records: the reference's GetText; ints and texts written, both sides. -/
import Derived.Test.YtebniicnaofdoaaRcB
set_option linter.unusedVariables false
set_option linter.unusedSimpArgs false
namespace Go.Proofs.Ytebniicnaofdoaa
open Go.RowKit
open Z Rc

set_option maxHeartbeats 4000000 in
set_option maxRecDepth 100000 in
theorem r8_GetText (s : ByteArray) (a : Int) (w : World) (hs : s.size ≤ maxLen) :
    Calls Try.prog 17 #[.string s, .int .i64 a] w fun e w' => e = .returned (tV (getT s.data.toList a)) ∧ w = w' := by
  have hsz : s.data.toList.length = s.size := by simp
  have HGI := Lib.hid (fun w => r8_GetInt s a w hs)
  unfold gV at HGI
  obtain ⟨n1, n2⟩ := getI_num s.data.toList a
  have HR := Lib.hid (getI_range s.data.toList a)
  unfold maxLen at hs
  unfold tV getT
  rw [hsz] at *
  generalize getI s.data.toList a = R at *
  obtain ⟨n, nx, E⟩ := R
  simp only [] at *
  by_cases hE : E = 0
  · subst hE
    obtain ⟨k, rfl, hk⟩ := HR.out rfl
    simp only [ne_eq, not_true_eq_false, if_false]
    by_cases h1 : n < 0
    · rw [if_pos (.inl h1)]
      go_enter Try.func17, Try.ntmps17
      go_wp2_with fail
      refine (HGI.out _).mono ?_; rintro e w' ⟨rfl, rfl⟩
      go_wp2
      go_ret3
      exact ⟨rfl, rfl⟩
    · by_cases h2 : 65535 < n
      · rw [if_pos (.inr h2)]
        go_enter Try.func17, Try.ntmps17
        go_wp2_with fail
        refine (HGI.out _).mono ?_; rintro e w' ⟨rfl, rfl⟩
        go_wp2
        go_ret3
        exact ⟨rfl, rfl⟩
      · rw [if_neg (by omega)]
        obtain ⟨m, rfl⟩ : ∃ m : Nat, n = m := ⟨n.toNat, by omega⟩
        clear n1 n2
        have hm : m ≤ 65535 := by omega
        clear h1 h2
        by_cases h3 : (s.size : Int) - k < m
        · rw [if_pos h3]
          go_enter Try.func17, Try.ntmps17
          go_wp2_with fail
          refine (HGI.out _).mono ?_; rintro e w' ⟨rfl, rfl⟩
          go_wp2
          go_ret3
          exact ⟨rfl, rfl⟩
        · rw [if_neg h3]
          have HX : Hid (str ((s.data.toList.drop k).take m) = s.extract k (k + m)) := by
            show _ = _
            apply ba_ext
            rw [data_str, Lib.extract_data]
            congr 1; omega
          simp only [Int.toNat_natCast]
          rw [HX.out]
          go_enter Try.func17, Try.ntmps17
          go_wp2_with fail
          refine (HGI.out _).mono ?_; rintro e w' ⟨rfl, rfl⟩
          go_wp2
          go_ret3
          exact ⟨rfl, rfl⟩
  · have hEb : (E != 0) = true := by simpa using hE
    rw [if_pos hE]
    go_enter Try.func17, Try.ntmps17
    go_wp2_with fail
    refine (HGI.out _).mono ?_; rintro e w' ⟨rfl, rfl⟩
    go_wp2
    go_ret3
    exact ⟨rfl, rfl⟩

theorem or_u8' {n : Nat} : bits .or .u8 (IntKind.u8.wrap (n : Int)) 128 = ((n % 128 + 128 : Nat) : Int) := by
  have h1 : IntKind.u8.wrap (n : Int) = ((n % 256 : Nat) : Int) := by
    show (n : Int) % (2 ^ 8) = _
    omega
  rw [h1, or_u8 (Nat.mod_lt _ (by decide))]
  omega
theorem cells1 (n : Nat) : (by8 n).toNat = n % 256 := by unfold by8; rw [UInt8.toNat_ofNat']
set_option maxHeartbeats 2000000 in
set_option maxRecDepth 100000 in
theorem cvt1 (n : Nat) (w0 : World) : (convert 65 9 (.slice (some ⟨w0.heap.size, 0, none⟩) 1 1)).run Try.prog (w0.alloc (.cells #[.int .u8 ((n : Int) % 256)] 5)) = .ok (.string (str [by8 n])) (w0.alloc (.cells #[.int .u8 ((n : Int) % 256)] 5)) := by
  refine run_convert_bytes_back _ 65 9 5 ⟨w0.heap.size, 0, none⟩ 1 [by8 n] (by kernel_rfl) (by kernel_rfl) (by kernel_rfl) (fun j hj => ?_)
  have : j = 0 := by simpa using hj
  subst this
  show World.cell? _ ⟨w0.heap.size, 0, none⟩ = _
  rw [World.cell?_alloc_at _ _ _ _ (by simp)]
  simp [cells1]
theorem r8_octet (n : Nat) (w : World) :
    Calls Try.prog 39 #[.int .i64 (n : Int)] w fun e w' => e = .returned (.string (str [by8 n])) ∧ Gr w w' := by
  have hcv := cvt1 n w
  go_enter Try.func39, Try.ntmps39
  go_wp2
  go_ret
  exact ⟨rfl, Gr.alloc (Gr.refl _) _⟩

/-- the groups that the loop has written: what is left -/
theorem gr_step {z : Nat} (h : ¬ z < 128) (l : List UInt8) : l ++ [by8 (z % 128 + 128)] ++ gr (z / 128) = l ++ gr z := by
  rw [gr_big h]; simp
theorem xor_u64 {n : Int} (h1 : -9223372036854775808 ≤ n) (h : n < 0) : bits .xor .u64 IntKind.u64.max (IntKind.u64.wrap (n * 2)) = ((zz n : Nat) : Int) := by
  have e0 : IntKind.u64.max = 18446744073709551615 := by decide
  have ew : IntKind.u64.wrap (n * 2) = ((18446744073709551616 + 2 * n).toNat : Int) := by
    show (n * 2) % 2 ^ 64 = _
    omega
  have hl : (18446744073709551616 + 2 * n).toNat < 18446744073709551616 := by omega
  rw [e0, ew]
  show IntKind.u64.wrap (((BitVec.ofInt 64 18446744073709551615) ^^^ (BitVec.ofInt 64 ((18446744073709551616 + 2 * n).toNat : Int)) : BitVec 64).toNat : Int) = _
  have e : BitVec.ofInt 64 18446744073709551615 = BitVec.allOnes 64 := by decide
  rw [e, BitVec.ofInt_natCast, BitVec.allOnes_xor, BitVec.toNat_not, BitVec.toNat_ofNat, Nat.mod_eq_of_lt (by omega), IntWalk.u64_in _ (by omega)]
  unfold zz
  rw [if_pos h]
  omega
theorem str_app (a b : List UInt8) : str a ++ str b = str (a ++ b) := ba_ext (by simp [str])
theorem str_sz (l : List UInt8) : (str l).size = l.length := by show l.toArray.size = _; simp
set_option maxHeartbeats 4000000 in
set_option maxRecDepth 100000 in
theorem r8_Int (n : Int) (w : World) (h1 : -9223372036854775808 ≤ n) (h2 : n < 9223372036854775808) :
    Calls Try.prog 15 #[.int .i64 n] w fun e w' => e = .returned (.string (str (int8 n))) ∧ Gr w w' := by
  have hz := zz_lt h1 h2
  have HL := Lib.hid (int8_len h1 h2)
  unfold int8 at *
  have hconv : IntKind.u64.wrap (IntKind.u64.wrap n * 2) = IntKind.u64.wrap (n * 2) := by
    show (n % 2 ^ 64 * 2) % 2 ^ 64 = (n * 2) % 2 ^ 64
    omega
  have main : ∀ (z : Nat) (hzz : zz n = z), (n < 0 ∧ bits .xor .u64 IntKind.u64.max (IntKind.u64.wrap (n * 2)) = (z : Int)) ∨ (¬ n < 0 ∧ n * 2 = (z : Int)) → Calls Try.prog 15 #[.int .i64 n] w fun e w' => e = .returned (.string (str (gr z))) ∧ Gr w w' := by
    intro z hzz hcase
    rw [hzz] at hz HL
    clear hzz
    rcases hcase with ⟨hn, hx⟩ | ⟨hn, hx⟩
    all_goals
      go_enter Try.func15, Try.ntmps15
      go_wp2
      go_loopw [3, 4] (fun v o wr => ∃ (y : Nat) (l : List UInt8), v = .int .u64 y ∧ o = .string (str l) ∧ y < 18446744073709551616 ∧ Hid (l ++ gr y = gr z) ∧ Hid (Gr w wr)) (fun v _ _ => (intOf v).toNat)
      case atStart => exact ⟨z, [], rfl, rfl, hz, rfl, Gr.refl _⟩
      case round =>
        obtain ⟨y, l, rfl, rfl, hy, HE, HG⟩ := hrel
        have hl : (str l).size ≤ 10 := by
          have e := congrArg List.length HE.out
          have := HL.out
          rw [List.length_append] at e
          rw [str_sz]; omega
        clear hx HL hconv
        by_cases h128 : 128 ≤ y
        · have HOC : Hid (∀ w, Calls Try.prog 39 #[.int .i64 ((y : Int) % 128 + 128)] w fun e w' => e = .returned (.string (str [by8 (y % 128 + 128)])) ∧ Gr w w') := Lib.hid fun w => by
            have H := r8_octet (y % 128 + 128) w
            have e : ((y % 128 + 128 : Nat) : Int) = (y : Int) % 128 + 128 := by omega
            rw [e] at H; exact H
          have HE' : Hid ((l ++ [by8 (y % 128 + 128)]) ++ gr (y / 128) = gr z) := by show _ = _; rw [gr_step (by omega)]; exact HE.out
          have hs1 : (str [by8 (y % 128 + 128)]).size ≤ 1 := by rw [str_sz]; simp
          generalize by8 (y % 128 + 128) = c at *
          clear HE
          go_wp2_with fail
          refine (HOC.out _).mono ?_; rintro e w' ⟨rfl, hg⟩
          have HG2 := Lib.hid (Gr.trans HG.out hg)
          clear hg HG
          go_wp2
          go_roundw
          case rel => exact ⟨y / 128, l ++ [c], by go_num, by rw [str_app], by omega, HE', HG2.out⟩
          case measure => simp [intOf]; omega
        · have HOC : Hid (∀ w, Calls Try.prog 39 #[.int .i64 (y : Int)] w fun e w' => e = .returned (.string (str [by8 y])) ∧ Gr w w') := Lib.hid fun w => r8_octet y w
          have HF : Hid (str (gr z) = str l ++ str [by8 y]) := by show _ = _; rw [str_app, ← HE.out, gr_small (by omega)]
          have hs1 : (str [by8 y]).size ≤ 1 := by rw [str_sz]; simp
          clear HE
          go_wp2_with fail
          refine (HOC.out _).mono ?_; rintro e w' ⟨rfl, hg⟩
          have HG2 := Lib.hid (Gr.trans HG.out hg)
          clear hg HG
          go_wp2
          go_ret
          exact ⟨ret_str HF.out.symm, HG2.out⟩
  by_cases hn : n < 0
  · exact main _ rfl (.inl ⟨hn, xor_u64 h1 hn⟩)
  · exact main _ rfl (.inr ⟨hn, by unfold zz; rw [if_neg hn]; omega⟩)

theorem own_bytes {B : Nat} {w : World} {v : Value} {l : List UInt8} : Own 5 .u8 B w v (l.map UInt8.toNat) ↔ OwnB B w v l := by
  unfold Own OwnB iv
  rw [List.length_map, List.map_map]
  rfl
theorem map_snoc8 (l : List UInt8) (m : Nat) (h : m < 256) : l.map UInt8.toNat ++ [m] = (l ++ [by8 m]).map UInt8.toNat := by rw [List.map_append, List.map_singleton, by8_toNat h]
theorem or_128 (y : Nat) : bits .or .u8 ((y : Int) % 256) 128 = ((y % 128 + 128 : Nat) : Int) := by
  have h := or_u8 (n := y % 256) (Nat.mod_lt _ (by decide))
  rw [show ((y % 256 : Nat) : Int) = (y : Int) % 256 by omega] at h
  rw [h]; omega
set_option maxHeartbeats 4000000 in
set_option maxRecDepth 100000 in
theorem rc_Int (n : Int) (w : World) (h1 : -9223372036854775808 ≤ n) (h2 : n < 9223372036854775808) :
    Calls Try.prog 14 #[.int .i64 n] w fun e w' => e = .returned (.string (str (int8 n))) ∧ Gr w w' := by
  have hz := zz_lt h1 h2
  have HL := Lib.hid (int8_len h1 h2)
  have HFO := Lib.hid (rc_fold n · h1 h2)
  obtain ⟨i0, hi, hz0, hz1, hz2⟩ := info_parts Try.infoU8
  unfold int8 at *
  clear h1 h2
  generalize zz n = z at *
  go_enter Try.func14, Try.ntmps14
  go_wp2_with fail
  refine (HFO.out _).mono ?_; rintro e w' ⟨rfl, rfl⟩
  go_wp2
  go_loopw [3, 4] (fun o v wr => ∃ (y : Nat) (l : List UInt8), v = .int .u64 y ∧ Hid (Own 5 .u8 w.heap.size wr o (l.map UInt8.toNat)) ∧ y < 18446744073709551616 ∧ Hid (l ++ gr y = gr z) ∧ Gr w wr) (fun _ v _ => (intOf v).toNat)
  case atStart => exact ⟨z, [], rfl, Own.nil _ _ _ _, hz, rfl, Gr.refl _⟩
  case round =>
    obtain ⟨y, l, rfl, HO, hy, HE, hg⟩ := hrel
    have hl : (l.map UInt8.toNat).length ≤ 3000000 := by
      have e := congrArg List.length HE.out
      have := HL.out
      rw [List.length_append] at e
      rw [List.length_map]; omega
    clear HL
    by_cases h128 : 128 ≤ y
    · have HE' : Hid ((l ++ [by8 (y % 128 + 128)]) ++ gr (y / 128) = gr z) := by show _ = _; rw [gr_step (by omega)]; exact HE.out
      have hor := or_128 y
      clear HE
      go_wp2_with (at_builtin; refine push_own hi hz0 hz1 hz2 (by decide) Try.underlying65 rfl _ _ rfl _ _ rfl HO.out hg _ (y % 128 + 128) ?hzz rfl hl ?_)
      case hzz => first | rfl | exact hor | omega
      intro v' w3 hO hg3
      rw [map_snoc8 _ _ (by omega)] at hO
      go_wp2
      go_roundw
      case rel => exact ⟨y / 128, _, by go_num, hO, by omega, HE', hg3⟩
      case measure => simp [intOf]; omega
    · have HF : Hid (gr z = l ++ [by8 y]) := by show _ = _; rw [← HE.out, gr_small (by omega)]
      have hym : (y : Int) % 256 = (y : Int) := by omega
      clear HE
      go_wp2_with (at_builtin; refine push_own hi hz0 hz1 hz2 (by decide) Try.underlying65 rfl _ _ rfl _ _ rfl HO.out hg _ y ?hzz rfl hl ?_)
      case hzz => first | rfl | omega
      intro v' w3 hO hg3
      rw [map_snoc8 _ _ (by omega)] at hO
      have hcv := OwnB.convert (own_bytes.1 hO.out) (by simp)
      have HG := Lib.hid hg3
      clear hO hg3 hg HO
      go_wp2
      go_ret
      exact ⟨ret_str (by rw [HF.out]; rfl), HG.out⟩
end Go.Proofs.Ytebniicnaofdoaa
