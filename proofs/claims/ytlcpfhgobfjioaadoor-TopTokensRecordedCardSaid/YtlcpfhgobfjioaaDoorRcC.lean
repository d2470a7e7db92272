/- Records: the reference's GetText; ints and texts written, both sides. -/
import Derived.Test.YtlcpfhgobfjioaaDoorRcB
set_option linter.unusedVariables false
set_option linter.unusedSimpArgs false
namespace Go.Proofs.YtlcpfhgobfjioaaDoor
open Go.RowKit
open Z Rc

theorem or_u8' {n : Nat} : bits .or .u8 (IntKind.u8.wrap (n : Int)) 128 = ((n % 128 + 128 : Nat) : Int) := by
  have h1 : IntKind.u8.wrap (n : Int) = ((n % 256 : Nat) : Int) := by
    show (n : Int) % (2 ^ 8) = _
    omega
  rw [h1, or_u8 (Nat.mod_lt _ (by decide))]
  omega
theorem cells1 (n : Nat) : (by8 n).toNat = n % 256 := by unfold by8; rw [UInt8.toNat_ofNat']
set_option maxHeartbeats 2000000 in
set_option maxRecDepth 100000 in
theorem cvt1 (n : Nat) (w0 : World) : (convert 35 9 (.slice (some ⟨w0.heap.size, 0, none⟩) 1 1)).run Tryd.prog (w0.alloc (.cells #[.int .u8 ((n : Int) % 256)] 5)) = .ok (.string (str [by8 n])) (w0.alloc (.cells #[.int .u8 ((n : Int) % 256)] 5)) := by
  refine run_convert_bytes_back _ 35 9 5 ⟨w0.heap.size, 0, none⟩ 1 [by8 n] (by kernel_rfl) (by kernel_rfl) (by kernel_rfl) (fun j hj => ?_)
  have : j = 0 := by simpa using hj
  subst this
  show World.cell? _ ⟨w0.heap.size, 0, none⟩ = _
  rw [World.cell?_alloc_at _ _ _ _ (by simp)]
  simp [cells1]
/-- the groups that the loop has written: what is left -/
theorem gr_step {z : Nat} (h : ¬ z < 128) (l : List UInt8) : l ++ [by8 (z % 128 + 128)] ++ gr (z / 128) = l ++ gr z := by
  rw [gr_big h]; simp
theorem xor_u64 {n : Int} (h1 : -9223372036854775808 ≤ n) (h : n < 0) : bits .xor .u64 IntKind.u64.max (IntKind.u64.wrap (n * 2)) = ((zz n : Nat) : Int) := by
  have e0 : IntKind.u64.max = 18446744073709551615 := by decide
  have ew : IntKind.u64.wrap (n * 2) = ((18446744073709551616 + 2 * n).toNat : Int) := by
    show (n * 2) % 2 ^ 64 = _
    omega
  have hl : (18446744073709551616 + 2 * n).toNat < 18446744073709551616 := by omega
  rw [e0, ew]
  show IntKind.u64.wrap (((BitVec.ofInt 64 18446744073709551615) ^^^ (BitVec.ofInt 64 ((18446744073709551616 + 2 * n).toNat : Int)) : BitVec 64).toNat : Int) = _
  have e : BitVec.ofInt 64 18446744073709551615 = BitVec.allOnes 64 := by decide
  rw [e, BitVec.ofInt_natCast, BitVec.allOnes_xor, BitVec.toNat_not, BitVec.toNat_ofNat, Nat.mod_eq_of_lt (by omega), IntWalk.u64_in _ (by omega)]
  unfold zz
  rw [if_pos h]
  omega
theorem str_app (a b : List UInt8) : str a ++ str b = str (a ++ b) := ba_ext (by simp [str])
theorem str_sz (l : List UInt8) : (str l).size = l.length := by show l.toArray.size = _; simp
theorem own_bytes {B : Nat} {w : World} {v : Value} {l : List UInt8} : Own 5 .u8 B w v (l.map UInt8.toNat) ↔ OwnB B w v l := by
  unfold Own OwnB iv
  rw [List.length_map, List.map_map]
  rfl
theorem map_snoc8 (l : List UInt8) (m : Nat) (h : m < 256) : l.map UInt8.toNat ++ [m] = (l ++ [by8 m]).map UInt8.toNat := by rw [List.map_append, List.map_singleton, by8_toNat h]
theorem or_128 (y : Nat) : bits .or .u8 ((y : Int) % 256) 128 = ((y % 128 + 128 : Nat) : Int) := by
  have h := or_u8 (n := y % 256) (Nat.mod_lt _ (by decide))
  rw [show ((y % 256 : Nat) : Int) = (y : Int) % 256 by omega] at h
  rw [h]; omega
set_option maxHeartbeats 4000000 in
set_option maxRecDepth 100000 in
theorem rc_Int (n : Int) (w : World) (h1 : -9223372036854775808 ≤ n) (h2 : n < 9223372036854775808) :
    Calls Tryd.prog 46 #[.int .i64 n] w fun e w' => e = .returned (.string (str (int8 n))) ∧ Gr w w' := by
  have hz := zz_lt h1 h2
  have HL := Lib.hid (int8_len h1 h2)
  have HFO := Lib.hid (rc_fold n · h1 h2)
  obtain ⟨i0, hi, hz0, hz1, hz2⟩ := info_parts Tryd.infoU8
  unfold int8 at *
  clear h1 h2
  generalize zz n = z at *
  go_enter Tryd.func46, Tryd.ntmps46
  go_wp2_with fail
  refine (HFO.out _).mono ?_; rintro e w' ⟨rfl, rfl⟩
  go_wp2
  go_loopw [3, 4] (fun o v wr => ∃ (y : Nat) (l : List UInt8), v = .int .u64 y ∧ Hid (Own 5 .u8 w.heap.size wr o (l.map UInt8.toNat)) ∧ y < 18446744073709551616 ∧ Hid (l ++ gr y = gr z) ∧ Gr w wr) (fun _ v _ => (intOf v).toNat)
  case atStart => exact ⟨z, [], rfl, Own.nil _ _ _ _, hz, rfl, Gr.refl _⟩
  case round =>
    obtain ⟨y, l, rfl, HO, hy, HE, hg⟩ := hrel
    have hl : (l.map UInt8.toNat).length ≤ 3000000 := by
      have e := congrArg List.length HE.out
      have := HL.out
      rw [List.length_append] at e
      rw [List.length_map]; omega
    clear HL
    by_cases h128 : 128 ≤ y
    · have HE' : Hid ((l ++ [by8 (y % 128 + 128)]) ++ gr (y / 128) = gr z) := by show _ = _; rw [gr_step (by omega)]; exact HE.out
      have hor := or_128 y
      clear HE
      go_wp2_with (at_builtin; refine push_own hi hz0 hz1 hz2 (by decide) Tryd.underlying35 rfl _ _ rfl _ _ rfl HO.out hg _ (y % 128 + 128) ?hzz rfl hl ?_)
      case hzz => first | rfl | exact hor | omega
      intro v' w3 hO hg3
      rw [map_snoc8 _ _ (by omega)] at hO
      go_wp2
      go_roundw
      case rel => exact ⟨y / 128, _, by go_num, hO, by omega, HE', hg3⟩
      case measure => simp [intOf]; omega
    · have HF : Hid (gr z = l ++ [by8 y]) := by show _ = _; rw [← HE.out, gr_small (by omega)]
      have hym : (y : Int) % 256 = (y : Int) := by omega
      clear HE
      go_wp2_with (at_builtin; refine push_own hi hz0 hz1 hz2 (by decide) Tryd.underlying35 rfl _ _ rfl _ _ rfl HO.out hg _ y ?hzz rfl hl ?_)
      case hzz => first | rfl | omega
      intro v' w3 hO hg3
      rw [map_snoc8 _ _ (by omega)] at hO
      have hcv := OwnB.convert (own_bytes.1 hO.out) (by simp)
      have HG := Lib.hid hg3
      clear hO hg3 hg HO
      go_wp2
      go_ret
      exact ⟨ret_str (by rw [HF.out]; rfl), HG.out⟩
end Go.Proofs.YtlcpfhgobfjioaaDoor
