/- Records: texts written; sums; pairs of bytes. -/
import Derived.Test.YtlcpfhgobfjioaaDoorRcC
set_option linter.unusedVariables false
set_option linter.unusedSimpArgs false
namespace Go.Proofs.YtlcpfhgobfjioaaDoor
open Go.RowKit
open Z Rc

def txE (l : List UInt8) : List UInt8 × Int := if 65535 < l.length then ([], 13) else (txt l, 0)
def xV (r : List UInt8 × Int) : Value := .tuple #[.string (str r.1), .int .i64 r.2]
theorem str_nil : str [] = ⟨#[]⟩ := rfl
set_option maxHeartbeats 2000000 in
set_option maxRecDepth 100000 in
theorem rc_Text (s : ByteArray) (w : World) (hs : s.size ≤ maxLen) :
    Calls Tryd.prog 22 #[.string s] w fun e w' => e = .returned (xV (txE s.data.toList)) ∧ Gr w w' := by
  have hsz : s.data.toList.length = s.size := by simp
  unfold maxLen at hs
  unfold xV txE
  rw [hsz]
  by_cases h : 65535 < s.size
  · rw [if_pos h]
    go_enter Tryd.func22, Tryd.ntmps22
    go_wp2
    go_ret2
    exact ⟨rfl, Gr.refl _⟩
  · rw [if_neg h]
    have HI := Lib.hid (rc_Int s.size · (by omega) (by omega))
    have h10 := int8_len (n := (s.size : Int)) (by omega) (by omega)
    have HF : Hid (str (txt s.data.toList) = str (int8 (s.size : Int)) ++ s) := by
      show _ = _
      unfold txt
      rw [← str_app, hsz]; congr 1
    have hb : (str (int8 (s.size : Int))).size ≤ 10 := by rw [str_sz]; exact h10
    simp only []
    rw [HF.out]
    clear h10 HF
    generalize str (int8 (s.size : Int)) = b at *
    go_enter Tryd.func22, Tryd.ntmps22
    go_wp2_with fail
    refine (HI.out _).mono ?_; rintro e w' ⟨rfl, hg⟩
    have HG := Lib.hid hg; clear hg
    go_wp2
    go_ret2
    exact ⟨rfl, HG.out⟩
theorem sP_take {l : List UInt8} {k : Nat} (h : k < l.length) : sP (l.take (k + 1)) = (((sP (l.take k)).1 + l[k].toNat) % 255, ((sP (l.take k)).2 + ((sP (l.take k)).1 + l[k].toNat) % 255) % 255) := by
  rw [List.take_succ_eq_append_getElem h, sP_snoc]
theorem or_sum {a b : Nat} (ha : a < 255) (hb : b < 255) : bits .or .i64 ((b : Int) * 256) (a : Int) = ((256 * b + a : Nat) : Int) := by
  have h := or_i64 (a := a) (b := 256 * b) (i := 8) (by omega) (by omega) (by omega)
  rw [show ((256 * b : Nat) : Int) = (b : Int) * 256 by omega] at h
  exact h
set_option maxHeartbeats 2000000 in
set_option maxRecDepth 100000 in
theorem rc_Sum (s : ByteArray) (w : World) (hs : s.size ≤ maxLen) :
    Calls Tryd.prog 48 #[.string s] w fun e w' => e = .returned (.int .i64 (sm s.data.toList : Nat)) ∧ w = w' := by
  have hsz : s.data.toList.length = s.size := by simp
  unfold maxLen at hs
  go_enter Tryd.func48, Tryd.ntmps48
  go_wp2
  go_loop [3, 4, 8] (fun x y i => ∃ k a b : Nat, i = .int .i64 k ∧ k ≤ s.size ∧ x = .int .i64 a ∧ y = .int .i64 b ∧ a < 255 ∧ b < 255 ∧ Hid (sP (s.data.toList.take k) = (a, b))) (fun _ _ i => s.size - (intOf i).toNat)
  case atStart => exact ⟨0, 0, 0, rfl, by omega, rfl, rfl, by omega, by omega, rfl⟩
  case round =>
    obtain ⟨k, a, b, rfl, hk, rfl, rfl, ha, hb, HP⟩ := hrel
    by_cases hlt : k < s.size
    · obtain ⟨c, HC⟩ : ∃ c : Nat, Hid (s[k].toNat = c) := ⟨_, Lib.hid rfl⟩
      have hc : (s[k].toNat : Int) = (c : Int) := by rw [HC.out]
      have hc2 : c < 256 := by rw [← HC.out]; exact UInt8.toNat_lt _
      have HP' : Hid (sP (s.data.toList.take (k + 1)) = ((a + c) % 255, (b + (a + c) % 255) % 255)) := by
        show _ = _
        rw [sP_take (by omega), HP.out, ← get_data s k hlt, HC.out]
      have e1 : ((a : Int) + (c : Int)).tmod 255 = (((a + c) % 255 : Nat) : Int) := rfl
      have h1 : (a + c) % 255 < 255 := Nat.mod_lt _ (by decide)
      generalize (a + c) % 255 = a' at *
      have e2 : ((b : Int) + (a' : Int)).tmod 255 = (((b + a') % 255 : Nat) : Int) := rfl
      have h2 : (b + a') % 255 < 255 := Nat.mod_lt _ (by decide)
      generalize (b + a') % 255 = b' at *
      clear HC HP
      go_wp2
      go_round
      case rel => exact ⟨k + 1, a', b', by go_num, by omega, rfl, rfl, h1, h2, HP'⟩
      case measure => simp [intOf]; omega
    · have HS : Hid (sm s.data.toList = 256 * b + a) := by
        show _ = _
        have := HP.out
        rw [List.take_of_length_le (by omega)] at this
        unfold sm; rw [this]
      have ho := or_sum ha hb
      go_wp2
      go_ret
      exact ⟨ret_int (by rw [HS.out]; omega), rfl⟩
theorem cvt2 (x y : Nat) (w0 : World) : (convert 35 9 (.slice (some ⟨w0.heap.size, 0, none⟩) 2 2)).run Tryd.prog (w0.alloc (.cells #[.int .u8 ((x : Int) % 256), .int .u8 ((y : Int) % 256)] 5)) = .ok (.string (str [by8 x, by8 y])) (w0.alloc (.cells #[.int .u8 ((x : Int) % 256), .int .u8 ((y : Int) % 256)] 5)) := by
  refine run_convert_bytes_back _ 35 9 5 ⟨w0.heap.size, 0, none⟩ 2 [by8 x, by8 y] (by kernel_rfl) (by kernel_rfl) (by kernel_rfl) (fun j hj => ?_)
  have : j = 0 ∨ j = 1 := by simp at hj; omega
  rcases this with rfl | rfl
  · show World.cell? _ ⟨w0.heap.size, 0, none⟩ = _
    rw [World.cell?_alloc_at _ _ _ _ (by simp)]
    simp [cells1]
  · show World.cell? _ ⟨w0.heap.size, 1, none⟩ = _
    rw [World.cell?_alloc_at _ _ _ _ (by simp)]
    simp [cells1]
set_option maxHeartbeats 2000000 in
set_option maxRecDepth 100000 in
theorem rc_pair (n : Nat) (w : World) (h : n < 65536) :
    Calls Tryd.prog 47 #[.int .i64 (n : Int)] w fun e w' => e = .returned (.string (str (two n))) ∧ Gr w w' := by
  have hcv := cvt2 (n / 256) n w
  have HT : Hid (str (two n) = str [by8 (n / 256), by8 n]) := by
    show _ = _
    unfold two
    congr 3
    unfold by8
    apply UInt8.toNat_inj.1
    rw [UInt8.toNat_ofNat', UInt8.toNat_ofNat']; omega
  rw [HT.out]
  clear HT
  have e1 : (n : Int) / 256 = ((n / 256 : Nat) : Int) := by omega
  have d1 : n / 256 < 256 := by omega
  have e3 : ((n / 256 : Nat) : Int) % 256 = ((n / 256 : Nat) : Int) := by omega
  generalize hx : n / 256 = x at *
  clear hx
  rw [e3] at hcv
  clear e3
  go_enter Tryd.func47, Tryd.ntmps47
  go_wp2
  go_ret
  exact ⟨rfl, Gr.alloc (Gr.refl _) _⟩
theorem get_bt (s : ByteArray) (i : Nat) (h : i < s.size) : s[i].toNat = bt s.data.toList i := by
  unfold bt
  rw [get_data, List.getD_eq_getElem?_getD, List.getElem?_eq_getElem (by simpa using h)]; rfl
set_option maxHeartbeats 2000000 in
set_option maxRecDepth 100000 in
theorem rc_ofPair (s : ByteArray) (w : World) (h : 2 ≤ s.size) :
    Calls Tryd.prog 50 #[.string s] w fun e w' => e = .returned (.int .i64 ((256 * bt s.data.toList 0 + bt s.data.toList 1 : Nat) : Int)) ∧ Gr w w' := by
  have h0 : (s[0].toNat : Int) = (bt s.data.toList 0 : Nat) := by rw [get_bt]
  have h1 : (s[1].toNat : Int) = (bt s.data.toList 1 : Nat) := by rw [get_bt]
  have b0 := bt_lt s.data.toList 0
  have b1 := bt_lt s.data.toList 1
  generalize bt s.data.toList 0 = a at *
  generalize bt s.data.toList 1 = b at *
  have ho : bits .or .i64 ((a : Int) * 256) (b : Int) = ((256 * a + b : Nat) : Int) := by
    have h := or_i64 (a := b) (b := 256 * a) (i := 8) (by omega) (by omega) (by omega)
    rw [show ((256 * a : Nat) : Int) = (a : Int) * 256 by omega] at h
    exact h
  go_enter Tryd.func50, Tryd.ntmps50
  go_wp2
  go_quiet (fail)
  go_wp2
  go_ret
  exact ⟨rfl, below_drewN (Gr.refl _) _⟩
end Go.Proofs.YtlcpfhgobfjioaaDoor
