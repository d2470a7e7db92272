/- Law 7: the reference's Lower. -/
import Derived.Test.YtfneikldnccepaaDoorLxO
import Derived.Laws.Runes
set_option linter.unusedVariables false
set_option linter.unusedSimpArgs false
namespace Go.Proofs.YtfneikldnccepaaDoor
open Go.RowKit Go.Shelf
open Z
theorem enc_ascii : ∀ u : Nat, u < 128 → Utf8.encode (u : Int) = ⟨#[UInt8.ofNat u]⟩ := by decide +kernel
theorem lowerB_nat (c : UInt8) : ∀ (_ : c.toNat < 128), Lib.lowerB c = UInt8.ofNat (if 65 ≤ c.toNat ∧ c.toNat ≤ 90 then c.toNat + 32 else c.toNat) := by
  have h : ∀ n, n < 128 → Lib.lowerB (UInt8.ofNat n) = UInt8.ofNat (if 65 ≤ n ∧ n ≤ 90 then n + 32 else n) := by decide +kernel
  intro hc
  have := h c.toNat hc
  rwa [UInt8.ofNat_toNat] at this
set_option maxRecDepth 100000 in
set_option maxHeartbeats 2000000 in
theorem r7_Lower (s : ByteArray) (w : World) (hs : s.size ≤ 100000) (ha : ∀ c ∈ s.data.toList, c.toNat < 128) :
    Calls Tryd.prog 55 #[.string s] w fun e w' => e = .returned (.string (str (Lib.toLowerA s.data.toList))) ∧ w' = w := by
  have hsz : s.data.toList.length = s.size := by simp
  have HA := Lib.hid ha
  clear ha
  go_enter Tryd.func55, Tryd.ntmps55
  go_wp2
  go_loop [3, 4] (fun o i => ∃ (k : Nat), k ≤ s.size ∧ o = .string (str (Lib.toLowerA (s.data.toList.take k))) ∧ i = .int .i64 k) (fun _ i => s.size - (intOf i).toNat)
  case atStart => exact ⟨0, by omega, rfl, rfl⟩
  case round =>
    obtain ⟨k, hk, rfl, rfl⟩ := hrel
    have hzo : (str (Lib.toLowerA (s.data.toList.take k))).size = k := by rw [str_size]; unfold Lib.toLowerA; simp; omega
    by_cases hlt : k < s.size
    · obtain ⟨c, HC⟩ : ∃ c : Nat, Hid (s[k].toNat = c) := ⟨_, Lib.hid rfl⟩
      have h128 : c < 128 := by
        have := HA.out s[k] (by rw [get_data s k hlt]; exact List.getElem_mem _)
        rwa [HC.out] at this
      have HX : Hid (∀ d, d = (if 65 ≤ c ∧ c ≤ 90 then c + 32 else c) → str (Lib.toLowerA (s.data.toList.take k)) ++ (⟨#[UInt8.ofNat d]⟩ : ByteArray) = str (Lib.toLowerA (s.data.toList.take (k + 1)))) := Lib.hid fun d hd => by
        have hl := lowerB_nat s[k] (by rw [HC.out]; exact h128)
        rw [HC.out, ← hd] at hl
        rw [← hl, show (⟨#[Lib.lowerB s[k]]⟩ : ByteArray) = str [Lib.lowerB s[k]] from rfl, str_app, List.take_succ_eq_append_getElem (by omega)]
        unfold Lib.toLowerA
        rw [List.map_append, get_data s k hlt]; rfl
      have hzo2 : (str (Lib.toLowerA (s.data.toList.take k))).size ≤ 100000 := by omega
      generalize str (Lib.toLowerA (s.data.toList.take k)) = ob at *
      clear hzo
      obtain ⟨ub, HU, hz1, HX1⟩ : ∃ ub : ByteArray, Hid (ub = ⟨#[UInt8.ofNat (if 65 ≤ c ∧ c ≤ 90 then c + 32 else c)]⟩) ∧ ub.size = 1 ∧ Hid (ob ++ ub = str (Lib.toLowerA (s.data.toList.take (k + 1)))) := ⟨_, Lib.hid rfl, rfl, Lib.hid (HX.out _ rfl)⟩
      have hu1 : 65 ≤ c → c ≤ 90 → Utf8.encode ((c : Int) - 65 + 97) = ub := fun h1 h2 => by
        rw [HU.out, if_pos ⟨h1, h2⟩, show (c : Int) - 65 + 97 = ((c + 32 : Nat) : Int) by omega]; exact enc_ascii _ (by omega)
      have hu2 : ¬ (65 ≤ c ∧ c ≤ 90) → Utf8.encode (c : Int) = ub := fun h => by
        rw [HU.out, if_neg h]; exact enc_ascii _ h128
      obtain ⟨m, HM⟩ : ∃ m : Int, Hid ((c : Int) = m) := ⟨_, Lib.hid rfl⟩
      have hc : (s[k].toNat : Int) = m := by rw [HC.out]; exact HM.out
      have hm0 : 0 ≤ m := by rw [← HM.out]; omega
      have hm1 : m < 128 := by rw [← HM.out]; omega
      rw [HM.out] at hu1 hu2
      have hu1 : 65 ≤ m → m ≤ 90 → Utf8.encode (m - 65 + 97) = ub := fun h1 h2 => hu1 (by have := HM.out; omega) (by have := HM.out; omega)
      have hu2 : m < 65 ∨ 90 < m → Utf8.encode m = ub := fun h => hu2 (by have := HM.out; omega)
      clear HC HM h128 HX HU
      by_cases h1 : 65 ≤ m
      · by_cases h2 : m ≤ 90
        · have hu := hu1 h1 h2
          clear hu1 hu2
          go_wp2
          go_round
          case rel => exact ⟨k + 1, by omega, by rw [HX1.out], by go_num⟩
          case measure => simp [intOf]; omega
        · have h3 : 90 < m := by omega
          have hu := hu2 (.inr h3)
          clear hu1 hu2 h2
          go_wp2
          go_round
          case rel => exact ⟨k + 1, by omega, by rw [HX1.out], by go_num⟩
          case measure => simp [intOf]; omega
      · have h3 : m < 65 := by omega
        have hu := hu2 (.inl h3)
        clear hu1 hu2 h1
        go_wp2
        go_round
        case rel => exact ⟨k + 1, by omega, by rw [HX1.out], by go_num⟩
        case measure => simp [intOf]; omega
    · have HE : Hid (str (Lib.toLowerA (s.data.toList.take k)) = str (Lib.toLowerA s.data.toList)) := Lib.hid (by rw [List.take_of_length_le (by omega)])
      generalize str (Lib.toLowerA (s.data.toList.take k)) = ob at *
      go_wp2
      go_ret
      exact ⟨ret_str HE.out, rfl⟩
end Go.Proofs.YtfneikldnccepaaDoor
