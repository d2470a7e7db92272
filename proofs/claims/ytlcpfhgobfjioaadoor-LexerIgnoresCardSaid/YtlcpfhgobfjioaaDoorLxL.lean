/- Law 7: equal lists of tokens; the examples of the chapter. -/
import Derived.Test.YtlcpfhgobfjioaaDoorLxK
set_option linter.unusedVariables false
set_option linter.unusedSimpArgs false
namespace Go.Proofs.YtlcpfhgobfjioaaDoor.Z
open Go
theorem aw_scan1 : scanR [67, 104, 97, 110, 32, 53, 46, 49, 32, 64, 51, 55, 46, 53] = ([(0, [99, 104, 97, 110], 0), (1, [53, 46, 49], 5), (2, [64], 9), (1, [51, 55, 46, 53], 10), (3, [], 14)], 0, 0) := by decide +kernel
theorem aw_scan2 : scanR [49, 46, 120, 32, 34, 97, 32, 98, 34] = ([(1, [49], 0), (2, [46], 1), (0, [120], 2), (0, [34, 97, 32, 98, 34], 4), (3, [], 9)], 0, 0) := by decide +kernel
theorem aw_scan3 : scanR [51, 32, 35, 32, 52] = ([], 2, 4) := by decide +kernel
end Go.Proofs.YtlcpfhgobfjioaaDoor.Z
namespace Go.Proofs.YtlcpfhgobfjioaaDoor
open Go.RowKit Go.Shelf
open Z
set_option maxHeartbeats 1000000 in
set_option maxRecDepth 100000 in
theorem sl_SameTk {a b : Option Addr} {L : List Tk} {ca cb : Nat} {w : World} (hL : TksAt w a L) (hM : TksAt w b L) (hl : L.length ≤ 1000000000) :
    Calls Tryd.prog 12 #[.slice a L.length ca, .slice b L.length cb] w fun e w' => e = .returned (.bool true) ∧ Gr w w' := by
  have HL := Lib.hid hL
  have HM := Lib.hid hM
  clear hL hM
  obtain ⟨n, hn⟩ : ∃ n, L.length = n := ⟨_, rfl⟩
  have HN := Lib.hid hn
  rw [hn] at hl ⊢
  clear hn
  go_enter Tryd.func12, Tryd.ntmps12
  go_wp2
  go_loopw [13] (fun i wr => ∃ j : Nat, i = .int .i64 j ∧ j ≤ n ∧ Hid (Gr w wr)) (fun i _ => n - (intOf i).toNat)
  case atStart => exact ⟨0, rfl, Nat.zero_le _, Lib.hid (Gr.refl w)⟩
  case round =>
    obtain ⟨j, rfl, hj, HG⟩ := hrel
    by_cases hlt : j < n
    · have j1 : j < L.length := by rw [HN.out]; exact hlt
      obtain ⟨p, o, rfl, c0, c1, c2⟩ := (HL.out.gr HG.out).at j1
      obtain ⟨q, r, rfl, d0, d1, d2⟩ := (HM.out.gr HG.out).at j1
      generalize L[j] = x at *
      obtain ⟨kd, tx, ta⟩ := x
      simp only at c0 c1 c2 d0 d1 d2
      go_wp2_with fail
      go_quiet (fail)
      rename_i nq
      have HG3 := Lib.hid (below_drewN HG.out nq)
      go_wp2
      go_roundw
      case rel => exact ⟨j + 1, by go_num, by omega, HG3⟩
      case measure => simp [intOf]; omega
    · go_wp2
      go_ret
      exact ⟨rfl, HG.out⟩
end Go.Proofs.YtlcpfhgobfjioaaDoor
