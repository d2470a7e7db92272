/- T4: the text of the chapter (playRecords). -/
import Derived.Test.YtlcpfhgobfjioaaDoorLxJ
import Derived.Test.YtlcpfhgobfjioaaDoorRcG
set_option linter.unusedVariables false
set_option linter.unusedSimpArgs false
namespace Go.Proofs.YtlcpfhgobfjioaaDoor
open Go.RowKit Go.Shelf
open Z Rc
theorem pr_scan : scanR [103, 111, 32, 50] = ([(0, [103, 111], 0), (1, [50], 3), (3, [], 4)], 0, 0) := by decide +kernel
theorem pr_Pack (w : World) : Calls Tryd.prog 23 #[.agg #[.int .i64 3, .string ⟨#[103, 111, 32, 50]⟩]] w fun e w' => e = .returned (.tuple #[.string ⟨#[3, 0, 4, 103, 111, 32, 50, 135, 48]⟩, .int .i64 0]) ∧ Gr w w' := by
  have H := rc_Pack ((3 : Int), ⟨#[103, 111, 32, 50]⟩) w (by unfold maxLen; decide)
  have e : xV (packE ((3 : Int), ⟨#[103, 111, 32, 50]⟩)) = .tuple #[.string ⟨#[3, 0, 4, 103, 111, 32, 50, 135, 48]⟩, .int .i64 0] := by rfl
  rw [e] at H; exact H
theorem pr_Next (w : World) : Calls Tryd.prog 24 #[.string ⟨#[3, 0, 4, 103, 111, 32, 50, 135, 48]⟩, .int .i64 0] w fun e w' => e = .returned (.tuple #[.agg #[.int .i64 3, .string ⟨#[103, 111, 32, 50]⟩], .int .i64 9, .int .i64 0]) ∧ Gr w w' := by
  have H := rc_Next ⟨#[3, 0, 4, 103, 111, 32, 50, 135, 48]⟩ 0 w (by unfold maxLen; decide)
  have hx : pkE ((3 : Int), ⟨#[103, 111, 32, 50]⟩) = [3, 0, 4, 103, 111, 32, 50, 135, 48] := by rfl
  have hn := nx_pkE (x := ((3 : Int), ⟨#[103, 111, 32, 50]⟩)) [] (by rfl)
  rw [List.append_nil, hx] at hn
  have e : nxAt (⟨#[3, 0, 4, 103, 111, 32, 50, 135, 48]⟩ : ByteArray).data.toList 0 = ((3, ⟨#[103, 111, 32, 50]⟩), 9, 0) := by
    have := nxAt_in (⟨#[3, 0, 4, 103, 111, 32, 50, 135, 48]⟩ : ByteArray).data.toList 0 (Nat.zero_le _)
    rw [List.drop_zero, hn] at this
    exact this
  rw [e] at H; exact H
set_option maxHeartbeats 2000000 in
set_option maxRecDepth 100000 in
theorem top_playRecords (w : World) : Calls Tryd.prog 21 #[] w fun e w' => e = .returned (.bool true) ∧ Gr w w' := by
  have C1 := Lib.hid (fun w => pr_Pack w)
  have C2 := Lib.hid (fun w => pr_Next w)
  have C3 := Lib.hid (fun w => lx_Scan ⟨#[103, 111, 32, 50]⟩ w)
  rw [show (⟨#[103, 111, 32, 50]⟩ : ByteArray).data.toList = [103, 111, 32, 50] from rfl, pr_scan] at C3
  simp only at C3
  go_enter Tryd.func21, Tryd.ntmps21
  go_wp2_with fail
  refine (C1.out _).mono ?_; rintro e w1 ⟨rfl, hg1⟩
  have HG1 := Lib.hid hg1
  clear hg1
  go_wp2_with fail
  refine (C2.out _).mono ?_; rintro e w2 ⟨rfl, hg2⟩
  have HG2 := Lib.hid ((Gr.trans HG1.out hg2).alloc (.cells #[.int .i64 3, .string ⟨#[103, 111, 32, 50]⟩] 54))
  have e0 : (w2.alloc (.cells #[.int .i64 3, .string ⟨#[103, 111, 32, 50]⟩] 54)).cell? ⟨w2.heap.size, 0, none⟩ = some (.int .i64 3) := by simp
  have e1 : (w2.alloc (.cells #[.int .i64 3, .string ⟨#[103, 111, 32, 50]⟩] 54)).cell? ⟨w2.heap.size, 1, none⟩ = some (.string ⟨#[103, 111, 32, 50]⟩) := by simp
  have E0 := Lib.hid e0
  clear hg2 HG1
  go_wp2_with fail
  refine (C3.out _).mono ?_; rintro e w3 ⟨v, rfl, ho, hg3⟩
  obtain ⟨a, cap, rfl, ht, -⟩ := ho.shape
  have k0 := cell_gr hg3 E0.out
  have HG3 := Lib.hid (Gr.trans HG2.out hg3)
  obtain ⟨b, o, rfl, a0, a1, a2⟩ := ht.at (j := 0) (by decide)
  obtain ⟨b', o', hp, b0, b1, b2⟩ := ht.at (j := 1) (by decide)
  cases hp
  simp only [List.getElem_cons_zero, List.getElem_cons_succ, Nat.zero_mul, Nat.add_zero, Nat.one_mul, List.length_cons, List.length_nil] at a0 a1 a2 b0 b1 b2 ⊢
  have a1' : w3.cell? ⟨b, o + 1, none⟩ = some (.string ⟨#[103, 111]⟩) := a1
  clear hg3 HG2 ho ht e0 e1 E0 a1
  go_wp2
  go_ret
  exact ⟨rfl, HG3.out⟩
end Go.Proofs.YtlcpfhgobfjioaaDoor
