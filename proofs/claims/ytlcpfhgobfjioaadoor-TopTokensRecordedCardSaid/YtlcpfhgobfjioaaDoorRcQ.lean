/- Records: All, both sides. -/
import Derived.Test.YtlcpfhgobfjioaaDoorRcP
import Derived.Test.YtlcpfhgobfjioaaDoorRcG
set_option linter.unusedVariables false
set_option linter.unusedSimpArgs false
namespace Go.Proofs.YtlcpfhgobfjioaaDoor
open Go.RowKit
open Z Rc

set_option maxHeartbeats 4000000 in
set_option maxRecDepth 100000 in
theorem rc_All (s : ByteArray) (w : World) (hs : s.size ≤ 100000) :
    Calls Tryd.prog 28 #[.string s] w fun e w' => (∃ a c, e = .returned (.tuple #[.slice a (al s.data.toList).1.length c, .int .i64 ((al s.data.toList).2.1 : Nat), .int .i64 (al s.data.toList).2.2]) ∧ RdE w' a (al s.data.toList).1 ∧ (al s.data.toList).1.length ≤ c ∧ c ≤ maxLen) ∧ Gr w w' := by
  have hsz : s.data.toList.length = s.size := by simp
  obtain ⟨i0, hi, hz0, hz1, hz2⟩ := info_parts Tryd.infoEE
  have HN := Lib.hid (fun (p : Nat) w => rc_Next s p w (by unfold maxLen; omega))
  obtain ⟨R, HR⟩ : ∃ R, Hid (al s.data.toList = R) := ⟨_, Lib.hid rfl⟩
  rw [HR.out]
  go_enter Tryd.func28, Tryd.ntmps28
  go_wp2
  go_loopw [5, 6] (fun v at_ wr => ∃ (L : List E) (p : Nat), at_ = .int .i64 p ∧ p ≤ s.size ∧ 5 * L.length ≤ p ∧ Hid (OwnE w.heap.size wr v L) ∧ Hid (Gr w wr) ∧ Hid (R = (L ++ (al (s.data.toList.drop p)).1, p + (al (s.data.toList.drop p)).2.1, (al (s.data.toList.drop p)).2.2))) (fun _ at_ _ => s.size - (intOf at_).toNat)
  case atStart => exact ⟨[], 0, rfl, by omega, by simp, OwnE.nil _ _, Gr.refl w, by show R = _; rw [List.drop_zero, HR.out]; simp⟩
  case round =>
    obtain ⟨L, p, rfl, hp, hL, HO, HG, HRL⟩ := hrel
    clear HR
    by_cases hlt : p < s.size
    · have hne : s.data.toList.drop p ≠ [] := by
        intro e
        have := congrArg List.length e
        rw [List.length_drop] at this
        simp at this; omega
      have C := Lib.hid (HN.out p)
      rw [nxAt_in _ _ (by omega)] at C
      unfold nV at C
      by_cases he : (nx (s.data.toList.drop p)).2.2 = 0
      · obtain ⟨o1, o2⟩ := nx_ok he
        rw [List.length_drop, hsz] at o2
        rw [if_pos he] at C
        rw [al_cons hne he] at HRL
        have hdd : (s.data.toList.drop p).drop (nx (s.data.toList.drop p)).2.1 = s.data.toList.drop (p + (nx (s.data.toList.drop p)).2.1) := by rw [List.drop_drop]
        rw [hdd] at HRL
        generalize (nx (s.data.toList.drop p)).2.1 = n at *
        generalize (nx (s.data.toList.drop p)).1 = x at *
        have HRL' : Hid (R = ((L ++ [x]) ++ (al (s.data.toList.drop (p + n))).1, (p + n) + (al (s.data.toList.drop (p + n))).2.1, (al (s.data.toList.drop (p + n))).2.2)) := by
          show R = _
          rw [HRL.out]; simp [Nat.add_assoc]
        obtain ⟨k, d⟩ := x
        simp only [] at C
        have hnI : (p : Int) + (n : Int) = ((p + n : Nat) : Int) := by omega
        rw [hnI] at C
        obtain ⟨q, hq⟩ : ∃ q, p + n = q := ⟨_, rfl⟩
        rw [hq] at C HRL'
        clear HRL hne he hdd HN hnI
        go_wp2_with fail
        refine (C.out _).mono ?_; rintro e w1 ⟨rfl, hg1⟩
        have HO1 := Lib.hid ((HO.out.gr hg1).gr ((Gr.refl w1).alloc (.cells #[.int .i64 k, .string d] 54)))
        have HG1 := Lib.hid ((Gr.trans HG.out hg1).alloc (.cells #[.int .i64 k, .string d] 54))
        clear hg1 HO HG
        go_wp2_with (at_builtin; refine push_e hi hz0 hz1 hz2 rfl _ _ rfl _ L rfl HO1.out HG1.out k d (w1.heap.size + 1) (by simp) rfl (by omega) ?_; rintro v5 w5 HO5 hg5; have HG5 := Lib.hid hg5; clear hg5)
        go_roundw
        case rel => exact ⟨L ++ [(k, d)], q, by go_num, by omega, by rw [List.length_append]; simp; omega, HO5, HG5.out, HRL'⟩
        case measure => simp [intOf]; omega
      · rw [if_neg he] at C
        rw [al_err hne he] at HRL
        have hR : R = (L, p, (nx (s.data.toList.drop p)).2.2) := by rw [HRL.out]; simp
        generalize (nx (s.data.toList.drop p)).2.2 = E at *
        subst hR
        have hEb : (E != 0) = true := by simpa using he
        simp only [] at C
        clear HRL hne he HN
        go_wp2_with fail
        refine (C.out _).mono ?_; rintro e w1 ⟨rfl, hg1⟩
        have ho := (HO.out.gr hg1).gr ((Gr.refl w1).alloc (.cells #[.int .i64 0, .string .empty] 54))
        have HG1 := Lib.hid ((Gr.trans HG.out hg1).alloc (.cells #[.int .i64 0, .string .empty] 54))
        obtain ⟨a', c', hv, hr, hc1, hc2⟩ := ho.shape
        subst hv
        have HRD := Lib.hid hr
        have HCC := Lib.hid hc1
        have HCM := Lib.hid hc2
        clear hg1 HO HG ho hr hc1 hc2
        go_wp2
        go_ret3
        exact ⟨⟨a', c', rfl, HRD.out, HCC.out, HCM.out⟩, HG1.out⟩
    · have hd : s.data.toList.drop p = [] := List.drop_of_length_le (by omega)
      rw [hd, al_nil] at HRL
      have hR : R = (L, p, 0) := by rw [HRL.out]; simp
      subst hR
      obtain ⟨a', c', hv, hr, hc1, hc2⟩ := HO.out.shape
      subst hv
      have HRD := Lib.hid hr
      have HCC := Lib.hid hc1
      have HCM := Lib.hid hc2
      clear HO hr hc1 hc2 HRL
      go_wp2
      go_ret3
      exact ⟨⟨a', c', rfl, HRD.out, HCC.out, HCM.out⟩, HG.out⟩
end Go.Proofs.YtlcpfhgobfjioaaDoor
