/- Records: the law RecordPacks. -/
import Derived.Test.YtebniicnaofdoaaRcU
import Derived.Test.YtebniicnaofdoaaRcF
import Derived.Test.YtebniicnaofdoaaRcR
import Derived.Test.YtebniicnaofdoaaRcH
set_option linter.unusedVariables false
set_option linter.unusedSimpArgs false
namespace Go.Proofs.Ytebniicnaofdoaa
open Go.RowKit
open Z Rc

set_option maxHeartbeats 4000000 in
set_option maxRecDepth 100000 in
theorem l8_RecordPacks (a : Option Addr) (l : List E) (cap : Nat) (w : World) (hr : RdE w a l) (hl : l.length ≤ cap) (hc : cap ≤ maxLen) (hz : ∀ x ∈ l, x.2.size ≤ maxLen) :
    Calls Try.prog 5 #[.slice a l.length cap] w fun e w' => e = .returned (.bool true) ∧ Gr w w' := by
  have HA := Lib.hid l8_awake
  have HR := Lib.hid hr
  have HZ := Lib.hid hz
  have HC := Lib.hid hc
  by_cases h : 20 < l.length
  · unfold maxLen at hc
    clear hz hr
    go_enter Try.func5, Try.ntmps5
    go_wp2_with fail
    refine (HA.out _).mono ?_; rintro e w1 ⟨rfl, hg1⟩
    have HG1 := Lib.hid hg1; clear hg1
    go_wp2
    go_ret
    exact ⟨rfl, HG1.out⟩
  · have hl20 : l.length ≤ 20 := by omega
    have J1 := Lib.hid (fun w (hr : RdE w a l) => rc_Join a l cap w hr hl20 hz)
    have J2 := Lib.hid (fun w a' c' (hr : RdE w a' l) => r8_Join a' l c' w hr hl20 hz)
    have J3 := Lib.hid (fun w (hr : RdE w a l) => l8_own (cap := cap) w hr (by omega))
    unfold xV at J1 J2
    unfold maxLen at hc
    clear hz hr h
    generalize joinE l = J at *
    obtain ⟨j0, j1⟩ := J
    simp only [] at J1 J2
    generalize str j0 = js at *
    go_enter Try.func5, Try.ntmps5
    go_wp2
    go_loopw [19] (fun i wr => ∃ k : Nat, i = .int .i64 k ∧ k ≤ l.length ∧ Hid (Gr w wr)) (fun i _ => l.length - (intOf i).toNat)
    case atStart => exact ⟨0, rfl, by omega, Gr.refl w⟩
    case round =>
      obtain ⟨k, rfl, hk, HG⟩ := hrel
      by_cases hlt : k < l.length
      · obtain ⟨b, o, rfl, c0, c1⟩ := (HR.out.gr HG.out) k hlt
        have hxz := HZ.out l[k] (List.getElem_mem hlt)
        generalize hx : l[k] = x at *
        clear hx
        obtain ⟨t, f⟩ := x
        simp only [] at c0 c1 hxz
        have HX := Lib.hid hxz
        have hbl : b < wr.heap.size := cell_lt c0
        have HB := Lib.hid (EB.new wr t f 41)
        obtain ⟨b0, b1, -, -⟩ := id HB.out
        have HG1 := Lib.hid (HG.out.alloc (.cells #[.int .i64 t, .string f] 41))
        unfold maxLen at hxz
        by_cases hmid : 300 < f.size ∧ f.size ≤ 65535
        · obtain ⟨m1, m2⟩ := hmid
          go_wp2_with fail
          refine (HA.out _).mono ?_; rintro e w1 ⟨rfl, hg1⟩
          have HG2 := Lib.hid (Gr.trans HG1.out hg1); clear hg1
          go_wp2
          go_ret
          exact ⟨rfl, HG2.out⟩
        · have C1 := Lib.hid (fun w => rc_Pack (t, f) w HX.out)
          have C2 := Lib.hid (fun w => r8_Pack (t, f) w HX.out)
          have C3 := Lib.hid (fun w => rc_Sum f w HX.out)
          have C4 := Lib.hid (fun w => r8_Sum f w HX.out)
          unfold xV vE at C1 C2
          generalize packE (t, f) = P at *
          obtain ⟨p0, p1⟩ := P
          simp only [] at C1 C2
          generalize str p0 = ps at *
          generalize sm f.data.toList = S at *
          rcases (show f.size ≤ 300 ∨ 65535 < f.size by omega) with hm | hm
          all_goals
            clear hmid
            go_wp2_with fail
            refine (C1.out _).mono ?_; rintro e w1 ⟨rfl, hg1⟩
            have HB1 := Lib.hid (HB.out.gr hg1)
            have HG2 := Lib.hid (Gr.trans HG1.out hg1); clear hg1 b0 b1 c0 c1
            obtain ⟨b0, b1, -, -⟩ := id HB1.out
            go_wp2_with fail
            refine (C2.out _).mono ?_; rintro e w2 ⟨rfl, hg2⟩
            have HB2 := Lib.hid (HB1.out.gr hg2)
            have HG3 := Lib.hid (Gr.trans HG2.out hg2); clear hg2 b0 b1
            obtain ⟨b0, b1, -, -⟩ := id HB2.out
            go_wp2_with fail
            go_region_held3 (fun w' => w'.cell? ⟨wr.heap.size, 0, none⟩ = some (.int .i64 t) ∧ w'.cell? ⟨wr.heap.size, 1, none⟩ = some (.string f)) (go_keep) (first
              | (go_at_call 22; refine (C3.out _).mono ?_; rintro e w7 ⟨rfl, rfl⟩)
              | (go_at_call 23; refine (C4.out _).mono ?_; rintro e w7 ⟨rfl, rfl⟩))
            have HG4 := Lib.hid HG3.out.drew
            go_wp2
            go_roundw
            case rel => exact ⟨k + 1, by go_num, by omega, HG4.out⟩
            case measure => simp [intOf]; omega
      · go_wp2_with fail
        refine (J1.out _ (HR.out.gr HG.out)).mono ?_; rintro e w1 ⟨rfl, hg1⟩
        have HG1 := Lib.hid (Gr.trans HG.out hg1); clear hg1
        go_wp2_with fail
        refine (J3.out _ (HR.out.gr HG1.out)).mono ?_; rintro e w2 ⟨⟨a2, c2, rfl, r2⟩, hg2⟩
        have HG2 := Lib.hid (Gr.trans HG1.out hg2); clear hg2
        go_wp2_with fail
        refine (J2.out _ _ _ r2).mono ?_; rintro e w3 ⟨rfl, hg3⟩
        have HG3 := Lib.hid (Gr.trans HG2.out hg3); clear hg3 r2
        go_wp2_with fail
        refine (HA.out _).mono ?_; rintro e w4 ⟨rfl, hg4⟩
        have HG4 := Lib.hid (Gr.trans HG3.out hg4); clear hg4
        go_wp2
        go_ret
        exact ⟨by simp, HG4.out⟩
end Go.Proofs.Ytebniicnaofdoaa
