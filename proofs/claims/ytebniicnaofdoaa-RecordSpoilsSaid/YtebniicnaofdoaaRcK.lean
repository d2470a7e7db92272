/- Records: the laws RecordSpoils and RecordNumbers. -/
import Derived.Test.YtebniicnaofdoaaRcJ
import Derived.Test.YtebniicnaofdoaaRcH
set_option linter.unusedVariables false
set_option linter.unusedSimpArgs false
namespace Go.Proofs.Ytebniicnaofdoaa
open Go.RowKit
open Z Rc

/-- where one byte of a record is another one, the record is not read -/
theorem nx_other {x : E} {i : Nat} {c : UInt8} (hi : i < (pkE x).length) (hc : c ≠ (pkE x)[i]) : (nx ((pkE x).set i c)).2.2 = 0 → (nx ((pkE x).set i c)).1 ≠ x := by
  intro h0 h1
  obtain ⟨b1, b2, b3⟩ := nx_back h0
  rw [h1] at b1 b3
  have hl : ((pkE x).set i c).length = 5 + x.2.size := by rw [List.length_set, pkE_len]
  rw [b3, List.take_of_length_le (by omega)] at b1
  have : ((pkE x).set i c)[i]'(by rw [List.length_set]; exact hi) = (pkE x)[i] := by simp only [b1]
  rw [List.getElem_set_self] at this
  exact hc this
theorem nxAt_zero (l : List UInt8) : nxAt l 0 = if (nx l).2.2 = 0 then ((nx l).1, ((nx l).2.1 : Int), 0) else ((0, .empty), 0, (nx l).2.2) := by
  have := nxAt_in l 0 (Nat.zero_le _)
  simpa using this
theorem set_str (b : ByteArray) (i : Nat) (c : UInt8) (hi : i < b.size) : b.extract 0 i ++ str [c] ++ b.extract (i + 1) b.size = str (b.data.toList.set i c) := by
  have hsz : b.data.toList.length = b.size := by simp
  apply ba_ext
  rw [ByteArray.data_append, ByteArray.data_append, Array.toList_append, Array.toList_append, Lib.extract_data, ext_drop', data_str, data_str, List.drop_zero, Nat.sub_zero, List.set_eq_take_append_cons_drop, if_pos (by omega)]
  simp
set_option maxHeartbeats 4000000 in
set_option maxRecDepth 100000 in
theorem l8_RecordSpoils (x : E) (a b : Int) (w : World) (hx : (-9223372036854775808 ≤ x.1 ∧ x.1 ≤ 9223372036854775807) ∧ x.2.size ≤ maxLen) (ha : 0 ≤ a ∧ a ≤ 65535) (hb : 0 ≤ b ∧ b ≤ 255) :
    Calls Try.prog 9 #[vE x, .int .u16 a, .int .u8 b] w fun e w' => e = .returned (.bool true) ∧ Gr w w' := by
  have HA := Lib.hid l8_awake
  have hz : ∀ y ∈ [x], y.2.size ≤ maxLen := by intro y hy; simp at hy; subst hy; exact hx.2
  have hr1 : RdE ((w.alloc (.cells #[.int .i64 x.1, .string x.2] 41)).alloc (.cells #[.int .i64 x.1, .string x.2] 41)) (some ⟨w.heap.size + 1, 0, none⟩) [x] := by
    have h := rdE_one (w.alloc (.cells #[.int .i64 x.1, .string x.2] 41)) x 41
    rwa [World.size_alloc] at h
  have C1 := Lib.hid (l8_small (some ⟨w.heap.size + 1, 0, none⟩) [x] 1 _ hr1 (by simp) (by unfold maxLen; omega) hz)
  clear hr1
  have C2 := Lib.hid (fun w => rc_Pack x w hx.2)
  have HSB : smallB [x] = !badE x := by simp [smallB]
  rw [HSB] at C1
  have hB : badE x = false → (0 ≤ x.1 ∧ x.1 ≤ 255) ∧ x.2.size ≤ 300 := by unfold badE; simp only [Bool.or_eq_false_iff, decide_eq_false_iff_not]; omega
  unfold packE xV at C2
  have hk0 : (w.alloc (.cells #[.int .i64 x.1, .string x.2] 41)).cell? ⟨w.heap.size, 0, none⟩ = some (.int .i64 x.1) := by simp
  have hk1 : (w.alloc (.cells #[.int .i64 x.1, .string x.2] 41)).cell? ⟨w.heap.size, 1, none⟩ = some (.string x.2) := by simp
  have HG0 : Hid (Gr w (w.alloc (.cells #[.int .i64 x.1, .string x.2] 41))) := (Gr.refl w).alloc _
  have hsx := hx.2
  unfold maxLen at hsx
  clear hx HSB hz
  unfold vE at C2 ⊢
  cases hbad : badE x
  · rw [hbad] at C1
    obtain ⟨⟨e1, e2⟩, e3⟩ := hB hbad
    clear hB
    go_enter Try.func9, Try.ntmps9
    go_wp2_with fail
    refine C1.out.mono ?_; rintro e w1 ⟨rfl, hg1⟩
    have HG1 := Lib.hid (Gr.trans (HG0.out.alloc _) hg1); have hg1' := hg1; clear hg1
    have hck : chkE x = 0 := chkE_ok.2 ⟨⟨e1, e2⟩, by omega⟩
    rw [hck, if_neg (by decide)] at C2
    have hpz : (str (pkE x)).size = 5 + x.2.size := by rw [str_sz, pkE_len]
    have hpl : (str (pkE x)).data.toList = pkE x := data_str _
    generalize str (pkE x) = P at *
    have b0 : w1.cell? ⟨w.heap.size, 0, none⟩ = some (.int .i64 x.1) := gr_cell (Gr.trans ((Gr.refl _).alloc _) hg1') hk0
    have b1 : w1.cell? ⟨w.heap.size, 1, none⟩ = some (.string x.2) := gr_cell (Gr.trans ((Gr.refl _).alloc _) hg1') hk1
    go_wp2_with fail
    refine (C2.out _).mono ?_; rintro e w2 ⟨rfl, hg2⟩
    have b0' := gr_cell hg2 b0
    have b1' := gr_cell hg2 b1
    have HG2 := Lib.hid (Gr.trans HG1.out hg2); clear hg2 b0 b1 hk0 hk1 HG0 HG1 C1 C2
    obtain ⟨i, hi⟩ : ∃ i : Nat, a.tmod (P.size : Int) = (i : Int) := ⟨(a.tmod (P.size : Int)).toNat, by rw [Int.toNat_of_nonneg]; exact Int.tmod_nonneg _ ha.1⟩
    have hil : i < P.size := by
      have := Int.tmod_lt_of_pos a (show (0 : Int) < (P.size : Int) by omega)
      omega
    obtain ⟨pi, hpi⟩ : ∃ pi : Nat, P[i].toNat = pi := ⟨_, rfl⟩
    have hpb : pi < 256 := by rw [← hpi]; exact UInt8.toNat_lt _
    have hpiI : (P[i].toNat : Int) = (pi : Int) := by rw [hpi]
    obtain ⟨c, hc⟩ : ∃ c : Nat, IntKind.u8.wrap ((pi : Int) + b) = (c : Int) ∧ c < 256 := ⟨(((pi : Int) + b) % 256).toNat, by show ((pi : Int) + b) % 2 ^ 8 = _; omega, by omega⟩
    obtain ⟨hc, hcb⟩ := hc
    have hpe : (P.toList == []) = false := by
      rw [beq_eq_false_iff_ne, ByteArray.toList_eq]; intro e
      have h0 := congrArg List.length e
      have hsz : P.data.toList.length = P.size := by simp
      rw [hsz, hpz] at h0
      simp at h0
    have hps : P.size ≤ 305 := by omega
    have hp0 : 0 < P.size := by omega
    have hi2 : a % (P.size : Int) = (i : Int) := by rw [← hi, Int.tmod_eq_emod_of_nonneg ha.1]
    have HPZ := Lib.hid hpz
    clear hpz
    by_cases hA : c = pi
    · subst hA
      go_wp2_with fail
      refine (HA.out _).mono ?_; rintro e w3 ⟨rfl, hg3⟩
      have HG3 := Lib.hid (Gr.trans HG2.out hg3); clear hg3
      go_wp2
      go_ret
      exact ⟨rfl, HG3.out⟩
    · have HCV := Lib.hid (fun (b : Nat) (w1 : World) => cvtC (b := b) (w1 := w1) hcb)
      have q1 : (0 : Int) ≤ (i : Int) := by omega
      have q2 : (i : Int) ≤ (P.size : Int) := by omega
      have q3 : (i : Int) + 1 ≤ (P.size : Int) := by omega
      have q4 : (0 : Int) ≤ (i : Int) + 1 := by omega
      have z1 : (str [by8 c]).size = 1 := by rw [str_sz]; simp
      have z2 : (P.extract 0 i).size ≤ 305 := by rw [ByteArray.size_extract]; omega
      have z3 : (P.extract (i + 1) P.size).size ≤ 305 := by rw [ByteArray.size_extract]; omega
      have haddA : ∀ w, (Op.stringOp .add (P.extract 0 i) (str [by8 c])).run Try.prog w = .ok (.string (P.extract 0 i ++ str [by8 c])) w := fun w => run_string_add_sum _ _ _ (by omega)
      have haddB : ∀ w, (Op.stringOp .add (P.extract 0 i ++ str [by8 c]) (P.extract (i + 1) P.size)).run Try.prog w = .ok (.string (P.extract 0 i ++ str [by8 c] ++ P.extract (i + 1) P.size)) w := fun w => run_string_add_sum _ _ _ (by rw [ByteArray.size_append]; omega)
      have HN : ∃ (Y : E) (NX F : Int), (F ≠ 0 ∨ (F = 0 ∧ Y ≠ x)) ∧ ∀ w, Calls Try.prog 27 #[.string (P.extract 0 i ++ str [by8 c] ++ P.extract (i + 1) P.size), .int .i64 0] w fun e w' => e = .returned (.tuple #[.agg #[.int .i64 Y.1, .string Y.2], .int .i64 NX, .int .i64 F]) ∧ Gr w w' := by
        have hsb := set_str P i (by8 c) hil
        rw [hsb, hpl]
        have hil' : i < (pkE x).length := by rw [pkE_len, ← HPZ.out]; exact hil
        have hne : by8 c ≠ (pkE x)[i]'hil' := by
          intro e
          have e2 : (pkE x)[i]'hil' = P[i] := by rw [get_data]; simp only [hpl]
          rw [e2] at e
          have := congrArg UInt8.toNat e
          rw [by8_toNat hcb, hpi] at this
          exact hA this
        have ho := nx_other hil' hne
        have hz : (str ((pkE x).set i (by8 c))).size ≤ maxLen := by rw [str_sz, List.length_set, pkE_len]; unfold maxLen; omega
        refine ⟨(nxAt ((pkE x).set i (by8 c)) 0).1, (nxAt ((pkE x).set i (by8 c)) 0).2.1, (nxAt ((pkE x).set i (by8 c)) 0).2.2, ?_, fun w => ?_⟩
        · rw [nxAt_zero]
          by_cases h0 : (nx ((pkE x).set i (by8 c))).2.2 = 0
          · rw [if_pos h0]; exact .inr ⟨rfl, ho h0⟩
          · rw [if_neg h0]; exact .inl h0
        · have H := rc_Next (str ((pkE x).set i (by8 c))) 0 w hz
          rw [data_str] at H
          exact H
      obtain ⟨⟨Y1, Y2⟩, NX, F, hF, HN⟩ := HN
      simp only [] at HN
      have HN := Lib.hid HN
      clear hpl
      clear z1 z2 z3
      have hcne : ((c : Int) == (pi : Int)) = false := by rw [beq_eq_false_iff_ne]; omega
      obtain ⟨t, ht⟩ : ∃ t : Nat, IntKind.u8.wrap ((c : Int) + (pi : Int)) = (t : Int) := ⟨(c + pi) % 256, by show ((c : Int) + (pi : Int)) % 2 ^ 8 = _; omega⟩
      by_cases h255 : t = 255
      · have h255b : ((t : Int) == 255) = true := by rw [h255]; rfl
        clear h255
        by_cases h0 : c = 0
        · have h0b : ((c : Int) == 0) = true := by rw [h0]; rfl
          clear h0
          go_wp2_with fail
          refine (HA.out _).mono ?_; rintro e w3 ⟨rfl, hg3⟩
          have HG3 := Lib.hid (Gr.trans HG2.out hg3); clear hg3
          go_wp2
          go_ret
          exact ⟨rfl, HG3.out⟩
        · have h0b : ((c : Int) == 0) = false := by rw [beq_eq_false_iff_ne]; omega
          by_cases hp : pi = 0
          · have hpb0 : ((pi : Int) == 0) = true := by rw [hp]; rfl
            clear hp
            go_wp2_with fail
            refine (HA.out _).mono ?_; rintro e w3 ⟨rfl, hg3⟩
            have HG3 := Lib.hid (Gr.trans HG2.out hg3); clear hg3
            go_wp2
            go_ret
            exact ⟨rfl, HG3.out⟩
          · have hpb0 : ((pi : Int) == 0) = false := by rw [beq_eq_false_iff_ne]; omega
            go_wp2_with fail
            have hcv := HCV.out w2.heap.size (w2.alloc (.cells #[.int .u8 (c : Int)] 5)).drew (by simp)
            go_region
            clear haddA haddB hcv
            have f0 : (w2.alloc (.cells #[.int .u8 (c : Int)] 5)).drew.cell? ⟨w.heap.size, 0, none⟩ = some (.int .i64 x.1) := gr_cell ((Gr.refl w2).alloc _).drew b0'
            have f1 : (w2.alloc (.cells #[.int .u8 (c : Int)] 5)).drew.cell? ⟨w.heap.size, 1, none⟩ = some (.string x.2) := gr_cell ((Gr.refl w2).alloc _).drew b1'
            have HG3 : Hid (Gr w (w2.alloc (.cells #[.int .u8 (c : Int)] 5)).drew) := (HG2.out.alloc _).drew
            generalize (w2.alloc (.cells #[.int .u8 (c : Int)] 5)).drew = w3 at *
            generalize P.extract 0 i ++ str [by8 c] ++ P.extract (i + 1) P.size = BAD at *
            go_wp2_with fail
            refine (HN.out _).mono ?_; rintro e w4 ⟨rfl, hg4⟩
            have f0' := gr_cell hg4 f0
            have f1' := gr_cell hg4 f1
            have HG4 := Lib.hid (Gr.trans HG3.out hg4); clear hg4 f0 f1
            rcases hF with hF | ⟨rfl, hF⟩
            · have hFb : (F != 0) = true := by simpa using hF
              go_wp2_with fail
              refine (HA.out _).mono ?_; rintro e w5 ⟨rfl, hg5⟩
              have HG5 := Lib.hid (Gr.trans (HG4.out.alloc (.cells #[.int .i64 Y1, .string Y2] 41)) hg5); clear hg5
              go_wp2
              go_ret
              exact ⟨rfl, HG5.out⟩
            · have f0'' : (w4.alloc (.cells #[.int .i64 Y1, .string Y2] 41)).cell? ⟨w.heap.size, 0, none⟩ = some (.int .i64 x.1) := gr_cell ((Gr.refl w4).alloc _) f0'
              have f1'' : (w4.alloc (.cells #[.int .i64 Y1, .string Y2] 41)).cell? ⟨w.heap.size, 1, none⟩ = some (.string x.2) := gr_cell ((Gr.refl w4).alloc _) f1'
              by_cases hk : Y1 = x.1
              · have hd : (Y2.toList == x.2.toList) = false := by
                  rw [beq_eq_false_iff_ne, ByteArray.toList_eq, ByteArray.toList_eq]; intro e
                  exact hF (Prod.ext hk (ba_ext e))
                have hd2 : ¬ Y2 = x.2 := fun e => hF (Prod.ext hk e)
                subst hk
                clear hF
                go_wp2_with fail
                refine (HA.out _).mono ?_; rintro e w5 ⟨rfl, hg5⟩
                have HG5 := Lib.hid (Gr.trans (HG4.out.alloc _) hg5); clear hg5
                go_wp2
                go_ret
                exact ⟨rfl, HG5.out⟩
              · have hk1 : (Y1 == x.1) = false := by rw [beq_eq_false_iff_ne]; exact hk
                clear hF
                go_wp2_with fail
                refine (HA.out _).mono ?_; rintro e w5 ⟨rfl, hg5⟩
                have HG5 := Lib.hid (Gr.trans (HG4.out.alloc _) hg5); clear hg5
                go_wp2
                go_ret
                exact ⟨rfl, HG5.out⟩
      · have h255b : ((t : Int) == 255) = false := by rw [beq_eq_false_iff_ne]; omega
        go_wp2_with fail
        have hcv := HCV.out w2.heap.size (w2.alloc (.cells #[.int .u8 (c : Int)] 5)).drew (by simp)
        go_region
        clear haddA haddB hcv
        have f0 : (w2.alloc (.cells #[.int .u8 (c : Int)] 5)).drew.cell? ⟨w.heap.size, 0, none⟩ = some (.int .i64 x.1) := gr_cell ((Gr.refl w2).alloc _).drew b0'
        have f1 : (w2.alloc (.cells #[.int .u8 (c : Int)] 5)).drew.cell? ⟨w.heap.size, 1, none⟩ = some (.string x.2) := gr_cell ((Gr.refl w2).alloc _).drew b1'
        have HG3 : Hid (Gr w (w2.alloc (.cells #[.int .u8 (c : Int)] 5)).drew) := (HG2.out.alloc _).drew
        generalize (w2.alloc (.cells #[.int .u8 (c : Int)] 5)).drew = w3 at *
        generalize P.extract 0 i ++ str [by8 c] ++ P.extract (i + 1) P.size = BAD at *
        go_wp2_with fail
        refine (HN.out _).mono ?_; rintro e w4 ⟨rfl, hg4⟩
        have f0' := gr_cell hg4 f0
        have f1' := gr_cell hg4 f1
        have HG4 := Lib.hid (Gr.trans HG3.out hg4); clear hg4 f0 f1
        rcases hF with hF | ⟨rfl, hF⟩
        · have hFb : (F != 0) = true := by simpa using hF
          go_wp2_with fail
          refine (HA.out _).mono ?_; rintro e w5 ⟨rfl, hg5⟩
          have HG5 := Lib.hid (Gr.trans (HG4.out.alloc (.cells #[.int .i64 Y1, .string Y2] 41)) hg5); clear hg5
          go_wp2
          go_ret
          exact ⟨rfl, HG5.out⟩
        · have f0'' : (w4.alloc (.cells #[.int .i64 Y1, .string Y2] 41)).cell? ⟨w.heap.size, 0, none⟩ = some (.int .i64 x.1) := gr_cell ((Gr.refl w4).alloc _) f0'
          have f1'' : (w4.alloc (.cells #[.int .i64 Y1, .string Y2] 41)).cell? ⟨w.heap.size, 1, none⟩ = some (.string x.2) := gr_cell ((Gr.refl w4).alloc _) f1'
          by_cases hk : Y1 = x.1
          · have hd : (Y2.toList == x.2.toList) = false := by
              rw [beq_eq_false_iff_ne, ByteArray.toList_eq, ByteArray.toList_eq]; intro e
              exact hF (Prod.ext hk (ba_ext e))
            have hd2 : ¬ Y2 = x.2 := fun e => hF (Prod.ext hk e)
            subst hk
            clear hF
            go_wp2_with fail
            refine (HA.out _).mono ?_; rintro e w5 ⟨rfl, hg5⟩
            have HG5 := Lib.hid (Gr.trans (HG4.out.alloc _) hg5); clear hg5
            go_wp2
            go_ret
            exact ⟨rfl, HG5.out⟩
          · have hk1 : (Y1 == x.1) = false := by rw [beq_eq_false_iff_ne]; exact hk
            clear hF
            go_wp2_with fail
            refine (HA.out _).mono ?_; rintro e w5 ⟨rfl, hg5⟩
            have HG5 := Lib.hid (Gr.trans (HG4.out.alloc _) hg5); clear hg5
            go_wp2
            go_ret
            exact ⟨rfl, HG5.out⟩
  · rw [hbad] at C1
    clear hB
    go_enter Try.func9, Try.ntmps9
    go_wp2_with fail
    refine C1.out.mono ?_; rintro e w1 ⟨rfl, hg1⟩
    have HG1 := Lib.hid (Gr.trans (HG0.out.alloc _) hg1); clear hg1
    go_wp2_with fail
    refine (HA.out _).mono ?_; rintro e w2 ⟨rfl, hg2⟩
    have HG2 := Lib.hid (Gr.trans HG1.out hg2); clear hg2
    go_wp2
    go_ret
    exact ⟨rfl, HG2.out⟩
end Go.Proofs.Ytebniicnaofdoaa
