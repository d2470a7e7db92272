/- Law 11: ColourReturns. -/
import Derived.Test.YtipfofdjngnkpaaCoY
set_option linter.unusedVariables false
set_option linter.unusedSimpArgs false
namespace Go.Proofs.Ytipfofdjngnkpaa.Z
open Go
theorem mixA_range (l : List Int) {c : C3} (hc : isC c = true) (a : Int) : 0 ≤ mixA l c a ∧ mixA l c a ≤ 65535 := by
  obtain ⟨x, y, z⟩ := c
  have h := isC_iff.1 hc
  simp only at h
  have hm := max3_facts (x, y, z)
  simp only at hm
  have hw : 0 ≤ whA l (x, y, z) ∧ whA l (x, y, z) ≤ x ∧ whA l (x, y, z) ≤ y ∧ whA l (x, y, z) ≤ z := by unfold whA; split <;> omega
  unfold mixA mixAdd mixSub
  simp only
  repeat' split
  all_goals omega
theorem mixL_all (l : List Int) {c : C3} (hc : isC c = true) : (mixL l c).all isL = true := by
  rw [List.all_eq_true]
  intro v hv
  obtain ⟨a, -, rfl⟩ := List.mem_map.1 hv
  exact isL_iff.2 (mixA_range l hc a)
theorem atA_mix (l : List Int) (c : C3) (k : Int) : atA l (mixL l c) k = if l.contains k = true then mixA l c k else 0 := by
  by_cases h : k ∈ l
  · rw [if_pos (by rwa [List.contains_iff_mem])]; exact atA_map h
  · rw [if_neg (by rw [List.contains_iff_mem]; exact h)]; exact atA_not h
theorem light_mix {l : List Int} {c : C3} (hc : isC c = true) (hp : (addi l || subt l) = true) : lightR l (mixL l c) = c := by
  obtain ⟨x, y, z⟩ := c
  have h := isC_iff.1 hc
  simp only at h
  unfold lightR
  simp only [atA_mix]
  by_cases ha : addi l = true
  · rw [if_pos ha]
    have h3 := ha
    unfold addi has3 at h3
    simp only [Bool.and_eq_true] at h3
    rw [if_pos h3.1, if_pos h3.2.1, if_pos h3.2.2]
    unfold mixA
    rw [if_pos ha, if_pos ha, if_pos ha, if_pos ha]
    unfold mixAdd whA
    simp only
    cases l.contains 6
    · simp; omega
    · simp; omega
  · rw [if_neg ha]
    have h3 : subt l = true := by
      cases hs : addi l
      · rw [hs] at hp; simpa using hp
      · exact absurd hs ha
    unfold subt has3 at h3
    simp only [Bool.and_eq_true] at h3
    rw [if_pos h3.1, if_pos h3.2.1, if_pos h3.2.2]
    unfold mixA
    rw [if_neg ha, if_neg ha, if_neg ha]
    unfold mixSub
    simp
    omega
theorem lightE_mix {l : List Int} {c : C3} (hc : isC c = true) (hp : palR l = 0) : lightE l (mixL l c) = (c, 0) := by
  unfold lightE
  rw [if_neg (by simp [hp]), if_neg (by simp [mixL]), if_pos (mixL_all l hc), light_mix hc (palR_zero.1 hp).2.2.2]
/-- whether a level of red, green or blue is used -/
def useB (l : List Int) (c : C3) (a : Int) : Bool := decide (a ≤ 5) && decide (0 < mixA l c a)
def usedN (l : List Int) (c : C3) (k : Nat) : Nat := ((l.take k).filter (useB l c)).length
theorem usedN_step {l : List Int} {c : C3} {k : Nat} (hk : k < l.length) : usedN l c (k + 1) = usedN l c k + if useB l c l[k] = true then 1 else 0 := by
  unfold usedN
  rw [List.take_succ_eq_append_getElem hk, List.filter_append, List.length_append]
  congr 1
  by_cases h : useB l c l[k] = true
  · simp [h]
  · simp [h]
theorem nodup_two {l : List Int} {p q : Int} (hn : l.Nodup) (h : ∀ x ∈ l, x = p ∨ x = q) : l.length ≤ 2 := by
  match l, hn, h with
  | [], _, _ => simp
  | [_], _, _ => simp
  | [_, _], _, _ => simp
  | a :: b :: d :: r, hn, h =>
    exfalso
    simp only [List.nodup_cons, List.mem_cons, not_or] at hn
    have h1 := h a (by simp)
    have h2 := h b (by simp)
    have h3 := h d (by simp)
    omega
theorem used_two {l : List Int} {c : C3} (hc : isC c = true) (hp : palR l = 0) (h6 : l.contains 6 = true) (ha : addi l = true) : usedN l c l.length ≤ 2 := by
  obtain ⟨x, y, z⟩ := c
  have hf := (palR_zero.1 hp)
  have hm := max3_facts (x, y, z)
  simp only at hm
  unfold usedN
  rw [List.take_length]
  have hw : whA l (x, y, z) = min3 (x, y, z) := by unfold whA; rw [if_pos h6]
  have hmx : ∀ a, mixA l (x, y, z) a = mixAdd (min3 (x, y, z)) (x, y, z) a := fun a => by unfold mixA; rw [if_pos ha, hw]
  have hsub : ∀ a ∈ l.filter (useB l (x, y, z)), (a = 3 ∧ min3 (x, y, z) < x) ∨ (a = 4 ∧ min3 (x, y, z) < y) ∨ (a = 5 ∧ min3 (x, y, z) < z) := fun a h => by
    obtain ⟨h1, h2⟩ := List.mem_filter.1 h
    have h3 := hf.2.1 a h1
    unfold useB at h2
    rw [hmx] at h2
    simp only [Bool.and_eq_true, decide_eq_true_eq] at h2
    have h4 : a = 3 ∨ a = 4 ∨ a = 5 := by omega
    unfold mixAdd at h2
    rcases h4 with rfl | rfl | rfl
    · left; simp at h2; omega
    · right; left; simp at h2; omega
    · right; right; simp at h2; omega
  have hnd : (l.filter (useB l (x, y, z))).Nodup := hf.2.2.1.filter _
  rcases hm.2.2.2.2.2.2.2 with e | e | e
  · exact nodup_two (p := 4) (q := 5) hnd fun a h => by have := hsub a h; omega
  · exact nodup_two (p := 3) (q := 5) hnd fun a h => by have := hsub a h; omega
  · exact nodup_two (p := 3) (q := 4) hnd fun a h => by have := hsub a h; omega
theorem usedN_le (l : List Int) (c : C3) (k : Nat) : usedN l c k ≤ k := by
  unfold usedN
  exact Nat.le_trans (List.length_filter_le _ _) (by rw [List.length_take]; omega)
end Go.Proofs.Ytipfofdjngnkpaa.Z
namespace Go.Proofs.Ytipfofdjngnkpaa
open Go.RowKit
open Z
set_option maxRecDepth 100000 in
set_option maxHeartbeats 4000000 in
theorem l11_ColourReturns {a : Option Addr} {l : List Int} {cap : Nat} (c : C3) (w : World) (hr : RdI w a l) (hcap : l.length ≤ cap) (hmax : cap ≤ maxLen) :
    Calls Try.prog 7 #[.slice a l.length cap, vC c] w fun e w' => e = .returned (.bool true) ∧ Gr w w' := by
  have hlm : l.length ≤ maxLen := Nat.le_trans hcap hmax
  have hlm2 : l.length ≤ 9223372036854775807 := hlm
  obtain ⟨w0, hw0⟩ : ∃ v, v = w.alloc (.cells #[.int .i64 c.1, .int .i64 c.2.1, .int .i64 c.2.2] 23) := ⟨_, rfl⟩
  have HC0 := Lib.hid (show C3At w0 w.heap.size c by rw [hw0]; exact C3At.new w c)
  have HG0 := Lib.hid (show Gr w w0 by rw [hw0]; exact (Gr.refl w).alloc _)
  have HP := Lib.hid (rf_Check (cap := cap) w0 (hr.gr HG0.out) hcap hmax)
  have HK := Lib.hid (fun w => rf_Colour c w)
  have HM : Hid (∀ w1, Gr w w1 → Calls Try.prog 11 #[.slice a l.length cap, vC c] w1 fun e w' => (∃ a' cap', e = .returned (.tuple #[.slice a' (mixR l c).1.length cap', .int .i64 (mixR l c).2]) ∧ RdI w' a' (mixR l c).1 ∧ (mixR l c).1.length ≤ cap' ∧ cap' ≤ maxLen) ∧ Gr w1 w') := Lib.hid fun w1 h => co_Mix (cap := cap) c w1 (hr.gr h) hlm
  have HLt : Hid (∀ (w1 : World) (b : Option Addr) (v : List Int) (cb : Nat), Gr w w1 → RdI w1 b v → v.length ≤ maxLen → Calls Try.prog 17 #[.slice a l.length cap, .slice b v.length cb] w1 fun e w' => e = .returned (.tuple #[vC (lightE l v).1, .int .i64 (lightE l v).2]) ∧ Gr w1 w') := Lib.hid fun w1 b v cb h hb hv => co_Light (ca := cap) (cb := cb) w1 (hr.gr h) hb hlm hv
  have HAD : Hid (∀ w1, Gr w w1 → Calls Try.prog 24 #[.slice a l.length cap] w1 fun e w' => e = .returned (.bool (addi l)) ∧ w' = w1) := Lib.hid fun w1 h => rf_Additive (cap := cap) w1 (hr.gr h) hlm
  have HR := Lib.hid hr
  have HW0 := Lib.hid hw0
  clear hw0 hr hlm hmax
  by_cases hp : palR l = 0
  · rw [hp] at HP
    by_cases hc : isC c = true
    · have HMR := Lib.hid (show mixR l c = (mixL l c, 0) by unfold mixR; rw [if_neg (by simp [hp]), if_pos hc])
      have HU := Lib.hid (fun k (hk : k < l.length) => usedN_step (c := c) hk)
      have HUL := Lib.hid (fun k => usedN_le l c k)
      have HU2 := Lib.hid (fun h6 ha => used_two hc hp h6 ha)
      have HRG := Lib.hid (fun a => mixA_range l hc a)
      have HLE := Lib.hid (lightE_mix hc hp)
      rw [HMR.out] at HM
      rw [hc] at HK
      have HLt2 : Hid (∀ (w1 : World) (b : Option Addr) (cb : Nat), Gr w w1 → RdI w1 b (mixL l c) → Calls Try.prog 17 #[.slice a l.length cap, .slice b l.length cb] w1 fun e w' => e = .returned (.tuple #[vC c, .int .i64 0]) ∧ Gr w1 w') := Lib.hid fun w1 b cb h hb => by
        have h2 := HLt.out w1 b (mixL l c) cb h hb (by unfold mixL; rw [List.length_map]; exact hlm2)
        rw [HLE.out] at h2
        rw [show (mixL l c).length = l.length by simp [mixL]] at h2
        exact h2
      have HM2 : Hid (∀ w1, Gr w w1 → Calls Try.prog 11 #[.slice a l.length cap, vC c] w1 fun e w' => (∃ a' cap', e = .returned (.tuple #[.slice a' l.length cap', .int .i64 0]) ∧ RdI w' a' (mixL l c)) ∧ Gr w1 w') := Lib.hid fun w1 h => (HM.out w1 h).mono fun e w' ⟨⟨a', c', h1, h2, _⟩, h3⟩ => ⟨⟨a', c', by rw [h1]; show _ = Ending.returned (.tuple #[.slice a' l.length c', .int .i64 0]); rw [show (mixL l c, (0 : Int)).1.length = l.length by simp [mixL]], h2⟩, h3⟩
      have HGT : Hid (∀ k (hk : k < l.length), ∃ h2 : k < (mixL l c).length, (mixL l c)[k] = mixA l c l[k]) := Lib.hid fun k hk => ⟨by simpa [mixL] using hk, by simp [mixL]⟩
      clear HM HLt HMR HLE hp hc
      obtain ⟨n, hn⟩ : ∃ n, n = l.length := ⟨_, rfl⟩
      have HN := Lib.hid hn
      rw [← hn] at HP HM2 HLt2 HAD hcap hlm2 ⊢
      rw [← hn] at HU2
      clear hn
      obtain ⟨x, y, z⟩ := c
      have hvc : vC (x, y, z) = .agg #[.int .i64 x, .int .i64 y, .int .i64 z] := rfl
      rw [hvc]
      clear hvc
      go_enter Try.func7, Try.ntmps7
      go_wp2_with fail
      rw [← HW0.out]
      refine HP.out.mono ?_; rintro e w1 ⟨rfl, hg1⟩
      have HC1 := Lib.hid (HC0.out.gr hg1)
      have HG1 := Lib.hid (HG0.out.trans hg1)
      have c0 := HC1.out.c0
      have c1 := HC1.out.c1
      have c2 := HC1.out.c2
      simp only at c0 c1 c2
      clear hg1 HC0 HG0 HW0 HP
      go_wp2_with fail
      refine (HK.out _).mono ?_; rintro e w2 ⟨rfl, hg2⟩
      have HC2 := Lib.hid (HC1.out.gr hg2)
      have HG2 := Lib.hid (HG1.out.trans hg2)
      clear hg2 c0 c1 c2 HC1 HG1
      go_wp2_with (refine wpl_load3 (c := (x, y, z)) rfl rfl rfl HC2.out ?_)
      refine (HM2.out _ HG2.out).mono ?_; rintro e w3 ⟨⟨a', c', rfl, hv⟩, hg3⟩
      have HV := Lib.hid hv
      have HC3 := Lib.hid (HC2.out.gr hg3)
      have HG3 := Lib.hid (HG2.out.trans hg3)
      clear hg3 hv HC2 HG2 HM2 HK
      go_wp2
      go_loopw [7, 8, 9, 10, 39] (fun t7 t8 _ _ i wr => ∃ k u : Nat, i = .int .i64 k ∧ t7 = .int .i64 u ∧ t8 = .bool ((l.take k).contains 6) ∧ k ≤ n ∧ u ≤ k ∧ Hid (u = usedN l (x, y, z) k) ∧ Hid (w3 = wr)) (fun _ _ _ _ i _ => n - (intOf i).toNat)
      case atStart => exact ⟨0, 0, rfl, rfl, rfl, Nat.zero_le _, Nat.le_refl _, rfl, rfl⟩
      case round =>
        obtain ⟨k, u, rfl, rfl, rfl, hk, huk, HUU, HW⟩ := hrel
        have hwr := HW.out
        subst hwr
        by_cases hlt : k < n
        · have hkl : k < l.length := by rw [← HN.out]; exact hlt
          obtain ⟨b, o, rfl, d0⟩ := (HR.out.gr HG3.out) k hkl
          obtain ⟨hkv, hge⟩ := HGT.out k hkl
          obtain ⟨b2, o2, rfl, d1⟩ := HV.out k hkv
          rw [hge] at d1
          obtain ⟨r0, r1⟩ := HRG.out l[k]
          have HUN := Lib.hid (HU.out k hkl)
          have HBR : Hid ((l.take (k + 1)).contains 6 = ((l.take k).contains 6 || (l[k] == 6))) := Lib.hid (by
            rw [List.take_succ_eq_append_getElem hkl, List.contains_append]
            congr 1
            rw [List.contains_cons, List.contains_nil, Bool.or_false, Bool.eq_iff_iff]
            constructor <;> intro h <;> simp only [beq_iff_eq] at h ⊢ <;> exact h.symm)
          unfold useB at HUN
          clear hge
          generalize mixA l (x, y, z) l[k] = mv at *
          generalize l[k] = xv at *
          generalize (l.take k).contains 6 = br at *
          have q1 : decide (mv < 0) = false := decide_eq_false (by omega)
          have q2 : decide (65535 < mv) = false := decide_eq_false (by omega)
          have HUN2 : Hid (usedN l (x, y, z) (k + 1) = u + if (decide (xv ≤ 5) && decide (0 < mv)) = true then 1 else 0) := Lib.hid (by rw [HUN.out, HUU.out])
          clear HUN HUU
          obtain ⟨e6, he6⟩ : ∃ e6, (xv == 6) = e6 := ⟨_, rfl⟩
          rw [he6] at HBR
          obtain ⟨p1, hp1⟩ : ∃ p, decide (xv ≤ 5) = p := ⟨_, rfl⟩
          obtain ⟨p2, hp2⟩ : ∃ p, decide (0 < mv) = p := ⟨_, rfl⟩
          rw [hp1, hp2] at HUN2
          cases p1
          · have HUN3 : Hid (u = usedN l (x, y, z) (k + 1)) := Lib.hid (by rw [HUN2.out]; simp)
            clear HUN2
            cases br
            all_goals
              go_wp2
              go_roundw
              case rel => exact ⟨k + 1, u, by go_num, rfl, by rw [HBR.out]; rfl, by omega, by omega, HUN3.out, trivial⟩
              case measure => simp [intOf]; omega
          · cases p2
            · have HUN3 : Hid (u = usedN l (x, y, z) (k + 1)) := Lib.hid (by rw [HUN2.out]; simp)
              clear HUN2
              cases br
              all_goals
                go_wp2
                go_roundw
                case rel => exact ⟨k + 1, u, by go_num, rfl, by rw [HBR.out]; rfl, by omega, by omega, HUN3.out, trivial⟩
                case measure => simp [intOf]; omega
            · have HUN3 : Hid (u + 1 = usedN l (x, y, z) (k + 1)) := Lib.hid (by rw [HUN2.out]; simp)
              clear HUN2
              cases br
              all_goals
                go_wp2
                go_roundw
                case rel => exact ⟨k + 1, u + 1, by go_num, by go_num, by rw [HBR.out]; rfl, by omega, by omega, HUN3.out, trivial⟩
                case measure => simp [intOf]; omega
        · have hkn : k = n := by omega
          subst hkn
          have HBB : Hid ((l.take k).contains 6 = l.contains 6) := Lib.hid (by rw [List.take_of_length_le (by have := HN.out; omega)])
          have HU3 : Hid (l.contains 6 = true → addi l = true → u ≤ 2) := Lib.hid (by rw [HUU.out]; exact HU2.out)
          rw [HBB.out]
          clear HBB HU2 HUU HU HUL HRG HGT HW
          generalize l.contains 6 = br at *
          generalize addi l = ad at *
          go_wp2_with fail
          refine (HLt2.out _ _ _ HG3.out HV.out).mono ?_; rintro e w4 ⟨rfl, hg4⟩
          obtain ⟨w5, hw5⟩ : ∃ v, v = (w4.alloc (.cells #[.int .i64 0, .int .i64 0, .int .i64 0] 23)).setRow w4.heap.size #[.int .i64 x, .int .i64 y, .int .i64 z] := ⟨_, rfl⟩
          have h1 : C3At w5 w4.heap.size (x, y, z) := by rw [hw5]; exact (C3At.new w4 (0, 0, 0)).row (x, y, z)
          have h2 : Gr w4 w5 := by rw [hw5]; exact ((Gr.refl _).alloc (.cells #[.int .i64 0, .int .i64 0, .int .i64 0] 23)).row (g := w4.heap.size) (Nat.le_refl _) _
          have h3 := (HC3.out.gr hg4).gr h2
          have HG5 := Lib.hid ((HG3.out.trans hg4).trans h2)
          have a0 := h1.c0
          have a1 := h1.c1
          have a2 := h1.c2
          have b0 := h3.c0
          have b1 := h3.c1
          have b2 := h3.c2
          simp only at a0 a1 a2 b0 b1 b2
          have HW5 := Lib.hid hw5
          have heq := run_eq3'
          clear hw5 h1 h2 h3 hg4 HC3 HLt2 HV
          cases br
          · go_wp2_with (refine wpl_store3 (c := (x, y, z)) rfl rfl rfl rfl (C3At.new w4 (0, 0, 0)) ?_; rw [← HW5.out])
            refine (l11_awake _).mono ?_; rintro e w9 ⟨rfl, hg9⟩
            have HG9 := Lib.hid (HG5.out.trans hg9)
            clear hg9
            go_wp2
            go_ret
            exact ⟨rfl, HG9.out⟩
          · by_cases hu2 : u ≤ 2
            · have du : decide ((u : Int) ≤ 2) = true := decide_eq_true (by omega)
              go_wp2_with (refine wpl_store3 (c := (x, y, z)) rfl rfl rfl rfl (C3At.new w4 (0, 0, 0)) ?_; rw [← HW5.out])
              refine (l11_awake _).mono ?_; rintro e w9 ⟨rfl, hg9⟩
              have HG9 := Lib.hid (HG5.out.trans hg9)
              clear hg9
              go_wp2
              go_ret
              exact ⟨rfl, HG9.out⟩
            · have du : decide ((u : Int) ≤ 2) = false := decide_eq_false (by omega)
              have had : ad = false := by
                cases ad
                · rfl
                · exact absurd (HU3.out rfl rfl) hu2
              subst had
              go_wp2_with (refine wpl_store3 (c := (x, y, z)) rfl rfl rfl rfl (C3At.new w4 (0, 0, 0)) ?_; rw [← HW5.out])
              refine (HAD.out _ HG5.out).mono ?_; rintro e w6 ⟨rfl, hw6⟩
              rw [hw6]
              go_wp2_with fail
              refine (l11_awake _).mono ?_; rintro e w9 ⟨rfl, hg9⟩
              have HG9 := Lib.hid (HG5.out.trans hg9)
              clear hg9
              go_wp2
              go_ret
              exact ⟨rfl, HG9.out⟩
    · have hcf : isC c = false := by cases h : isC c; rfl; exact absurd h hc
      rw [hcf] at HK
      clear HM HLt HAD HR hp hc hcf hcap
      generalize l.length = n at *
      obtain ⟨x, y, z⟩ := c
      have hvc : vC (x, y, z) = .agg #[.int .i64 x, .int .i64 y, .int .i64 z] := rfl
      rw [hvc]
      clear hvc
      go_enter Try.func7, Try.ntmps7
      go_wp2_with fail
      rw [← HW0.out]
      refine HP.out.mono ?_; rintro e w1 ⟨rfl, hg1⟩
      have HC1 := HC0.out.gr hg1
      have HG1 := Lib.hid (HG0.out.trans hg1)
      have c0 := HC1.c0
      have c1 := HC1.c1
      have c2 := HC1.c2
      simp only at c0 c1 c2
      clear hg1 HC0 HG0 HW0 HP HC1
      go_wp2_with fail
      refine (HK.out _).mono ?_; rintro e w2 ⟨rfl, hg2⟩
      have HG2 := Lib.hid (HG1.out.trans hg2)
      clear hg2 c0 c1 c2 HG1
      go_wp2_with fail
      refine (l11_awake _).mono ?_; rintro e w9 ⟨rfl, hg9⟩
      have HG9 := Lib.hid (HG2.out.trans hg9)
      clear hg9
      go_wp2
      go_ret
      exact ⟨rfl, HG9.out⟩
  · have hz : (palR l != 0) = true := by simp [hp]
    clear HM HLt HAD HR HK hcap
    generalize palR l = E at *
    generalize l.length = n at *
    obtain ⟨x, y, z⟩ := c
    have hvc : vC (x, y, z) = .agg #[.int .i64 x, .int .i64 y, .int .i64 z] := rfl
    rw [hvc]
    clear hvc
    go_enter Try.func7, Try.ntmps7
    go_wp2_with fail
    rw [← HW0.out]
    refine HP.out.mono ?_; rintro e w1 ⟨rfl, hg1⟩
    have HG1 := Lib.hid (HG0.out.trans hg1)
    clear hg1
    go_wp2_with fail
    refine (l11_awake _).mono ?_; rintro e w9 ⟨rfl, hg9⟩
    have HG9 := Lib.hid (HG1.out.trans hg9)
    clear hg9
    go_wp2
    go_ret
    exact ⟨rfl, HG9.out⟩
end Go.Proofs.Ytipfofdjngnkpaa
