/- Sets of channels: the program's Check. -/
import Derived.Test.YtjideokeokmbaaaGreatDoorRaG
set_option linter.unusedVariables false
set_option linter.unusedSimpArgs false
namespace Go.Proofs.YtjideokeokmbaaaGreatDoor.Z
open Go
def isRg (r : Int × Int) : Bool := decide (1 ≤ r.1) && (decide (r.1 ≤ r.2) && decide (r.2 ≤ 999))
/-- what Check answers, behind a range that ends at p -/
def checkL : List (Int × Int) → Option Int → Int
  | [], _ => 0
  | r :: l, p => if isRg r = false then 2 else if (match p with | none => false | some q => decide (r.1 < q + 2)) = true then 9 else checkL l (some r.2)
def checkR (R : List (Int × Int)) : Int := checkL R none
theorem isRg_iff (r : Int × Int) : isRg r = true ↔ 1 ≤ r.1 ∧ r.1 ≤ r.2 ∧ r.2 ≤ 999 := by
  unfold isRg
  rw [Bool.and_eq_true, Bool.and_eq_true, decide_eq_true_iff, decide_eq_true_iff, decide_eq_true_iff]
def prevE (R : List (Int × Int)) (j : Nat) : Option Int := if j = 0 then none else (R[j - 1]?).map (·.2)
end Go.Proofs.YtjideokeokmbaaaGreatDoor.Z
namespace Go.Proofs.YtjideokeokmbaaaGreatDoor
open Go.RowKit Go.Shelf
open Z
set_option maxHeartbeats 1000000 in
theorem ra_isRange (f t : Int) (w : World) : Calls Tryz.prog 34 #[.agg #[.int .i64 f, .int .i64 t]] w fun e w' => e = .returned (.bool (isRg (f, t))) ∧ Gr w w' := by
  have hcase : (isRg (f, t) = false ∧ f < 1) ∨ (isRg (f, t) = false ∧ 1 ≤ f ∧ t < f) ∨ (isRg (f, t) = false ∧ 1 ≤ f ∧ f ≤ t ∧ 999 < t) ∨ (isRg (f, t) = true ∧ 1 ≤ f ∧ f ≤ t ∧ t ≤ 999) := by
    by_cases h : isRg (f, t) = true
    · exact .inr (.inr (.inr ⟨h, (isRg_iff _).1 h⟩))
    · have h2 : isRg (f, t) = false := by simpa using h
      rw [isRg_iff] at h
      simp only at h
      rw [h2]
      by_cases h0 : f < 1
      · exact .inl ⟨rfl, h0⟩
      · by_cases h1 : t < f
        · exact .inr (.inl ⟨rfl, by omega, h1⟩)
        · exact .inr (.inr (.inl ⟨rfl, by omega, by omega, by omega⟩))
  have HX := Lib.hid (RB.new w f t 37)
  have HG := Lib.hid ((Gr.refl w).alloc (.cells #[.int .i64 f, .int .i64 t] 37))
  obtain ⟨k0, k1, -, -⟩ := id HX.out
  rcases hcase with ⟨h, h0⟩ | ⟨h, h0, h1⟩ | ⟨h, h0, h1, h2⟩ | ⟨h, h0, h1, h2⟩
  all_goals
    rw [h]; clear h
    go_enter Tryz.func34, Tryz.ntmps34
    go_wp2
    go_ret
    first
      | exact ⟨rfl, HG.out⟩
      | exact ⟨ret_bool (decide_eq_false (by omega)), HG.out⟩
      | exact ⟨ret_bool (decide_eq_true (by omega)), HG.out⟩
theorem prevE_succ {R : List (Int × Int)} {j : Nat} (h : j < R.length) : prevE R (j + 1) = some R[j].2 := by
  unfold prevE
  rw [if_neg (by omega), Nat.add_sub_cancel, List.getElem?_eq_getElem h]; rfl
set_option maxRecDepth 100000 in
set_option maxHeartbeats 2000000 in
theorem ra_Check (a : Option Addr) (R : List (Int × Int)) (cap : Nat) (w : World) (hR : RngAt w a R) (hcap : a = none → cap = 0) (hlen : R.length ≤ 10000000000000) : Calls Tryz.prog 23 #[.slice a R.length cap] w fun e w' => e = .returned (.int .i64 (checkR R)) ∧ Gr w w' := by
  have HR := Lib.hid hR
  obtain ⟨len, hl⟩ : ∃ len, R.length = len := ⟨_, rfl⟩
  have HE := Lib.hid hl
  rw [hl] at hlen ⊢
  obtain ⟨V, hV⟩ : ∃ V, checkR R = V := ⟨_, rfl⟩
  rw [hV]
  have HV := Lib.hid (show checkL (R.drop 0) (prevE R 0) = V from hV)
  clear hV hR hl hcap
  go_enter Tryz.func23, Tryz.ntmps23
  go_wp2
  go_loopw [7] (fun i wr => ∃ j : Nat, i = .int .i64 j ∧ j ≤ len ∧ Hid (checkL (R.drop j) (prevE R j) = V) ∧ Hid (∀ k (h : k < R.length), k < j → isRg R[k] = true) ∧ Hid (Gr w wr)) (fun i _ => len - (intOf i).toNat)
  case atStart => exact ⟨0, rfl, Nat.zero_le _, HV, Lib.hid (fun k _ h => absurd h (by omega)), Lib.hid (Gr.refl w)⟩
  case round =>
    obtain ⟨j, rfl, hj, HVj, HP, HG⟩ := hrel
    by_cases hlt : j < len
    · have hltR : j < R.length := by rw [HE.out]; exact hlt
      obtain ⟨b, off, rfl, hc⟩ : ∃ b off, a = some ⟨b, off, none⟩ ∧ ∀ j (h : j < R.length), w.cell? ⟨b, off + j * 2, none⟩ = some (.int .i64 R[j].1) ∧ w.cell? ⟨b, off + j * 2 + 1, none⟩ = some (.int .i64 R[j].2) := by
        rcases HR.out with ⟨-, h⟩ | h
        · rw [h] at hltR; simp at hltR
        · exact h
      have d0 := cell_gr HG.out (hc j hltR).1
      have d1 := cell_gr HG.out (hc j hltR).2
      have hv := HVj.out
      rw [List.drop_eq_getElem_cons hltR] at hv
      unfold checkL at hv
      have HP2 : Hid (isRg R[j] = true → ∀ k (h : k < R.length), k < j + 1 → isRg R[k] = true) := Lib.hid fun h k hk hkj => by
        by_cases e : k = j
        · subst e; exact h
        · exact HP.out k hk (by omega)
      have hps := prevE_succ hltR
      have HIS := Lib.hid (fun w => ra_isRange R[j].1 R[j].2 w)
      rw [← hps] at hv
      have hprev : ∀ i (h : i < R.length), i + 1 = j → isRg R[i] = true ∧ prevE R j = some R[i].2 ∧ wr.cell? ⟨b, off + i * 2 + 1, none⟩ = some (.int .i64 R[i].2) := fun i h e => by
        subst e; exact ⟨HP.out i h (by omega), prevE_succ h, cell_gr HG.out (hc i h).2⟩
      generalize hx : R[j] = x at *
      obtain ⟨f, t⟩ := x
      simp only at d0 d1 HIS
      have HX := Lib.hid (RB.new wr f t 37)
      have HGX := Lib.hid ((Gr.refl wr).alloc (.cells #[.int .i64 f, .int .i64 t] 37))
      cases hi : isRg (f, t)
      · rw [hi, if_pos rfl] at hv
        subst hv
        rw [hi] at HIS
        clear hprev HP2 HP hx hps hc HVj
        go_wp2_with fail
        refine (HIS.out _).mono ?_; rintro e w2 ⟨rfl, hg2⟩
        have HG2 := Lib.hid (Gr.trans (Gr.trans HG.out HGX.out) hg2)
        clear hg2
        go_wp2
        go_ret
        exact ⟨rfl, HG2.out⟩
      · rw [hi] at HIS
        rw [if_neg (by rw [hi]; simp)] at hv
        have HP3 := Lib.hid (HP2.out hi)
        clear HP2 HP
        cases j with
        | zero =>
          rw [if_neg (by simp [prevE])] at hv
          have HV2 := Lib.hid hv
          simp only [Nat.zero_mul, Nat.add_zero] at d0 d1
          clear hv hprev hx hps hc HVj
          go_wp2_with fail
          refine (HIS.out _).mono ?_; rintro e w2 ⟨rfl, hg2⟩
          have HG2 := Lib.hid (Gr.trans (Gr.trans HG.out HGX.out) hg2)
          have k0 := cell_gr hg2 HX.out.c0
          have k1 := cell_gr hg2 HX.out.c1
          have hz2 : wr.heap.size < w2.heap.size := by have := hg2.size; rw [World.size_alloc] at this; omega
          clear hg2
          go_wp2_with fail
          go_quiet (fail)
          rename_i nq
          have HG3 := Lib.hid (below_drewN HG2.out nq)
          go_wp2
          go_roundw
          case rel => exact ⟨0 + 1, by go_num, by omega, HV2, HP3, HG3⟩
          case measure => simp [intOf]; omega
        | succ i =>
          obtain ⟨hir, hpe, m1⟩ := hprev i (by omega) rfl
          have hq := ((isRg_iff _).1 hir).2.2
          have hq0 := ((isRg_iff _).1 hir).1
          have hq1 := ((isRg_iff _).1 hir).2.1
          rw [hpe] at hv
          generalize R[i].2 = q at *
          simp only at hv
          have hf := ((isRg_iff _).1 hi)
          simp only at hf
          clear hprev hx hpe hir hc HVj
          have hkc : ((i + 1 : Nat) : Int) = (i : Int) + 1 := by omega
          rw [hkc]
          clear hkc
          by_cases hlt2 : f < q + 2
          · rw [if_pos (by simpa using hlt2)] at hv
            subst hv
            go_wp2_with fail
            refine (HIS.out _).mono ?_; rintro e w2 ⟨rfl, hg2⟩
            have HG2 := Lib.hid (Gr.trans (Gr.trans HG.out HGX.out) hg2)
            have k0 := cell_gr hg2 HX.out.c0
            have k1 := cell_gr hg2 HX.out.c1
            have hz2 : wr.heap.size < w2.heap.size := by have := hg2.size; rw [World.size_alloc] at this; omega
            have m2 := cell_gr (Gr.trans HGX.out hg2) m1
            clear hg2
            go_wp2_with fail
            go_quiet (fail)
            rename_i nq
            have HG3 := Lib.hid (below_drewN HG2.out nq)
            go_wp2
            go_ret
            exact ⟨rfl, HG3.out⟩
          · rw [if_neg (by simpa using hlt2)] at hv
            have HV2 := Lib.hid hv
            clear hv
            have hge : q + 2 ≤ f := by omega
            clear hlt2
            go_wp2_with fail
            refine (HIS.out _).mono ?_; rintro e w2 ⟨rfl, hg2⟩
            have HG2 := Lib.hid (Gr.trans (Gr.trans HG.out HGX.out) hg2)
            have k0 := cell_gr hg2 HX.out.c0
            have k1 := cell_gr hg2 HX.out.c1
            have hz2 : wr.heap.size < w2.heap.size := by have := hg2.size; rw [World.size_alloc] at this; omega
            have m2 := cell_gr (Gr.trans HGX.out hg2) m1
            clear hg2
            go_wp2_with fail
            go_quiet (fail)
            rename_i nq
            have HG3 := Lib.hid (below_drewN HG2.out nq)
            go_wp2
            go_roundw
            case rel => exact ⟨i + 1 + 1, by go_num, by omega, HV2, HP3, HG3⟩
            case measure => simp [intOf]; omega
    · have hjl : j = len := by omega
      subst hjl
      have hv := HVj.out
      rw [List.drop_of_length_le (by rw [HE.out]; exact Nat.le_refl _)] at hv
      unfold checkL at hv
      subst hv
      clear HVj
      go_wp2
      go_ret
      exact ⟨rfl, HG.out⟩
end Go.Proofs.YtjideokeokmbaaaGreatDoor
