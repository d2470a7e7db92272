/- Law 6: RangesLists. -/
import Derived.Test.YtifccpdkpgfnlaaDoorRbT
set_option linter.unusedVariables false
set_option linter.unusedSimpArgs false
namespace Go.Proofs.YtifccpdkpgfnlaaDoor
open Go.RowKit Go.Shelf
open Z
theorem OwnI.shape3 {B : Nat} {w : World} {v : Value} {l : List Int} (h : OwnI B w v l) : ∃ a cap, v = .slice a l.length cap ∧ IntsAt w a l ∧ (a = none → cap = 0) ∧ l.length ≤ cap ∧ cap ≤ maxLen := by
  obtain ⟨a, cap, rfl, h1, h2⟩ := h.shape2
  refine ⟨a, cap, rfl, h1, h2, ?_⟩
  rcases h.2 with ⟨h3, h4⟩ | ⟨g, c, cur, h3, -, -, h4, h5, -⟩
  · simp only [Value.slice.injEq] at h3
    obtain ⟨-, -, hc⟩ := h3
    subst hc
    exact ⟨by omega, Nat.zero_le _⟩
  · simp only [Value.slice.injEq] at h3
    obtain ⟨-, -, hc⟩ := h3
    subst hc
    exact ⟨h4, h5⟩
theorem parts3 {w : World} {g o m c k : Nat} {X : List Int} (h : IntsAt w (some ⟨g, o, none⟩) X) (hm : X.length = m) (hk : k < m) :
    PartsAt (w.drew.alloc (.cells #[.slice (some ⟨g, o + k, none⟩) (m - k) (c - k), .slice (some ⟨g, o, none⟩) k c, .slice (some ⟨g, o, none⟩) 1 c] 35)) w.heap.size [X.drop k, X.take k, X.take 1] ∧ Gr w (w.drew.alloc (.cells #[.slice (some ⟨g, o + k, none⟩) (m - k) (c - k), .slice (some ⟨g, o, none⟩) k c, .slice (some ⟨g, o, none⟩) 1 c] 35)) := by
  have hG : Gr w (w.drew.alloc (.cells #[.slice (some ⟨g, o + k, none⟩) (m - k) (c - k), .slice (some ⟨g, o, none⟩) k c, .slice (some ⟨g, o, none⟩) 1 c] 35)) := (Below.drew (Gr.refl w)).alloc (Nat.le_refl _) _
  refine ⟨fun j hj => ?_, hG⟩
  have hc : ∀ i (hi : i < m), (w.drew.alloc (.cells #[.slice (some ⟨g, o + k, none⟩) (m - k) (c - k), .slice (some ⟨g, o, none⟩) k c, .slice (some ⟨g, o, none⟩) 1 c] 35)).cell? ⟨g, o + i, none⟩ = some (.int .i64 (X[i]'(by omega))) := fun i hi => by
    rcases h with ⟨h, -⟩ | ⟨g', o', h, hx⟩
    · cases h
    · cases h; exact cell_gr hG (hx i (by omega))
  have hz : ∀ j v, (#[Value.slice (some ⟨g, o + k, none⟩) (m - k) (c - k), .slice (some ⟨g, o, none⟩) k c, .slice (some ⟨g, o, none⟩) 1 c] : Array Value)[j]? = some v → (w.drew.alloc (.cells #[.slice (some ⟨g, o + k, none⟩) (m - k) (c - k), .slice (some ⟨g, o, none⟩) k c, .slice (some ⟨g, o, none⟩) 1 c] 35)).cell? ⟨w.heap.size, j, none⟩ = some v := fun j v hv => by
    rw [show w.heap.size = w.drew.heap.size from rfl, World.cell?_alloc_at _ _ _ _ rfl]; exact hv
  match j, hj with
  | 0, _ => exact ⟨some ⟨g, o + k, none⟩, c - k, hz 0 _ (by simp [List.length_drop, hm]), .inr ⟨g, o + k, rfl, fun i hi => by
      simp only [List.getElem_cons_zero, List.length_drop] at hi ⊢
      rw [List.getElem_drop, Nat.add_assoc]; exact hc (k + i) (by omega)⟩, fun e => by cases e⟩
  | 1, _ => exact ⟨some ⟨g, o, none⟩, c, hz 1 _ (by simp [List.length_take]; omega), .inr ⟨g, o, rfl, fun i hi => by
      simp only [List.getElem_cons_succ, List.getElem_cons_zero, List.length_take] at hi ⊢
      rw [List.getElem_take]; exact hc i (by omega)⟩, fun e => by cases e⟩
  | 2, _ => exact ⟨some ⟨g, o, none⟩, c, hz 2 _ (by simp [List.length_take]; omega), .inr ⟨g, o, rfl, fun i hi => by
      simp only [List.getElem_cons_succ, List.getElem_cons_zero, List.length_take] at hi ⊢
      rw [List.getElem_take]; exact hc i (by omega)⟩, fun e => by cases e⟩
theorem flat3 (X : List Int) (k : Nat) : [X.drop k, X.take k, X.take 1].flatten = turnL X k := by unfold turnL; simp
set_option maxRecDepth 100000 in
set_option maxHeartbeats 4000000 in
theorem l6_Lists_ok (a : Option Addr) (R : List (Int × Int)) (cap tn : Nat) (w : World) (htab : Tab w) (hR : RngAt w a R) (hcap : a = none → cap = 0) (hp : ∀ p o, a = some ⟨p, o, none⟩ → p < w.heap.size) (hlen : R.length ≤ 60) (h0 : checkR R = 0) (htn : tn ≤ 255) :
    Calls Tryd.prog 9 #[.slice a R.length cap, .int .u8 (tn : Nat)] w fun e w' => e = .returned (.bool true) ∧ Gr w w' := by
  have AW := Lib.hid (fun w' (hg : Gr w w') => l6_awake w' (htab_gr htab hg))
  have PK := Lib.hid (fun w' (hg : Gr w w') => ra_Check a R cap w' (hR.gr hg) hcap (by omega))
  have PL := Lib.hid (fun w' (hg : Gr w w') => ra_List a R cap w' (hR.gr hg) hcap (by omega) (fun p o e => Nat.lt_of_lt_of_le (hp p o e) hg.size))
  have PC := Lib.hid (fun w' (hg : Gr w w') => ra_Count a R cap w' (hR.gr hg) hcap (by omega) (fun p o e => Nat.lt_of_lt_of_le (hp p o e) hg.size))
  have hL : listR R = (chans R, 0) := by unfold listR; rw [if_neg (by simp [h0])]
  have hC : countR R = (((chans R).length : Int), (0 : Int)) := by unfold countR; rw [if_neg (by simp [h0])]
  rw [hL] at PL
  rw [hC] at PC
  rw [h0] at PK
  simp only at PL PC
  have hX9 := chans_le h0
  have HSO := Lib.hid (chans_sorted R none h0)
  have HOF : Hid (∀ M : List Int, (∀ x, x ∈ M ↔ x ∈ chans R) → M.length ≤ 1000 → ofR M = (R, 0)) := Lib.hid fun M hm hl => of_turn h0 M hm hl
  have EQ : Hid (∀ (w' : World) (B : Nat) (w2 : World) (v : Value), Gr w w2 → OwnR B w2 v R → ∃ b c, v = .slice b R.length c ∧ Calls Tryd.prog 36 #[.slice b R.length c, .slice a R.length cap] w2 fun e w3 => e = .returned (.bool true) ∧ Gr w2 w3) := Lib.hid fun w' B w2 v hg ho => by
    obtain ⟨b, c, rfl, hr, -, -⟩ := ho.shape2
    exact ⟨b, c, rfl, sl_SameR hr (hR.gr hg) (by omega)⟩
  clear hR hcap hp htab hL hC h0
  generalize chans R = X at *
  generalize hn : R.length = n at *
  have da : decide (60 < (n : Int)) = false := decide_eq_false (by omega)
  clear hn
  have HG0 := Lib.hid (Gr.refl w)
  go_enter Tryd.func9, Tryd.ntmps9
  go_wp2_with fail
  refine (PK.out _ HG0.out).mono ?_; rintro e w1 ⟨rfl, hg⟩
  have HG1 := Lib.hid (Gr.trans HG0.out hg)
  clear hg HG0 PK
  go_wp2_with fail
  refine (PL.out _ HG1.out).mono ?_; rintro e w2 ⟨v, rfl, ho, hg⟩
  have HG2 := Lib.hid (Gr.trans HG1.out hg)
  have HV := Lib.hid ho
  clear hg ho HG1 PL
  go_wp2_with fail
  refine (PC.out _ HG2.out).mono ?_; rintro e w3 ⟨rfl, hg⟩
  have HG3 := Lib.hid (Gr.trans HG2.out hg)
  obtain ⟨b1, c1, rfl, hr1, hz1, hlc, hlm⟩ := (HV.out.gr hg).shape3
  have HV3 := Lib.hid hr1
  have HZ1 := Lib.hid hz1
  have HS := Lib.hid (sl_IsSorted b1 X c1 w3 hr1 (by omega) HSO.out)
  clear hg HG2 PC HV hr1 HSO hz1
  obtain ⟨m, hm⟩ : ∃ m, X.length = m := ⟨_, rfl⟩
  have HM := Lib.hid hm
  rw [hm] at hX9 HS hlc
  have hmm : ((m : Int) == (m : Int)) = true := by simp
  have d9 : decide (999 < m) = false := decide_eq_false (by omega)
  rw [hm]
  clear hm
  go_wp2_with fail
  refine HS.out.mono ?_; rintro e w4 ⟨rfl, hg⟩
  have HG4 := Lib.hid (Gr.trans HG3.out hg)
  have HV4 := Lib.hid (HV3.out.gr hg)
  clear hg HG3 HS HV3
  by_cases h0 : m = 0
  · have hm0 : ¬ 0 < m := by omega
    have HX : Hid (ofR X = (R, 0)) := Lib.hid (HOF.out X (fun _ => Iff.rfl) (by have := HM.out; omega))
    have PO := Lib.hid (fun w' (hg : Gr w4 w') (hz : b1 = none → c1 = 0) => ra_Of b1 X c1 w' (HV4.out.gr hg) hz (by have := HM.out; omega))
    rw [HX.out, HM.out] at PO
    simp only at PO
    clear HX HOF h0
    go_wp2_with fail
    refine (PO.out _ (Gr.refl _) HZ1.out).mono ?_; rintro e w5 ⟨v, rfl, ho, hg⟩
    have HG5 := Lib.hid (Gr.trans HG4.out hg)
    obtain ⟨b, c, rfl, hE⟩ := EQ.out w5 _ w5 v HG5.out ho
    have HE := Lib.hid hE
    clear hg ho hE HG4 PO EQ
    go_wp2_with fail
    refine HE.out.mono ?_; rintro e w6 ⟨rfl, hg⟩
    have HG6 := Lib.hid (Gr.trans HG5.out hg)
    clear hg HG5 HE
    go_wp2_with fail
    refine (AW.out _ HG6.out).mono ?_; rintro e w7 ⟨rfl, hg⟩
    have HG7 := Lib.hid (Gr.trans HG6.out hg)
    clear hg
    go_wp2
    go_ret
    exact ⟨rfl, HG7.out⟩
  · have hm0 : 0 < m := by omega
    have hb : ∃ g o, b1 = some ⟨g, o, none⟩ := by
      rcases HV4.out with ⟨-, h⟩ | ⟨g, o, h, -⟩
      · have := HM.out; rw [h] at this; simp at this; omega
      · exact ⟨g, o, h⟩
    obtain ⟨g, o, rfl⟩ := hb
    have hw8 : wrap64 (tn : Int) = tn := by unfold wrap64; omega
    have hmod : (tn : Int).tmod (m : Int) = ((tn % m : Nat) : Int) := by rw [Int.tmod_eq_emod_of_nonneg (by omega)]; omega
    have hkm : tn % m < m := Nat.mod_lt _ hm0
    generalize tn % m = k at *
    have hkm1 : k ≤ m := by omega
    have hck : ¬ c1 = k := by omega
    obtain ⟨hPA, hGA⟩ := parts3 (c := c1) HV4.out HM.out hkm
    have hfl : [X.drop k, X.take k, X.take 1].flatten.length ≤ 1000 := by rw [flat3]; have := turn_len X k; have := HM.out; omega
    have hfp : 0 < [X.drop k, X.take k, X.take 1].flatten.length := by rw [flat3]; unfold turnL; have := HM.out; simp only [List.length_append, List.length_drop]; omega
    have hCC : Calls Tryd.prog 39 #[.slice (some ⟨w4.heap.size, 0, none⟩) 3 3] (w4.drew.alloc (.cells #[.slice (some ⟨g, o + k, none⟩) (m - k) (c1 - k), .slice (some ⟨g, o, none⟩) k c1, .slice (some ⟨g, o, none⟩) 1 c1] 35)) fun e w' => ∃ v, e = .returned v ∧ OwnI (w4.drew.alloc (.cells #[.slice (some ⟨g, o + k, none⟩) (m - k) (c1 - k), .slice (some ⟨g, o, none⟩) k c1, .slice (some ⟨g, o, none⟩) 1 c1] 35)).heap.size w' v (turnL X k) ∧ Gr (w4.drew.alloc (.cells #[.slice (some ⟨g, o + k, none⟩) (m - k) (c1 - k), .slice (some ⟨g, o, none⟩) k c1, .slice (some ⟨g, o, none⟩) 1 c1] 35)) w' := by
      rw [← flat3]
      exact sl_Concat w4.heap.size [X.drop k, X.take k, X.take 1] 3 _ hPA (by simp) hfp (by omega)
    have HCC := Lib.hid hCC
    have HGA := Lib.hid (Gr.trans HG4.out hGA)
    have HTL := Lib.hid (show (turnL X k).length ≤ 1000 by rw [← flat3]; exact hfl)
    clear hCC hPA hGA hfl hfp h0
    go_wp2_with fail
    have hS0 : (fun _ : World => True) w4.drew := trivial
    refine wp_region_held (S := fun _ : World => True) (by kernel_rfl) ?_
    refine wpAnyH_take (i := 0) (v := .slice (some ⟨g, o, none⟩) m c1) rfl (by kernel_rfl) (by kernel_rfl) (by kernel_rfl) (fun _ _ _ h => h) (Or.inl ⟨by rfl, ?_⟩) hS0 ?_
    · intro w hSw; go_simp
    try simp only [Act.put, List.getElem_toArray, List.getElem_cons_succ, List.getElem_cons_zero, List.setIfInBounds_toArray, List.set_cons_zero, List.set_cons_succ]
    refine wpAnyH_take (i := 1) (v := .int .i64 (k : Nat)) rfl (by kernel_rfl) (by kernel_rfl) (by kernel_rfl) (fun _ _ _ h => h) (Or.inl ⟨by rfl, ?_⟩) hS0 ?_
    · intro w hSw; go_simp
    try simp only [Act.put, List.getElem_toArray, List.getElem_cons_succ, List.getElem_cons_zero, List.setIfInBounds_toArray, List.set_cons_zero, List.set_cons_succ]
    refine wpAnyH_take (i := 2) (v := .slice (some ⟨g, o + k, none⟩) (m - k) (c1 - k)) rfl (by kernel_rfl) (by kernel_rfl) (by kernel_rfl) (fun _ _ _ h => h) (Or.inl ⟨by rfl, ?_⟩) hS0 ?_
    · intro w hSw; go_simp; try rw [if_pos hkm1, if_neg hck]
    try simp only [Act.put, List.getElem_toArray, List.getElem_cons_succ, List.getElem_cons_zero, List.setIfInBounds_toArray, List.set_cons_zero, List.set_cons_succ]
    refine wpAnyH_take (i := 3) (v := .slice (some ⟨g, o, none⟩) m c1) rfl (by kernel_rfl) (by kernel_rfl) (by kernel_rfl) (fun _ _ _ h => h) (Or.inl ⟨by rfl, ?_⟩) hS0 ?_
    · intro w hSw; go_simp
    try simp only [Act.put, List.getElem_toArray, List.getElem_cons_succ, List.getElem_cons_zero, List.setIfInBounds_toArray, List.set_cons_zero, List.set_cons_succ]
    refine wpAnyH_take (i := 4) (v := .int .i64 (k : Nat)) rfl (by kernel_rfl) (by kernel_rfl) (by kernel_rfl) (fun _ _ _ h => h) (Or.inl ⟨by rfl, ?_⟩) hS0 ?_
    · intro w hSw; go_simp
    try simp only [Act.put, List.getElem_toArray, List.getElem_cons_succ, List.getElem_cons_zero, List.setIfInBounds_toArray, List.set_cons_zero, List.set_cons_succ]
    refine wpAnyH_take (i := 5) (v := .slice (some ⟨g, o, none⟩) k c1) rfl (by kernel_rfl) (by kernel_rfl) (by kernel_rfl) (fun _ _ _ h => h) (Or.inl ⟨by rfl, ?_⟩) hS0 ?_
    · intro w hSw; go_simp; intro h; omega
    try simp only [Act.put, List.getElem_toArray, List.getElem_cons_succ, List.getElem_cons_zero, List.setIfInBounds_toArray, List.set_cons_zero, List.set_cons_succ]
    refine wpAnyH_take (i := 6) (v := .slice (some ⟨g, o, none⟩) m c1) rfl (by kernel_rfl) (by kernel_rfl) (by kernel_rfl) (fun _ _ _ h => h) (Or.inl ⟨by rfl, ?_⟩) hS0 ?_
    · intro w hSw; go_simp
    try simp only [Act.put, List.getElem_toArray, List.getElem_cons_succ, List.getElem_cons_zero, List.setIfInBounds_toArray, List.set_cons_zero, List.set_cons_succ]
    refine wpAnyH_take (i := 7) (v := .slice (some ⟨g, o, none⟩) 1 c1) rfl (by kernel_rfl) (by kernel_rfl) (by kernel_rfl) (fun _ _ _ h => h) (Or.inl ⟨by rfl, ?_⟩) hS0 ?_
    · intro w hSw; go_simp; intro h; omega
    try simp only [Act.put, List.getElem_toArray, List.getElem_cons_succ, List.getElem_cons_zero, List.setIfInBounds_toArray, List.set_cons_zero, List.set_cons_succ]
    refine wpAnyH_ready (rs := [8]) (by kernel_rfl) (by simp) (AllReadyH.cons rfl (fun K' hK' => ?_) AllReadyH.nil)
    go_simp
    skip
    refine hK'.out _ _ trivial (fun hS1 => ?_)
    clear hK' K'
    try simp only [Act.put, List.getElem_toArray, List.getElem_cons_succ, List.getElem_cons_zero, List.setIfInBounds_toArray, List.set_cons_zero, List.set_cons_succ]
    refine wpAnyH_ready (rs := [9]) (by kernel_rfl) (by simp) (AllReadyH.cons rfl (fun K' hK' => ?_) AllReadyH.nil)
    go_simp
    refine HCC.out.mono ?_; rintro e w6 ⟨v6, rfl, ho6, hg6⟩
    obtain ⟨b6, c6, rfl, hr6, hz6⟩ := ho6.shape2
    have HG6 := Lib.hid (Gr.trans HGA.out hg6)
    have HR6 := Lib.hid hr6
    have HZ6 := Lib.hid hz6
    clear ho6 hg6 hr6 hz6 HCC HGA
    refine hK'.out _ _ trivial (fun hS1 => ?_)
    clear hK' K'
    try simp only [Act.put, List.getElem_toArray, List.getElem_cons_succ, List.getElem_cons_zero, List.setIfInBounds_toArray, List.set_cons_zero, List.set_cons_succ]
    refine wpAnyH_ready (rs := [10]) (by kernel_rfl) (by simp) (AllReadyH.cons rfl (fun K' hK' => ?_) AllReadyH.nil)
    go_simp
    skip
    refine hK'.out _ _ trivial (fun hS1 => ?_)
    clear hK' K'
    try simp only [Act.put, List.getElem_toArray, List.getElem_cons_succ, List.getElem_cons_zero, List.setIfInBounds_toArray, List.set_cons_zero, List.set_cons_succ]
    refine wpAnyH_done (by kernel_rfl) ?_ _
    have HX : Hid (ofR (turnL X k) = (R, 0)) := Lib.hid (HOF.out (turnL X k) (fun _ => mem_turnL) HTL.out)
    have PO := Lib.hid (fun w' (hg : Gr w6 w') => ra_Of b6 (turnL X k) c6 w' (HR6.out.gr hg) HZ6.out (by have := HTL.out; omega))
    rw [HX.out] at PO
    simp only at PO
    clear HX HOF
    generalize (turnL X k).length = l6 at *
    go_wp2_with fail
    refine (PO.out _ (Gr.refl _)).mono ?_; rintro e w7 ⟨v, rfl, ho, hg⟩
    have HG7 := Lib.hid (Gr.trans HG6.out hg)
    obtain ⟨b, c, rfl, hE⟩ := EQ.out w7 _ w7 v HG7.out ho
    have HE := Lib.hid hE
    clear hg ho hE HG6 PO EQ
    go_wp2_with fail
    refine HE.out.mono ?_; rintro e w8 ⟨rfl, hg⟩
    have HG8 := Lib.hid (Gr.trans HG7.out hg)
    clear hg HG7 HE
    go_wp2_with fail
    refine (AW.out _ HG8.out).mono ?_; rintro e w9 ⟨rfl, hg⟩
    have HG9 := Lib.hid (Gr.trans HG8.out hg)
    clear hg
    go_wp2
    go_ret
    exact ⟨rfl, HG9.out⟩
set_option maxRecDepth 100000 in
set_option maxHeartbeats 2000000 in
theorem l6_RangesLists {w0 : World} {a : Option Addr} {R : List (Int × Int)} {cap : Nat} {tn : Int} (htab : Tab w0) (hR : RngAt w0 a R) (hcap : a = none → cap = 0) (hp : ∀ p o, a = some ⟨p, o, none⟩ → p < w0.heap.size) (hb : R.length ≤ 10000000000000) (htn : 0 ≤ tn ∧ tn ≤ 255) (w : World) (hg : Gr w0 w) :
    Calls Tryd.prog 9 #[.slice a R.length cap, .int .u8 tn] w fun e w' => e = .returned (.bool true) ∧ Gr w w' := by
  obtain ⟨t, rfl⟩ : ∃ t : Nat, tn = t := ⟨tn.toNat, by omega⟩
  have AW := Lib.hid (fun w' (h : Gr w w') => l6_awake w' (htab_gr htab (Gr.trans hg h)))
  by_cases h1 : 60 < R.length
  · clear hR hcap hp
    generalize R.length = n at *
    have da : decide (60 < (n : Int)) = true := decide_eq_true (by omega)
    go_enter Tryd.func9, Tryd.ntmps9
    go_wp2_with fail
    refine (AW.out _ (Gr.refl w)).mono ?_; rintro e w1 ⟨rfl, hg⟩
    have HG := Lib.hid hg
    clear hg
    go_wp2
    go_ret
    exact ⟨rfl, HG.out⟩
  · by_cases h0 : checkR R = 0
    · exact l6_Lists_ok a R cap t w (htab_gr htab hg) (hR.gr hg) hcap (fun p o e => Nat.lt_of_lt_of_le (hp p o e) hg.size) (by omega) h0 (by omega)
    · have PK := Lib.hid (ra_Check a R cap w (hR.gr hg) hcap (by omega))
      clear hR hcap hp
      generalize checkR R = v at *
      have hv : (v == 0) = false := by rw [beq_eq_false_iff_ne]; exact h0
      generalize R.length = n at *
      have da : decide (60 < (n : Int)) = false := decide_eq_false (by omega)
      go_enter Tryd.func9, Tryd.ntmps9
      go_wp2_with fail
      refine PK.out.mono ?_; rintro e w1 ⟨rfl, hg1⟩
      have HG1 := Lib.hid hg1
      clear hg1
      go_wp2_with fail
      refine (AW.out _ HG1.out).mono ?_; rintro e w2 ⟨rfl, hg2⟩
      have HG2 := Lib.hid (Gr.trans HG1.out hg2)
      clear hg2
      go_wp2
      go_ret
      exact ⟨rfl, HG2.out⟩
end Go.Proofs.YtifccpdkpgfnlaaDoor
