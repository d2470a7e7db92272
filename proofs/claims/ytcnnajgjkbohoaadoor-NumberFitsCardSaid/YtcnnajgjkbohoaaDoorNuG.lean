/- Law 5: what is between two numbers fits. -/
import Derived.Test.YtcnnajgjkbohoaaDoorNuF
set_option linter.unusedVariables false
set_option linter.unusedSimpArgs false
namespace Go.Proofs.YtcnnajgjkbohoaaDoor
open Go.RowKit Go.Shelf
open Z

theorem bet_parts {x y k : Nat} (h : betO x y = some k) : ∃ u, u ≤ 3 ∧ k = upN x (unitU u) ∧ k < y ∧ ∀ j, j < u → ¬ upN x (unitU j) < y := by
  rw [betO_eq] at h
  by_cases h0 : upN x (unitU 0) < y
  · rw [if_pos h0] at h; cases h; exact ⟨0, by omega, rfl, h0, fun j hj => absurd hj (by omega)⟩
  · rw [if_neg h0] at h
    by_cases h1 : upN x (unitU 1) < y
    · rw [if_pos h1] at h; cases h
      exact ⟨1, by omega, rfl, h1, fun j hj => by obtain rfl : j = 0 := by omega
                                                  exact h0⟩
    · rw [if_neg h1] at h
      by_cases h2 : upN x (unitU 2) < y
      · rw [if_pos h2] at h; cases h
        refine ⟨2, by omega, rfl, h2, fun j hj => ?_⟩
        have : j = 0 ∨ j = 1 := by omega
        rcases this with rfl | rfl
        · exact h0
        · exact h1
      · rw [if_neg h2] at h
        by_cases h3 : upN x (unitU 3) < y
        · rw [if_pos h3] at h; cases h
          refine ⟨3, by omega, rfl, h3, fun j hj => ?_⟩
          have : j = 0 ∨ j = 1 ∨ j = 2 := by omega
          rcases this with rfl | rfl | rfl
          · exact h0
          · exact h1
          · exact h2
        · rw [if_neg h3] at h; cases h
theorem up_least {x k u : Nat} (hu : 0 < u) (hk : x < k) (hm : k % u = 0) : upN x u ≤ k := by
  obtain ⟨c, rfl⟩ := Nat.dvd_of_mod_eq_zero hm
  unfold upN
  rw [Nat.mul_comm u c]
  apply Nat.mul_le_mul_right
  have : x / u < c := Nat.div_lt_of_lt_mul hk
  omega
theorem up_mod (x u : Nat) : upN x u % u = 0 := by unfold upN; exact Nat.mul_mod_left _ _
/-- as many decimals as there must be -/
theorem bet_dec {x y k : Nat} (h : betO x y = some k) : k ≤ x + unitU (decC k) ∧ (0 < decC k → y ≤ upN x (unitU (decC k - 1))) := by
  obtain ⟨u, hu, hk, hy, hn⟩ := bet_parts h
  have hgt := (betO_some h).1
  have big : ∀ j, j < u → j ≤ 3 → k % unitU j ≠ 0 := fun j hj hj3 e => by
    have h1 := up_least (u := unitU j) (by have := (unit_next hj3).2.1; omega) hgt e
    exact hn j hj (by omega)
  have hm : k % unitU u = 0 := by rw [hk]; exact up_mod _ _
  have hd : decC k = u := by
    have hu4 : u = 0 ∨ u = 1 ∨ u = 2 ∨ u = 3 := by omega
    unfold decC
    rcases hu4 with rfl | rfl | rfl | rfl
    · rw [if_pos (show k % 1000 = 0 from hm)]
    · rw [if_neg (show ¬ k % 1000 = 0 from big 0 (by omega) (by omega)), if_pos (show k % 100 = 0 from hm)]
    · rw [if_neg (show ¬ k % 1000 = 0 from big 0 (by omega) (by omega)), if_neg (show ¬ k % 100 = 0 from big 1 (by omega) (by omega)), if_pos (show k % 10 = 0 from hm)]
    · rw [if_neg (show ¬ k % 1000 = 0 from big 0 (by omega) (by omega)), if_neg (show ¬ k % 100 = 0 from big 1 (by omega) (by omega)), if_neg (show ¬ k % 10 = 0 from big 2 (by omega) (by omega))]
  rw [hd]
  refine ⟨?_, fun h0 => ?_⟩
  · have := (upN_gt x (unitU u) (by have := (unit_next hu).2.1; omega)).2
    omega
  · have := hn (u - 1) (by omega)
    omega
theorem nuT_size (n : Nat) : (nuT n).length = (before (nuT n)).length + (if n % 1000 = 0 then 0 else 1 + decC n) := by
  rw [nuT_parts.1]
  unfold nuT
  by_cases h : n % 1000 = 0
  · rw [if_pos h, if_pos h, List.append_nil]; rfl
  · rw [if_neg h, if_neg h, List.length_append, List.length_cons, (decsN_facts h).2.1]; omega
set_option maxHeartbeats 1000000 in
set_option maxRecDepth 100000 in
theorem l5_decimals (n : Nat) (w : World) (hn : n ≤ 9999999) :
    Calls Tryd.prog 29 #[.string (str (nuT n))] w fun e w' => e = .returned (.int .i64 (decC n : Nat)) ∧ w = w' := by
  have HI := Lib.hid (fun w => Tryd.strings_IndexByte (str (nuT n)) 46 w)
  rw [data_str, show (46 : Int).toNat.toUInt8 = 46 from rfl] at HI
  have hsz := nuT_size n
  have hz : (str (nuT n)).size = (nuT n).length := str_size _
  have hl := nuT_len hn
  have hdt := (nuT_parts (n := n)).2.1
  have hd3 := decC_le n
  rcases nu_indexDot (nuT n) with ⟨h1, h2, h3, -, -⟩ | ⟨h1, h2, -⟩
  · rw [h2] at HI
    have hne : ¬ n % 1000 = 0 := by rw [h1] at hdt; simpa using hdt
    rw [if_neg hne] at hsz
    rw [hsz] at hz
    have hr : ((before (nuT n)).length + (1 + decC n) : Int) - ((before (nuT n)).length : Int) - 1 = (decC n : Int) := by omega
    have hb8 : (before (nuT n)).length ≤ 8 := by omega
    clear h1 h2 h3 hdt hsz hl hne
    generalize str (nuT n) = s at *
    generalize (before (nuT n)).length = b at *
    generalize decC n = d at *
    obtain ⟨z, hzz⟩ : ∃ z, z = b + (1 + d) := ⟨_, rfl⟩
    rw [← hzz] at hz
    have hr2 : (z : Int) - (b : Int) - 1 = (d : Int) := by omega
    have hz16 : z ≤ 16 := by omega
    clear hr hzz
    go_enter Tryd.func29, Tryd.ntmps29
    go_wp2_with fail
    refine (HI.out _).mono ?_; rintro e w' ⟨rfl, rfl⟩
    go_wp2
    go_ret
    exact ⟨rfl, rfl⟩
  · rw [h2] at HI
    have he : n % 1000 = 0 := by rw [h1] at hdt; simpa using hdt
    have hd0 : decC n = 0 := by unfold decC; rw [if_pos he]
    rw [hd0]
    clear h1 h2 hdt hsz hz hl hd3 he hd0
    generalize str (nuT n) = s at *
    go_enter Tryd.func29, Tryd.ntmps29
    go_wp2_with fail
    refine (HI.out _).mono ?_; rintro e w' ⟨rfl, rfl⟩
    go_wp2
    go_ret
    exact ⟨rfl, rfl⟩
theorem units_at (w : World) (t : TypeId) : ∀ q, q ≤ 3 → (w.alloc (.cells #[.int .i64 1000, .int .i64 100, .int .i64 10, .int .i64 1] t)).cell? ⟨w.heap.size, q, none⟩ = some (.int .i64 (unitU q : Nat)) := fun q hq => by
  rw [World.cell?_alloc_at _ _ _ _ rfl]
  match q, hq with
  | 0, _ => rfl
  | 1, _ => rfl
  | 2, _ => rfl
  | 3, _ => rfl
section
variable {w0 : World} (htab : Tab w0)
include htab
set_option maxHeartbeats 4000000 in
set_option maxRecDepth 100000 in
theorem l5_NumberFits {u v : Int} (hu : 0 ≤ u ∧ u ≤ 4294967295) (hv : 0 ≤ v ∧ v ≤ 4294967295) : Ret w0 10 #[.int .u32 u, .int .u32 v] (.bool true) := by
  have AW : Hid (∀ w, Gr w0 w → Calls Tryd.prog 13 #[] w fun e w' => e = .returned (.bool true) ∧ Gr w w') := Lib.hid fun w hg => l5_awake (htab_gr htab hg) w (Gr.refl w)
  obtain ⟨hu0, hu1⟩ := hu
  obtain ⟨hv0, hv1⟩ := hv
  obtain ⟨r, i, hm, hr, hi, i1, i2⟩ := u32_part hu0 hu1
  obtain ⟨r2, j, hn, hq, hj, j1, j2⟩ := u32_part hv0 hv1
  obtain ⟨lo, hlo⟩ : ∃ lo, lo = min i j := ⟨_, rfl⟩
  obtain ⟨hI, hhi⟩ : ∃ hi, hi = max i j := ⟨_, rfl⟩
  have l1 : 1 ≤ lo := by omega
  have l2 : lo ≤ 9999999 := by omega
  have h1 : 1 ≤ hI := by omega
  have h2 : hI ≤ 9999999 := by omega
  have hmn : min (i : Int) (j : Int) = (lo : Int) := by omega
  have hmx : max (i : Int) (j : Int) = (hI : Int) := by omega
  have hle : lo ≤ hI := by omega
  have heq : lo = hI ↔ i = j := by omega
  have C1 := Lib.hid (retn_Named htab l1 l2)
  have C2 := Lib.hid (retn_Named htab h1 h2)
  have s1 := text_small l2
  have s2 := text_small h2
  have C3 := retn_Between htab (s := str (nuT lo)) (t := str (nuT hI)) (by omega) (by omega)
  rw [data_str, data_str] at C3
  have hbet : betN (nuT lo) (nuT hI) = if hI ≤ lo then ([], 9) else betV lo hI := by
    unfold betN
    rw [if_pos (by unfold both2; rw [if_pos (nu_text l1 l2).1]; exact (nu_text h1 h2).1), (nu_text l1 l2).2, (nu_text h1 h2).2]
  rw [hbet] at C3
  have CT := Lib.hid (fun (k : Nat) (k1 : 1 ≤ k) (k2 : k ≤ 9999999) => retn_TN (w0 := w0) k1 k2)
  have CD := Lib.hid (fun (k : Nat) (k2 : k ≤ 9999999) w => l5_decimals k w k2)
  clear htab s1 s2 hbet hlo hhi
  generalize str (nuT lo) = s at *
  generalize str (nuT hI) = t at *
  by_cases hsame : hI ≤ lo
  · rw [if_pos hsame] at C3
    have C3 := Lib.hid C3
    unfold vTI at C3
    simp only at C3
    have hij : (i : Int) = (j : Int) := by omega
    have hijb : ((i : Int) == (j : Int)) = true := by rw [beq_iff_eq]; exact hij
    have hdf : ((hI : Int) - (lo : Int) == 1) = false := by rw [beq_eq_false_iff_ne]; omega
    have hlh : (lo : Int) ≤ (hI : Int) := by omega
    clear CT CD heq hij
    intro w hg
    have HG := Lib.hid hg; clear hg
    go_enter Tryd.func10, Tryd.ntmps10
    go_wp2_with fail
    refine (C1.out _ HG.out).mono ?_; rintro e w1 ⟨rfl, hg⟩
    replace HG := Lib.hid hg; clear hg
    go_wp2_with fail
    refine (C2.out _ HG.out).mono ?_; rintro e w2 ⟨rfl, hg⟩
    replace HG := Lib.hid hg; clear hg
    go_wp2_with fail
    refine (C3.out _ HG.out).mono ?_; rintro e w3 ⟨rfl, hg⟩
    replace HG := Lib.hid hg; clear hg
    go_wp2_with fail
    refine (AW.out _ HG.out).mono ?_; rintro e w4 ⟨rfl, hg⟩
    replace HG := Lib.hid (Gr.trans HG.out hg); clear hg
    go_wp2
    go_ret
    exact ⟨rfl, HG.out⟩
  · rw [if_neg hsame] at C3
    have hijb : ((i : Int) == (j : Int)) = false := by rw [beq_eq_false_iff_ne]; omega
    cases hb : betO lo hI with
    | none =>
      have hv12 : betV lo hI = ([], 12) := by unfold betV; rw [hb]
      rw [hv12] at C3
      have C3 := Lib.hid C3
      unfold vTI at C3
      simp only at C3
      have hn1 := (betO_none (by omega)).1 hb
      have hdf : ((hI : Int) - (lo : Int) == 1) = true := by rw [beq_iff_eq]; omega
      clear CT CD heq hn1 hv12 hb
      intro w hg
      have HG := Lib.hid hg; clear hg
      go_enter Tryd.func10, Tryd.ntmps10
      go_wp2_with fail
      refine (C1.out _ HG.out).mono ?_; rintro e w1 ⟨rfl, hg⟩
      replace HG := Lib.hid hg; clear hg
      go_wp2_with fail
      refine (C2.out _ HG.out).mono ?_; rintro e w2 ⟨rfl, hg⟩
      replace HG := Lib.hid hg; clear hg
      go_wp2_with fail
      refine (C3.out _ HG.out).mono ?_; rintro e w3 ⟨rfl, hg⟩
      replace HG := Lib.hid hg; clear hg
      go_wp2_with fail
      refine (AW.out _ HG.out).mono ?_; rintro e w4 ⟨rfl, hg⟩
      replace HG := Lib.hid (Gr.trans HG.out hg); clear hg
      go_wp2
      go_ret
      exact ⟨rfl, HG.out⟩
    | some k =>
      have hvk : betV lo hI = (nuT k, 0) := by unfold betV; rw [hb]
      rw [hvk] at C3
      have C3 := Lib.hid C3
      unfold vTI at C3
      simp only at C3
      obtain ⟨k1, k2⟩ := betO_some hb
      obtain ⟨d1, d2⟩ := bet_dec hb
      have C4 := Lib.hid (CT.out k (by omega) (by omega))
      have C5 := Lib.hid (CD.out k (by omega))
      have hd3 := decC_le k
      have hu3 := (unit_next hd3).2
      clear CT CD heq hvk hb
      generalize str (nuT k) = mt at *
      generalize hdd : decC k = d at *
      have hk9 : k ≤ 9999999 := by omega
      clear hdd
      intro w hg
      have HG := Lib.hid hg; clear hg
      by_cases hd0 : d = 0
      · have hdz : ((d : Int) == 0) = true := by rw [beq_iff_eq]; omega
        go_enter Tryd.func10, Tryd.ntmps10
        go_wp2_with fail
        refine (C1.out _ HG.out).mono ?_; rintro e w1 ⟨rfl, hg⟩
        replace HG := Lib.hid hg; clear hg
        go_wp2_with fail
        refine (C2.out _ HG.out).mono ?_; rintro e w2 ⟨rfl, hg⟩
        replace HG := Lib.hid hg; clear hg
        go_wp2_with fail
        refine (C3.out _ HG.out).mono ?_; rintro e w3 ⟨rfl, hg⟩
        replace HG := Lib.hid hg; clear hg
        go_wp2_with fail
        refine (C4.out _ HG.out).mono ?_; rintro e w4 ⟨rfl, hg⟩
        replace HG := Lib.hid hg; clear hg
        have HU := Lib.hid (units_at w4 50)
        have HGu := Lib.hid (HG.out.alloc (.cells #[.int .i64 1000, .int .i64 100, .int .i64 10, .int .i64 1] 50))
        go_wp2_with fail
        refine (C5.out _).mono ?_; rintro e w' ⟨rfl, rfl⟩
        have hcd := HU.out d hd3
        have hgd : Gr w0 (w4.alloc (.cells #[.int .i64 1000, .int .i64 100, .int .i64 10, .int .i64 1] 50)).drew := HGu.out.drew
        have hS0 : (fun _ : World => True) (w4.alloc (.cells #[.int .i64 1000, .int .i64 100, .int .i64 10, .int .i64 1] 50)).drew := trivial
        go_wp2_with fail
        refine wp_region_held (S := fun _ : World => True) (by kernel_rfl) ?_
        refine wpAnyH_take (i := 0) (v := .int .i64 0) rfl (by kernel_rfl) (by kernel_rfl) (by kernel_rfl) (fun _ _ _ h => h) (Or.inl ⟨by rfl, ?_⟩) hS0 ?_
        · intro w hSw; go_simp
        try simp only [Act.put, List.getElem_toArray, List.getElem_cons_succ, List.getElem_cons_zero, List.setIfInBounds_toArray, List.set_cons_zero, List.set_cons_succ]
        refine wpAnyH_take (i := 1) (v := .bool true) rfl (by kernel_rfl) (by kernel_rfl) (by kernel_rfl) (fun _ _ _ h => h) (Or.inl ⟨by rfl, ?_⟩) hS0 ?_
        · intro w hSw; go_simp
        try simp only [Act.put, List.getElem_toArray, List.getElem_cons_succ, List.getElem_cons_zero, List.setIfInBounds_toArray, List.set_cons_zero, List.set_cons_succ]
        refine wpAnyH_take (i := 2) (v := .bool true) rfl (by kernel_rfl) (by kernel_rfl) (by kernel_rfl) (fun _ _ _ h => h) (Or.inl ⟨by rfl, ?_⟩) hS0 ?_
        · intro w hSw; go_simp
        try simp only [Act.put, List.getElem_toArray, List.getElem_cons_succ, List.getElem_cons_zero, List.setIfInBounds_toArray, List.set_cons_zero, List.set_cons_succ]
        refine wpAnyH_take (i := 3) (v := undef) rfl (by kernel_rfl) (by kernel_rfl) (by kernel_rfl) (fun _ _ _ h => h) (Or.inr ⟨by kernel_rfl, rfl⟩) hS0 ?_
        try simp only [Act.put, List.getElem_toArray, List.getElem_cons_succ, List.getElem_cons_zero, List.setIfInBounds_toArray, List.set_cons_zero, List.set_cons_succ]
        refine wpAnyH_take (i := 4) (v := undef) rfl (by kernel_rfl) (by kernel_rfl) (by kernel_rfl) (fun _ _ _ h => h) (Or.inr ⟨by kernel_rfl, rfl⟩) hS0 ?_
        try simp only [Act.put, List.getElem_toArray, List.getElem_cons_succ, List.getElem_cons_zero, List.setIfInBounds_toArray, List.set_cons_zero, List.set_cons_succ]
        refine wpAnyH_take (i := 5) (v := undef) rfl (by kernel_rfl) (by kernel_rfl) (by kernel_rfl) (fun _ _ _ h => h) (Or.inr ⟨by kernel_rfl, rfl⟩) hS0 ?_
        try simp only [Act.put, List.getElem_toArray, List.getElem_cons_succ, List.getElem_cons_zero, List.setIfInBounds_toArray, List.set_cons_zero, List.set_cons_succ]
        refine wpAnyH_take (i := 6) (v := undef) rfl (by kernel_rfl) (by kernel_rfl) (by kernel_rfl) (fun _ _ _ h => h) (Or.inr ⟨by kernel_rfl, rfl⟩) hS0 ?_
        try simp only [Act.put, List.getElem_toArray, List.getElem_cons_succ, List.getElem_cons_zero, List.setIfInBounds_toArray, List.set_cons_zero, List.set_cons_succ]
        refine wpAnyH_take (i := 7) (v := undef) rfl (by kernel_rfl) (by kernel_rfl) (by kernel_rfl) (fun _ _ _ h => h) (Or.inr ⟨by kernel_rfl, rfl⟩) hS0 ?_
        try simp only [Act.put, List.getElem_toArray, List.getElem_cons_succ, List.getElem_cons_zero, List.setIfInBounds_toArray, List.set_cons_zero, List.set_cons_succ]
        refine wpAnyH_take (i := 8) (v := undef) rfl (by kernel_rfl) (by kernel_rfl) (by kernel_rfl) (fun _ _ _ h => h) (Or.inr ⟨by kernel_rfl, rfl⟩) hS0 ?_
        try simp only [Act.put, List.getElem_toArray, List.getElem_cons_succ, List.getElem_cons_zero, List.setIfInBounds_toArray, List.set_cons_zero, List.set_cons_succ]
        refine wpAnyH_take (i := 9) (v := undef) rfl (by kernel_rfl) (by kernel_rfl) (by kernel_rfl) (fun _ _ _ h => h) (Or.inr ⟨by kernel_rfl, rfl⟩) hS0 ?_
        try simp only [Act.put, List.getElem_toArray, List.getElem_cons_succ, List.getElem_cons_zero, List.setIfInBounds_toArray, List.set_cons_zero, List.set_cons_succ]
        refine wpAnyH_take (i := 10) (v := undef) rfl (by kernel_rfl) (by kernel_rfl) (by kernel_rfl) (fun _ _ _ h => h) (Or.inr ⟨by kernel_rfl, rfl⟩) hS0 ?_
        try simp only [Act.put, List.getElem_toArray, List.getElem_cons_succ, List.getElem_cons_zero, List.setIfInBounds_toArray, List.set_cons_zero, List.set_cons_succ]
        refine wpAnyH_take (i := 11) (v := undef) rfl (by kernel_rfl) (by kernel_rfl) (by kernel_rfl) (fun _ _ _ h => h) (Or.inr ⟨by kernel_rfl, rfl⟩) hS0 ?_
        try simp only [Act.put, List.getElem_toArray, List.getElem_cons_succ, List.getElem_cons_zero, List.setIfInBounds_toArray, List.set_cons_zero, List.set_cons_succ]
        refine wpAnyH_take (i := 12) (v := undef) rfl (by kernel_rfl) (by kernel_rfl) (by kernel_rfl) (fun _ _ _ h => h) (Or.inr ⟨by kernel_rfl, rfl⟩) hS0 ?_
        try simp only [Act.put, List.getElem_toArray, List.getElem_cons_succ, List.getElem_cons_zero, List.setIfInBounds_toArray, List.set_cons_zero, List.set_cons_succ]
        refine wpAnyH_take (i := 13) (v := undef) rfl (by kernel_rfl) (by kernel_rfl) (by kernel_rfl) (fun _ _ _ h => h) (Or.inr ⟨by kernel_rfl, rfl⟩) hS0 ?_
        try simp only [Act.put, List.getElem_toArray, List.getElem_cons_succ, List.getElem_cons_zero, List.setIfInBounds_toArray, List.set_cons_zero, List.set_cons_succ]
        refine wpAnyH_take (i := 14) (v := undef) rfl (by kernel_rfl) (by kernel_rfl) (by kernel_rfl) (fun _ _ _ h => h) (Or.inr ⟨by kernel_rfl, rfl⟩) hS0 ?_
        try simp only [Act.put, List.getElem_toArray, List.getElem_cons_succ, List.getElem_cons_zero, List.setIfInBounds_toArray, List.set_cons_zero, List.set_cons_succ]
        refine wpAnyH_take (i := 15) (v := undef) rfl (by kernel_rfl) (by kernel_rfl) (by kernel_rfl) (fun _ _ _ h => h) (Or.inr ⟨by kernel_rfl, rfl⟩) hS0 ?_
        try simp only [Act.put, List.getElem_toArray, List.getElem_cons_succ, List.getElem_cons_zero, List.setIfInBounds_toArray, List.set_cons_zero, List.set_cons_succ]
        refine wpAnyH_take (i := 16) (v := undef) rfl (by kernel_rfl) (by kernel_rfl) (by kernel_rfl) (fun _ _ _ h => h) (Or.inr ⟨by kernel_rfl, rfl⟩) hS0 ?_
        try simp only [Act.put, List.getElem_toArray, List.getElem_cons_succ, List.getElem_cons_zero, List.setIfInBounds_toArray, List.set_cons_zero, List.set_cons_succ]
        refine wpAnyH_take (i := 17) (v := undef) rfl (by kernel_rfl) (by kernel_rfl) (by kernel_rfl) (fun _ _ _ h => h) (Or.inr ⟨by kernel_rfl, rfl⟩) hS0 ?_
        try simp only [Act.put, List.getElem_toArray, List.getElem_cons_succ, List.getElem_cons_zero, List.setIfInBounds_toArray, List.set_cons_zero, List.set_cons_succ]
        refine wpAnyH_take (i := 18) (v := undef) rfl (by kernel_rfl) (by kernel_rfl) (by kernel_rfl) (fun _ _ _ h => h) (Or.inr ⟨by kernel_rfl, rfl⟩) hS0 ?_
        try simp only [Act.put, List.getElem_toArray, List.getElem_cons_succ, List.getElem_cons_zero, List.setIfInBounds_toArray, List.set_cons_zero, List.set_cons_succ]
        refine wpAnyH_take (i := 19) (v := undef) rfl (by kernel_rfl) (by kernel_rfl) (by kernel_rfl) (fun _ _ _ h => h) (Or.inr ⟨by kernel_rfl, rfl⟩) hS0 ?_
        try simp only [Act.put, List.getElem_toArray, List.getElem_cons_succ, List.getElem_cons_zero, List.setIfInBounds_toArray, List.set_cons_zero, List.set_cons_succ]
        refine wpAnyH_take (i := 20) (v := undef) rfl (by kernel_rfl) (by kernel_rfl) (by kernel_rfl) (fun _ _ _ h => h) (Or.inr ⟨by kernel_rfl, rfl⟩) hS0 ?_
        try simp only [Act.put, List.getElem_toArray, List.getElem_cons_succ, List.getElem_cons_zero, List.setIfInBounds_toArray, List.set_cons_zero, List.set_cons_succ]
        refine wpAnyH_take (i := 21) (v := .bool true) rfl (by kernel_rfl) (by kernel_rfl) (by kernel_rfl) (fun _ _ _ h => h) (Or.inl ⟨by rfl, ?_⟩) hS0 ?_
        · intro w hSw; go_simp
        try simp only [Act.put, List.getElem_toArray, List.getElem_cons_succ, List.getElem_cons_zero, List.setIfInBounds_toArray, List.set_cons_zero, List.set_cons_succ]
        refine wpAnyH_take (i := 22) (v := .bool true) rfl (by kernel_rfl) (by kernel_rfl) (by kernel_rfl) (fun _ _ _ h => h) (Or.inl ⟨by rfl, ?_⟩) hS0 ?_
        · intro w hSw; go_simp
        try simp only [Act.put, List.getElem_toArray, List.getElem_cons_succ, List.getElem_cons_zero, List.setIfInBounds_toArray, List.set_cons_zero, List.set_cons_succ]
        refine wpAnyH_ready (rs := [23]) (by kernel_rfl) (by simp) (AllReadyH.cons rfl (fun K' hK' => ?_) AllReadyH.nil)
        go_simp
        refine (AW.out _ hgd).mono ?_; rintro e w8 ⟨rfl, hg8⟩
        refine hK'.out _ _ trivial (fun hS1 => ?_)
        clear hK' K'
        try simp only [Act.put, List.getElem_toArray, List.getElem_cons_succ, List.getElem_cons_zero, List.setIfInBounds_toArray, List.set_cons_zero, List.set_cons_succ]
        refine wpAnyH_take (i := 24) (v := .bool true) rfl (by kernel_rfl) (by kernel_rfl) (by kernel_rfl) (fun _ _ _ h => h) (Or.inl ⟨by rfl, ?_⟩) hS1 ?_
        · intro w hSw; go_simp
        try simp only [Act.put, List.getElem_toArray, List.getElem_cons_succ, List.getElem_cons_zero, List.setIfInBounds_toArray, List.set_cons_zero, List.set_cons_succ]
        refine wpAnyH_take (i := 25) (v := .bool true) rfl (by kernel_rfl) (by kernel_rfl) (by kernel_rfl) (fun _ _ _ h => h) (Or.inl ⟨by rfl, ?_⟩) hS1 ?_
        · intro w hSw; go_simp
        try simp only [Act.put, List.getElem_toArray, List.getElem_cons_succ, List.getElem_cons_zero, List.setIfInBounds_toArray, List.set_cons_zero, List.set_cons_succ]
        refine wpAnyH_done (by kernel_rfl) ?_ _
        go_wp2
        go_ret
        exact ⟨rfl, Gr.trans hgd hg8⟩
      · have hdz : ((d : Int) == 0) = false := by rw [beq_eq_false_iff_ne]; omega
        obtain ⟨d1', hd1'⟩ : ∃ d1, d = d1 + 1 := ⟨d - 1, by omega⟩
        have hup := d2 (by omega)
        rw [show d - 1 = d1' by omega] at hup
        have hu1 := (unit_next (show d1' ≤ 3 by omega)).2
        obtain ⟨p1, p2, p3, p4⟩ := up_parts lo (unitU d1') hu1.1
        have hwd : IntKind.i64.wrap ((d : Int) - 1) = (d1' : Int) := by rw [IntWalk.i64_in _ (by omega)]; omega
        have hd12 : d1' ≤ 2 := by omega
        clear d2 hd1' hd0
        go_enter Tryd.func10, Tryd.ntmps10
        go_wp2_with fail
        refine (C1.out _ HG.out).mono ?_; rintro e w1 ⟨rfl, hg⟩
        replace HG := Lib.hid hg; clear hg
        go_wp2_with fail
        refine (C2.out _ HG.out).mono ?_; rintro e w2 ⟨rfl, hg⟩
        replace HG := Lib.hid hg; clear hg
        go_wp2_with fail
        refine (C3.out _ HG.out).mono ?_; rintro e w3 ⟨rfl, hg⟩
        replace HG := Lib.hid hg; clear hg
        go_wp2_with fail
        refine (C4.out _ HG.out).mono ?_; rintro e w4 ⟨rfl, hg⟩
        replace HG := Lib.hid hg; clear hg
        have HU := Lib.hid (units_at w4 50)
        have HGu := Lib.hid (HG.out.alloc (.cells #[.int .i64 1000, .int .i64 100, .int .i64 10, .int .i64 1] 50))
        go_wp2_with fail
        refine (C5.out _).mono ?_; rintro e w' ⟨rfl, rfl⟩
        have hcd := HU.out d hd3
        have hcu : (w4.alloc (.cells #[.int .i64 1000, .int .i64 100, .int .i64 10, .int .i64 1] 50)).drew.cell? ⟨w4.heap.size, d1', none⟩ = some (.int .i64 (unitU d1' : Nat)) := HU.out d1' (by omega)
        obtain ⟨d1, hdd1⟩ : ∃ d1, d1 = d1' := ⟨_, rfl⟩
        rw [← hdd1] at hcu p1 p2 p3 p4 hwd hup hu1 hd12
        clear hdd1
        generalize unitU d1 = U at *
        generalize upN lo U = N at *
        generalize lo / U = q at *
        have hwq : IntKind.i64.wrap (q : Int) = (q : Int) := IntWalk.i64_in _ (by omega)
        have hwq1 : IntKind.i64.wrap ((q : Int) + 1) = (q : Int) + 1 := IntWalk.i64_in _ (by omega)
        have hwN : IntKind.i64.wrap (N : Int) = (N : Int) := IntWalk.i64_in _ (by omega)
        have hgd : Gr w0 (w4.alloc (.cells #[.int .i64 1000, .int .i64 100, .int .i64 10, .int .i64 1] 50)).drew := HGu.out.drew
        have hS0 : (fun w' : World => w'.cell? ⟨w4.heap.size, d1, none⟩ = some (.int .i64 (U : Int))) (w4.alloc (.cells #[.int .i64 1000, .int .i64 100, .int .i64 10, .int .i64 1] 50)).drew := hcu
        go_wp2_with fail
        refine wp_region_held (S := fun w' : World => w'.cell? ⟨w4.heap.size, d1, none⟩ = some (.int .i64 (U : Int))) (by kernel_rfl) ?_
        refine wpAnyH_take (i := 0) (v := .int .i64 (d : Int)) rfl (by kernel_rfl) (by kernel_rfl) (by kernel_rfl) (fun _ _ _ h => h) (Or.inl ⟨by rfl, ?_⟩) hS0 ?_
        · intro w hSw; obtain s1 := hSw; go_simp
        try simp only [Act.put, List.getElem_toArray, List.getElem_cons_succ, List.getElem_cons_zero, List.setIfInBounds_toArray, List.set_cons_zero, List.set_cons_succ]
        refine wpAnyH_take (i := 1) (v := .bool false) rfl (by kernel_rfl) (by kernel_rfl) (by kernel_rfl) (fun _ _ _ h => h) (Or.inl ⟨by rfl, ?_⟩) hS0 ?_
        · intro w hSw; obtain s1 := hSw; go_simp
        try simp only [Act.put, List.getElem_toArray, List.getElem_cons_succ, List.getElem_cons_zero, List.setIfInBounds_toArray, List.set_cons_zero, List.set_cons_succ]
        refine wpAnyH_take (i := 2) (v := .bool false) rfl (by kernel_rfl) (by kernel_rfl) (by kernel_rfl) (fun _ _ _ h => h) (Or.inl ⟨by rfl, ?_⟩) hS0 ?_
        · intro w hSw; obtain s1 := hSw; go_simp
        try simp only [Act.put, List.getElem_toArray, List.getElem_cons_succ, List.getElem_cons_zero, List.setIfInBounds_toArray, List.set_cons_zero, List.set_cons_succ]
        refine wpAnyH_take (i := 3) (v := .int .i64 (i : Int)) rfl (by kernel_rfl) (by kernel_rfl) (by kernel_rfl) (fun _ _ _ h => h) (Or.inl ⟨by rfl, ?_⟩) hS0 ?_
        · intro w hSw; obtain s1 := hSw; go_simp
        try simp only [Act.put, List.getElem_toArray, List.getElem_cons_succ, List.getElem_cons_zero, List.setIfInBounds_toArray, List.set_cons_zero, List.set_cons_succ]
        refine wpAnyH_take (i := 4) (v := .int .i64 (j : Int)) rfl (by kernel_rfl) (by kernel_rfl) (by kernel_rfl) (fun _ _ _ h => h) (Or.inl ⟨by rfl, ?_⟩) hS0 ?_
        · intro w hSw; obtain s1 := hSw; go_simp
        try simp only [Act.put, List.getElem_toArray, List.getElem_cons_succ, List.getElem_cons_zero, List.setIfInBounds_toArray, List.set_cons_zero, List.set_cons_succ]
        refine wpAnyH_take (i := 5) (v := .int .i64 (lo : Int)) rfl (by kernel_rfl) (by kernel_rfl) (by kernel_rfl) (fun _ _ _ h => h) (Or.inl ⟨by rfl, ?_⟩) hS0 ?_
        · intro w hSw; obtain s1 := hSw; go_simp
        try simp only [Act.put, List.getElem_toArray, List.getElem_cons_succ, List.getElem_cons_zero, List.setIfInBounds_toArray, List.set_cons_zero, List.set_cons_succ]
        refine wpAnyH_take (i := 6) (v := .int .i64 (d : Int)) rfl (by kernel_rfl) (by kernel_rfl) (by kernel_rfl) (fun _ _ _ h => h) (Or.inl ⟨by rfl, ?_⟩) hS0 ?_
        · intro w hSw; obtain s1 := hSw; go_simp
        try simp only [Act.put, List.getElem_toArray, List.getElem_cons_succ, List.getElem_cons_zero, List.setIfInBounds_toArray, List.set_cons_zero, List.set_cons_succ]
        refine wpAnyH_take (i := 7) (v := .int .i64 (d1 : Int)) rfl (by kernel_rfl) (by kernel_rfl) (by kernel_rfl) (fun _ _ _ h => h) (Or.inl ⟨by rfl, ?_⟩) hS0 ?_
        · intro w hSw; obtain s1 := hSw; go_simp
        try simp only [Act.put, List.getElem_toArray, List.getElem_cons_succ, List.getElem_cons_zero, List.setIfInBounds_toArray, List.set_cons_zero, List.set_cons_succ]
        refine wpAnyH_take (i := 8) (v := .pointer (some ⟨w4.heap.size, d1, none⟩)) rfl (by kernel_rfl) (by kernel_rfl) (by kernel_rfl) (fun _ _ _ h => h) (Or.inl ⟨by rfl, ?_⟩) hS0 ?_
        · intro w hSw; obtain s1 := hSw; go_simp; (intro hcon; omega)
        try simp only [Act.put, List.getElem_toArray, List.getElem_cons_succ, List.getElem_cons_zero, List.setIfInBounds_toArray, List.set_cons_zero, List.set_cons_succ]
        refine wpAnyH_take (i := 9) (v := .int .i64 (U : Int)) rfl (by kernel_rfl) (by kernel_rfl) (by kernel_rfl) (fun _ _ _ h => h) (Or.inl ⟨by rfl, ?_⟩) hS0 ?_
        · intro w hSw; obtain s1 := hSw; go_simp
        try simp only [Act.put, List.getElem_toArray, List.getElem_cons_succ, List.getElem_cons_zero, List.setIfInBounds_toArray, List.set_cons_zero, List.set_cons_succ]
        refine wpAnyH_take (i := 10) (v := .int .i64 (q : Int)) rfl (by kernel_rfl) (by kernel_rfl) (by kernel_rfl) (fun _ _ _ h => h) (Or.inl ⟨by rfl, ?_⟩) hS0 ?_
        · intro w hSw; obtain s1 := hSw; go_simp; omega
        try simp only [Act.put, List.getElem_toArray, List.getElem_cons_succ, List.getElem_cons_zero, List.setIfInBounds_toArray, List.set_cons_zero, List.set_cons_succ]
        refine wpAnyH_take (i := 11) (v := .int .i64 ((q : Int) + 1)) rfl (by kernel_rfl) (by kernel_rfl) (by kernel_rfl) (fun _ _ _ h => h) (Or.inl ⟨by rfl, ?_⟩) hS0 ?_
        · intro w hSw; obtain s1 := hSw; go_simp
        try simp only [Act.put, List.getElem_toArray, List.getElem_cons_succ, List.getElem_cons_zero, List.setIfInBounds_toArray, List.set_cons_zero, List.set_cons_succ]
        refine wpAnyH_take (i := 12) (v := .int .i64 (d : Int)) rfl (by kernel_rfl) (by kernel_rfl) (by kernel_rfl) (fun _ _ _ h => h) (Or.inl ⟨by rfl, ?_⟩) hS0 ?_
        · intro w hSw; obtain s1 := hSw; go_simp
        try simp only [Act.put, List.getElem_toArray, List.getElem_cons_succ, List.getElem_cons_zero, List.setIfInBounds_toArray, List.set_cons_zero, List.set_cons_succ]
        refine wpAnyH_take (i := 13) (v := .int .i64 (d1 : Int)) rfl (by kernel_rfl) (by kernel_rfl) (by kernel_rfl) (fun _ _ _ h => h) (Or.inl ⟨by rfl, ?_⟩) hS0 ?_
        · intro w hSw; obtain s1 := hSw; go_simp
        try simp only [Act.put, List.getElem_toArray, List.getElem_cons_succ, List.getElem_cons_zero, List.setIfInBounds_toArray, List.set_cons_zero, List.set_cons_succ]
        refine wpAnyH_take (i := 14) (v := .pointer (some ⟨w4.heap.size, d1, none⟩)) rfl (by kernel_rfl) (by kernel_rfl) (by kernel_rfl) (fun _ _ _ h => h) (Or.inl ⟨by rfl, ?_⟩) hS0 ?_
        · intro w hSw; obtain s1 := hSw; go_simp; (intro hcon; omega)
        try simp only [Act.put, List.getElem_toArray, List.getElem_cons_succ, List.getElem_cons_zero, List.setIfInBounds_toArray, List.set_cons_zero, List.set_cons_succ]
        refine wpAnyH_take (i := 15) (v := .int .i64 (U : Int)) rfl (by kernel_rfl) (by kernel_rfl) (by kernel_rfl) (fun _ _ _ h => h) (Or.inl ⟨by rfl, ?_⟩) hS0 ?_
        · intro w hSw; obtain s1 := hSw; go_simp
        try simp only [Act.put, List.getElem_toArray, List.getElem_cons_succ, List.getElem_cons_zero, List.setIfInBounds_toArray, List.set_cons_zero, List.set_cons_succ]
        refine wpAnyH_take (i := 16) (v := .int .i64 (N : Int)) rfl (by kernel_rfl) (by kernel_rfl) (by kernel_rfl) (fun _ _ _ h => h) (Or.inl ⟨by rfl, ?_⟩) hS0 ?_
        · intro w hSw; obtain s1 := hSw; go_simp
        try simp only [Act.put, List.getElem_toArray, List.getElem_cons_succ, List.getElem_cons_zero, List.setIfInBounds_toArray, List.set_cons_zero, List.set_cons_succ]
        refine wpAnyH_take (i := 17) (v := .int .i64 (i : Int)) rfl (by kernel_rfl) (by kernel_rfl) (by kernel_rfl) (fun _ _ _ h => h) (Or.inl ⟨by rfl, ?_⟩) hS0 ?_
        · intro w hSw; obtain s1 := hSw; go_simp
        try simp only [Act.put, List.getElem_toArray, List.getElem_cons_succ, List.getElem_cons_zero, List.setIfInBounds_toArray, List.set_cons_zero, List.set_cons_succ]
        refine wpAnyH_take (i := 18) (v := .int .i64 (j : Int)) rfl (by kernel_rfl) (by kernel_rfl) (by kernel_rfl) (fun _ _ _ h => h) (Or.inl ⟨by rfl, ?_⟩) hS0 ?_
        · intro w hSw; obtain s1 := hSw; go_simp
        try simp only [Act.put, List.getElem_toArray, List.getElem_cons_succ, List.getElem_cons_zero, List.setIfInBounds_toArray, List.set_cons_zero, List.set_cons_succ]
        refine wpAnyH_take (i := 19) (v := .int .i64 (hI : Int)) rfl (by kernel_rfl) (by kernel_rfl) (by kernel_rfl) (fun _ _ _ h => h) (Or.inl ⟨by rfl, ?_⟩) hS0 ?_
        · intro w hSw; obtain s1 := hSw; go_simp
        try simp only [Act.put, List.getElem_toArray, List.getElem_cons_succ, List.getElem_cons_zero, List.setIfInBounds_toArray, List.set_cons_zero, List.set_cons_succ]
        refine wpAnyH_take (i := 20) (v := .bool true) rfl (by kernel_rfl) (by kernel_rfl) (by kernel_rfl) (fun _ _ _ h => h) (Or.inl ⟨by rfl, ?_⟩) hS0 ?_
        · intro w hSw; obtain s1 := hSw; go_simp
        try simp only [Act.put, List.getElem_toArray, List.getElem_cons_succ, List.getElem_cons_zero, List.setIfInBounds_toArray, List.set_cons_zero, List.set_cons_succ]
        refine wpAnyH_take (i := 21) (v := .bool true) rfl (by kernel_rfl) (by kernel_rfl) (by kernel_rfl) (fun _ _ _ h => h) (Or.inl ⟨by rfl, ?_⟩) hS0 ?_
        · intro w hSw; obtain s1 := hSw; go_simp
        try simp only [Act.put, List.getElem_toArray, List.getElem_cons_succ, List.getElem_cons_zero, List.setIfInBounds_toArray, List.set_cons_zero, List.set_cons_succ]
        refine wpAnyH_take (i := 22) (v := .bool true) rfl (by kernel_rfl) (by kernel_rfl) (by kernel_rfl) (fun _ _ _ h => h) (Or.inl ⟨by rfl, ?_⟩) hS0 ?_
        · intro w hSw; obtain s1 := hSw; go_simp
        try simp only [Act.put, List.getElem_toArray, List.getElem_cons_succ, List.getElem_cons_zero, List.setIfInBounds_toArray, List.set_cons_zero, List.set_cons_succ]
        refine wpAnyH_ready (rs := [23]) (by kernel_rfl) (by simp) (AllReadyH.cons rfl (fun K' hK' => ?_) AllReadyH.nil)
        go_simp
        refine (AW.out _ hgd).mono ?_; rintro e w8 ⟨rfl, hg8⟩
        refine hK'.out _ _ (cell_gr hg8 hcu) (fun hS1 => ?_)
        clear hK' K'
        try simp only [Act.put, List.getElem_toArray, List.getElem_cons_succ, List.getElem_cons_zero, List.setIfInBounds_toArray, List.set_cons_zero, List.set_cons_succ]
        refine wpAnyH_take (i := 24) (v := .bool true) rfl (by kernel_rfl) (by kernel_rfl) (by kernel_rfl) (fun _ _ _ h => h) (Or.inl ⟨by rfl, ?_⟩) hS1 ?_
        · intro w hSw; obtain s1 := hSw; go_simp
        try simp only [Act.put, List.getElem_toArray, List.getElem_cons_succ, List.getElem_cons_zero, List.setIfInBounds_toArray, List.set_cons_zero, List.set_cons_succ]
        refine wpAnyH_take (i := 25) (v := .bool true) rfl (by kernel_rfl) (by kernel_rfl) (by kernel_rfl) (fun _ _ _ h => h) (Or.inl ⟨by rfl, ?_⟩) hS1 ?_
        · intro w hSw; obtain s1 := hSw; go_simp
        try simp only [Act.put, List.getElem_toArray, List.getElem_cons_succ, List.getElem_cons_zero, List.setIfInBounds_toArray, List.set_cons_zero, List.set_cons_succ]
        refine wpAnyH_done (by kernel_rfl) ?_ _
        go_wp2
        go_ret
        exact ⟨rfl, Gr.trans hgd hg8⟩
end
end Go.Proofs.YtcnnajgjkbohoaaDoor
