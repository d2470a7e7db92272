/- Law 5: numbers and thousandths belong to each other, and have the same order. -/
import Derived.Test.YtcnnajgjkbohoaaDoorNuE
set_option linter.unusedVariables false
set_option linter.unusedSimpArgs false
namespace Go.Proofs.YtcnnajgjkbohoaaDoor
open Go.RowKit Go.Shelf
open Z

theorem nuT_last (n : Nat) : ∃ t c, nuT n = t ++ [c] ∧ isD c = true := by
  unfold nuT
  by_cases h : n % 1000 = 0
  · rw [if_pos h, List.append_nil]
    obtain ⟨t, c, e⟩ := snoc_of_ne _ (decDigits_ne (n / 1000))
    have := (dec_decDigits (n / 1000)).2.1
    rw [e, List.all_append, Bool.and_eq_true] at this
    exact ⟨t, c, e, by simpa using this.2⟩
  · rw [if_neg h]
    obtain ⟨f1, f2, f3, f4, f5⟩ := decsN_facts h
    obtain ⟨t, c, e⟩ := snoc_of_ne _ f5
    rw [e, List.all_append, Bool.and_eq_true] at f1
    exact ⟨Lib.decDigits (n / 1000) ++ 46 :: t, c, by rw [e]; simp, by simpa using f1.2⟩
theorem nuT_suffix (n : Nat) : Lib.hasSuffix (nuT n) [46] = false := by
  obtain ⟨t, c, e, hd⟩ := nuT_last n
  rw [e]
  have hc : c ≠ 46 := by intro h; subst h; exact absurd hd (by decide)
  show ([46] : List UInt8).reverse.isPrefixOf (t ++ [c]).reverse = false
  rw [List.reverse_append]
  show (46 == c && _) = false
  rw [show (46 == c) = false from beq_eq_false_iff_ne.2 (fun h => hc h.symm)]; rfl
theorem rdS_two (w : World) (s t : ByteArray) (ty : TypeId) : RdS (w.alloc (.cells #[.string s, .string t] ty)) (some ⟨w.heap.size, 0, none⟩) [s, t] := fun k hk => by
  refine ⟨w.heap.size, 0, rfl, ?_⟩
  rw [World.cell?_alloc_at _ _ _ _ rfl]
  match k, hk with
  | 0, _ => rfl
  | 1, _ => rfl
theorem asc_two {s t : ByteArray} (hs : nuE s.data.toList = 0) (ht : nuE t.data.toList = 0) : ascE [s, t] = if nuV t.data.toList ≤ nuV s.data.toList then 9 else 0 := by
  have h0 : stepS [s, t] 0 = 0 := by rw [stepS_at (by simp)]; simp [hs]
  have h1 : stepS [s, t] 1 = if nuV t.data.toList ≤ nuV s.data.toList then 9 else 0 := by rw [stepS_at (by simp)]; simp [ht]
  by_cases h : nuV t.data.toList ≤ nuV s.data.toList
  · rw [if_pos h] at h1 ⊢
    exact ascE_at (k := 1) (by simp) (fun j hj => by obtain rfl : j = 0 := by omega
                                                     exact h0) h1 (by decide)
  · rw [if_neg h] at h1 ⊢
    refine ascE_ok fun j hj => ?_
    simp only [List.length_cons, List.length_nil] at hj
    have : j = 0 ∨ j = 1 := by omega
    rcases this with rfl | rfl
    · exact h0
    · exact h1
section
variable {w0 : World} (htab : Tab w0)
include htab
theorem retn_Named {n : Nat} (h1 : 1 ≤ n) (h2 : n ≤ 9999999) : Ret w0 18 #[.int .i64 (n : Int)] (.tuple #[.string (str (nuT n)), .int .i64 0]) :=
  (retn_Of htab (n := (n : Int)) (by unfold isJ; omega)).cast (by unfold ofN vTI; rw [if_pos (by omega), Int.toNat_natCast])
omit htab
theorem text_small {n : Nat} (h2 : n ≤ 9999999) : (str (nuT n)).size ≤ 8 := by rw [str_size]; exact nuT_len h2
theorem retn_TN {n : Nat} (h1 : 1 ≤ n) (h2 : n ≤ 9999999) : Ret w0 14 #[.string (str (nuT n))] (.tuple #[.int .i64 (n : Int), .int .i64 0]) :=
  (retn_T (s := str (nuT n)) (by have := text_small h2; omega)).cast (by rw [data_str, nuR_zero (nu_text h1 h2).1, (nu_text h1 h2).2]; rfl)
theorem retn_CN {n : Nat} (h1 : 1 ≤ n) (h2 : n ≤ 9999999) : Ret w0 16 #[.string (str (nuT n))] (.int .i64 0) :=
  (retn_Check (s := str (nuT n)) (by have := text_small h2; omega)).cast (by rw [data_str, (nu_text h1 h2).1])
theorem u32_part {u : Int} (h0 : 0 ≤ u) (h1 : u ≤ 4294967295) : ∃ r k : Nat, u.tmod 9999999 = (r : Int) ∧ r ≤ 9999998 ∧ (1 : Int) + (r : Int) = (k : Int) ∧ 1 ≤ k ∧ k ≤ 9999999 := by
  refine ⟨(u % 9999999).toNat, (u % 9999999).toNat + 1, ?_, by omega, by omega, by omega, by omega⟩
  rw [Int.tmod_eq_emod_of_nonneg h0]; omega
include htab
set_option maxHeartbeats 2000000 in
set_option maxRecDepth 100000 in
theorem l5_NumberReturns {u : Int} (hu : 0 ≤ u ∧ u ≤ 4294967295) : Ret w0 8 #[.int .u32 u] (.bool true) := by
  have AW := Lib.hid (l5_awake htab)
  obtain ⟨hu0, hu1⟩ := hu
  obtain ⟨r, k, hm, hr, hk, k1, k2⟩ := u32_part hu0 hu1
  have C1 := Lib.hid (retn_Named htab k1 k2)
  have C2 := Lib.hid (retn_CN (w0 := w0) k1 k2)
  have C3 := Lib.hid (fun w => Tryd.strings_HasSuffix (str (nuT k)) ⟨#[46]⟩ w (by have := text_small k2; omega))
  have C4 := Lib.hid (retn_TN (w0 := w0) k1 k2)
  rw [data_str, show (⟨#[46]⟩ : ByteArray).data.toList = [46] from rfl, nuT_suffix] at C3
  clear htab
  generalize str (nuT k) = s at *
  intro w hg
  have HG := Lib.hid hg; clear hg
  go_enter Tryd.func8, Tryd.ntmps8
  go_wp2_with fail
  refine (C1.out _ HG.out).mono ?_; rintro e w1 ⟨rfl, hg⟩
  replace HG := Lib.hid hg; clear hg
  go_wp2_with fail
  refine (C2.out _ HG.out).mono ?_; rintro e w2 ⟨rfl, hg⟩
  replace HG := Lib.hid hg; clear hg
  go_wp2_with fail
  refine (C3.out _).mono ?_; rintro e w' ⟨rfl, rfl⟩
  go_wp2_with fail
  refine (C4.out _ HG.out).mono ?_; rintro e w3 ⟨rfl, hg⟩
  replace HG := Lib.hid hg; clear hg
  go_wp2_with fail
  refine (AW.out _ HG.out).mono ?_; rintro e w4 ⟨rfl, hg⟩
  replace HG := Lib.hid hg; clear hg
  go_wp2
  go_ret
  exact ⟨rfl, HG.out⟩
set_option maxHeartbeats 2000000 in
set_option maxRecDepth 100000 in
theorem l5_NumberSorts {u v : Int} (hu : 0 ≤ u ∧ u ≤ 4294967295) (hv : 0 ≤ v ∧ v ≤ 4294967295) : Ret w0 9 #[.int .u32 u, .int .u32 v] (.bool true) := by
  have AW := Lib.hid (l5_awake htab)
  obtain ⟨hu0, hu1⟩ := hu
  obtain ⟨hv0, hv1⟩ := hv
  obtain ⟨r, i, hm, hr, hi, i1, i2⟩ := u32_part hu0 hu1
  obtain ⟨q, j, hn, hq, hj, j1, j2⟩ := u32_part hv0 hv1
  have C1 := Lib.hid (retn_Named htab i1 i2)
  have C2 := Lib.hid (retn_Named htab j1 j2)
  have s1 := text_small i2
  have s2 := text_small j2
  have C3 := Lib.hid ((retn_Compare (w0 := w0) (s := str (nuT i)) (t := str (nuT j)) (by omega) (by omega)).cast (v' := .tuple #[.int .i64 (ordN i j), .int .i64 0]) (by
    rw [data_str, data_str, nuCmp_ok (by unfold both2; rw [if_pos (nu_text i1 i2).1]; exact (nu_text j1 j2).1), (nu_text i1 i2).2, (nu_text j1 j2).2]; rfl))
  have C4 : Hid (∀ w, Gr w0 w → Calls Tryd.prog 26 #[.slice (some ⟨w.heap.size, 0, none⟩) 2 2] (w.alloc (.cells #[.string (str (nuT i)), .string (str (nuT j))] 9)) fun e w' => e = .returned (.int .i64 (if j ≤ i then 9 else 0)) ∧ Gr w0 w') := Lib.hid fun w hg => by
    have H := nu_Ascending (l := [str (nuT i), str (nuT j)]) (cap := 2) _ (rdS_two w (str (nuT i)) (str (nuT j)) 9) (by simp) (by intro s hs; simp only [List.mem_cons, List.not_mem_nil, or_false] at hs; rcases hs with rfl | rfl <;> omega)
    rw [asc_two (by rw [data_str]; exact (nu_text i1 i2).1) (by rw [data_str]; exact (nu_text j1 j2).1), data_str, data_str, (nu_text i1 i2).2, (nu_text j1 j2).2] at H
    refine H.mono ?_
    rintro e w1 ⟨rfl, hg1⟩
    exact ⟨rfl, Gr.trans (hg.alloc _) hg1⟩
  clear htab s1 s2
  generalize str (nuT i) = s at *
  generalize str (nuT j) = t at *
  intro w hg
  have HG := Lib.hid hg; clear hg
  rcases Nat.lt_trichotomy i j with h | h | h
  · rw [if_neg (by omega)] at C4
    rw [show ordN i j = -1 by unfold ordN; rw [if_pos h]] at C3
    go_enter Tryd.func9, Tryd.ntmps9
    go_wp2_with fail
    refine (C1.out _ HG.out).mono ?_; rintro e w1 ⟨rfl, hg⟩
    replace HG := Lib.hid hg; clear hg
    go_wp2_with fail
    refine (C2.out _ HG.out).mono ?_; rintro e w2 ⟨rfl, hg⟩
    replace HG := Lib.hid hg; clear hg
    go_wp2_with fail
    refine (C3.out _ HG.out).mono ?_; rintro e w3 ⟨rfl, hg⟩
    replace HG := Lib.hid hg; clear hg
    go_wp2_with fail
    refine (C4.out _ HG.out).mono ?_; rintro e w4 ⟨rfl, hg⟩
    replace HG := Lib.hid hg; clear hg
    go_wp2_with fail
    refine (AW.out _ HG.out).mono ?_; rintro e w5 ⟨rfl, hg⟩
    replace HG := Lib.hid hg; clear hg
    go_wp2
    go_ret
    exact ⟨rfl, HG.out⟩
  · rw [if_pos (by omega)] at C4
    rw [show ordN i j = 0 by unfold ordN; rw [if_neg (by omega), if_neg (by omega)]] at C3
    have h1 : i ≤ j := by omega
    have h2 : j ≤ i := by omega
    clear h
    go_enter Tryd.func9, Tryd.ntmps9
    go_wp2_with fail
    refine (C1.out _ HG.out).mono ?_; rintro e w1 ⟨rfl, hg⟩
    replace HG := Lib.hid hg; clear hg
    go_wp2_with fail
    refine (C2.out _ HG.out).mono ?_; rintro e w2 ⟨rfl, hg⟩
    replace HG := Lib.hid hg; clear hg
    go_wp2_with fail
    refine (C3.out _ HG.out).mono ?_; rintro e w3 ⟨rfl, hg⟩
    replace HG := Lib.hid hg; clear hg
    go_wp2_with fail
    refine (C4.out _ HG.out).mono ?_; rintro e w4 ⟨rfl, hg⟩
    replace HG := Lib.hid hg; clear hg
    go_wp2_with fail
    refine (AW.out _ HG.out).mono ?_; rintro e w5 ⟨rfl, hg⟩
    replace HG := Lib.hid hg; clear hg
    go_wp2
    go_ret
    exact ⟨rfl, HG.out⟩
  · rw [if_pos (by omega)] at C4
    rw [show ordN i j = 1 by unfold ordN; rw [if_neg (by omega), if_pos h]] at C3
    go_enter Tryd.func9, Tryd.ntmps9
    go_wp2_with fail
    refine (C1.out _ HG.out).mono ?_; rintro e w1 ⟨rfl, hg⟩
    replace HG := Lib.hid hg; clear hg
    go_wp2_with fail
    refine (C2.out _ HG.out).mono ?_; rintro e w2 ⟨rfl, hg⟩
    replace HG := Lib.hid hg; clear hg
    go_wp2_with fail
    refine (C3.out _ HG.out).mono ?_; rintro e w3 ⟨rfl, hg⟩
    replace HG := Lib.hid hg; clear hg
    go_wp2_with fail
    refine (C4.out _ HG.out).mono ?_; rintro e w4 ⟨rfl, hg⟩
    replace HG := Lib.hid hg; clear hg
    go_wp2_with fail
    refine (AW.out _ HG.out).mono ?_; rintro e w5 ⟨rfl, hg⟩
    replace HG := Lib.hid hg; clear hg
    go_wp2
    go_ret
    exact ⟨rfl, HG.out⟩
end
end Go.Proofs.YtcnnajgjkbohoaaDoor
