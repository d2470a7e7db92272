/- Law 7: the reference's Token. -/
import Derived.Test.YtfneikldnccepaaDoorLxP
set_option linter.unusedVariables false
set_option linter.unusedSimpArgs false
namespace Go.Proofs.YtfneikldnccepaaDoor.Z
open Go
/-- the token at a place, and the place behind it; -1 if there is none -/
def rtok (l : List UInt8) (k : Nat) : Tk × Int :=
  if (kindR l k).2.1 ≠ 0 then ((0, [], 0), -1)
  else (((kindR l k).1, txtK (kindR l k).1 (cutL l k (kindR l k).2.2), (k : Nat)), ((kindR l k).2.2 : Nat))
end Go.Proofs.YtfneikldnccepaaDoor.Z
namespace Go.Proofs.YtfneikldnccepaaDoor
open Go.RowKit Go.Shelf
open Z
theorem str_cut {s : ByteArray} {a b : Nat} (hb : b ≤ s.size) : s.extract a b = str (cutL s.data.toList a b) := by rw [← cut_str hb]; rfl
theorem cut_head {l : List UInt8} {a b : Nat} {c : UInt8} (hc : l[a]? = some c) (hab : a < b) : cutL l a b = c :: cutL l (a + 1) b := by
  have ha : a < l.length := by
    by_cases h : a < l.length
    · exact h
    · rw [List.getElem?_eq_none (by omega)] at hc; cases hc
  unfold cutL
  rw [List.drop_eq_getElem_cons ha, show b - a = (b - (a + 1)) + 1 by omega, List.take_succ_cons]
  rw [List.getElem?_eq_getElem ha] at hc
  cases hc; rfl
theorem prefix_cons (c : UInt8) (t : List UInt8) : Lib.hasPrefix (c :: t) [34] = (c == 34) := by
  unfold Lib.hasPrefix
  rw [Bool.eq_iff_iff]
  simp [List.isPrefixOf]
  exact eq_comm
set_option maxRecDepth 100000 in
set_option maxHeartbeats 2000000 in
theorem r7_Token_end (s : ByteArray) (k : Nat) (w : World) (hs : s.size ≤ 100000) (hk : k = s.size) :
    Calls Tryd.prog 50 #[.string s, .int .i64 (k : Nat)] w fun e w' => e = .returned (.tuple #[.agg #[.int .i64 3, .string (⟨#[]⟩), .int .i64 (k : Nat)], .int .i64 (k : Nat)]) ∧ Gr w w' := by
  have hz : ((k : Int) == (s.size : Int)) = true := by simp [hk]
  clear hk
  have HB := TB.new w 3 (⟨#[]⟩) ((k : Nat)) 31
  obtain ⟨x0, x1, x2, -, -, -⟩ := id HB
  have HG := Lib.hid ((Gr.refl w).alloc (.cells #[.int .i64 3, .string (⟨#[]⟩), .int .i64 (k : Nat)] 31))
  clear HB
  go_enter Tryd.func50, Tryd.ntmps50
  go_wp2
  refine bodyPost_ret (v := .tuple #[.agg #[.int .i64 3, .string (⟨#[]⟩), .int .i64 (k : Nat)], .int .i64 (k : Nat)]) ?_ rfl ⟨rfl, HG.out⟩
  simp [results, Tryd.results50, go_sem, x0, x1, x2]
set_option maxRecDepth 100000 in
set_option maxHeartbeats 2000000 in
theorem r7_Token_word (s : ByteArray) (k : Nat) (w : World) (hs : s.size ≤ 100000) (c : UInt8) (hc : s.data.toList[k]? = some c) (h1 : letP c = true) :
    Calls Tryd.prog 50 #[.string s, .int .i64 (k : Nat)] w fun e w' => e = .returned (.tuple #[.agg #[.int .i64 0, .string (str (Lib.toLowerA (cutL s.data.toList k (runK wordP s.data.toList (k + 1))))), .int .i64 (k : Nat)], .int .i64 (runK wordP s.data.toList (k + 1) : Nat)]) ∧ Gr w w' := by
  have hlt : k < s.size := lt_of_get hc
  have hsz : s.data.toList.length = s.size := by simp
  have hz : ((k : Int) == (s.size : Int)) = false := by rw [beq_eq_false_iff_ne]; omega
  have hg := getq hlt
  rw [hc] at hg
  have hcs : s[k] = c := (Option.some.inj hg).symm
  obtain ⟨m, HM⟩ : ∃ m : Nat, Hid (c.toNat = m) := ⟨_, Lib.hid rfl⟩
  have hcc : (s[k].toNat : Int) = (m : Int) := by rw [hcs, HM.out]
  have HL := Lib.hid (fun w => r7_letter c w)
  have HD := Lib.hid (fun w => r7_digit c w)
  have HS := Lib.hid (fun w => r7_sign c w)
  have H34 : (c == 34) = ((m : Int) == 34) := by rw [← HM.out]; exact (byte34 c).symm
  rw [HM.out] at HL HD HS
  rw [h1] at HL
  have hr := runK_le (p := wordP) (l := s.data.toList) (k := k + 1) (by omega)
  rw [hsz] at hr
  have HW := Lib.hid (fun w => r7_word s k w hs (by omega))
  have HRK : runK wordP s.data.toList k = runK wordP s.data.toList (k + 1) := runK_in (by omega) (by rw [← get_data s k hlt, hcs]; exact let_word h1)
  rw [HRK] at HW
  have HB := Lib.hid (word_bytes (l := s.data.toList) (k := k) (by omega))
  unfold kindR at HB
  rw [hc] at HB
  simp only [h1, if_true] at HB
  have hcut := cut_head hc (show k < runK wordP s.data.toList (k + 1) by omega)
  have hnq : Lib.hasPrefix (cutL s.data.toList k (runK wordP s.data.toList (k + 1))) [34] = false := by
    rw [hcut, prefix_cons]
    rw [beq_eq_false_iff_ne]; rintro rfl; exact absurd h1 (by decide)
  have HE := Lib.hid (str_cut (s := s) (a := k) (b := runK wordP s.data.toList (k + 1)) (by omega))
  have HLO : Hid (∀ w, Calls Tryd.prog 55 #[.string (s.extract k (runK wordP s.data.toList (k + 1)))] w fun e w' => e = .returned (.string (str (Lib.toLowerA (cutL s.data.toList k (runK wordP s.data.toList (k + 1)))))) ∧ w' = w) := Lib.hid fun w => by
    have := r7_Lower (s.extract k (runK wordP s.data.toList (k + 1))) w (by simp; omega) (fun c hc => by
      rw [cut_str (by omega)] at hc
      exact word_ascii (HB.out trivial trivial hnq c hc))
    rwa [cut_str (by omega)] at this
  clear hnq hcut HRK HB HE hsz hg hc hcs H34 HM h1
  generalize runK wordP s.data.toList (k + 1) = k1 at *
  generalize str (Lib.toLowerA (cutL s.data.toList k k1)) = tx at *
  have HB := TB.new w 0 (tx) ((k : Nat)) 31
  obtain ⟨x0, x1, x2, -, -, -⟩ := id HB
  have HG := Lib.hid ((Gr.refl w).alloc (.cells #[.int .i64 0, .string (tx), .int .i64 (k : Nat)] 31))
  clear HB
  go_enter Tryd.func50, Tryd.ntmps50
  go_wp2_with fail
  refine (HL.out _).mono ?_; rintro e w1 ⟨rfl, rfl⟩
  go_wp2_with fail
  refine (HW.out _).mono ?_; rintro e w2 ⟨rfl, rfl⟩
  go_wp2_with fail
  refine (HLO.out _).mono ?_; rintro e w3 ⟨rfl, rfl⟩
  go_wp2
  refine bodyPost_ret (v := .tuple #[.agg #[.int .i64 0, .string (tx), .int .i64 (k : Nat)], .int .i64 (k1 : Nat)]) ?_ rfl ⟨rfl, HG.out⟩
  simp [results, Tryd.results50, go_sem, x0, x1, x2]
set_option maxRecDepth 100000 in
set_option maxHeartbeats 2000000 in
theorem r7_Token_quote (s : ByteArray) (k : Nat) (w : World) (hs : s.size ≤ 100000) (c : UInt8) (hc : s.data.toList[k]? = some c) (h1 : letP c = false) (h2 : c = 34) (h3 : s.data.toList[runK plainP s.data.toList (k + 1)]? = some 34) :
    Calls Tryd.prog 50 #[.string s, .int .i64 (k : Nat)] w fun e w' => e = .returned (.tuple #[.agg #[.int .i64 0, .string (str (cutL s.data.toList k (runK plainP s.data.toList (k + 1) + 1))), .int .i64 (k : Nat)], .int .i64 (runK plainP s.data.toList (k + 1) + 1 : Nat)]) ∧ Gr w w' := by
  have hlt : k < s.size := lt_of_get hc
  have hsz : s.data.toList.length = s.size := by simp
  have hz : ((k : Int) == (s.size : Int)) = false := by rw [beq_eq_false_iff_ne]; omega
  have hg := getq hlt
  rw [hc] at hg
  have hcs : s[k] = c := (Option.some.inj hg).symm
  obtain ⟨m, HM⟩ : ∃ m : Nat, Hid (c.toNat = m) := ⟨_, Lib.hid rfl⟩
  have hcc : (s[k].toNat : Int) = (m : Int) := by rw [hcs, HM.out]
  have HL := Lib.hid (fun w => r7_letter c w)
  have HD := Lib.hid (fun w => r7_digit c w)
  have HS := Lib.hid (fun w => r7_sign c w)
  have H34 : (c == 34) = ((m : Int) == 34) := by rw [← HM.out]; exact (byte34 c).symm
  rw [HM.out] at HL HD HS
  rw [h1] at HL
  have h34 : ((m : Int) == 34) = true := by rw [← H34, h2]; rfl
  have HQ := Lib.hid (fun w => r7_quoted s k w hs hlt)
  have hr := runK_le (p := plainP) (l := s.data.toList) (k := k + 1) (by omega)
  rw [hsz] at hr
  unfold quotedR at HQ
  rw [if_pos h3] at HQ
  have hle := lt_of_get h3
  have hq1 : k ≤ runK plainP s.data.toList (k + 1) + 1 := by omega
  have hq2 : runK plainP s.data.toList (k + 1) + 1 ≤ s.size := by omega
  have HE := Lib.hid (str_cut (s := s) (a := k) (b := runK plainP s.data.toList (k + 1) + 1) (by omega))
  clear H34 h3 hg hc hcs hsz HM h1 HD HS
  generalize runK plainP s.data.toList (k + 1) + 1 = k1 at *
  rw [← HE.out]
  have HB := TB.new w 0 (s.extract k k1) ((k : Nat)) 31
  obtain ⟨x0, x1, x2, -, -, -⟩ := id HB
  have HG := Lib.hid ((Gr.refl w).alloc (.cells #[.int .i64 0, .string (s.extract k k1), .int .i64 (k : Nat)] 31))
  clear HB
  go_enter Tryd.func50, Tryd.ntmps50
  go_wp2_with fail
  refine (HL.out _).mono ?_; rintro e w1 ⟨rfl, rfl⟩
  go_wp2_with fail
  refine (HQ.out _).mono ?_; rintro e w2 ⟨rfl, rfl⟩
  go_wp2
  refine bodyPost_ret (v := .tuple #[.agg #[.int .i64 0, .string (s.extract k k1), .int .i64 (k : Nat)], .int .i64 (k1 : Nat)]) ?_ rfl ⟨rfl, HG.out⟩
  simp [results, Tryd.results50, go_sem, x0, x1, x2]
set_option maxRecDepth 100000 in
set_option maxHeartbeats 2000000 in
theorem r7_Token_open (s : ByteArray) (k : Nat) (w : World) (hs : s.size ≤ 100000) (c : UInt8) (hc : s.data.toList[k]? = some c) (h1 : letP c = false) (h2 : c = 34) (h3 : ¬ s.data.toList[runK plainP s.data.toList (k + 1)]? = some 34) :
    Calls Tryd.prog 50 #[.string s, .int .i64 (k : Nat)] w fun e w' => e = .returned (.tuple #[.agg #[.int .i64 0, .string (⟨#[]⟩), .int .i64 0], .int .i64 (-1)]) ∧ Gr w w' := by
  have hlt : k < s.size := lt_of_get hc
  have hsz : s.data.toList.length = s.size := by simp
  have hz : ((k : Int) == (s.size : Int)) = false := by rw [beq_eq_false_iff_ne]; omega
  have hg := getq hlt
  rw [hc] at hg
  have hcs : s[k] = c := (Option.some.inj hg).symm
  obtain ⟨m, HM⟩ : ∃ m : Nat, Hid (c.toNat = m) := ⟨_, Lib.hid rfl⟩
  have hcc : (s[k].toNat : Int) = (m : Int) := by rw [hcs, HM.out]
  have HL := Lib.hid (fun w => r7_letter c w)
  have HD := Lib.hid (fun w => r7_digit c w)
  have HS := Lib.hid (fun w => r7_sign c w)
  have H34 : (c == 34) = ((m : Int) == 34) := by rw [← HM.out]; exact (byte34 c).symm
  rw [HM.out] at HL HD HS
  rw [h1] at HL
  have h34 : ((m : Int) == 34) = true := by rw [← H34, h2]; rfl
  have HQ := Lib.hid (fun w => r7_quoted s k w hs hlt)
  have hr := runK_le (p := plainP) (l := s.data.toList) (k := k + 1) (by omega)
  rw [hsz] at hr
  unfold quotedR at HQ
  rw [if_neg h3] at HQ
  clear H34 h3 hg hc hcs hsz HM h1 HD HS hr
  have HB := TB.new w 0 (⟨#[]⟩) (0) 31
  obtain ⟨x0, x1, x2, -, -, -⟩ := id HB
  have HG := Lib.hid ((Gr.refl w).alloc (.cells #[.int .i64 0, .string (⟨#[]⟩), .int .i64 0] 31))
  clear HB
  go_enter Tryd.func50, Tryd.ntmps50
  go_wp2_with fail
  refine (HL.out _).mono ?_; rintro e w1 ⟨rfl, rfl⟩
  go_wp2_with fail
  refine (HQ.out _).mono ?_; rintro e w2 ⟨rfl, rfl⟩
  go_wp2
  refine bodyPost_ret (v := .tuple #[.agg #[.int .i64 0, .string (⟨#[]⟩), .int .i64 0], .int .i64 (-1)]) ?_ rfl ⟨rfl, HG.out⟩
  simp [results, Tryd.results50, go_sem, x0, x1, x2]
set_option maxRecDepth 100000 in
set_option maxHeartbeats 2000000 in
theorem r7_Token_num (s : ByteArray) (k : Nat) (w : World) (hs : s.size ≤ 100000) (c : UInt8) (hc : s.data.toList[k]? = some c) (h1 : letP c = false) (h2 : ¬ c = 34) (h3 : isD c = true) :
    Calls Tryd.prog 50 #[.string s, .int .i64 (k : Nat)] w fun e w' => e = .returned (.tuple #[.agg #[.int .i64 1, .string (str (cutL s.data.toList k (decK s.data.toList (runK isD s.data.toList (k + 1))))), .int .i64 (k : Nat)], .int .i64 (decK s.data.toList (runK isD s.data.toList (k + 1)) : Nat)]) ∧ Gr w w' := by
  have hlt : k < s.size := lt_of_get hc
  have hsz : s.data.toList.length = s.size := by simp
  have hz : ((k : Int) == (s.size : Int)) = false := by rw [beq_eq_false_iff_ne]; omega
  have hg := getq hlt
  rw [hc] at hg
  have hcs : s[k] = c := (Option.some.inj hg).symm
  obtain ⟨m, HM⟩ : ∃ m : Nat, Hid (c.toNat = m) := ⟨_, Lib.hid rfl⟩
  have hcc : (s[k].toNat : Int) = (m : Int) := by rw [hcs, HM.out]
  have HL := Lib.hid (fun w => r7_letter c w)
  have HD := Lib.hid (fun w => r7_digit c w)
  have HS := Lib.hid (fun w => r7_sign c w)
  have H34 : (c == 34) = ((m : Int) == 34) := by rw [← HM.out]; exact (byte34 c).symm
  rw [HM.out] at HL HD HS
  rw [h1] at HL
  have h34 : ((m : Int) == 34) = false := by rw [← H34, beq_eq_false_iff_ne]; exact h2
  rw [h3] at HD
  have HN := Lib.hid (fun w => r7_number s k w hs (by omega))
  have HRK : runK isD s.data.toList k = runK isD s.data.toList (k + 1) := runK_in (by omega) (by rw [← get_data s k hlt, hcs]; exact h3)
  rw [HRK] at HN
  have hr := runK_le (p := isD) (l := s.data.toList) (k := k + 1) (by omega)
  have hr2 := decK_le hr.2
  rw [hsz] at hr hr2
  have hr3 : k ≤ decK s.data.toList (runK isD s.data.toList (k + 1)) := by omega
  have hr4 := hr2.2
  have HE := Lib.hid (str_cut (s := s) (a := k) (b := decK s.data.toList (runK isD s.data.toList (k + 1))) (by omega))
  clear H34 h3 hg hc hcs hsz HM h1 h2 HRK hr hr2 HS
  generalize decK s.data.toList (runK isD s.data.toList (k + 1)) = k1 at *
  rw [← HE.out]
  have HB := TB.new w 1 (s.extract k k1) ((k : Nat)) 31
  obtain ⟨x0, x1, x2, -, -, -⟩ := id HB
  have HG := Lib.hid ((Gr.refl w).alloc (.cells #[.int .i64 1, .string (s.extract k k1), .int .i64 (k : Nat)] 31))
  clear HB
  go_enter Tryd.func50, Tryd.ntmps50
  go_wp2_with fail
  refine (HL.out _).mono ?_; rintro e w1 ⟨rfl, rfl⟩
  go_wp2_with fail
  refine (HD.out _).mono ?_; rintro e w2 ⟨rfl, rfl⟩
  go_wp2_with fail
  refine (HN.out _).mono ?_; rintro e w2 ⟨rfl, rfl⟩
  go_wp2
  refine bodyPost_ret (v := .tuple #[.agg #[.int .i64 1, .string (s.extract k k1), .int .i64 (k : Nat)], .int .i64 (k1 : Nat)]) ?_ rfl ⟨rfl, HG.out⟩
  simp [results, Tryd.results50, go_sem, x0, x1, x2]
set_option maxRecDepth 100000 in
set_option maxHeartbeats 2000000 in
theorem r7_Token_sign (s : ByteArray) (k : Nat) (w : World) (hs : s.size ≤ 100000) (c : UInt8) (hc : s.data.toList[k]? = some c) (h1 : letP c = false) (h2 : ¬ c = 34) (h3 : isD c = false) (h4 : signP c = true) :
    Calls Tryd.prog 50 #[.string s, .int .i64 (k : Nat)] w fun e w' => e = .returned (.tuple #[.agg #[.int .i64 2, .string (str (cutL s.data.toList k (k + 1))), .int .i64 (k : Nat)], .int .i64 (k + 1 : Nat)]) ∧ Gr w w' := by
  have hlt : k < s.size := lt_of_get hc
  have hsz : s.data.toList.length = s.size := by simp
  have hz : ((k : Int) == (s.size : Int)) = false := by rw [beq_eq_false_iff_ne]; omega
  have hg := getq hlt
  rw [hc] at hg
  have hcs : s[k] = c := (Option.some.inj hg).symm
  obtain ⟨m, HM⟩ : ∃ m : Nat, Hid (c.toNat = m) := ⟨_, Lib.hid rfl⟩
  have hcc : (s[k].toNat : Int) = (m : Int) := by rw [hcs, HM.out]
  have HL := Lib.hid (fun w => r7_letter c w)
  have HD := Lib.hid (fun w => r7_digit c w)
  have HS := Lib.hid (fun w => r7_sign c w)
  have H34 : (c == 34) = ((m : Int) == 34) := by rw [← HM.out]; exact (byte34 c).symm
  rw [HM.out] at HL HD HS
  rw [h1] at HL
  have h34 : ((m : Int) == 34) = false := by rw [← H34, beq_eq_false_iff_ne]; exact h2
  rw [h3] at HD
  rw [h4] at HS
  have HE := Lib.hid (str_cut (s := s) (a := k) (b := k + 1) (by omega))
  clear H34 h3 h4 hg hc hcs hsz HM h1 h2
  rw [← HE.out]
  have HB := TB.new w 2 (s.extract k (k + 1)) ((k : Nat)) 31
  obtain ⟨x0, x1, x2, -, -, -⟩ := id HB
  have HG := Lib.hid ((Gr.refl w).alloc (.cells #[.int .i64 2, .string (s.extract k (k + 1)), .int .i64 (k : Nat)] 31))
  clear HB
  go_enter Tryd.func50, Tryd.ntmps50
  go_wp2_with fail
  refine (HL.out _).mono ?_; rintro e w1 ⟨rfl, rfl⟩
  go_wp2_with fail
  refine (HD.out _).mono ?_; rintro e w2 ⟨rfl, rfl⟩
  go_wp2_with fail
  refine (HS.out _).mono ?_; rintro e w2 ⟨rfl, rfl⟩
  go_wp2
  refine bodyPost_ret (v := .tuple #[.agg #[.int .i64 2, .string (s.extract k (k + 1)), .int .i64 (k : Nat)], .int .i64 (k + 1 : Nat)]) ?_ rfl ⟨rfl, HG.out⟩
  simp [results, Tryd.results50, go_sem, x0, x1, x2]
set_option maxRecDepth 100000 in
set_option maxHeartbeats 2000000 in
theorem r7_Token_bad (s : ByteArray) (k : Nat) (w : World) (hs : s.size ≤ 100000) (c : UInt8) (hc : s.data.toList[k]? = some c) (h1 : letP c = false) (h2 : ¬ c = 34) (h3 : isD c = false) (h4 : signP c = false) :
    Calls Tryd.prog 50 #[.string s, .int .i64 (k : Nat)] w fun e w' => e = .returned (.tuple #[.agg #[.int .i64 0, .string (⟨#[]⟩), .int .i64 0], .int .i64 (-1)]) ∧ Gr w w' := by
  have hlt : k < s.size := lt_of_get hc
  have hsz : s.data.toList.length = s.size := by simp
  have hz : ((k : Int) == (s.size : Int)) = false := by rw [beq_eq_false_iff_ne]; omega
  have hg := getq hlt
  rw [hc] at hg
  have hcs : s[k] = c := (Option.some.inj hg).symm
  obtain ⟨m, HM⟩ : ∃ m : Nat, Hid (c.toNat = m) := ⟨_, Lib.hid rfl⟩
  have hcc : (s[k].toNat : Int) = (m : Int) := by rw [hcs, HM.out]
  have HL := Lib.hid (fun w => r7_letter c w)
  have HD := Lib.hid (fun w => r7_digit c w)
  have HS := Lib.hid (fun w => r7_sign c w)
  have H34 : (c == 34) = ((m : Int) == 34) := by rw [← HM.out]; exact (byte34 c).symm
  rw [HM.out] at HL HD HS
  rw [h1] at HL
  have h34 : ((m : Int) == 34) = false := by rw [← H34, beq_eq_false_iff_ne]; exact h2
  rw [h3] at HD
  rw [h4] at HS
  clear H34 h3 h4 hg hc hcs hsz HM h1 h2
  have HB := TB.new w 0 (⟨#[]⟩) (0) 31
  obtain ⟨x0, x1, x2, -, -, -⟩ := id HB
  have HG := Lib.hid ((Gr.refl w).alloc (.cells #[.int .i64 0, .string (⟨#[]⟩), .int .i64 0] 31))
  clear HB
  go_enter Tryd.func50, Tryd.ntmps50
  go_wp2_with fail
  refine (HL.out _).mono ?_; rintro e w1 ⟨rfl, rfl⟩
  go_wp2_with fail
  refine (HD.out _).mono ?_; rintro e w2 ⟨rfl, rfl⟩
  go_wp2_with fail
  refine (HS.out _).mono ?_; rintro e w2 ⟨rfl, rfl⟩
  go_wp2
  refine bodyPost_ret (v := .tuple #[.agg #[.int .i64 0, .string (⟨#[]⟩), .int .i64 0], .int .i64 (-1)]) ?_ rfl ⟨rfl, HG.out⟩
  simp [results, Tryd.results50, go_sem, x0, x1, x2]
theorem r7_Token (s : ByteArray) (k : Nat) (w : World) (hs : s.size ≤ 100000) (hk : k ≤ s.size) :
    Calls Tryd.prog 50 #[.string s, .int .i64 (k : Nat)] w fun e w' => e = .returned (.tuple #[.agg #[.int .i64 (rtok s.data.toList k).1.1, .string (str (rtok s.data.toList k).1.2.1), .int .i64 (rtok s.data.toList k).1.2.2], .int .i64 (rtok s.data.toList k).2]) ∧ Gr w w' := by
  unfold rtok kindR
  by_cases hlt : k < s.size
  · have hc := getq hlt
    generalize s[k] = c at *
    rw [hc]
    simp only
    have hr := runK_le (p := wordP) (l := s.data.toList) (k := k + 1) (by simp; omega)
    have hq := runK_le (p := plainP) (l := s.data.toList) (k := k + 1) (by simp; omega)
    cases h1 : letP c
    · simp only [Bool.false_eq_true, if_false]
      by_cases h2 : c = 34
      · rw [if_pos h2]
        by_cases h3 : s.data.toList[runK plainP s.data.toList (k + 1)]? = some 34
        · rw [if_pos h3]
          simp only [ne_eq, not_true_eq_false, if_false]
          have ht : txtK 0 (cutL s.data.toList k (runK plainP s.data.toList (k + 1) + 1)) = cutL s.data.toList k (runK plainP s.data.toList (k + 1) + 1) := by
            unfold txtK
            rw [if_neg]
            rw [cut_head hc (by omega), prefix_cons, h2]; simp
          rw [ht]
          exact r7_Token_quote s k w hs c hc h1 h2 h3
        · rw [if_neg h3]
          exact r7_Token_open s k w hs c hc h1 h2 h3
      · rw [if_neg h2]
        cases h3 : isD c
        · simp only [Bool.false_eq_true, if_false]
          cases h4 : signP c
          · simp only [Bool.false_eq_true, if_false]
            exact r7_Token_bad s k w hs c hc h1 h2 h3 h4
          · simp only [if_true, ne_eq, not_true_eq_false, if_false]
            exact r7_Token_sign s k w hs c hc h1 h2 h3 h4
        · simp only [if_true, ne_eq, not_true_eq_false, if_false]
          exact r7_Token_num s k w hs c hc h1 h2 h3
    · simp only [if_true, ne_eq, not_true_eq_false, if_false]
      have ht : txtK 0 (cutL s.data.toList k (runK wordP s.data.toList (k + 1))) = Lib.toLowerA (cutL s.data.toList k (runK wordP s.data.toList (k + 1))) := by
        unfold txtK
        rw [if_pos]
        refine ⟨rfl, ?_⟩
        rw [cut_head hc (by omega), prefix_cons, beq_eq_false_iff_ne]; rintro rfl; exact absurd h1 (by decide)
      rw [ht]
      exact r7_Token_word s k w hs c hc h1
  · have hks : k = s.size := by omega
    rw [List.getElem?_eq_none (by simp; omega)]
    simp only [ne_eq, not_true_eq_false, if_false]
    have ht : txtK 3 (cutL s.data.toList k k) = [] := by unfold txtK cutL; simp
    rw [ht]
    exact r7_Token_end s k w hs hks
end Go.Proofs.YtfneikldnccepaaDoor
