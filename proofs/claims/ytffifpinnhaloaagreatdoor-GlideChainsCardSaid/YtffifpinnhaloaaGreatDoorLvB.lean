/- LvB: Lv06, Lv07, Lv08, Lv09, joined. -/
import Derived.Test.YtffifpinnhaloaaGreatDoorLvA
import Derived.Test.YtffifpinnhaloaaGreatDoorShelf
import Derived.Lib.IndexLaws
import Derived.Test.YtffifpinnhaloaaGreatDoorIntG
set_option linter.unusedVariables false
set_option linter.unusedSimpArgs false

/- Levels: the program's percentages. -/
namespace Go.Proofs.YtffifpinnhaloaaGreatDoor
open Go.RowKit Go.Shelf
open Z

set_option maxHeartbeats 1000000 in
theorem lv_Check (v : Int) (w : World) (hv : isJ v) : Calls Tryz.prog 86 #[.int .i64 v] w fun e w' => e = .returned (.int .i64 (if lvl v = true then 0 else 2)) ∧ w = w' := by
  obtain ⟨hv0, hv1⟩ := hv
  rcases lvl_cases v with ⟨h, h0, h1⟩ | ⟨h, h0⟩ | ⟨h, h0⟩
  all_goals
    rw [h]; clear h
    go_enter Tryz.func86, Tryz.ntmps86
    go_wp2
    go_ret
    exact ⟨rfl, rfl⟩
set_option maxHeartbeats 1000000 in
theorem lv_nearest (n d : Int) (w : World) (h0 : 0 ≤ n) (h1 : n ≤ 1000000000000) (hd0 : 0 < d) (hd1 : d ≤ 1000000000000) :
    Calls Tryz.prog 83 #[.int .i64 n, .int .i64 d] w fun e w' => e = .returned (.int .i64 ((2 * n + d) / (2 * d))) ∧ w = w' := by
  obtain ⟨q, hq⟩ : ∃ q, (2 * n + d).tdiv (2 * d) = q := ⟨_, rfl⟩
  have HQ : Hid ((2 * n + d) / (2 * d) = q) := by show _ = _; rw [← hq, Int.tdiv_eq_ediv_of_nonneg (by omega)]
  have hq0 : 0 ≤ q := by rw [← HQ.out]; exact Int.ediv_nonneg (by omega) (by omega)
  have hq1 : q ≤ 3000000000000 := by
    have h2 := Int.ediv_le_self (2 * d) (show 0 ≤ 2 * n + d by omega)
    rw [← HQ.out]; omega
  rw [HQ.out]
  go_enter Tryz.func83, Tryz.ntmps83
  go_wp2
  go_ret
  exact ⟨rfl, rfl⟩
set_option maxHeartbeats 1000000 in
set_option maxRecDepth 100000 in
theorem lv_areDigits (s : ByteArray) (w : World) (hs : s.size ≤ maxLen) :
    Calls Tryz.prog 89 #[.string s] w fun e w' => e = .returned (.bool (dig3 s.data.toList)) ∧ w = w' := by
  unfold maxLen at hs
  have hsz : s.data.toList.length = s.size := by simp
  go_enter Tryz.func89, Tryz.ntmps89
  go_wp2
  go_loop [3, 6] (fun _ i => ∃ k : Nat, k ≤ s.size ∧ i = .int .i64 k ∧ Hid (∀ j (hj : j < s.data.toList.length), j < k → isD s.data.toList[j] = true)) (fun _ i => s.size - (intOf i).toNat)
  case atStart => exact ⟨0, Nat.zero_le _, rfl, fun j hj h => absurd h (by omega)⟩
  case round =>
    obtain ⟨k, hk, rfl, HK⟩ := hrel
    by_cases hlt : k < s.size
    · obtain ⟨c, HC⟩ : ∃ c : Nat, Hid (s[k].toNat = c) := ⟨_, Lib.hid rfl⟩
      have hn : ¬ (48 ≤ c ∧ c ≤ 57) → Hid (dig3 s.data.toList = false) := fun h => by
        show dig3 _ = false
        unfold dig3
        rw [allNot (j := k) (by omega) (by rw [← get_data s k hlt]; rw [Bool.eq_false_iff]; intro e; have := isD_iff.1 e; rw [HC.out] at this; omega)]; rfl
      have hc : (s[k].toNat : Int) = (c : Int) := by rw [HC.out]
      by_cases h1 : c < 48
      · have HN := hn (by omega)
        clear hn
        go_wp2
        go_ret
        exact ⟨ret_bool HN.out.symm, rfl⟩
      · by_cases h2 : 57 < c
        · have HN := hn (by omega)
          clear hn
          go_wp2
          go_ret
          exact ⟨ret_bool HN.out.symm, rfl⟩
        · clear hn
          have h1' : 48 ≤ c := by omega
          have h2' : c ≤ 57 := by omega
          have HY : Hid (isD s[k] = true) := by show isD _ = true; rw [isD_iff, HC.out]; omega
          clear h1 h2
          go_wp2
          go_round
          case rel =>
            refine ⟨k + 1, by omega, by go_num, fun j hj h => ?_⟩
            by_cases hjk : j = k
            · subst hjk; have := HY.out; rw [get_data] at this; exact this
            · exact HK.out j hj (by omega)
          case measure => simp [intOf]; omega
    · have HA : Hid (dig3 s.data.toList = (decide (1 ≤ s.size) && decide (s.size ≤ 3))) := by
        show dig3 _ = _
        unfold dig3
        rw [allGet fun j hj => HK.out j hj (by omega), hsz]; rfl
      by_cases h1 : 1 ≤ s.size
      · have hne : (s.toList == []) = false := by
          rw [ByteArray.toList_eq, beq_eq_false_iff_ne]; intro e; rw [e] at hsz; simp at hsz; omega
        by_cases h3 : s.size ≤ 3
        · rw [decide_eq_true h1, decide_eq_true h3] at HA
          go_wp2
          go_ret
          exact ⟨ret_bool (by rw [HA.out]; exact decide_eq_true (by omega)), rfl⟩
        · rw [decide_eq_true h1, decide_eq_false h3] at HA
          have h3' : 3 < s.size := by omega
          clear h3
          go_wp2
          go_ret
          exact ⟨ret_bool (by rw [HA.out]; exact decide_eq_false (by omega)), rfl⟩
      · rw [decide_eq_false h1] at HA
        have h1' : s.size = 0 := by omega
        have hne : (s.toList == []) = true := by
          rw [ByteArray.toList_eq, beq_iff_eq]; exact List.length_eq_zero_iff.1 (by omega)
        clear h1
        go_wp2
        go_ret
        exact ⟨ret_bool HA.out.symm, rfl⟩
set_option maxHeartbeats 1000000 in
theorem lv_step (n d : Int) (w : World) (h0 : 0 ≤ n) (h1 : n ≤ 1000000000) (h2 : 0 ≤ d) (h3 : d ≤ 9) :
    Calls Tryz.prog 123 #[.int .i64 n, .int .i64 d] w fun e w' => e = .returned (.int .i64 (10 * n + d)) ∧ w = w' := by
  go_enter Tryz.func123, Tryz.ntmps123
  go_wp2
  go_ret
  exact ⟨rfl, rfl⟩
theorem fold_facts (s : ByteArray) (n : Nat) (hall : s.data.toList.all isD = true) (hl : s.size ≤ 3) (hn : n ≤ 999) :
    ∃ f : Nat → Nat, f 0 = n ∧ f s.size = n * 10 ^ s.size + dec s.data.toList ∧ (∀ k, k ≤ s.size → f k ≤ 999999) ∧ (∀ k (h : k < s.size), f (k + 1) = 10 * f k + (s[k].toNat - 48) ∧ 48 ≤ s[k].toNat ∧ s[k].toNat ≤ 57) := by
  have hsz : s.data.toList.length = s.size := by simp
  refine ⟨fun k => n * 10 ^ k + dec (s.data.toList.take k), by simp [dec], ?_, fun k hk => ?_, fun k hk => ?_⟩
  · show n * 10 ^ s.size + dec (s.data.toList.take s.size) = _
    rw [List.take_of_length_le (by omega)]
  · show n * 10 ^ k + dec (s.data.toList.take k) ≤ 999999
    have h1 := dec_lt (s.data.toList.take k) (List.all_eq_true.2 fun c hc => List.all_eq_true.1 hall c (List.mem_of_mem_take hc))
    rw [List.length_take, Nat.min_eq_left (by omega)] at h1
    have : k = 0 ∨ k = 1 ∨ k = 2 ∨ k = 3 := by omega
    rcases this with rfl | rfl | rfl | rfl <;> simp at h1 ⊢ <;> omega
  · have h1 := isD_iff.1 (List.all_eq_true.1 hall _ (List.getElem_mem (show k < s.data.toList.length by omega)))
    refine ⟨?_, by rw [get_data]; exact h1.1, by rw [get_data]; exact h1.2⟩
    show n * 10 ^ (k + 1) + dec (s.data.toList.take (k + 1)) = 10 * (n * 10 ^ k + dec (s.data.toList.take k)) + _
    rw [dec_take_succ _ _ (by omega), Nat.pow_succ, get_data, show dv s.data.toList[k] = s.data.toList[k].toNat - 48 from rfl, Nat.mul_add, show n * (10 ^ k * 10) = 10 * (n * 10 ^ k) by rw [← Nat.mul_assoc, Nat.mul_comm]]
    omega
set_option maxHeartbeats 1000000 in
set_option maxRecDepth 100000 in
theorem lv_fold (s : ByteArray) (n : Nat) (w : World) (hall : s.data.toList.all isD = true) (hl : s.size ≤ 3) (hn : n ≤ 999) :
    Calls Tryz.prog 124 #[.string s, .int .i64 n, .func (.func 123) #[] #[]] w fun e w' => e = .returned (.int .i64 ((n * 10 ^ s.size + dec s.data.toList : Nat) : Int)) ∧ w = w' := by
  obtain ⟨f, f0, f1, fb, fs⟩ := fold_facts s n hall hl hn
  rw [← f1, ← f0]
  have FB := Lib.hid fb
  have FS := Lib.hid fs
  have HC := Lib.hid (fun n d w h0 h1 h2 h3 => lv_step n d w h0 h1 h2 h3)
  clear f0 f1 fb fs hall hn
  go_enter Tryz.func124, Tryz.ntmps124
  go_wp2
  go_loop [1, 7, 10] (fun n _ i => ∃ k : Nat, k ≤ s.size ∧ i = .int .i64 k ∧ n = .int .i64 (f k : Nat)) (fun _ _ i => s.size - (intOf i).toNat)
  case atStart => exact ⟨0, Nat.zero_le _, rfl, rfl⟩
  case round =>
    obtain ⟨k, hk, rfl, rfl⟩ := hrel
    by_cases hlt : k < s.size
    · have hb := FB.out k hk
      obtain ⟨hs1, hc1, hc2⟩ := FS.out k hlt
      have HS := Lib.hid hs1
      obtain ⟨c, hc⟩ : ∃ c : Nat, s[k].toNat = c := ⟨_, rfl⟩
      have hcc : (s[k].toNat : Int) = (c : Int) := by omega
      rw [hc] at hc1 hc2
      clear hs1
      go_wp2_with fail
      refine (HC.out _ _ _ (by omega) (by omega) (by omega) (by omega)).mono ?_; rintro e w' ⟨rfl, rfl⟩
      go_wp2
      go_round
      case rel =>
        refine ⟨k + 1, by omega, by go_num, ?_⟩
        rw [HS.out, hc]; go_num
      case measure => simp [intOf]; omega
    · have hk' : k = s.size := by omega
      subst hk'
      go_wp2
      go_ret
      exact ⟨rfl, rfl⟩
theorem rep3 (k : Nat) (w : World) (hk : k ≤ 3) : Calls Tryz.prog 122 #[.string ⟨#[48]⟩, .int .i64 (k : Int)] w (fun e w' => e = .returned (.string (str (List.replicate k 48))) ∧ Gr w w') := by
  have H := Tryz.strings_Repeat ⟨#[48]⟩ k w (by omega) (by show 1 * k ≤ _; omega)
  refine H.mono ?_
  rintro e w' ⟨rfl, hg⟩
  refine ⟨?_, hg⟩
  have : Lib.repeatL (⟨#[48]⟩ : ByteArray).data.toList k = List.replicate k 48 := by
    show Lib.repeatL [48] k = _
    clear H hk hg
    induction k with
    | zero => rfl
    | succ k ih => simp_all [Lib.repeatL, List.replicate_succ]
  rw [this]; rfl
set_option maxHeartbeats 1000000 in
theorem lv_parts (a b : List UInt8) (w : World) (ha : dig3 a = true) (hb : b.all isD = true) (hl : b.length ≤ 3) :
    Calls Tryz.prog 90 #[.string (str a), .string (str b)] w fun e w' => e = .returned (.int .i64 ((1000 * dec a + dec (pad3 b) : Nat) : Int)) ∧ Gr w w' := by
  obtain ⟨ha1, ha2, ha3⟩ := dig3_len ha
  have hda := dec_lt3 ha
  have HR := Lib.hid (fun w => rep3 (3 - b.length) w (by omega))
  have HA : Hid (∀ w, Calls Tryz.prog 124 #[.string (str a), .int .i64 0, .func (.func 123) #[] #[]] w fun e w' => e = .returned (.int .i64 (dec a : Nat)) ∧ w = w') := fun w => by
    have H := lv_fold (str a) 0 w (by rw [data_str]; exact ha1) (by rw [str_size]; exact ha3) (by omega)
    rw [data_str, Nat.zero_mul, Nat.zero_add] at H; exact H
  have HB : Hid (∀ w, Calls Tryz.prog 124 #[.string (str b ++ str (List.replicate (3 - b.length) 48)), .int .i64 (dec a : Nat), .func (.func 123) #[] #[]] w fun e w' => e = .returned (.int .i64 ((1000 * dec a + dec (pad3 b) : Nat) : Int)) ∧ w = w') := fun w => by
    have hl3 : (pad3 b).length = 3 := by unfold pad3; rw [List.length_append, List.length_replicate]; omega
    have H := lv_fold (str (pad3 b)) (dec a) w (by rw [data_str]; unfold pad3; rw [List.all_append, hb, Bool.true_and, List.all_eq_true]; intro c hc; rw [(List.mem_replicate.1 hc).2]; rfl) (by rw [str_size]; omega) (by omega)
    rw [data_str, str_size, hl3, show (10 : Nat) ^ 3 = 1000 from rfl, Nat.mul_comm (dec a) 1000] at H
    rw [str_app]; exact H
  have hlen : ((str b).size : Int) = (b.length : Int) := by rw [str_size]
  have hcast : 3 - ((b.length : Nat) : Int) = ((3 - b.length : Nat) : Int) := by omega
  have hbl : (b.length : Int) ≤ 3 := by omega
  have ht3 : (str b).size ≤ 3 := by rw [str_size]; omega
  have hu3 : (str (List.replicate (3 - b.length) 48)).size ≤ 3 := by rw [str_size, List.length_replicate]; omega
  generalize List.replicate (3 - b.length) (48 : UInt8) = z at *
  generalize 3 - b.length = m at *
  generalize dec a = x at *
  generalize 1000 * x + dec (pad3 b) = y at *
  generalize str a = s at *
  generalize str b = t at *
  generalize str z = u at *
  clear ha hb ha1 ha2 ha3
  go_enter Tryz.func90, Tryz.ntmps90
  go_wp2_with fail
  refine (HR.out _).mono ?_; rintro e w1 ⟨rfl, hg⟩
  have HG := Lib.hid hg; clear hg
  go_wp2_with fail
  refine (HA.out _).mono ?_; rintro e w' ⟨rfl, rfl⟩
  go_wp2_with fail
  refine (HB.out _).mono ?_; rintro e w' ⟨rfl, rfl⟩
  go_wp2
  go_ret
  exact ⟨rfl, HG.out⟩
end Go.Proofs.YtffifpinnhaloaaGreatDoor

/- Levels: the program's Percent. -/
namespace Go.Proofs.YtffifpinnhaloaaGreatDoor
open Go.RowKit Go.Shelf
open Z

theorem indexByte_dot (l : List UInt8) : (dotted l = true ∧ Lib.indexByte l 46 = ((before l).length : Int) ∧ (before l).length < l.length ∧ before l = l.take (before l).length ∧ behind l = l.drop ((before l).length + 1)) ∨ (dotted l = false ∧ Lib.indexByte l 46 = -1 ∧ before l = l) := by
  have hge := Lib.indexByte_ge l 46
  by_cases h : Lib.indexByte l 46 = -1
  · right
    have hn := Lib.indexByte_none h
    have h1 := dot_none (l := l) fun j hj e => hn j (by rw [List.getElem?_eq_getElem hj, e])
    exact ⟨h1.1, h, h1.2.1⟩
  · left
    obtain ⟨o, ho⟩ : ∃ o : Nat, Lib.indexByte l 46 = (o : Int) := ⟨(Lib.indexByte l 46).toNat, by omega⟩
    obtain ⟨h1, h2⟩ := Lib.indexByte_some ho
    have hlt : o < l.length := by
      by_cases hlt : o < l.length
      · exact hlt
      · rw [List.getElem?_eq_none (by omega)] at h1; cases h1
    rw [List.getElem?_eq_getElem hlt] at h1
    have h3 := dot_at hlt (fun j hj hjo e => h2 j hjo (by rw [List.getElem?_eq_getElem hj, e])) (by simpa using h1)
    have h4 : (before l).length = o := by rw [h3.2.1, List.length_take]; omega
    exact ⟨h3.1, by rw [h4]; exact ho, by omega, by rw [h4]; exact h3.2.1, by rw [h4]; exact h3.2.2⟩
/-- what strings.Cut hands back behind the first point -/
def cutR (l : List UInt8) : List UInt8 := if dotted l = true then behind l else []
set_option maxHeartbeats 1000000 in
theorem sl_cutDot (s : ByteArray) (w : World) (hs : s.size ≤ maxLen) :
    Calls Tryz.prog 121 #[.string s, .string ⟨#[46]⟩] w (fun e w' => e = .returned (.tuple #[.string (str (before s.data.toList)), .string (str (cutR s.data.toList)), .bool (dotted s.data.toList)]) ∧ Gr w w') := by
  have HI := Lib.hid (fun w => Tryz.stringslite_Index_one s 46 w)
  have hsz : s.data.toList.length = s.size := by simp
  unfold maxLen at hs
  rcases indexByte_dot s.data.toList with ⟨h1, h2, h3, h4, h5⟩ | ⟨h1, h2, h3⟩
  · rw [h2] at HI
    unfold cutR
    rw [h1, if_pos rfl, h4, h5, ← ext_take, ← ext_drop]
    rw [hsz] at h3
    generalize (before s.data.toList).length = n at *
    clear h1 h2 h4 h5 hsz
    have h1 : (⟨#[46]⟩ : ByteArray).size = 1 := rfl
    go_enter Tryz.func121, Tryz.ntmps121
    go_wp2_with fail
    refine (HI.out _).mono ?_; rintro e w' ⟨rfl, rfl⟩
    go_wp2
    go_quiet (fail)
    go_wp2
    go_ret3
    exact ⟨rfl, below_drewN (Gr.refl _) _⟩
  · rw [h2] at HI
    unfold cutR
    rw [h1, if_neg (by decide), h3, str_data]
    clear h1 h2 h3 hsz
    go_enter Tryz.func121, Tryz.ntmps121
    go_wp2_with fail
    refine (HI.out _).mono ?_; rintro e w' ⟨rfl, rfl⟩
    go_wp2
    go_ret3
    exact ⟨rfl, Gr.refl _⟩
set_option maxHeartbeats 1000000 in
theorem s_cutDot (s : ByteArray) (w : World) (hs : s.size ≤ maxLen) :
    Calls Tryz.prog 88 #[.string s, .string ⟨#[46]⟩] w (fun e w' => e = .returned (.tuple #[.string (str (before s.data.toList)), .string (str (cutR s.data.toList)), .bool (dotted s.data.toList)]) ∧ Gr w w') := by
  have H := Lib.hid (fun w => sl_cutDot s w hs)
  clear hs
  generalize str (before s.data.toList) = a at *
  generalize str (cutR s.data.toList) = b at *
  generalize dotted s.data.toList = c at *
  go_enter Tryz.func88, Tryz.ntmps88
  go_wp2_with fail
  refine (H.out _).mono ?_; rintro e w' ⟨rfl, hg⟩
  have HG := Lib.hid hg; clear hg
  go_wp2
  go_ret3
  exact ⟨rfl, HG.out⟩
theorem before_len (l : List UInt8) : (before l).length ≤ l.length := by unfold before; exact (List.takeWhile_sublist _).length_le
theorem cutR_len (l : List UInt8) : (cutR l).length ≤ l.length := by
  unfold cutR behind
  split
  · have := (List.dropWhile_sublist (l := l) (· != 46)).length_le
    rw [List.length_tail]; omega
  · simp
set_option maxHeartbeats 2000000 in
set_option maxRecDepth 100000 in
theorem lv_Percent (s : ByteArray) (w : World) (hs : s.size ≤ maxLen) :
    Calls Tryz.prog 53 #[.string s] w fun e w' => e = .returned (vII (pctR s.data.toList)) ∧ Gr w w' := by
  have hsz : s.data.toList.length = s.size := by simp
  by_cases hf : s.data.toList = fullL
  · have ht : (s.toList == [102, 117, 108, 108]) = true := by rw [ByteArray.toList_eq, hf]; rfl
    have HP : Hid (pctR s.data.toList = (65535, 0)) := by show pctR _ = _; unfold pctR; rw [if_pos hf]
    clear hf
    go_enter Tryz.func53, Tryz.ntmps53
    go_wp2
    go_ret2
    exact ⟨by rw [HP.out]; rfl, Gr.refl _⟩
  · have ht : (s.toList == [102, 117, 108, 108]) = false := by rw [ByteArray.toList_eq, beq_eq_false_iff_ne]; exact hf
    have HC := Lib.hid (fun w => s_cutDot s w hs)
    have hl1 := before_len s.data.toList
    have hl2 := cutR_len s.data.toList
    obtain ⟨W, hW⟩ : ∃ W, before s.data.toList = W := ⟨_, rfl⟩
    obtain ⟨R, hR⟩ : ∃ R, cutR s.data.toList = R := ⟨_, rfl⟩
    obtain ⟨dt, hdt⟩ : ∃ dt, dotted s.data.toList = dt := ⟨_, rfl⟩
    rw [hW, hR, hdt] at HC
    rw [hW] at hl1
    rw [hR] at hl2
    have HD1 : Hid (∀ w, Calls Tryz.prog 89 #[.string (str W)] w fun e w' => e = .returned (.bool (dig3 W)) ∧ w = w') := fun w => by
      have H := lv_areDigits (str W) w (by rw [str_size]; omega)
      rw [data_str] at H; exact H
    have HD2 : Hid (∀ w, Calls Tryz.prog 89 #[.string (str R)] w fun e w' => e = .returned (.bool (dig3 R)) ∧ w = w') := fun w => by
      have H := lv_areDigits (str R) w (by rw [str_size]; omega)
      rw [data_str] at H; exact H
    have HNP : Hid (dig3 W = true → (dt = true → dig3 R = true) → pctN s.data.toList = 1000 * dec W + dec (pad3 R) ∧ 1000 * dec W + dec (pad3 R) ≤ 999999 ∧ ∀ w, Calls Tryz.prog 90 #[.string (str W), .string (str R)] w fun e w' => e = .returned (.int .i64 ((1000 * dec W + dec (pad3 R) : Nat) : Int)) ∧ Gr w w') := by
      intro h1 h2
      have hdec : dec (pad3 (decs s.data.toList)) = dec (pad3 R) := by
        unfold decs; rw [← hR]; unfold cutR
        cases hd : dotted s.data.toList with
        | true => rfl
        | false => rfl
      have hN : pctN s.data.toList = 1000 * dec W + dec (pad3 R) := by unfold pctN; rw [hdec, hW]
      have hRR : R.all isD = true ∧ R.length ≤ 3 ∧ dec (pad3 R) ≤ 999 := by
        cases hb : dt with
        | true =>
          have h3 := h2 hb
          have h4 := dig3_len h3
          have h5 := dec_pad3_lt h3
          exact ⟨h4.1, h4.2.2, by omega⟩
        | false =>
          have h3 : R = [] := by rw [← hR]; unfold cutR; rw [hdt, hb]; rfl
          subst h3; exact ⟨rfl, by simp, by decide⟩
      have h6 := dec_lt3 h1
      exact ⟨hN, by omega, fun w => lv_parts W R w h1 hRR.1 hRR.2.1⟩
    have HNE := Lib.hid (fun (n : Int) w h0 h1 => lv_nearest n 100000 w h0 h1 (by omega) (by omega))
    have HL : Hid (dig3 W = true → ((str W).size ≤ 1 ∧ lead0 W = false) ∨ (1 < (str W).size ∧ (∀ h : 0 < (str W).size, (((str W)[0].toNat : Int) == 48) = true) ∧ lead0 W = true) ∨ (1 < (str W).size ∧ (∀ h : 0 < (str W).size, (((str W)[0].toNat : Int) == 48) = false) ∧ lead0 W = false)) := by
      intro h
      obtain ⟨h1, h2, h3⟩ := dig3_len h
      have hWs : (str W).size = W.length := str_size W
      unfold lead0
      by_cases h4 : W.length ≤ 1
      · left; exact ⟨by omega, by rw [decide_eq_false (by omega)]; rfl⟩
      · right
        have hz : 0 < (str W).size := by omega
        have hget : (str W)[0] = W[0]'(by omega) := by rw [get_data]; simp only [data_str]
        rw [decide_eq_true (show 1 < W.length by omega), Bool.true_and, List.head?_eq_getElem?, List.getElem?_eq_getElem (by omega)]
        by_cases h5 : W[0]'(by omega) = 48
        · left
          refine ⟨by omega, fun _ => by rw [hget, h5]; rfl, ?_⟩
          rw [h5]; rfl
        · right
          refine ⟨by omega, fun _ => ?_, ?_⟩
          · rw [beq_eq_false_iff_ne]; intro e; exact h5 (by rw [← hget]; exact UInt8.toNat_inj.1 (by show (str W)[0].toNat = 48; omega))
          · simpa using h5
    have hds : dig3 (decs s.data.toList) = if dt = true then dig3 R else true := by
      unfold decs; rw [← hR, ← hdt]; unfold cutR
      cases hd : dotted s.data.toList with
      | true => rfl
      | false => rfl
    have HP : Hid (pctR s.data.toList = if dig3 W = true ∧ (if dt = true then dig3 R else true) = true then (if lead0 W = true then (0, 3) else if 100000 < pctN s.data.toList then (0, 2) else (((lvOf (pctN s.data.toList) : Nat) : Int), 0)) else (0, 3)) := by
      show pctR _ = _
      unfold pctR
      rw [if_neg hf, hW, hds]
    have hws : (str W).size ≤ maxLen := by rw [str_size]; omega
    have hrs : (str R).size ≤ maxLen := by rw [str_size]; omega
    unfold maxLen at hs hws hrs
    clear hf hl1 hl2 hds hsz hdt hW hR
    generalize pctN s.data.toList = N at *
    generalize 1000 * dec W + dec (pad3 R) = M at *
    generalize dig3 W = b1 at *
    generalize dig3 R = b2 at *
    generalize lead0 W = ld at *
    generalize str W = W' at *
    generalize str R = R' at *
    cases b1
    · go_enter Tryz.func53, Tryz.ntmps53
      go_wp2_with fail
      refine (HC.out _).mono ?_; rintro e w1 ⟨rfl, hg⟩
      have HG := Lib.hid hg; clear hg
      go_wp2_with fail
      refine (HD1.out _).mono ?_; rintro e w' ⟨rfl, rfl⟩
      go_wp2
      go_ret2
      exact ⟨by rw [HP.out]; simp [vII], HG.out⟩
    · cases dt
      · go_enter Tryz.func53, Tryz.ntmps53
        go_wp2_with fail
        refine (HC.out _).mono ?_; rintro e w1 ⟨rfl, hg⟩
        have HG := Lib.hid hg; clear hg
        go_wp2_with fail
        refine (HD1.out _).mono ?_; rintro e w' ⟨rfl, rfl⟩
        obtain ⟨hN, hM, HPT⟩ := HNP.out (by trivial) (fun h => by cases h)
        have HPA := Lib.hid HPT
        have HNM := Lib.hid hN
        clear HPT hN
        rcases HL.out (by trivial) with ⟨hw1, hl0⟩ | ⟨hw1, hz, hl0⟩ | ⟨hw1, hz, hl0⟩
        · have HL0 := Lib.hid hl0; clear hl0
          go_wp2_with fail
          refine (HPA.out _).mono ?_; rintro e w2 ⟨rfl, hg⟩
          replace HG := Lib.hid (Gr.trans HG.out hg); clear hg
          by_cases hbig : 100000 < M
          · go_wp2
            go_ret2
            exact ⟨by rw [HP.out, HNM.out]; simp [vII, hbig, HL0.out], HG.out⟩
          · go_wp2_with fail
            refine (HNE.out _ _ (by omega) (by omega)).mono ?_; rintro e w' ⟨rfl, rfl⟩
            go_wp2
            go_ret2
            exact ⟨by rw [HP.out, HNM.out]; simp [vII, hbig, HL0.out]; unfold lvOf; omega, HG.out⟩
        · have HL0 := Lib.hid hl0; clear hl0
          go_wp2
          go_ret2
          exact ⟨by rw [HP.out]; simp [vII, HL0.out], HG.out⟩
        · have HL0 := Lib.hid hl0; clear hl0
          go_wp2_with fail
          refine (HPA.out _).mono ?_; rintro e w2 ⟨rfl, hg⟩
          replace HG := Lib.hid (Gr.trans HG.out hg); clear hg
          by_cases hbig : 100000 < M
          · go_wp2
            go_ret2
            exact ⟨by rw [HP.out, HNM.out]; simp [vII, hbig, HL0.out], HG.out⟩
          · go_wp2_with fail
            refine (HNE.out _ _ (by omega) (by omega)).mono ?_; rintro e w' ⟨rfl, rfl⟩
            go_wp2
            go_ret2
            exact ⟨by rw [HP.out, HNM.out]; simp [vII, hbig, HL0.out]; unfold lvOf; omega, HG.out⟩
      · cases b2
        · go_enter Tryz.func53, Tryz.ntmps53
          go_wp2_with fail
          refine (HC.out _).mono ?_; rintro e w1 ⟨rfl, hg⟩
          have HG := Lib.hid hg; clear hg
          go_wp2_with fail
          refine (HD1.out _).mono ?_; rintro e w' ⟨rfl, rfl⟩
          go_wp2_with fail
          refine (HD2.out _).mono ?_; rintro e w' ⟨rfl, rfl⟩
          go_wp2
          go_ret2
          exact ⟨by rw [HP.out]; simp [vII], HG.out⟩
        · go_enter Tryz.func53, Tryz.ntmps53
          go_wp2_with fail
          refine (HC.out _).mono ?_; rintro e w1 ⟨rfl, hg⟩
          have HG := Lib.hid hg; clear hg
          go_wp2_with fail
          refine (HD1.out _).mono ?_; rintro e w' ⟨rfl, rfl⟩
          go_wp2_with fail
          refine (HD2.out _).mono ?_; rintro e w' ⟨rfl, rfl⟩
          obtain ⟨hN, hM, HPT⟩ := HNP.out (by trivial) (fun _ => by trivial)
          have HPA := Lib.hid HPT
          have HNM := Lib.hid hN
          clear HPT hN
          rcases HL.out (by trivial) with ⟨hw1, hl0⟩ | ⟨hw1, hz, hl0⟩ | ⟨hw1, hz, hl0⟩
          · have HL0 := Lib.hid hl0; clear hl0
            go_wp2_with fail
            refine (HPA.out _).mono ?_; rintro e w2 ⟨rfl, hg⟩
            replace HG := Lib.hid (Gr.trans HG.out hg); clear hg
            by_cases hbig : 100000 < M
            · go_wp2
              go_ret2
              exact ⟨by rw [HP.out, HNM.out]; simp [vII, hbig, HL0.out], HG.out⟩
            · go_wp2_with fail
              refine (HNE.out _ _ (by omega) (by omega)).mono ?_; rintro e w' ⟨rfl, rfl⟩
              go_wp2
              go_ret2
              exact ⟨by rw [HP.out, HNM.out]; simp [vII, hbig, HL0.out]; unfold lvOf; omega, HG.out⟩
          · have HL0 := Lib.hid hl0; clear hl0
            go_wp2
            go_ret2
            exact ⟨by rw [HP.out]; simp [vII, HL0.out], HG.out⟩
          · have HL0 := Lib.hid hl0; clear hl0
            go_wp2_with fail
            refine (HPA.out _).mono ?_; rintro e w2 ⟨rfl, hg⟩
            replace HG := Lib.hid (Gr.trans HG.out hg); clear hg
            by_cases hbig : 100000 < M
            · go_wp2
              go_ret2
              exact ⟨by rw [HP.out, HNM.out]; simp [vII, hbig, HL0.out], HG.out⟩
            · go_wp2_with fail
              refine (HNE.out _ _ (by omega) (by omega)).mono ?_; rintro e w' ⟨rfl, rfl⟩
              go_wp2
              go_ret2
              exact ⟨by rw [HP.out, HNM.out]; simp [vII, hbig, HL0.out]; unfold lvOf; omega, HG.out⟩
end Go.Proofs.YtffifpinnhaloaaGreatDoor

/- Levels: the program's least and Text. -/
namespace Go.Proofs.YtffifpinnhaloaaGreatDoor
open Go.RowKit Go.Shelf
open Z

theorem s_Itoa (n : Int) (w : World) (h0 : -9223372036854775808 ≤ n) (h1 : n ≤ 9223372036854775807) (htab : Tab w) :
    Calls Tryz.prog 120 #[.int .i64 n] w (fun e w' => e = .returned (.string (Tx n)) ∧ Gr w w') := by
  refine (Tryz.strconv_Itoa n h0 h1 w htab).mono ?_
  rintro e w' ⟨rfl, k, os, rfl⟩
  exact ⟨rfl, Lib.below_grow _ _ (Nat.le_refl _) _ _⟩
theorem Tx_nat_data (n : Nat) : (Tx (n : Int)).data.toList = Lib.decDigits n := by rw [data_Tx]; unfold Lib.itoa; rw [if_neg (by omega)]; simp
theorem pText_eq (m d : Nat) (hd : 1 ≤ d) : Tx ((m / unitN d : Nat) : Int) ++ ⟨#[46]⟩ ++ (Tx ((unitN d + m % unitN d : Nat) : Int)).extract 1 (Tx ((unitN d + m % unitN d : Nat) : Int)).size = str (pText m d) := by
  rw [ext_drop, ← str_data (Tx ((m / unitN d : Nat) : Int)), Tx_nat_data, Tx_nat_data]
  unfold pText
  rw [if_neg (by omega), List.drop_one]
  apply ba_ext
  simp [str]
theorem pText_zero (m : Nat) : Tx (m : Int) = str (pText m 0) := by
  rw [← str_data (Tx (m : Int)), Tx_nat_data]
  unfold pText; rw [unit0]; simp
theorem Tx_small {n : Nat} (h : n ≤ 100000) : (Tx (n : Int)).size ≤ 100 ∧ 1 ≤ (Tx (n : Int)).size := by
  have h1 : (Tx (n : Int)).size = (Lib.decDigits n).length := by rw [← Tx_nat_data]; simp
  have h2 := Lib.decDigits_length n
  have h3 := Lib.nDigits_pos n
  have h4 : Lib.nDigits n ≤ 100 := (nDigits_le_iff n 100 (by omega)).2 (by omega)
  omega
theorem unit_step (k : Nat) (hk : k ≤ 2) : ((unitN k : Nat) : Int) * 10 = ((unitN (k + 1) : Nat) : Int) ∧ unitN k ≤ 100 := by
  have : k = 0 ∨ k = 1 ∨ k = 2 := by omega
  rcases this with rfl | rfl | rfl <;> decide
set_option maxHeartbeats 4000000 in
set_option maxRecDepth 100000 in
theorem lv_least (v d : Nat) (w : World) (hv : v ≤ 65534) (hd : d ≤ 3) (htab : Tab w) :
    Calls Tryz.prog 87 #[.int .i64 v, .int .i64 d] w fun e w' => e = .returned (.string (str (pText (leastM v d) d))) ∧ Gr w w' := by
  have HIT := Lib.hid (fun (n : Nat) (h : n ≤ 100000) w ht => s_Itoa (n : Int) w (by omega) (by omega) ht)
  have HTAB := Lib.hid htab
  clear htab
  have hd4 : d = 0 ∨ d = 1 ∨ d = 2 ∨ d = 3 := by omega
  rcases hd4 with rfl | rfl | rfl | rfl
  · obtain ⟨m, hm⟩ : ∃ m, leastM v 0 = m := ⟨_, rfl⟩
    have hml : m ≤ 100 := by rw [← hm]; exact least_le hv (by omega)
    have hq : ((2 * (v : Int) - 1) * 100 * 1 + 131070 - 1).tdiv 131070 = (m : Int) := by
      rw [Int.tdiv_eq_ediv_of_nonneg (by omega), ← hm]; unfold leastM; rw [unit0]; omega
    have hq' : ((2 * (v : Int) - 1) * 100 + 131070 - 1) / 131070 = (m : Int) := by
      rw [← hm]; unfold leastM; rw [unit0]; omega
    rw [hm]
    clear hm
    have HE := Lib.hid (pText_zero m)
    have HI1 := Lib.hid (HIT.out m (by omega))
    generalize str (pText m 0) = r at *
    generalize Tx (m : Int) = A at *
    clear HIT
    go_enter Tryz.func87, Tryz.ntmps87
    go_wp2
    go_loop [5, 9] (fun u i => ∃ k : Nat, k ≤ 0 ∧ i = .int .i64 k ∧ u = .int .i64 (unitN k : Nat)) (fun _ i => 0 - (intOf i).toNat)
    case atStart => exact ⟨0, Nat.zero_le _, rfl, rfl⟩
    case round =>
      obtain ⟨k, hk, rfl, rfl⟩ := hrel
      have hkd : k = 0 := by omega
      subst hkd
      have hun : ((unitN 0 : Nat) : Int) = 1 := rfl
      go_wp2_with fail
      refine (HI1.out _ HTAB.out).mono ?_; rintro e w1 ⟨rfl, hg⟩
      have HG := Lib.hid hg; clear hg
      go_wp2
      go_ret
      exact ⟨ret_str HE.out, HG.out⟩
  · obtain ⟨m, hm⟩ : ∃ m, leastM v 1 = m := ⟨_, rfl⟩
    have hml : m ≤ 1000 := by rw [← hm]; exact least_le hv (by omega)
    have hq : ((2 * (v : Int) - 1) * 100 * 10 + 131070 - 1).tdiv 131070 = (m : Int) := by
      rw [Int.tdiv_eq_ediv_of_nonneg (by omega), ← hm]; unfold leastM; rw [unit1]; omega
    have hq' : ((2 * (v : Int) - 1) * 100 * 10 + 131070 - 1) / 131070 = (m : Int) := by
      rw [← hm]; unfold leastM; rw [unit1]; omega
    rw [hm]
    clear hm
    have hdv : (m : Int).tdiv 10 = ((m / 10 : Nat) : Int) := by rw [Int.tdiv_eq_ediv_of_nonneg (by omega)]; omega
    have hmd : (m : Int).tmod 10 = ((m % 10 : Nat) : Int) := by rw [Int.tmod_eq_emod_of_nonneg (by omega)]; omega
    have HE := Lib.hid (pText_eq m 1 (by omega))
    rw [unit1] at HE
    have s1 := Tx_small (n := m / 10) (by omega)
    have s2 := Tx_small (n := 10 + m % 10) (by omega)
    have HI1 := Lib.hid (HIT.out (m / 10) (by omega))
    have HI2 := Lib.hid (HIT.out (10 + m % 10) (by omega))
    have hx : m / 10 ≤ 100000 := by omega
    have hy : m % 10 < 10 := Nat.mod_lt _ (by omega)
    have hc : ((10 + m % 10 : Nat) : Int) = 10 + ((m % 10 : Nat) : Int) := by omega
    rw [hc] at HE s2 HI2
    generalize str (pText m 1) = r at *
    generalize m / 10 = x at *
    generalize m % 10 = y at *
    obtain ⟨s1a, s1b⟩ := s1
    obtain ⟨s2a, s2b⟩ := s2
    generalize Tx (x : Int) = A at *
    generalize Tx (10 + (y : Int)) = B at *
    clear HIT hc
    go_enter Tryz.func87, Tryz.ntmps87
    go_wp2
    go_loop [5, 9] (fun u i => ∃ k : Nat, k ≤ 1 ∧ i = .int .i64 k ∧ u = .int .i64 (unitN k : Nat)) (fun _ i => 1 - (intOf i).toNat)
    case atStart => exact ⟨0, Nat.zero_le _, rfl, rfl⟩
    case round =>
      obtain ⟨k, hk, rfl, rfl⟩ := hrel
      by_cases hlt : k < 1
      · obtain ⟨hu, hul⟩ := unit_step k (by omega)
        go_wp2
        go_round
        case rel => exact ⟨k + 1, by omega, by go_num, by first | rfl | rw [hu] | exact (congrArg _ hu).symm⟩
        case measure => simp [intOf]; omega
      · have hkd : k = 1 := by omega
        subst hkd
        have hun : ((unitN 1 : Nat) : Int) = 10 := rfl
        go_wp2_with fail
        refine (HI1.out _ HTAB.out).mono ?_; rintro e w1 ⟨rfl, hg⟩
        have HG := Lib.hid hg; clear hg
        go_wp2_with fail
        refine (HI2.out _ (htab_gr HTAB.out HG.out)).mono ?_; rintro e w2 ⟨rfl, hg⟩
        replace HG := Lib.hid (Gr.trans HG.out hg); clear hg
        go_wp2
        go_ret
        exact ⟨ret_str HE.out, HG.out⟩
  · obtain ⟨m, hm⟩ : ∃ m, leastM v 2 = m := ⟨_, rfl⟩
    have hml : m ≤ 10000 := by rw [← hm]; exact least_le hv (by omega)
    have hq : ((2 * (v : Int) - 1) * 100 * 100 + 131070 - 1).tdiv 131070 = (m : Int) := by
      rw [Int.tdiv_eq_ediv_of_nonneg (by omega), ← hm]; unfold leastM; rw [unit2]; omega
    have hq' : ((2 * (v : Int) - 1) * 100 * 100 + 131070 - 1) / 131070 = (m : Int) := by
      rw [← hm]; unfold leastM; rw [unit2]; omega
    rw [hm]
    clear hm
    have hdv : (m : Int).tdiv 100 = ((m / 100 : Nat) : Int) := by rw [Int.tdiv_eq_ediv_of_nonneg (by omega)]; omega
    have hmd : (m : Int).tmod 100 = ((m % 100 : Nat) : Int) := by rw [Int.tmod_eq_emod_of_nonneg (by omega)]; omega
    have HE := Lib.hid (pText_eq m 2 (by omega))
    rw [unit2] at HE
    have s1 := Tx_small (n := m / 100) (by omega)
    have s2 := Tx_small (n := 100 + m % 100) (by omega)
    have HI1 := Lib.hid (HIT.out (m / 100) (by omega))
    have HI2 := Lib.hid (HIT.out (100 + m % 100) (by omega))
    have hx : m / 100 ≤ 100000 := by omega
    have hy : m % 100 < 100 := Nat.mod_lt _ (by omega)
    have hc : ((100 + m % 100 : Nat) : Int) = 100 + ((m % 100 : Nat) : Int) := by omega
    rw [hc] at HE s2 HI2
    generalize str (pText m 2) = r at *
    generalize m / 100 = x at *
    generalize m % 100 = y at *
    obtain ⟨s1a, s1b⟩ := s1
    obtain ⟨s2a, s2b⟩ := s2
    generalize Tx (x : Int) = A at *
    generalize Tx (100 + (y : Int)) = B at *
    clear HIT hc
    go_enter Tryz.func87, Tryz.ntmps87
    go_wp2
    go_loop [5, 9] (fun u i => ∃ k : Nat, k ≤ 2 ∧ i = .int .i64 k ∧ u = .int .i64 (unitN k : Nat)) (fun _ i => 2 - (intOf i).toNat)
    case atStart => exact ⟨0, Nat.zero_le _, rfl, rfl⟩
    case round =>
      obtain ⟨k, hk, rfl, rfl⟩ := hrel
      by_cases hlt : k < 2
      · obtain ⟨hu, hul⟩ := unit_step k (by omega)
        go_wp2
        go_round
        case rel => exact ⟨k + 1, by omega, by go_num, by first | rfl | rw [hu] | exact (congrArg _ hu).symm⟩
        case measure => simp [intOf]; omega
      · have hkd : k = 2 := by omega
        subst hkd
        have hun : ((unitN 2 : Nat) : Int) = 100 := rfl
        go_wp2_with fail
        refine (HI1.out _ HTAB.out).mono ?_; rintro e w1 ⟨rfl, hg⟩
        have HG := Lib.hid hg; clear hg
        go_wp2_with fail
        refine (HI2.out _ (htab_gr HTAB.out HG.out)).mono ?_; rintro e w2 ⟨rfl, hg⟩
        replace HG := Lib.hid (Gr.trans HG.out hg); clear hg
        go_wp2
        go_ret
        exact ⟨ret_str HE.out, HG.out⟩
  · obtain ⟨m, hm⟩ : ∃ m, leastM v 3 = m := ⟨_, rfl⟩
    have hml : m ≤ 100000 := by rw [← hm]; exact least_le hv (by omega)
    have hq : ((2 * (v : Int) - 1) * 100 * 1000 + 131070 - 1).tdiv 131070 = (m : Int) := by
      rw [Int.tdiv_eq_ediv_of_nonneg (by omega), ← hm]; unfold leastM; rw [unit3]; omega
    have hq' : ((2 * (v : Int) - 1) * 100 * 1000 + 131070 - 1) / 131070 = (m : Int) := by
      rw [← hm]; unfold leastM; rw [unit3]; omega
    rw [hm]
    clear hm
    have hdv : (m : Int).tdiv 1000 = ((m / 1000 : Nat) : Int) := by rw [Int.tdiv_eq_ediv_of_nonneg (by omega)]; omega
    have hmd : (m : Int).tmod 1000 = ((m % 1000 : Nat) : Int) := by rw [Int.tmod_eq_emod_of_nonneg (by omega)]; omega
    have HE := Lib.hid (pText_eq m 3 (by omega))
    rw [unit3] at HE
    have s1 := Tx_small (n := m / 1000) (by omega)
    have s2 := Tx_small (n := 1000 + m % 1000) (by omega)
    have HI1 := Lib.hid (HIT.out (m / 1000) (by omega))
    have HI2 := Lib.hid (HIT.out (1000 + m % 1000) (by omega))
    have hx : m / 1000 ≤ 100000 := by omega
    have hy : m % 1000 < 1000 := Nat.mod_lt _ (by omega)
    have hc : ((1000 + m % 1000 : Nat) : Int) = 1000 + ((m % 1000 : Nat) : Int) := by omega
    rw [hc] at HE s2 HI2
    generalize str (pText m 3) = r at *
    generalize m / 1000 = x at *
    generalize m % 1000 = y at *
    obtain ⟨s1a, s1b⟩ := s1
    obtain ⟨s2a, s2b⟩ := s2
    generalize Tx (x : Int) = A at *
    generalize Tx (1000 + (y : Int)) = B at *
    clear HIT hc
    go_enter Tryz.func87, Tryz.ntmps87
    go_wp2
    go_loop [5, 9] (fun u i => ∃ k : Nat, k ≤ 3 ∧ i = .int .i64 k ∧ u = .int .i64 (unitN k : Nat)) (fun _ i => 3 - (intOf i).toNat)
    case atStart => exact ⟨0, Nat.zero_le _, rfl, rfl⟩
    case round =>
      obtain ⟨k, hk, rfl, rfl⟩ := hrel
      by_cases hlt : k < 3
      · obtain ⟨hu, hul⟩ := unit_step k (by omega)
        go_wp2
        go_round
        case rel => exact ⟨k + 1, by omega, by go_num, by first | rfl | rw [hu] | exact (congrArg _ hu).symm⟩
        case measure => simp [intOf]; omega
      · have hkd : k = 3 := by omega
        subst hkd
        have hun : ((unitN 3 : Nat) : Int) = 1000 := rfl
        go_wp2_with fail
        refine (HI1.out _ HTAB.out).mono ?_; rintro e w1 ⟨rfl, hg⟩
        have HG := Lib.hid hg; clear hg
        go_wp2_with fail
        refine (HI2.out _ (htab_gr HTAB.out HG.out)).mono ?_; rintro e w2 ⟨rfl, hg⟩
        replace HG := Lib.hid (Gr.trans HG.out hg); clear hg
        go_wp2
        go_ret
        exact ⟨ret_str HE.out, HG.out⟩
end Go.Proofs.YtffifpinnhaloaaGreatDoor

/- Levels: texts, both sides. -/
namespace Go.Proofs.YtffifpinnhaloaaGreatDoor
open Go.RowKit Go.Shelf
open Z

theorem decN_eq {n d : Nat} (hd : d ≤ 3) (h : hasD n d = true) (hn : ∀ d', d' < d → hasD n d' = false) : decN n = d := by
  have h4 : d = 0 ∨ d = 1 ∨ d = 2 ∨ d = 3 := by omega
  unfold decN
  rcases h4 with rfl | rfl | rfl | rfl
  · rw [if_pos h]
  · rw [if_neg (by rw [hn 0 (by omega)]; decide), if_pos h]
  · rw [if_neg (by rw [hn 0 (by omega)]; decide), if_neg (by rw [hn 1 (by omega)]; decide), if_pos h]
  · rw [if_neg (by rw [hn 0 (by omega)]; decide), if_neg (by rw [hn 1 (by omega)]; decide), if_neg (by rw [hn 2 (by omega)]; decide)]
/-- the text of a level, and the number of the error -/
def textI (v : Int) : ByteArray × Int := if lvl v = true then (str (textR v.toNat), 0) else (⟨#[]⟩, 2)
theorem str_full : str fullL = ⟨#[102, 117, 108, 108]⟩ := rfl
set_option maxHeartbeats 2000000 in
set_option maxRecDepth 100000 in
theorem lv_Text (v : Int) (w : World) (hv : isJ v) (htab : Tab w) :
    Calls Tryz.prog 52 #[.int .i64 v] w fun e w' => e = .returned (vSI (textI v)) ∧ Gr w w' := by
  have HC := Lib.hid (fun w => lv_Check v w hv)
  have HTAB := Lib.hid htab
  clear htab
  have hv0 := hv.1
  have hv1 := hv.2
  clear hv
  unfold textI
  cases hl : lvl v
  · rw [hl] at HC
    clear hl
    go_enter Tryz.func52, Tryz.ntmps52
    go_wp2_with fail
    refine (HC.out _).mono ?_; rintro e w' ⟨rfl, rfl⟩
    go_wp2
    go_ret2
    exact ⟨rfl, Gr.refl _⟩
  · rw [hl] at HC
    obtain ⟨hr0, hr1⟩ := lvl_range hl
    obtain ⟨n, rfl⟩ : ∃ n : Nat, v = (n : Int) := ⟨v.toNat, by omega⟩
    rw [if_pos rfl, Int.toNat_natCast]
    clear hl hv0 hv1 hr0
    by_cases hf : n = 65535
    · subst hf
      have e : textR 65535 = fullL := by unfold textR; rw [if_pos rfl]
      rw [e, str_full]
      clear e
      go_enter Tryz.func52, Tryz.ntmps52
      go_wp2_with fail
      refine (HC.out _).mono ?_; rintro e w' ⟨rfl, rfl⟩
      go_wp2
      go_ret2
      exact ⟨rfl, Gr.refl _⟩
    · have hn : n ≤ 65534 := by omega
      have h5 : ((n : Int) == 65535) = false := by rw [beq_eq_false_iff_ne]; omega
      have HE : Hid (∀ d, d ≤ 3 → hasD n d = true → (∀ d', d' < d → hasD n d' = false) → textR n = pText (leastM n d) d) := fun d hd h hno => by
        unfold textR; rw [if_neg hf, decN_eq hd h hno]
      have HL := Lib.hid (fun (d : Nat) (hd : d ≤ 3) w ht => lv_least n d w hn hd ht)
      have HP : Hid (∀ d : Nat, d ≤ 3 → ∀ w, Calls Tryz.prog 53 #[.string (str (pText (leastM n d) d))] w fun e w' => e = .returned (.tuple #[.int .i64 (lvOf (leastM n d * unitN (3 - d)) : Nat), .int .i64 0]) ∧ Gr w w') := fun d hd w => by
        have hlen : (str (pText (leastM n d) d)).size ≤ maxLen := by
          rw [str_size]; unfold pText maxLen
          have h1 := Lib.decDigits_length (leastM n d / unitN d)
          have h2 := Lib.decDigits_length (unitN d + leastM n d % unitN d)
          have hm := least_le hn hd
          have hu : unitN d ≤ 1000 := by
            have : d = 0 ∨ d = 1 ∨ d = 2 ∨ d = 3 := by omega
            rcases this with rfl | rfl | rfl | rfl <;> decide
          have hmm := Nat.mod_le (leastM n d) (unitN d)
          have hdd := Nat.div_le_self (leastM n d) (unitN d)
          have h3 : Lib.nDigits (leastM n d / unitN d) ≤ 10 := (nDigits_le_iff _ 10 (by omega)).2 (by omega)
          have h4 : Lib.nDigits (unitN d + leastM n d % unitN d) ≤ 10 := (nDigits_le_iff _ 10 (by omega)).2 (by omega)
          rw [List.length_append]
          split
          · simp; omega
          · rw [List.length_cons, List.length_tail]; omega
        have H := lv_Percent (str (pText (leastM n d) d)) w hlen
        rw [data_str, pct_pText hd (least_le hn hd)] at H
        exact H
      have HH : Hid (∀ d, hasD n d = (lvOf (leastM n d * unitN (3 - d)) == n)) := fun d => rfl
      have H3 : Hid (hasD n 3 = true) := by show hasD n 3 = true; unfold hasD; rw [least_3 hn]; simp
      clear hf
      go_enter Tryz.func52, Tryz.ntmps52
      go_wp2_with fail
      refine (HC.out _).mono ?_; rintro e w' ⟨rfl, rfl⟩
      go_wp2
      go_loopw [5, 6, 7, 8, 16] (fun _ _ _ _ i wr => ∃ d : Nat, d ≤ 3 ∧ i = .int .i64 d ∧ Hid (∀ d', d' < d → hasD n d' = false) ∧ Gr w wr) (fun _ _ _ _ i _ => 4 - (intOf i).toNat)
      case atStart => exact ⟨0, by omega, rfl, fun d' h => absurd h (by omega), Gr.refl _⟩
      case round =>
        obtain ⟨d, hd, rfl, HN, hg⟩ := hrel
        have HG := Lib.hid hg; clear hg
        have HPd := Lib.hid (HP.out d hd)
        have HLd := Lib.hid (HL.out d hd)
        have HEd := Lib.hid (HE.out d hd)
        have HHd := Lib.hid (HH.out d)
        obtain ⟨T, HT⟩ : ∃ T, Hid (str (pText (leastM n d) d) = T) := ⟨_, Lib.hid rfl⟩
        obtain ⟨q, HQ⟩ : ∃ q, Hid (lvOf (leastM n d * unitN (3 - d)) = q) := ⟨_, Lib.hid rfl⟩
        rw [HT.out] at HPd HLd
        rw [HQ.out] at HPd HHd
        cases hc : hasD n d
        · have hne : ((q : Int) == (n : Int)) = false := by
            rw [beq_eq_false_iff_ne]; intro e
            have h1 := HHd.out; rw [hc] at h1
            have h2 : (q == n) = true := by simp; omega
            rw [h2] at h1; cases h1
          have hd3 : d ≤ 2 := by
            by_cases h3 : d = 3
            · subst h3; rw [H3.out] at hc; cases hc
            · omega
          have HCC := Lib.hid hc
          clear hc
          go_wp2_with fail
          refine (HLd.out _ (htab_gr HTAB.out HG.out)).mono ?_; rintro e w1 ⟨rfl, hg⟩
          replace HG := Lib.hid (Gr.trans HG.out hg); clear hg
          go_wp2_with fail
          refine (HPd.out _).mono ?_; rintro e w2 ⟨rfl, hg⟩
          replace HG := Lib.hid (Gr.trans HG.out hg); clear hg
          go_wp2
          go_roundw
          case rel =>
            refine ⟨d + 1, by omega, by go_num, fun d' h => ?_, HG.out⟩
            by_cases hdd : d' = d
            · subst hdd; exact HCC.out
            · exact HN.out d' (by omega)
          case measure => simp [intOf]; omega
        · have heq : ((q : Int) == (n : Int)) = true := by
            rw [beq_iff_eq]
            have h1 := HHd.out; rw [hc] at h1
            have h2 : q = n := by simpa using h1.symm
            omega
          have HCC := Lib.hid hc
          clear hc
          go_wp2_with fail
          refine (HLd.out _ (htab_gr HTAB.out HG.out)).mono ?_; rintro e w1 ⟨rfl, hg⟩
          replace HG := Lib.hid (Gr.trans HG.out hg); clear hg
          go_wp2_with fail
          refine (HPd.out _).mono ?_; rintro e w2 ⟨rfl, hg⟩
          replace HG := Lib.hid (Gr.trans HG.out hg); clear hg
          go_wp2
          go_ret2
          exact ⟨by rw [HEd.out HCC.out HN.out, HT.out]; rfl, HG.out⟩
theorem ext_part (s : ByteArray) (d : Nat) : s.extract 1 (1 + d) = str ((s.data.toList.drop 1).take d) := by
  apply ba_ext
  rw [data_str]
  simp only [ByteArray.data_extract, Array.toList_extract, List.extract_eq_take_drop]
  rw [show 1 + d - 1 = d by omega]
theorem named_eq (k d U : Nat) (hd : 1 ≤ d ∧ d ≤ 3) (hU : unitN (3 - d) = U) : Tx ((k * U / 1000 : Nat) : Int) ++ (⟨#[46]⟩ ++ (Tx ((1000 + k * U % 1000 : Nat) : Int)).extract 1 (1 + d)) = str (pText k d) := by
  rw [ext_part, ← str_data (Tx ((k * U / 1000 : Nat) : Int)), Tx_nat_data, Tx_nat_data, ← hU, ref_whole hd.2, ref_tail hd]
  unfold pText
  rw [if_neg (by omega)]
  apply ba_ext
  simp [str]
theorem named_zero (k : Nat) : Tx ((k * 1000 / 1000 : Nat) : Int) = str (pText k 0) := by
  rw [← pText_zero, show k * 1000 / 1000 = k by omega]
end Go.Proofs.YtffifpinnhaloaaGreatDoor
