/- Numbers of cues: the rest of the program's functions. -/
import Derived.Test.YtjideokeokmbaaaGreatDoorNuC
import Derived.Lib.AppendIntMem
import Derived.Laws.EntriesVeiled
import Derived.WalkMore
import Derived.ScopeJumps
set_option linter.unusedVariables false
set_option linter.unusedSimpArgs false
namespace Go.Proofs.YtjideokeokmbaaaGreatDoor
open Go.RowKit Go.Shelf
open Z

abbrev fun1 : Value := .func (.func 58) #[] #[]
abbrev fun2 (b : Nat) : Value := .func (.func 60) #[] #[.pointer (some ⟨b, 0, none⟩)]
structure FormsAt (w : World) (g b : Nat) : Prop where
  c0 : w.cell? ⟨g, 0, none⟩ = some fun1
  c1 : w.cell? ⟨g, 1, none⟩ = some (fun2 b)
  cb : w.cell? ⟨b, 0, none⟩ = some fun1
theorem FormsAt.gr {w w' : World} {g b : Nat} (h : FormsAt w g b) (hg : Gr w w') : FormsAt w' g b := ⟨cell_gr hg h.c0, cell_gr hg h.c1, cell_gr hg h.cb⟩
set_option maxHeartbeats 1000000 in
set_option maxRecDepth 100000 in
theorem nu_forms (w : World) : Calls Tryz.prog 46 #[] w fun e w' => ∃ g b, e = .returned (.slice (some ⟨g, 0, none⟩) 2 2) ∧ FormsAt w' g b ∧ Gr w w' := by
  go_enter Tryz.func46, Tryz.ntmps46
  go_wp2
  go_ret
  refine ⟨w.heap.size + 1, w.heap.size, rfl, ⟨by simp, by simp, by simp⟩, ?_⟩
  exact ((Gr.refl w).alloc _).alloc _
set_option maxHeartbeats 2000000 in
set_option maxRecDepth 100000 in
theorem nu_Thousandths (s : ByteArray) (w : World) (hs : s.size ≤ 1000) :
    Calls Tryz.prog 36 #[.string s] w fun e w' => e = .returned (vII (nuR s.data.toList)) ∧ Gr w w' := by
  have hsm : s.size ≤ maxLen := by unfold maxLen; omega
  have hl1 := bef_len s.data.toList
  have hl2 := cutB_len s.data.toList
  have hsz : s.data.toList.length = s.size := by simp
  have F0 := Lib.hid (fun w => nu_forms w)
  have F1 := Lib.hid (fun w => nu_int s w hsm)
  have F2 := Lib.hid (fun b w hb => nu_pt s b w hsm hb)
  unfold vSSB at F1 F2
  have V1 : Hid (intF s.data.toList = true → ∀ w, Calls Tryz.prog 47 #[.string s, .string ⟨#[]⟩] w fun e w' => e = .returned (vII (nuR s.data.toList)) ∧ Gr w w') := Lib.hid fun h w => by
    have hd := h
    unfold intF at hd
    rw [Bool.and_eq_true] at hd
    have H := nu_value s.data.toList [] w (digB_len hd.1).1 rfl (by omega) (by simp)
    rw [str_data] at H
    rw [nu_way, if_pos h]; exact H
  have V2 : Hid (intF s.data.toList = false → pointF s.data.toList = true → ∀ w, Calls Tryz.prog 47 #[.string (str (before s.data.toList)), .string (str (cutB s.data.toList))] w fun e w' => e = .returned (vII (nuR s.data.toList)) ∧ Gr w w') := Lib.hid fun h1 h2 w => by
    have hp := h2
    unfold pointF at hp
    simp only [Bool.and_eq_true] at hp
    have hd := hp.1.1
    unfold intF at hd
    rw [Bool.and_eq_true] at hd
    have H := nu_value (before s.data.toList) (cutB s.data.toList) w (digB_len hd.1).1 (digB_len hp.1.2).1 (by omega) (by omega)
    rw [nu_way, if_neg (by rw [h1]; decide), if_pos h2]; exact H
  have V3 : Hid (intF s.data.toList = false → pointF s.data.toList = false → nuR s.data.toList = (0, 3)) := Lib.hid fun h1 h2 => by
    rw [nu_way, if_neg (by rw [h1]; decide), if_neg (by rw [h2]; decide)]
  clear hs hsm hl1 hl2 hsz
  generalize intF s.data.toList = b1 at *
  generalize pointF s.data.toList = b2 at *
  generalize str (before s.data.toList) = W at *
  generalize str (cutB s.data.toList) = R at *
  generalize nuR s.data.toList = q at *
  obtain ⟨q1, q2⟩ := q
  unfold vII at *
  go_enter Tryz.func36, Tryz.ntmps36
  go_wp2_with fail
  refine (F0.out _).mono ?_; rintro e w1 ⟨g, bb, rfl, hf, hg⟩
  have HG := Lib.hid hg; clear hg
  have HFo := Lib.hid hf; clear hf
  go_wp2
  go_loopw [5, 6, 7, 8, 11] (fun _ _ _ _ i wr => ∃ k : Nat, i = .int .i64 k ∧ k ≤ 2 ∧ Hid (Gr w wr) ∧ Hid (FormsAt wr g bb) ∧ (0 < k → b1 = false) ∧ (1 < k → b2 = false)) (fun _ _ _ _ i _ => 2 - (intOf i).toNat)
  case atStart => exact ⟨0, rfl, Nat.zero_le _, HG.out, HFo.out, fun h => absurd h (by omega), fun h => absurd h (by omega)⟩
  case round =>
    clear HG HFo
    obtain ⟨k, rfl, hk, HG, HFo, h1, h2⟩ := hrel
    obtain ⟨c0, c1, cb⟩ := HFo.out
    have hk3 : k = 0 ∨ k = 1 ∨ k = 2 := by omega
    rcases hk3 with rfl | rfl | rfl
    · clear h1 h2
      cases b1
      · go_wp2_with fail
        refine (F1.out _).mono ?_; rintro e w2 ⟨rfl, hg⟩
        have HG2 := Lib.hid (Gr.trans HG.out hg)
        have HF2 := Lib.hid (HFo.out.gr hg)
        clear hg
        go_wp2
        go_roundw
        case rel => exact ⟨1, by go_num, by omega, HG2.out, HF2.out, fun _ => by first | rfl | trivial, fun h => absurd h (by omega)⟩
        case measure => simp [intOf]
      · have V := Lib.hid (V1.out rfl)
        go_wp2_with fail
        refine (F1.out _).mono ?_; rintro e w2 ⟨rfl, hg⟩
        have HG1 := Lib.hid (Gr.trans HG.out hg)
        clear hg
        go_wp2_with fail
        refine (V.out _).mono ?_; rintro e w3 ⟨rfl, hg⟩
        have HG2 := Lib.hid (Gr.trans HG1.out hg); clear hg
        go_wp2
        go_ret2
        exact ⟨rfl, HG2.out⟩
    · obtain rfl := h1 (by omega)
      clear h2 V1
      have F3 := Lib.hid (F2.out bb _ cb)
      cases b2
      · go_wp2_with fail
        refine F3.out.mono ?_; rintro e w2 ⟨rfl, hg⟩
        have HG2 := Lib.hid (Gr.trans HG.out hg)
        have HF2 := Lib.hid (HFo.out.gr hg)
        clear hg
        go_wp2
        go_roundw
        case rel => exact ⟨2, by go_num, by omega, HG2.out, HF2.out, fun _ => by first | rfl | trivial, fun _ => by first | rfl | trivial⟩
        case measure => simp [intOf]
      · have V := Lib.hid (V2.out rfl rfl)
        go_wp2_with fail
        refine F3.out.mono ?_; rintro e w2 ⟨rfl, hg⟩
        have HG2 := Lib.hid (Gr.trans HG.out hg)
        clear hg
        go_wp2_with fail
        refine (V.out _).mono ?_; rintro e w3 ⟨rfl, hg⟩
        replace HG2 := Lib.hid (Gr.trans HG2.out hg); clear hg
        go_wp2
        go_ret2
        exact ⟨rfl, HG2.out⟩
    · obtain rfl := h1 (by omega)
      obtain rfl := h2 (by omega)
      have hq := V3.out rfl rfl
      simp only [Prod.mk.injEq] at hq
      obtain ⟨rfl, rfl⟩ := hq
      clear V1 V2 V3
      go_wp2
      go_ret2
      exact ⟨rfl, HG.out⟩
/-- two numbers, and the number of the error -/
def both3 (a b : List UInt8) : Int × Int × Int := if both2 a b = 0 then ((nuV a : Nat), (nuV b : Nat), 0) else (0, 0, both2 a b)
def vN3 (p : Int × Int × Int) : Value := .tuple #[.int .i64 p.1, .int .i64 p.2.1, .int .i64 p.2.2]
set_option maxHeartbeats 1000000 in
set_option maxRecDepth 100000 in
theorem nu_both (s t : ByteArray) (w : World) (hs : s.size ≤ 1000) (ht : t.size ≤ 1000) :
    Calls Tryz.prog 26 #[.string s, .string t] w fun e w' => e = .returned (vN3 (both3 s.data.toList t.data.toList)) ∧ Gr w w' := by
  have H1 := Lib.hid (fun w => nu_Thousandths s w hs)
  have H2 := Lib.hid (fun w => nu_Thousandths t w ht)
  clear hs ht
  unfold both3 both2 vN3
  unfold nuR vII at H1 H2
  generalize nuV s.data.toList = x at *
  generalize nuV t.data.toList = y at *
  generalize nuE s.data.toList = E at *
  generalize nuE t.data.toList = F at *
  by_cases h1 : E = 0
  · subst h1
    simp only [if_true] at H1 ⊢
    by_cases h2 : F = 0
    · subst h2
      simp only [if_true] at H2 ⊢
      go_enter Tryz.func26, Tryz.ntmps26
      go_wp2_with fail
      refine (H1.out _).mono ?_; rintro e w1 ⟨rfl, hg⟩
      have HG := Lib.hid hg; clear hg
      go_wp2_with fail
      refine (H2.out _).mono ?_; rintro e w2 ⟨rfl, hg⟩
      replace HG := Lib.hid (Gr.trans HG.out hg); clear hg
      go_wp2
      go_ret3
      exact ⟨rfl, HG.out⟩
    · simp only [if_neg h2] at H2 ⊢
      have hne : (F != 0) = true := by simpa using h2
      clear h2
      go_enter Tryz.func26, Tryz.ntmps26
      go_wp2_with fail
      refine (H1.out _).mono ?_; rintro e w1 ⟨rfl, hg⟩
      have HG := Lib.hid hg; clear hg
      go_wp2_with fail
      refine (H2.out _).mono ?_; rintro e w2 ⟨rfl, hg⟩
      replace HG := Lib.hid (Gr.trans HG.out hg); clear hg
      go_wp2
      go_ret3
      exact ⟨rfl, HG.out⟩
  · simp only [if_neg h1] at H1 ⊢
    have hne : (E != 0) = true := by simpa using h1
    clear h1
    go_enter Tryz.func26, Tryz.ntmps26
    go_wp2_with fail
    refine (H1.out _).mono ?_; rintro e w1 ⟨rfl, hg⟩
    have HG := Lib.hid hg; clear hg
    go_wp2
    go_ret3
    exact ⟨rfl, HG.out⟩
theorem both3_facts (a b : List UInt8) : (both3 a b).2.2 = both2 a b ∧ (nuCmp a b = (ordN (both3 a b).1.toNat (both3 a b).2.1.toNat, both2 a b)) ∧ 0 ≤ (both3 a b).1 ∧ (both3 a b).1 ≤ 9999999 ∧ 0 ≤ (both3 a b).2.1 ∧ (both3 a b).2.1 ≤ 9999999 := by
  unfold both3 nuCmp
  by_cases h : both2 a b = 0
  · obtain ⟨h1, h2⟩ := both2_zero h
    have b1 := nuV_le h1
    have b2 := nuV_le h2
    rw [if_pos h, if_pos h]
    refine ⟨h.symm, by simp [h], ?_, ?_, ?_, ?_⟩ <;> simp <;> omega
  · rw [if_neg h, if_neg h]
    exact ⟨rfl, rfl, by simp, by simp, by simp, by simp⟩
set_option maxHeartbeats 1000000 in
set_option maxRecDepth 100000 in
theorem nu_above (x u : Nat) (w : World) (hx : x ≤ 99999999) (h1 : 1 ≤ u) (h2 : u ≤ 1000) :
    Calls Tryz.prog 27 #[.int .i64 (x : Int), .int .i64 (u : Int)] w fun e w' => e = .returned (.int .i64 (upN x u : Nat)) ∧ w = w' := by
  obtain ⟨p1, p2, p3, p4⟩ := up_parts x u h1
  generalize upN x u = N at *
  generalize x / u = q at *
  go_enter Tryz.func27, Tryz.ntmps27
  go_wp2
  go_ret
  exact ⟨rfl, rfl⟩
set_option maxHeartbeats 1000000 in
set_option maxRecDepth 100000 in
theorem nu_trimByte (l : List UInt8) (w : World) (hl : l.length ≤ 100) :
    Calls Tryz.prog 48 #[.string (str l), .int .u8 48] w fun e w' => e = .returned (.string (str (trimZ l))) ∧ w = w' := by
  have HD : Hid (trimZ l = trimZ l) := Lib.hid rfl
  generalize hdd : trimZ l = dd at *
  replace hdd := Lib.hid hdd
  clear HD
  go_enter Tryz.func48, Tryz.ntmps48
  go_wp2
  go_loop [0] (fun o => ∃ r : List UInt8, o = .string (str r) ∧ r.length ≤ 100 ∧ Hid (trimZ r = dd)) (fun o => lenOf o)
  case atStart => exact ⟨l, rfl, hl, hdd.out⟩
  case round =>
    obtain ⟨r, rfl, hr, HR⟩ := hrel
    have hrz : (str r).size = r.length := str_size r
    by_cases hne : r = []
    · subst hne
      have hd2 : Hid (str dd = str []) := by show _ = _; rw [← HR.out]; rfl
      have hs0 : (str []).size = 0 := rfl
      clear hrz HR hdd
      generalize str ([] : List UInt8) = r' at *
      go_wp2
      go_ret
      exact ⟨ret_str hd2.out.symm, rfl⟩
    · obtain ⟨t, c, rfl⟩ := snoc_of_ne r hne
      obtain ⟨m, hm, hz⟩ := nu_last (t ++ [c]) (by simp)
      have hmt : m = t.length := by rw [hrz] at hm; simp at hm; omega
      have hlast : ((t ++ [c]).getLast? == some 48) = (c == 48) := by simp
      rw [hlast] at hz
      have hex : Hid ((str (t ++ [c])).extract 0 m = str t) := by show _ = _; rw [ext_take, data_str, hmt]; simp
      have hm3 : m ≤ 100 := by simp at hr; omega
      have hwm : IntKind.i64.wrap (((m + 1 : Nat) : Int) - 1) = (m : Int) := by rw [IntWalk.i64_in _ (by omega)]; omega
      have hst : (str t).size = m := by rw [str_size, hmt]
      clear hmt
      by_cases hc : c = 48
      · subst hc
        have hz' : ∀ hm : m < (str (t ++ [48])).size, ((((str (t ++ [48]))[m]).toNat : Int) == 48) = true := fun h => by rw [hz h]; rfl
        have HR' : Hid (trimZ t = dd) := by show _ = _; rw [← HR.out, trimZ_snoc]
        have ht2 : t.length ≤ 100 := by simp at hr; omega
        clear hz HR hlast hne hrz
        generalize str (t ++ [48]) = r' at *
        go_wp2
        go_round
        case rel => exact ⟨t, by rw [hex.out], ht2, HR'.out⟩
        case measure => simp only [lenOf, strOf, hex.out, hst, hm]; omega
      · have hz' : ∀ hm : m < (str (t ++ [c])).size, ((((str (t ++ [c]))[m]).toNat : Int) == 48) = false := fun h => by rw [hz h]; simpa using hc
        have hT : Hid (str dd = str (t ++ [c])) := by show _ = _; rw [← HR.out, trimZ_last hc]
        clear hz HR hlast hne hrz hex
        generalize str (t ++ [c]) = r' at *
        go_wp2
        go_ret
        exact ⟨ret_str hT.out.symm, rfl⟩
set_option maxHeartbeats 1000000 in
set_option maxRecDepth 100000 in
theorem nu_trim (l : List UInt8) (w : World) (hl : l.length ≤ 100) (h0 : l ≠ []) :
    Calls Tryz.prog 37 #[.string (str l), .string ⟨#[48]⟩] w fun e w' => e = .returned (.string (str (trimZ l))) ∧ w = w' := by
  have H := Lib.hid (fun w => nu_trimByte l w hl)
  have hin := is_nil l
  rw [decide_eq_false h0] at hin
  clear hl h0
  generalize str (trimZ l) = R at *
  generalize str l = s at *
  have hc1 : (⟨#[48]⟩ : ByteArray).size = 1 := rfl
  go_enter Tryz.func37, Tryz.ntmps37
  go_wp2_with fail
  refine (H.out _).mono ?_; rintro e w' ⟨rfl, rfl⟩
  go_wp2
  go_ret
  exact ⟨rfl, rfl⟩
theorem nu_Itoa (n : Nat) (w : World) (h1 : n ≤ 9999999) (htab : Tab w) :
    Calls Tryz.prog 31 #[.int .i64 (n : Int)] w (fun e w' => e = .returned (.string (str (Lib.decDigits n))) ∧ Gr w w') := by
  refine (Tryz.strconv_Itoa (n : Int) (by omega) (by omega) w htab).mono ?_
  rintro e w' ⟨rfl, k, os, rfl⟩
  refine ⟨?_, Lib.below_grow _ _ (Nat.le_refl _) _ _⟩
  unfold Lib.itoa; rw [if_neg (by omega)]; simp [str]
set_option maxHeartbeats 2000000 in
set_option maxRecDepth 100000 in
theorem nu_Of (n : Int) (w : World) (hn : isJ n) (htab : Tab w) :
    Calls Tryz.prog 28 #[.int .i64 n] w fun e w' => e = .returned (vTI (ofN n)) ∧ Gr w w' := by
  have hn0 := hn.1
  have hn1 := hn.2
  clear hn
  unfold ofN vTI
  by_cases h0 : n < 1
  · rw [if_neg (by omega)]
    clear htab
    go_enter Tryz.func28, Tryz.ntmps28
    go_wp2
    go_ret2
    exact ⟨rfl, Gr.refl _⟩
  · by_cases h1 : 9999999 < n
    · rw [if_neg (by omega)]
      clear htab
      go_enter Tryz.func28, Tryz.ntmps28
      go_wp2
      go_ret2
      exact ⟨rfl, Gr.refl _⟩
    · obtain ⟨m, rfl⟩ : ∃ m : Nat, n = (m : Int) := ⟨n.toNat, by omega⟩
      rw [if_pos (by omega), Int.toNat_natCast]
      have hmod : (m : Int).tmod 1000 = ((m % 1000 : Nat) : Int) := by rw [Int.tmod_eq_emod_of_nonneg (by omega)]; omega
      have hdiv : (m : Int).tdiv 1000 = ((m / 1000 : Nat) : Int) := by rw [Int.tdiv_eq_ediv_of_nonneg (by omega)]; omega
      have HT := Lib.hid htab
      have I1 := Lib.hid (fun w (hg : Tab w) => nu_Itoa (m / 1000) w (by omega) hg)
      have I2 := Lib.hid (fun w (hg : Tab w) => nu_Itoa (1000 + m % 1000) w (by omega) hg)
      have hA := (digits_len4 (n := m / 1000) (by omega)).1
      have h4 := (digits_len4 (n := 1000 + m % 1000) (by omega)).1
      have h41 := (digits_len4 (n := 1000 + m % 1000) (by omega)).2
      have htl : (Lib.decDigits (1000 + m % 1000)).tail ≠ [] := by rw [tail3 (by omega)]; simp
      have HTR := Lib.hid (fun w => nu_trim (Lib.decDigits (1000 + m % 1000)).tail w (by rw [List.length_tail]; omega) htl)
      have hex : (str (Lib.decDigits (1000 + m % 1000))).extract 1 (str (Lib.decDigits (1000 + m % 1000))).size = str (Lib.decDigits (1000 + m % 1000)).tail := by rw [ext_drop, data_str, List.drop_one]
      have hAz : (str (Lib.decDigits (m / 1000))).size ≤ 4 := by rw [str_size]; exact hA
      have hBz : (str (Lib.decDigits (1000 + m % 1000))).size ≤ 4 := by rw [str_size]; exact h4
      have hBz1 : 1 ≤ (str (Lib.decDigits (1000 + m % 1000))).size := by rw [str_size]; exact h41
      have hDz : (str (trimZ (Lib.decDigits (1000 + m % 1000)).tail)).size ≤ 4 := by
        rw [str_size]
        show (decsN m).length ≤ 4
        rw [decsN_eq]; split <;> (try split) <;> (try split) <;> simp
      have HN1 : Hid (m % 1000 = 0 → str (nuT m) = str (Lib.decDigits (m / 1000))) := Lib.hid fun h => by unfold nuT; rw [if_pos h, List.append_nil]
      have HN2 : Hid (m % 1000 ≠ 0 → str (Lib.decDigits (m / 1000)) ++ ⟨#[46]⟩ ++ str (trimZ (Lib.decDigits (1000 + m % 1000)).tail) = str (nuT m)) := Lib.hid fun h => by
        rw [show (⟨#[46]⟩ : ByteArray) = str [46] from rfl, str_app, str_app]
        unfold nuT; rw [if_neg h]
        show str _ = str (_ ++ 46 :: trimZ _)
        simp
      have hr3 : m % 1000 ≤ 999 := by omega
      have hq4 : m / 1000 ≤ 9999 := by omega
      have hsum : (1000 : Int) + ((m % 1000 : Nat) : Int) = ((1000 + m % 1000 : Nat) : Int) := by omega
      generalize str (trimZ (Lib.decDigits (1000 + m % 1000)).tail) = D at *
      generalize str (Lib.decDigits (1000 + m % 1000)).tail = B' at *
      generalize str (Lib.decDigits (1000 + m % 1000)) = B at *
      generalize str (Lib.decDigits (m / 1000)) = A at *
      generalize str (nuT m) = T at *
      generalize hq5 : 1000 + m % 1000 = z at *
      generalize m % 1000 = r at *
      generalize m / 1000 = q at *
      clear htab hA h4 h41 htl
      by_cases hr : r = 0
      · have hT := HN1.out hr
        subst hr
        subst hT
        clear HN1 HN2 I2 HTR hsum hq5
        go_enter Tryz.func28, Tryz.ntmps28
        go_wp2_with fail
        refine (I1.out _ HT.out).mono ?_; rintro e w1 ⟨rfl, hg⟩
        have HG := Lib.hid hg; clear hg
        go_wp2
        go_ret2
        exact ⟨rfl, HG.out⟩
      · have hT := HN2.out hr
        have hrb : ((r : Int) == 0) = false := by rw [beq_eq_false_iff_ne]; omega
        have HTT := Lib.hid hT
        have hz2 : z ≤ 1999 := by omega
        clear HN1 HN2 hT hr hq5
        go_enter Tryz.func28, Tryz.ntmps28
        go_wp2_with fail
        refine (I1.out _ HT.out).mono ?_; rintro e w1 ⟨rfl, hg⟩
        have HG := Lib.hid hg; clear hg
        have HT1 := Lib.hid (htab_gr HT.out HG.out)
        go_wp2_with fail
        refine (I2.out _ HT1.out).mono ?_; rintro e w2 ⟨rfl, hg⟩
        replace HG := Lib.hid (Gr.trans HG.out hg); clear hg
        go_wp2_with fail
        refine (HTR.out _).mono ?_; rintro e w' ⟨rfl, rfl⟩
        go_wp2
        go_ret2
        exact ⟨by rw [← HTT.out]; rfl, HG.out⟩
set_option maxHeartbeats 2000000 in
set_option maxRecDepth 100000 in
theorem nu_Between (s t : ByteArray) (w : World) (hs : s.size ≤ 1000) (ht : t.size ≤ 1000) (htab : Tab w) :
    Calls Tryz.prog 16 #[.string s, .string t] w fun e w' => e = .returned (vTI (betN s.data.toList t.data.toList)) ∧ Gr w w' := by
  have H := Lib.hid (fun w => nu_both s t w hs ht)
  have HT := Lib.hid htab
  unfold betN
  unfold vN3 both3 at H
  clear htab
  by_cases hb : both2 s.data.toList t.data.toList = 0
  · obtain ⟨h1, h2⟩ := both2_zero hb
    have b1 := (nuV_le h1).2
    have b2 := (nuV_le h2).2
    rw [if_pos hb] at H ⊢
    clear hs ht h1 h2 hb
    generalize nuV s.data.toList = x at *
    generalize nuV t.data.toList = y at *
    simp only at H
    by_cases hle : y ≤ x
    · rw [if_pos hle]
      go_enter Tryz.func16, Tryz.ntmps16
      go_wp2
      go_step3
      go_wp2_with fail
      refine (H.out _).mono ?_; rintro e w1 ⟨rfl, hg⟩
      have HG := Lib.hid hg; clear hg
      go_wp2
      try rw [Exit.noGoto_ret]
      go_ret2
      exact ⟨rfl, HG.out⟩
    · rw [if_neg hle]
      have HN : Hid (∀ (n : Nat) (_ : 1 ≤ n) (_ : n ≤ 9999999) w, Tab w → Calls Tryz.prog 28 #[.int .i64 (n : Int)] w fun e w' => e = .returned (.tuple #[.string (str (nuT n)), .int .i64 0]) ∧ Gr w w') := Lib.hid fun n h1 h2 w htab => by
        have H := nu_Of (n : Int) w (by unfold isJ; omega) htab
        unfold ofN vTI at H
        rw [if_pos (by omega), Int.toNat_natCast] at H; exact H
      have BA := Lib.hid (fun (k : Nat) (hk : k ≤ 3) (hn : ∀ j, j < k → ¬ upN x (unitU j) < y) (h : upN x (unitU k) < y) => (show betV x y = (nuT (upN x (unitU k)), 0) by unfold betV; rw [bet_at hk hn h]))
      have BE := Lib.hid (fun (hn : ∀ j, j < 4 → ¬ upN x (unitU j) < y) => (show betV x y = ([], 12) by unfold betV; rw [bet_end hn]))
      have HU := Lib.hid (fun (k : Nat) (h : k ≤ 3) => unit_next h)
      have HA := Lib.hid (fun (u : Nat) (h1 : 1 ≤ u) (h2 : u ≤ 1000) w => nu_above x u w (by omega) h1 h2)
      have HUP := Lib.hid (fun (u : Nat) (h1 : 1 ≤ u) => upN_gt x u h1)
      have hle' : decide ((y : Int) ≤ (x : Int)) = false := decide_eq_false (by omega)
      have hle2 : decide (y ≤ x) = false := decide_eq_false (by omega)
      clear hle
      go_enter Tryz.func16, Tryz.ntmps16
      go_wp2
      go_step3
      go_wp2_with fail
      refine (H.out _).mono ?_; rintro e w1 ⟨rfl, hg⟩
      have HG := Lib.hid hg; clear hg
      go_wp2
      go_step3
      go_wp2
      go_loopw [9, 10, 11] (fun u i _ wr => ∃ k : Nat, u = .int .i64 (unitU k : Nat) ∧ i = .int .i64 k ∧ k ≤ 3 ∧ Hid (∀ j, j < k → ¬ upN x (unitU j) < y) ∧ Hid (Gr w wr)) (fun _ i _ _ => 3 - (intOf i).toNat)
      case atStart => exact ⟨0, rfl, rfl, Nat.zero_le _, fun j hj => absurd hj (by omega), HG.out⟩
      case round =>
        clear HG
        obtain ⟨k, rfl, rfl, hk, HF, HG⟩ := hrel
        obtain ⟨u1, u2, u3, u4⟩ := HU.out k hk
        have hup := HUP.out _ u2
        have hab := HA.out _ u2 u3
        have HN9 := Lib.hid (fun h => HN.out (upN x (unitU k)) (by omega) h)
        have HAB := Lib.hid hab
        have ha := BA.out k hk HF.out
        have HF' : Hid (¬ upN x (unitU k) < y → ∀ j, j < k + 1 → ¬ upN x (unitU j) < y) := Lib.hid fun h j hj => by
          by_cases hjk : j = k
          · subst hjk; exact h
          · exact HF.out j (by omega)
        have HBE : Hid (k = 3 → ¬ upN x (unitU k) < y → betV x y = ([], 12)) := Lib.hid fun h3 h => BE.out (by subst h3; exact HF'.out h)
        have HA1 := Lib.hid ha
        have HT1 := Lib.hid (htab_gr HT.out HG.out)
        clear ha hab
        generalize nuT (upN x (unitU k)) = T at *
        generalize upN x (unitU k) = N at *
        obtain ⟨u', hu'⟩ : ∃ u', Hid (unitU (k + 1) = u') := ⟨_, Lib.hid rfl⟩
        rw [hu'.out] at u1 u4
        generalize unitU k = u at *
        by_cases hlt : N < y
        · have HA2 := Lib.hid (HA1.out hlt)
          have HN1 := Lib.hid (HN9.out (by omega) _ HT1.out)
          clear HA1 HF' HF HBE
          go_wp2_with fail
          refine (HAB.out _).mono ?_; rintro e w' ⟨rfl, rfl⟩
          go_wp2_with fail
          refine HN1.out.mono ?_; rintro e w3 ⟨rfl, hg⟩
          replace HG := Lib.hid (Gr.trans HG.out hg); clear hg
          go_wp2
          try rw [Exit.noGoto_ret]
          go_ret2
          exact ⟨by rw [HA2.out]; rfl, HG.out⟩
        · by_cases hk3 : k = 3
          · have HE := Lib.hid (HBE.out hk3 hlt)
            subst hk3
            clear HA1 HF' HF HN9 HBE
            go_wp2_with fail
            refine (HAB.out _).mono ?_; rintro e w' ⟨rfl, rfl⟩
            go_wp2
            try rw [Exit.noGoto_ret]
            go_ret2
            exact ⟨by rw [HE.out]; rfl, HG.out⟩
          · have HF2 := Lib.hid (HF'.out hlt)
            have hkb : ((k : Int) == 3) = false := by rw [beq_eq_false_iff_ne]; omega
            have hk2 : k ≤ 2 := by omega
            clear HA1 HF' HF HN9 HBE hk3
            go_wp2_with fail
            refine (HAB.out _).mono ?_; rintro e w' ⟨rfl, rfl⟩
            go_wp2
            go_roundw
            case rel =>
              exact ⟨k + 1, by rw [hu'.out], by go_num, by omega, HF2.out, HG.out⟩
            case measure => simp [intOf]; omega
  · rw [if_neg hb] at H ⊢
    have hne : (both2 s.data.toList t.data.toList != 0) = true := by simpa using hb
    clear hb hs ht
    generalize both2 s.data.toList t.data.toList = E at *
    simp only at H
    go_enter Tryz.func16, Tryz.ntmps16
    go_wp2
    go_step3
    go_wp2_with fail
    refine (H.out _).mono ?_; rintro e w1 ⟨rfl, hg⟩
    have HG := Lib.hid hg; clear hg
    go_wp2
    try rw [Exit.noGoto_ret]
    go_ret2
    exact ⟨rfl, HG.out⟩
/-- the thousandths ahead of the k-th text -/
def prevN (l : List ByteArray) (k : Nat) : Nat := if k = 0 then 0 else match l[k - 1]? with
  | none => 0
  | some p => nuV p.data.toList
theorem step_prev {l : List ByteArray} {k : Nat} (hk : k < l.length) (h : nuE (l[k]).data.toList = 0) : stepS l k = if nuV (l[k]).data.toList ≤ prevN l k then 9 else 0 := by
  rw [stepS_at hk, if_neg (by simpa using h)]
  unfold prevN
  by_cases h0 : k = 0
  · rw [if_pos h0, if_pos h0, if_neg (by have := (nuV_le h).1; omega)]
  · rw [if_neg h0, if_neg h0, List.getElem?_eq_getElem (show k - 1 < l.length by omega)]
theorem prev_succ {l : List ByteArray} {k : Nat} (hk : k < l.length) : prevN l (k + 1) = nuV (l[k]).data.toList := by
  unfold prevN
  rw [if_neg (by omega), Nat.add_sub_cancel, List.getElem?_eq_getElem hk]
end Go.Proofs.YtjideokeokmbaaaGreatDoor
