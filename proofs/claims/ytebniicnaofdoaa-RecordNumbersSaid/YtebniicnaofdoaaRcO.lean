/- Records: the law RecordNumbers. -/
import Derived.Test.YtebniicnaofdoaaRow11
import Derived.Test.YtebniicnaofdoaaRcH
set_option linter.unusedVariables false
set_option linter.unusedSimpArgs false
namespace Go.Proofs.Ytebniicnaofdoaa
open Go.RowKit
open Z Rc

/-- the bytes of some ints, one behind the other -/
def cat (l : List Int) : List UInt8 := (l.map int8).flatten
theorem cat_snoc (l : List Int) (n : Int) : cat (l ++ [n]) = cat l ++ int8 n := by simp [cat]
theorem cat_len (l : List Int) (h : ∀ n ∈ l, -9223372036854775808 ≤ n ∧ n ≤ 9223372036854775807) : (cat l).length ≤ 10 * l.length := by
  induction l with
  | nil => simp [cat]
  | cons n l ih =>
    have h1 := int8_len (n := n) (h n (by simp)).1 (by have := (h n (by simp)).2; omega)
    have h2 := ih (fun m hm => h m (by simp [hm]))
    simp only [cat, List.map_cons, List.flatten_cons, List.length_append, List.length_cons] at h2 ⊢
    omega
theorem cat_take {l : List Int} {k : Nat} (h : k < l.length) : cat (l.take (k + 1)) = cat (l.take k) ++ int8 l[k] := by rw [List.take_succ_eq_append_getElem h, cat_snoc]
theorem cat_append (a b : List Int) : cat (a ++ b) = cat a ++ cat b := by simp [cat]
theorem cat_cons (n : Int) (l : List Int) : cat (n :: l) = int8 n ++ cat l := by simp [cat]
theorem cat_split {l : List Int} {k : Nat} (h : k < l.length) : cat l = cat (l.take k) ++ (int8 l[k] ++ cat (l.drop (k + 1))) := by
  have e : l = l.take k ++ (l[k] :: l.drop (k + 1)) := by rw [List.getElem_cons_drop]; exact (List.take_append_drop k l).symm
  rw [← cat_cons, ← cat_append, ← e]
theorem len2 (a b : List UInt8) : (a ++ b).length = a.length + b.length := List.length_append
set_option maxHeartbeats 4000000 in
set_option maxRecDepth 100000 in
theorem l8_RecordNumbers (a : Option Addr) (l : List Int) (cap : Nat) (t : ByteArray) (w : World) (hr : RdI w a l) (hl : l.length ≤ cap) (hc : cap ≤ maxLen) (hall : ∀ q ∈ l, -9223372036854775808 ≤ q ∧ q ≤ 9223372036854775807) (ht : t.size ≤ maxLen) :
    Calls Try.prog 7 #[.slice a l.length cap, .string t] w fun e w' => e = .returned (.bool true) ∧ Gr w w' := by
  have HA := Lib.hid l8_awake
  have HR := Lib.hid hr; clear hr
  by_cases h : 60 < l.length
  · unfold maxLen at hc ht
    clear hall
    go_enter Try.func7, Try.ntmps7
    go_wp2_with fail
    refine (HA.out _).mono ?_; rintro e w1 ⟨rfl, hg1⟩
    have HG1 := Lib.hid hg1; clear hg1
    go_wp2
    go_ret
    exact ⟨rfl, HG1.out⟩
  · by_cases h2 : 2000 < t.size
    · unfold maxLen at hc ht
      clear hall
      go_enter Try.func7, Try.ntmps7
      go_wp2_with fail
      refine (HA.out _).mono ?_; rintro e w1 ⟨rfl, hg1⟩
      have HG1 := Lib.hid hg1; clear hg1
      go_wp2
      go_ret
      exact ⟨rfl, HG1.out⟩
    · have HALL := Lib.hid hall
      have hts : t.size ≤ 2000 := by omega
      have hls : l.length ≤ 60 := by omega
      have htz : t.data.toList.length = t.size := by simp
      have C1 := Lib.hid (rc_Text t · ht)
      have he : txE t.data.toList = (txt t.data.toList, 0) := by unfold txE; rw [if_neg (by omega)]
      rw [he] at C1
      unfold xV at C1
      simp only [] at C1
      have HTL : Hid ((txt t.data.toList).length ≤ 2010) := by
        show _ ≤ _
        unfold txt
        have := int8_len (n := (t.data.toList.length : Int)) (by omega) (by omega)
        rw [List.length_append]; omega
      obtain ⟨T, HT⟩ : ∃ T, Hid (txt t.data.toList = T) := ⟨_, Lib.hid rfl⟩
      rw [HT.out] at C1 HTL
      have hcl := cat_len l hall
      have HZ : Hid (∀ k, (str (T ++ cat (l.take k))).size ≤ 2610) := Lib.hid fun k => by
        have h1 := cat_len (l.take k) (fun q hq => hall q (List.mem_of_mem_take hq))
        rw [List.length_take] at h1
        have := HTL.out
        rw [str_sz, List.length_append]; omega
      have HGT : Hid (∀ w, Calls Try.prog 16 #[.string (str (T ++ cat l)), .int .i64 0] w fun e w' => e = .returned (.tuple #[.string t, .int .i64 (T.length : Int), .int .i64 0]) ∧ w = w') := Lib.hid fun w => by
        have hz := HZ.out l.length
        rw [List.take_length] at hz
        have H := rc_GetText (str (T ++ cat l)) 0 w (by unfold maxLen; omega)
        have e := getT_at [] t.data.toList (cat l) (by omega)
        rw [HT.out] at e
        simp only [List.nil_append, List.length_nil, Nat.zero_add] at e
        rw [data_str] at H
        have e' : getT (T ++ cat l) 0 = (t.data.toList, ((T.length : Nat) : Int), 0) := e
        rw [e'] at H
        unfold tV at H
        have e3 : str t.data.toList = t := ba_ext (data_str _)
        rw [e3] at H
        exact H
      have HGI : Hid (∀ (k : Nat) (hk : k < l.length) w, Calls Try.prog 12 #[.string (str (T ++ cat l)), .int .i64 ((T ++ cat (l.take k)).length : Int)] w fun e w' => e = .returned (.tuple #[.int .i64 l[k], .int .i64 ((T ++ cat (l.take (k + 1))).length : Int), .int .i64 0]) ∧ w = w') := Lib.hid fun k hk w => by
        have hz := HZ.out l.length
        rw [List.take_length] at hz
        have H := rc_GetInt (str (T ++ cat l)) ((T ++ cat (l.take k)).length : Int) w (by unfold maxLen; omega)
        have hb := hall l[k] (List.getElem_mem hk)
        have e := getI_at (T ++ cat (l.take k)) (cat (l.drop (k + 1))) l[k] hb.1 (by omega)
        have F : T ++ cat l = (T ++ cat (l.take k)) ++ (int8 l[k] ++ cat (l.drop (k + 1))) := by rw [List.append_assoc, ← cat_split hk]
        rw [← F] at e
        rw [data_str, e] at H
        unfold gV at H
        rw [cat_take hk, ← List.append_assoc, len2 (T ++ cat (l.take k))]
        exact H
      have HGE : Hid (∀ w, Calls Try.prog 12 #[.string (str (T ++ cat l)), .int .i64 ((T ++ cat l).length : Int)] w fun e w' => e = .returned (.tuple #[.int .i64 0, .int .i64 0, .int .i64 20]) ∧ w = w') := Lib.hid fun w => by
        have hz := HZ.out l.length
        rw [List.take_length] at hz
        have H := rc_GetInt (str (T ++ cat l)) ((T ++ cat l).length : Int) w (by unfold maxLen; omega)
        rw [data_str, getI_end] at H
        exact H
      have HCI : Hid (∀ (k : Nat) (hk : k < l.length) w, Calls Try.prog 14 #[.int .i64 l[k]] w fun e w' => e = .returned (.string (str (int8 l[k]))) ∧ Gr w w') := Lib.hid fun k hk w => by
        have hb := hall l[k] (List.getElem_mem hk)
        exact rc_Int l[k] w hb.1 (by omega)
      have HLT : Hid (∀ (k : Nat) (hk : k < l.length), (T ++ cat (l.take k)).length < (T ++ cat (l.take (k + 1))).length ∧ (str (int8 l[k])).size ≤ 10 ∧ str (T ++ cat (l.take k)) ++ str (int8 l[k]) = str (T ++ cat (l.take (k + 1)))) := Lib.hid fun k hk => by
        have hb := hall l[k] (List.getElem_mem hk)
        refine ⟨?_, ?_, ?_⟩
        · rw [cat_take hk, ← List.append_assoc, len2 (T ++ cat (l.take k))]
          have := int8_pos l[k]
          omega
        · rw [str_sz]; exact int8_len hb.1 (by omega)
        · rw [str_app, cat_take hk, List.append_assoc]
      unfold maxLen at hc ht
      clear hall he hcl htz
      go_enter Try.func7, Try.ntmps7
      go_wp2_with fail
      refine (C1.out _).mono ?_; rintro e w1 ⟨rfl, hg1⟩
      have HG1 := Lib.hid hg1; clear hg1
      go_wp2
      go_loopw [5, 34] (fun s i wr => ∃ k : Nat, i = .int .i64 k ∧ k ≤ l.length ∧ s = .string (str (T ++ cat (l.take k))) ∧ Hid (Gr w wr)) (fun _ i _ => l.length - (intOf i).toNat)
      case atStart => exact ⟨0, rfl, by omega, by simp [cat], HG1.out⟩
      case round =>
        obtain ⟨k, rfl, hk, rfl, HG⟩ := hrel
        clear HG1
        by_cases hlt : k < l.length
        · obtain ⟨b, o, rfl, c0⟩ := (HR.out.gr HG.out) k hlt
          obtain ⟨g1, g2, g3⟩ := HLT.out k hlt
          have C := Lib.hid (HCI.out k hlt)
          have hz := HZ.out k
          clear g1
          obtain ⟨x, HX⟩ : ∃ x, Hid (x = l[k]) := ⟨_, Lib.hid rfl⟩
          rw [← HX.out] at c0 C g2 g3
          generalize str (int8 x) = bx at *
          go_wp2_with fail
          refine (C.out _).mono ?_; rintro e w2 ⟨rfl, hg2⟩
          have HG2 := Lib.hid (Gr.trans HG.out hg2); clear hg2
          go_wp2
          go_roundw
          case rel => exact ⟨k + 1, by go_num, by omega, by rw [← g3], HG2.out⟩
          case measure => simp [intOf]; omega
        · have hkl : k = l.length := by omega
          subst hkl
          rw [List.take_length]
          have HFIN := HZ.out l.length
          rw [List.take_length] at HFIN
          go_wp2_with fail
          refine (HGT.out _).mono ?_; rintro e w2 ⟨rfl, rfl⟩
          clear HGT HFIN HZ HCI
          obtain ⟨S, HS⟩ : ∃ S, Hid (str (T ++ cat l) = S) := ⟨_, Lib.hid rfl⟩
          have HM : Hid (∀ (k m : Nat), m = (T ++ cat (l.take k)).length → ∀ hk : k < l.length, ∃ m' : Nat, m < m' ∧ m' = (T ++ cat (l.take (k + 1))).length ∧ ∀ w, Calls Try.prog 12 #[.string S, .int .i64 (m : Int)] w fun e w' => e = .returned (.tuple #[.int .i64 l[k], .int .i64 (m' : Int), .int .i64 0]) ∧ w = w') := Lib.hid fun k m hm hk => by
            refine ⟨_, ?_, rfl, fun w => ?_⟩
            · rw [hm]; exact (HLT.out k hk).1
            · rw [hm, ← HS.out]; exact HGI.out k hk w
          have HE : Hid (∀ w, Calls Try.prog 12 #[.string S, .int .i64 (S.size : Int)] w fun e w' => e = .returned (.tuple #[.int .i64 0, .int .i64 0, .int .i64 20]) ∧ w = w') := Lib.hid fun w => by
            have h := HGE.out w
            rw [HS.out, ← str_sz, HS.out] at h; exact h
          have HSZ : Hid (S.size = (T ++ cat l).length) := by show _ = _; rw [← HS.out, str_sz]
          rw [HS.out]
          have HT0 : Hid (T.length = (T ++ cat (l.take 0)).length) := by show _ = _; simp [cat]
          clear HGI HGE HLT HS
          go_wp2
          go_loop [10, 58] (fun v i => ∃ k m : Nat, i = .int .i64 k ∧ k ≤ l.length ∧ v = .int .i64 m ∧ Hid (m = (T ++ cat (l.take k)).length)) (fun _ i => l.length - (intOf i).toNat)
          case atStart => exact ⟨0, T.length, rfl, by omega, rfl, HT0.out⟩
          case round =>
            obtain ⟨k, m, rfl, hk, rfl, HMk⟩ := hrel
            by_cases hlt : k < l.length
            · obtain ⟨b, o, rfl, c0⟩ := (HR.out.gr HG.out) k hlt
              obtain ⟨m', g1, g2, C⟩ := HM.out k m HMk.out hlt
              have HC := Lib.hid C
              have HMk' := Lib.hid g2
              clear C g2
              obtain ⟨x, HX⟩ : ∃ x, Hid (x = l[k]) := ⟨_, Lib.hid rfl⟩
              rw [← HX.out] at c0 HC
              have g3 : ¬ (m' : Int) ≤ (m : Int) := by omega
              go_wp2_with fail
              refine (HC.out _).mono ?_; rintro e w2 ⟨rfl, rfl⟩
              go_wp2
              go_round
              case rel => exact ⟨k + 1, m', by go_num, by omega, rfl, HMk'.out⟩
              case measure => simp [intOf]; omega
            · have hkl : k = l.length := by omega
              subst hkl
              have hms : m = S.size := by rw [HMk.out, List.take_length, HSZ.out]
              subst hms
              clear HMk HM
              go_wp2_with fail
              refine (HE.out _).mono ?_; rintro e w2 ⟨rfl, rfl⟩
              go_wp2_with fail
              refine (HA.out _).mono ?_; rintro e w3 ⟨rfl, hg3⟩
              have HG3 := Lib.hid (Gr.trans HG.out hg3); clear hg3
              go_wp2
              go_ret
              exact ⟨rfl, HG3.out⟩
end Go.Proofs.Ytebniicnaofdoaa
