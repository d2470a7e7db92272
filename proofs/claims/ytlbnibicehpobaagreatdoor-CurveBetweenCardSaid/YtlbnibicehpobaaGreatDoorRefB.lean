/- RefB: Ref01b, Ref01c, Ref01d, Ref01e, Ref01f, Ref01g, Ref01h, Ref01i, Ref01j, Ref01k, Div, Ref01l, Ref01m, Ref01n, Ref01o, joined. -/
import Derived.Test.YtlbnibicehpobaaGreatDoorRef01a
import Derived.Deep.QuietTactic
import Derived.BigQuiet
import Derived.Test.YtlbnibicehpobaaGreatDoorMath
set_option linter.unusedVariables false
set_option linter.unusedSimpArgs false

/- Contracts of the reference's functions on integers that have loops over a text. -/
namespace Go.Proofs.YtlbnibicehpobaaGreatDoor
open Go.RowKit
open Z

theorem chk_bad0 {l : List UInt8} (h : (body l).length = 0) : chk l = 3 := by
  unfold chk
  rw [if_neg]
  intro h2
  simp only [formB, Bool.and_eq_true, Bool.not_eq_true'] at h2
  have : body l = [] := List.eq_nil_of_length_eq_zero h
  rw [this] at h2; simp at h2
theorem chk_bad1 {l : List UInt8} (h : (body l).head? = some 48) (h1 : 1 < l.length) : chk l = 3 := by
  unfold chk
  rw [if_neg]
  intro h2
  simp [formB, h, h1] at h2
theorem chk_bad2 {l : List UInt8} {c : UInt8} (h : c ∈ body l) (h1 : ¬ (48 ≤ c.toNat ∧ c.toNat ≤ 57)) : chk l = 3 := by
  unfold chk
  rw [if_neg]
  intro h2
  simp only [formB, Bool.and_eq_true, List.all_eq_true] at h2
  exact h1 (isD_iff.1 (h2.1.1 c h))
theorem chk_right {l : List UInt8} (h0 : (body l).length ≠ 0) (h1 : ¬ ((body l).head? = some 48 ∧ 1 < l.length)) (h2 : ∀ c ∈ body l, 48 ≤ c.toNat ∧ c.toNat ≤ 57) : chk l = if 4096 < (body l).length then 23 else 0 := by
  unfold chk
  rw [if_pos]
  simp only [formB, Bool.and_eq_true, List.all_eq_true, Bool.not_eq_true', Bool.and_eq_false_iff, beq_eq_false_iff_ne, decide_eq_false_iff_not]
  refine ⟨⟨fun c hc => isD_iff.2 (h2 c hc), ?_⟩, ?_⟩
  · cases hb : body l with
    | nil => rw [hb] at h0; exact absurd rfl h0
    | cons => rfl
  · by_cases h3 : (body l).head? = some 48
    · exact .inr (fun h4 => h1 ⟨h3, h4⟩)
    · exact .inl h3

theorem head_of {t : ByteArray} {l : List UInt8} (h : t.data.toList = l) (hz : 0 < t.size) : l.head? = some t[0] := by
  subst h
  rw [List.head?_eq_getElem?, List.getElem?_eq_getElem (by simpa using hz)]; rfl
theorem mem_of {t : ByteArray} {l : List UInt8} (h : t.data.toList = l) {i : Nat} (hz : i < t.size) : t[i] ∈ l := by
  subst h
  rw [get_data]; exact List.getElem_mem _

set_option maxHeartbeats 1000000 in
theorem r1_Check (s : ByteArray) (w : World) (hs : s.size ≤ maxLen) :
    Calls Tryz.prog 77 #[.string s] w fun e w' => e = .returned (.int .i64 (chk s.data.toList)) ∧ w = w' := by
  have hb := r1_body s w hs
  obtain ⟨t, ht⟩ : ∃ t, t = str (body s.data.toList) := ⟨_, rfl⟩
  rw [← ht] at hb
  have hd : t.data.toList = body s.data.toList := by rw [ht, data_str]
  clear ht
  have hl : t.size = (body s.data.toList).length := by rw [← hd]; simp
  have HS : Hid (s.data.toList.length = s.size) := by show _ = _; simp
  have hts : t.size ≤ s.size := by
    rw [hl, show s.size = s.data.toList.length by simp]
    unfold body; split
    · simp
    · exact Nat.le_refl _
  have HD := Lib.hid hd; clear hd
  have HL := Lib.hid hl; clear hl
  unfold maxLen at hs
  by_cases h0 : t.size = 0
  · have h0' : ((t.size : Int) == 0) = true := by simp [h0]
    have hfin := Lib.hid (chk_bad0 (HL.out.symm.trans h0))
    clear h0 HL
    go_enter Tryz.func77, Tryz.ntmps77
    go_wp2_with (go_at_call 78; refine hb.mono ?_; rintro e w' ⟨rfl, rfl⟩)
    go_ret
    exact ⟨ret_int hfin.out.symm, rfl⟩
  have h0' : ((t.size : Int) == 0) = false := beq_eq_false_iff_ne.2 (by omega)
  have hz : 0 < t.size := by omega
  by_cases h1 : (((t[0].toNat : Int) == 48) = true ∧ 1 < s.size)
  · obtain ⟨h1, h2⟩ := h1
    have hfin : Hid (chk s.data.toList = 3) := chk_bad1 ((head_of HD.out hz).trans (by
      have : (t[0].toNat : Int) = 48 := by simpa using h1
      rw [show t[0] = 48 from UInt8.toNat_inj.1 (by have : ((48 : UInt8).toNat : Int) = 48 := rfl; omega)])) (by rw [HS.out]; exact h2)
    go_enter Tryz.func77, Tryz.ntmps77
    go_wp2_with (go_at_call 78; refine hb.mono ?_; rintro e w' ⟨rfl, rfl⟩)
    go_ret
    exact ⟨ret_int hfin.out.symm, rfl⟩
  have h1' : ((t[0].toNat : Int) == 48) = false ∨ (((t[0].toNat : Int) == 48) = true ∧ ¬ 1 < s.size) := by
    cases hh : ((t[0].toNat : Int) == 48)
    · exact .inl rfl
    · exact .inr ⟨rfl, fun h => h1 ⟨hh, h⟩⟩
  have HR : Hid ((∀ c ∈ body s.data.toList, 48 ≤ c.toNat ∧ c.toNat ≤ 57) → chk s.data.toList = if 4096 < t.size then 23 else 0) := fun h2 => by
    rw [HL.out]
    refine chk_right (fun e => h0 (HL.out.trans e)) ?_ h2
    rintro ⟨h3, h4⟩
    refine h1 ⟨?_, by rw [HS.out] at h4; exact h4⟩
    rw [head_of HD.out hz] at h3
    simp only [Option.some.injEq] at h3
    rw [h3]; rfl
  clear h1
  rcases h1' with h1 | ⟨h1, h2⟩
  all_goals
    go_enter Tryz.func77, Tryz.ntmps77
    go_wp2_with (go_at_call 78; refine hb.mono ?_; rintro e w' ⟨rfl, rfl⟩)
    go_loop [4] (fun i => ∃ k : Nat, k ≤ t.size ∧ i = .int .i64 k ∧ Hid (∀ j (hj : j < t.size), j < k → 48 ≤ t[j].toNat ∧ t[j].toNat ≤ 57)) (fun i => t.size - (intOf i).toNat)
    case atStart => exact ⟨0, Nat.zero_le _, rfl, fun j hj h => absurd h (by omega)⟩
    case round =>
      obtain ⟨k, hk, rfl, HK⟩ := hrel
      by_cases hlt : k < t.size
      · by_cases hdig : 48 ≤ t[k].toNat ∧ t[k].toNat ≤ 57
        · have hd1 : decide ((t[k].toNat : Int) < 48) = false := decide_eq_false (by omega)
          have hd2 : decide ((57 : Int) < (t[k].toNat : Int)) = false := decide_eq_false (by omega)
          have HG := Lib.hid hdig; clear hdig
          go_wp2
          go_round
          case rel =>
            refine ⟨k + 1, by omega, by go_num, fun j hj h => ?_⟩
            by_cases hjk : j = k
            · subst hjk; exact HG.out
            · exact HK.out j hj (by omega)
          case measure => simp [intOf]; omega
        · have hfin : Hid (chk s.data.toList = 3) := chk_bad2 (mem_of HD.out hlt) hdig
          go_wp2
          all_goals (go_ret; exact ⟨ret_int hfin.out.symm, rfl⟩)
      · have hall : ∀ c ∈ body s.data.toList, 48 ≤ c.toNat ∧ c.toNat ≤ 57 := by
          intro c hc
          rw [← HD.out] at hc
          obtain ⟨j, hj, rfl⟩ := List.getElem_of_mem hc
          exact HK.out j (by simpa using hj) (by have : j < t.size := by simpa using hj
                                                 omega)
        have hfin := Lib.hid (HR.out hall)
        clear hall HR HK
        by_cases hbig : 4096 < t.size
        · go_wp2
          all_goals (go_ret; exact ⟨ret_int (by rw [hfin.out, if_pos hbig]), rfl⟩)
        · go_wp2
          all_goals (go_ret; exact ⟨ret_int (by rw [hfin.out, if_neg hbig]), rfl⟩)

/-- the integers of texts: ref.number -/
theorem take_snoc (l : List UInt8) (k : Nat) (h : k < l.length) : l.take (k + 1) = l.take k ++ [l[k]] := by
  rw [List.take_succ_eq_append_getElem h]
theorem dec_take_le (l : List UInt8) (k : Nat) (h : l.all isD = true) : dec (l.take k) < 10 ^ k := by
  have h1 : (l.take k).all isD = true := by
    rw [List.all_eq_true] at h ⊢
    exact fun x hx => h x (List.mem_of_mem_take hx)
  have := dec_lt _ h1
  have h2 : 10 ^ (l.take k).length ≤ 10 ^ k := Nat.pow_le_pow_right (by decide) (List.length_take_le _ _)
  omega
theorem pow17 {k : Nat} (h : k ≤ 17) : 10 ^ k ≤ 100000000000000000 := by
  have := Nat.pow_le_pow_right (show 0 < 10 by decide) h
  simpa using this
set_option maxHeartbeats 1000000 in
theorem r1_number (a : Int) (w : World) (h18 : Sm 17 a) :
    Calls Tryz.prog 82 #[.string (Tx a)] w fun e w' => e = .returned (.int .i64 a) ∧ w = w' := by
  have hb := r1_body_Tx a w h18
  have hsg := r1_Sign a w h18
  have hsz := h18.size
  have hn : (Tx (a.natAbs : Int)).size ≤ 17 := by rw [size_Tx_nat]; exact h18.1
  have hl : (Tx (a.natAbs : Int)).data.toList = Lib.decDigits a.natAbs := by rw [data_Tx]; unfold Lib.itoa; rw [if_neg (by omega)]; simp
  obtain ⟨t, ht⟩ : ∃ t, t = Tx (a.natAbs : Int) := ⟨_, rfl⟩
  rw [← ht] at hb hn hl
  clear ht
  have hall := (dec_decDigits a.natAbs).2.1
  have hdec := (dec_decDigits a.natAbs).1
  generalize hds : Lib.decDigits a.natAbs = ds at hl hall hdec
  clear hds
  have hlen : ds.length = t.size := by rw [← hl]; simp
  have hgt : ∀ k (h : k < t.size), dec (ds.take (k + 1)) = 10 * dec (ds.take k) + (t[k].toNat - 48) ∧ 48 ≤ t[k].toNat ∧ t[k].toNat ≤ 57 := by
    intro k h
    have h1 : k < ds.length := by omega
    have h2 : t[k] = ds[k] := by rw [get_data]; simp only [hl]
    rw [take_snoc _ _ h1, dec_snoc, h2]
    refine ⟨rfl, ?_⟩
    rw [List.all_eq_true] at hall
    exact isD_iff.1 (hall _ (List.getElem_mem h1))
  have hb18 : ∀ k, k ≤ t.size → dec (ds.take k) < 100000000000000000 := fun k hk => by
    have h1 := dec_take_le ds k hall
    have h2 := pow17 (show k ≤ 17 by omega)
    omega
  have htot : dec (ds.take t.size) = a.natAbs := by rw [← hlen, List.take_length]; exact hdec
  have HT := Lib.hid htot
  have HG := Lib.hid hgt
  have HB := Lib.hid hb18
  clear htot hgt hb18 hlen hdec hall hl
  go_enter Tryz.func82, Tryz.ntmps82
  go_wp2_with (go_at_call 78; refine hb.mono ?_; rintro e w' ⟨rfl, rfl⟩)
  go_loop [3, 5] (fun n i => ∃ k : Nat, k ≤ t.size ∧ i = .int .i64 k ∧ n = .int .i64 (dec (ds.take k) : Nat)) (fun _ i => t.size - (intOf i).toNat)
  case atStart => exact ⟨0, Nat.zero_le _, rfl, rfl⟩
  case round =>
    obtain ⟨k, hk, rfl, rfl⟩ := hrel
    have hv := HB.out k hk
    by_cases hlt : k < t.size
    · obtain ⟨g1, g2, g3⟩ := HG.out k hlt
      have G1 := Lib.hid g1; clear g1
      go_wp2
      go_round
      case rel => exact ⟨k + 1, by omega, by go_num, by rw [G1.out]; congr 1; omega⟩
      case measure => simp [intOf]; omega
    · have hkt : k = t.size := by omega
      have HT' : Hid (dec (ds.take k) = a.natAbs) := by show _ = _; rw [hkt]; exact HT.out
      clear hkt
      go_wp2_with (go_at_call 56; refine hsg.mono ?_; rintro e w' ⟨rfl, rfl⟩)
      · have h : a < 0 := by assumption
        go_ret
        exact ⟨ret_int (by rw [HT'.out]; omega), rfl⟩
      · have h : 0 ≤ a := by assumption
        go_ret
        exact ⟨ret_int (by rw [HT'.out]; omega), rfl⟩

/-- ref.compare of two texts of digits -/
theorem dec_cmp (a b : List UInt8) (ha : a.all isD = true) (hb : b.all isD = true) (i : Nat) (hi : i < a.length) (hl : a.length = b.length) (hp : a.take i = b.take i) (hlt : a[i].toNat < (b[i]'(by omega)).toNat) : dec a < dec b := by
  have e1 : a = a.take i ++ a[i] :: a.drop (i + 1) := by rw [List.getElem_cons_drop, List.take_append_drop]
  have e2 : b = b.take i ++ (b[i]'(by omega)) :: b.drop (i + 1) := by rw [List.getElem_cons_drop, List.take_append_drop]
  rw [e1, e2, dec_append, dec_append, dec_cons, dec_cons, hp]
  rw [List.all_eq_true] at ha hb
  have h1 : (a.drop (i + 1)).all isD = true := by rw [List.all_eq_true]; exact fun x hx => ha x (List.mem_of_mem_drop hx)
  have h2 := dec_lt _ h1
  have h3 := isD_iff.1 (ha _ (List.getElem_mem hi))
  have h4 := isD_iff.1 (hb _ (List.getElem_mem (show i < b.length by omega)))
  have hL : (a.drop (i + 1)).length = (b.drop (i + 1)).length := by simp [hl]
  rw [hL] at h2 ⊢
  simp only [List.length_cons, hL]
  have h5 : dv a[i] + 1 ≤ dv (b[i]'(by omega)) := by unfold dv; omega
  have h6 : (dv a[i] + 1) * 10 ^ (b.drop (i + 1)).length ≤ dv (b[i]'(by omega)) * 10 ^ (b.drop (i + 1)).length := Nat.mul_le_mul_right _ h5
  rw [Nat.add_mul] at h6
  omega
def cmpN (n m : Nat) : Int := if n < m then -1 else if m < n then 1 else 0
theorem cmpN_lt {n m : Nat} (h : n < m) : cmpN n m = -1 := by unfold cmpN; rw [if_pos h]
theorem cmpN_gt {n m : Nat} (h : m < n) : cmpN n m = 1 := by unfold cmpN; rw [if_neg (by omega), if_pos h]
theorem cmpN_eq {n m : Nat} (h : n = m) : cmpN n m = 0 := by unfold cmpN; rw [if_neg (by omega), if_neg (by omega)]
theorem lt_of_digits {n m : Nat} (h : Lib.nDigits n < Lib.nDigits m) : n < m := by
  rcases Nat.lt_or_ge n m with h1 | h1
  · exact h1
  · exfalso
    have h2 := (nDigits_le_iff n (Lib.nDigits n) (Lib.nDigits_pos n)).1 (Nat.le_refl _)
    have h3 := (nDigits_le_iff m (Lib.nDigits n) (Lib.nDigits_pos n)).2 (by omega)
    omega
/-- what the walks know of the text of a natural number -/
theorem nat_text (n : Nat) : (Tx (n : Int)).data.toList = Lib.decDigits n := by rw [data_Tx]; unfold Lib.itoa; rw [if_neg (by omega)]; simp
theorem nat_digit (n : Nat) (i : Nat) (h : i < (Tx (n : Int)).size) : 48 ≤ (Tx (n : Int))[i].toNat ∧ (Tx (n : Int))[i].toNat ≤ 57 := by
  have hall := (dec_decDigits n).2.1
  rw [List.all_eq_true] at hall
  rw [get_data]
  simp only [nat_text]
  exact isD_iff.1 (hall _ (List.getElem_mem _))
theorem nat_cmp {s t : ByteArray} {n m : Nat} (hs : s = Tx (n : Int)) (ht : t = Tx (m : Int)) (hl : s.size = t.size) (i : Nat) (hi : i < s.size) (hi' : i < t.size)
    (hp : ∀ j (h1 : j < s.size) (h2 : j < t.size), j < i → s[j].toNat = t[j].toNat)
    (hlt : s[i].toNat < t[i].toNat) : n < m := by
  have hn := dec_decDigits n
  have hm := dec_decDigits m
  have es : s.data.toList = Lib.decDigits n := by rw [hs, nat_text]
  have et : t.data.toList = Lib.decDigits m := by rw [ht, nat_text]
  clear hs ht
  rw [← hn.1, ← hm.1]
  have ls : s.size = (Lib.decDigits n).length := by rw [← es]; simp
  have lt : t.size = (Lib.decDigits m).length := by rw [← et]; simp
  refine dec_cmp _ _ hn.2.1 hm.2.1 i (by omega) (by omega) ?_ ?_
  · apply List.ext_getElem
    · simp only [List.length_take]; omega
    · intro j h1 h2
      simp only [List.length_take] at h1 h2
      have := hp j (by omega) (by omega) (by omega)
      rw [get_data, get_data] at this
      simp only [es, et] at this
      simp only [List.getElem_take]
      exact UInt8.toNat_inj.1 this
  · rw [get_data, get_data] at hlt
    simp only [es, et] at hlt
    exact hlt
theorem nat_same {s t : ByteArray} {n m : Nat} (hs : s = Tx (n : Int)) (ht : t = Tx (m : Int)) (hl : s.size = t.size)
    (hp : ∀ j (h1 : j < s.size) (h2 : j < t.size), s[j].toNat = t[j].toNat) : n = m := by
  have h : s = t := by
    apply ba_ext
    apply List.ext_getElem
    · simpa using hl
    · intro j h1 h2
      have := hp j (by simpa using h1) (by simpa using h2)
      rw [get_data, get_data] at this
      exact UInt8.toNat_inj.1 this
  rw [hs, ht] at h
  have := Tx_inj h
  omega

set_option maxHeartbeats 1000000 in
theorem r1_compare {k k' : Nat} (n m : Nat) (w : World) (hn : Sm k n) (hm : Sm k' m) :
    Calls Tryz.prog 81 #[.string (Tx n), .string (Tx m)] w fun e w' => e = .returned (.int .i64 (cmpN n m)) ∧ Gr w w' := by
  have hn2 := hn.len2
  have hm2 := hm.len2
  have hl1 : (Tx (n : Int)).size < (Tx (m : Int)).size → n < m := by simp only [size_Tx_nat]; exact lt_of_digits
  have hl2 : (Tx (m : Int)).size < (Tx (n : Int)).size → m < n := by simp only [size_Tx_nat]; exact lt_of_digits
  obtain ⟨s, hs⟩ : ∃ s, s = Tx (n : Int) := ⟨_, rfl⟩
  obtain ⟨t, ht⟩ : ∃ t, t = Tx (m : Int) := ⟨_, rfl⟩
  have C1 := Lib.hid (nat_cmp hs ht)
  have C2 := Lib.hid (nat_cmp ht hs)
  have CS := Lib.hid (nat_same hs ht)
  rw [← hs] at hn2 hl1 hl2 ⊢
  rw [← ht] at hm2 hl1 hl2 ⊢
  clear hs ht
  rcases Nat.lt_trichotomy s.size t.size with h | h | h
  · have hfin := Lib.hid (cmpN_lt (hl1 h))
    clear hl1 hl2
    have hne : ((s.size : Int) == (t.size : Int)) = false := beq_eq_false_iff_ne.2 (by omega)
    go_enter Tryz.func81, Tryz.ntmps81
    go_wp2
    go_ret
    exact ⟨ret_int hfin.out.symm, Gr.refl _⟩
  · clear hl1 hl2
    have heq : ((s.size : Int) == (t.size : Int)) = true := beq_iff_eq.2 (by omega)
    have HE := Lib.hid h
    have hle : s.size ≤ t.size := by omega
    have hge : t.size ≤ s.size := by omega
    clear h
    go_enter Tryz.func81, Tryz.ntmps81
    go_wp2
    go_loopw [5] (fun i wr => ∃ k : Nat, k ≤ s.size ∧ i = .int .i64 k ∧ Gr w wr ∧ Hid (∀ j (h1 : j < s.size) (h2 : j < t.size), j < k → s[j].toNat = t[j].toNat)) (fun i _ => s.size - (intOf i).toNat)
    case atStart => exact ⟨0, Nat.zero_le _, rfl, Gr.refl _, fun j _ _ h => absurd h (by omega)⟩
    case round =>
      obtain ⟨k, hk, rfl, hg, HK⟩ := hrel
      by_cases hlt : k < s.size
      · have hlt' : k < t.size := by omega
        have b1 : (k : Int) < (s.size : Int) := by omega
        have b2 : (k : Int) < (t.size : Int) := by omega
        rcases Nat.lt_trichotomy s[k].toNat t[k].toNat with h | h | h
        · have e1 : ((s[k].toNat : Int) == (t[k].toNat : Int)) = false := beq_eq_false_iff_ne.2 (by omega)
          have hfin := Lib.hid (cmpN_lt (C1.out HE.out k hlt hlt' HK.out h))
          go_wp2
          go_quiet (fail)
          go_wp2
          go_quiet (fail)
          go_wp2
          go_ret
          exact ⟨ret_int hfin.out.symm, below_drewN (below_drewN hg _) _⟩
        · have e1 : ((s[k].toNat : Int) == (t[k].toNat : Int)) = true := beq_iff_eq.2 (by omega)
          have HH := Lib.hid h; clear h
          go_wp2
          go_quiet (fail)
          go_wp2
          go_roundw
          case rel =>
            refine ⟨k + 1, by omega, by go_num, below_drewN hg _, fun j h1 h2 h3 => ?_⟩
            by_cases hjk : j = k
            · subst hjk; exact HH.out
            · exact HK.out j h1 h2 (by omega)
          case measure => simp [intOf]; omega
        · have e1 : ((s[k].toNat : Int) == (t[k].toNat : Int)) = false := beq_eq_false_iff_ne.2 (by omega)
          have e2 : ¬ s[k].toNat < t[k].toNat := by omega
          have hfin := Lib.hid (cmpN_gt (C2.out HE.out.symm k hlt' hlt (fun j h1 h2 h3 => (HK.out j h2 h1 h3).symm) h))
          go_wp2
          go_quiet (fail)
          go_wp2
          go_quiet (fail)
          go_wp2
          go_ret
          exact ⟨ret_int hfin.out.symm, below_drewN (below_drewN hg _) _⟩
      · have hfin := Lib.hid (cmpN_eq (CS.out HE.out (fun j h1 h2 => HK.out j h1 h2 (by omega))))
        go_wp2
        go_ret
        exact ⟨ret_int hfin.out.symm, hg⟩
  · have hfin := Lib.hid (cmpN_gt (hl2 h))
    clear hl1 hl2
    have hne : ((s.size : Int) == (t.size : Int)) = false := beq_eq_false_iff_ne.2 (by omega)
    have hnl : ¬ s.size < t.size := by omega
    go_enter Tryz.func81, Tryz.ntmps81
    go_wp2
    go_ret
    exact ⟨ret_int hfin.out.symm, Gr.refl _⟩
end Go.Proofs.YtlbnibicehpobaaGreatDoor

/- Contracts of the reference's Whole, words and text. -/
namespace Go.Proofs.YtlbnibicehpobaaGreatDoor
open Go.RowKit
open Z

def ntx0 (u : Nat) : List UInt8 := if u = 0 then [] else Lib.decDigits u
theorem ntx0_step {u : Nat} (h : u ≠ 0) : ntx0 u = ntx0 (u / 10) ++ [UInt8.ofNat (48 + u % 10)] := by
  unfold ntx0
  rw [if_neg h]
  by_cases h1 : u < 10
  · rw [if_pos (by omega), Lib.decDigits, dif_pos h1, show u % 10 = u by omega]; rfl
  · rw [if_neg (by omega), Lib.decDigits, dif_neg h1]

theorem Tx_zero : Tx 0 = ⟨#[48]⟩ := by unfold Tx; rw [itoa_zero]
@[local go_sem] theorem conv1 (v : Int) (w : World) : (convert 94 9 (.slice (some ⟨w.heap.size, 0, none⟩) 1 1)).run Tryz.prog (w.alloc (.cells #[.int .u8 v] 5)) = .ok (.string ⟨#[UInt8.ofNat v.toNat]⟩) (w.alloc (.cells #[.int .u8 v] 5)) := by
  rw [run_convert_bytes_string _ 94 9 5 _ _ _ (by kernel_rfl) (by kernel_rfl) (by kernel_rfl)]
  have hl := run_loadCells_list (P := Tryz.prog) (w.alloc (.cells #[.int .u8 v] 5)) ⟨w.heap.size, 0, none⟩ ([v].map (Value.int .u8)) (fun j u hj => by
    match j, hj with
    | 0, hj => simp at hj; subst hj; simp [Addr.add, World.cell?_alloc_at])
  rw [run_bytesToString _ _ 1 1 [v] hl]
  rfl
theorem ntx0_itoa {n : Int} {l : List UInt8} (h0 : n ≠ 0) (h : ntx0 0 ++ l = ntx0 n.natAbs) : l = Lib.decDigits n.natAbs := by
  unfold ntx0 at h
  rw [if_pos rfl, if_neg (by omega)] at h
  simpa using h
theorem ntx0_push {u v : Nat} {t : ByteArray} {c : UInt8} {l : List UInt8} (h : ntx0 u ++ t.data.toList = l) (hu : u ≠ 0) (hv : v = u / 10) (hc : c = UInt8.ofNat (48 + u % 10)) :
    ntx0 v ++ ((⟨#[c]⟩ : ByteArray) ++ t).data.toList = l := by
  rw [← h, ntx0_step hu, hv, hc]
  simp [ByteArray.data_append]
theorem ntx0_room {u n : Nat} {t : ByteArray} (h : ntx0 u ++ t.data.toList = ntx0 n) (hn : n < 10000000000000000000) (hu : u ≠ 0) : t.size ≤ 18 := by
  have h1 := congrArg List.length h
  rw [List.length_append] at h1
  have h2 : t.data.toList.length = t.size := by simp
  rw [h2] at h1
  have h3 : (ntx0 n).length ≤ 19 := by
    unfold ntx0; split
    · simp
    · rw [Lib.decDigits_length]; exact (nDigits_le_iff n 19 (by omega)).2 (by omega)
  have h4 : 1 ≤ (ntx0 u).length := by
    unfold ntx0; rw [if_neg hu, Lib.decDigits_length]; exact Lib.nDigits_pos u
  omega
theorem size_push1 {t : ByteArray} {c : UInt8} {k : Nat} (h : t.size ≤ k) : ((⟨#[c]⟩ : ByteArray) ++ t).size ≤ k + 1 := by
  rw [ByteArray.size_append]
  have : (⟨#[c]⟩ : ByteArray).size = 1 := rfl
  omega
theorem neg_div10 {q : Int} (h : q < 0) : ∃ r d : Int, q.tmod 10 = -r ∧ q.tdiv 10 = -d ∧ 0 ≤ r ∧ r ≤ 9 ∧ 0 ≤ d ∧ Hid (r = ((q.natAbs % 10 : Nat) : Int)) ∧ Hid (d = ((q.natAbs / 10 : Nat) : Int)) := by
  obtain ⟨m, rfl⟩ : ∃ m : Nat, q = -(m : Int) := ⟨q.natAbs, by omega⟩
  refine ⟨((m % 10 : Nat) : Int), ((m / 10 : Nat) : Int), ?_, ?_, by omega, by omega, by omega, ?_, ?_⟩
  · rw [Int.neg_tmod]; rfl
  · rw [Int.neg_tdiv]; rfl
  · show _ = _; rw [Int.natAbs_neg, Int.natAbs_natCast]
  · show _ = _; rw [Int.natAbs_neg, Int.natAbs_natCast]
set_option maxHeartbeats 1000000 in
set_option maxRecDepth 100000 in
theorem r1_Whole (n : Int) (w : World) (h1 : -9223372036854775808 ≤ n) (h2 : n ≤ 9223372036854775807) :
    Calls Tryz.prog 59 #[.int .i64 n] w fun e w' => e = .returned (.string (Tx n)) ∧ Gr w w' := by
  by_cases h0 : n = 0
  · subst h0
    go_enter Tryz.func59, Tryz.ntmps59
    go_wp2
    go_ret
    exact ⟨ret_str Tx_zero.symm, Gr.refl _⟩
  have e0 : (n == 0) = false := beq_eq_false_iff_ne.2 h0
  go_enter Tryz.func59, Tryz.ntmps59
  go_wp2
  go_loopw [3, 4] (fun s k wr => ∃ (q : Int) (t : ByteArray), k = .int .i64 q ∧ s = .string t ∧ -9223372036854775808 ≤ q ∧ q ≤ 9223372036854775807 ∧ t.size ≤ 19 ∧ Gr w wr ∧
    Hid (ntx0 q.natAbs ++ t.data.toList = ntx0 n.natAbs)) (fun _ k _ => (intOf k).natAbs)
  case atStart => exact ⟨n, _, rfl, rfl, h1, h2, by decide, Gr.refl _, by show _ = _; simp⟩
  case round =>
    obtain ⟨q, t, rfl, rfl, q1, q2, ht, hg, HI⟩ := hrel
    by_cases hq : q = 0
    · subst hq
      have HF := Lib.hid (ntx0_itoa h0 HI.out)
      clear HI
      by_cases hn : n < 0
      · go_wp2
        go_ret
        refine ⟨ret_str (ba_ext ?_), hg⟩
        rw [ByteArray.data_append, Array.toList_append, HF.out, data_Tx]
        unfold Lib.itoa
        rw [if_pos hn]; rfl
      · go_wp2
        go_ret
        refine ⟨ret_str (ba_ext ?_), hg⟩
        rw [HF.out, data_Tx]
        unfold Lib.itoa
        rw [if_neg (by omega)]; congr 1; omega
    · have eq0 : (q == 0) = false := beq_eq_false_iff_ne.2 hq
      have hroom := ntx0_room HI.out (by omega) (by omega)
      by_cases hq1 : q < 0
      · obtain ⟨r, d, hr, hd, r0, r1, d0, HR, HD⟩ := neg_div10 hq1
        have hdb : d ≤ 922337203685477580 := by have := HD.out; omega
        go_wp2
        · go_roundw
          case rel => exact ⟨-d, _, rfl, rfl, by omega, by omega, size_push1 hroom, hg.alloc _, ntx0_push HI.out (by omega) (by have := HD.out; omega) (congrArg UInt8.ofNat (by have := HR.out; omega))⟩
          case measure => have := HD.out; simp [intOf]; omega
        · have hr0 : r ≤ 0 := by assumption
          go_roundw
          case rel => exact ⟨-d, _, rfl, rfl, by omega, by omega, size_push1 hroom, hg.alloc _, ntx0_push HI.out (by omega) (by have := HD.out; omega) (congrArg UInt8.ofNat (by have := HR.out; omega))⟩
          case measure => have := HD.out; simp [intOf]; omega
      · go_wp2
        go_roundw
        case rel => exact ⟨q / 10, _, rfl, rfl, by omega, by omega, size_push1 hroom, hg.alloc _, ntx0_push HI.out (by omega) (by omega) (congrArg UInt8.ofNat (by omega))⟩
        case measure => simp [intOf]; omega
end Go.Proofs.YtlbnibicehpobaaGreatDoor

/- Contracts of the reference's words and text. -/
namespace Go.Proofs.YtlbnibicehpobaaGreatDoor
open Go.RowKit
open Z

/-- the value of words, the lowest first -/
def wv (B : Nat) : List Nat → Nat
  | [] => 0
  | x :: xs => x + B * wv B xs
theorem wv_append (B : Nat) (a b : List Nat) : wv B (a ++ b) = wv B a + B ^ a.length * wv B b := by
  induction a with
  | nil => simp [wv]
  | cons x a ih => simp only [List.cons_append, wv, ih, List.length_cons, Nat.pow_succ, Nat.mul_add]; rw [Nat.mul_comm (B ^ a.length) B, Nat.mul_assoc]; omega
theorem wv_snoc (B : Nat) (a : List Nat) (x : Nat) : wv B (a ++ [x]) = wv B a + B ^ a.length * x := by simp [wv_append, wv]
def small (B : Nat) (l : List Nat) : Prop := ∀ x ∈ l, x < B
theorem small_snoc {B : Nat} {l : List Nat} {x : Nat} (h : small B l) (hx : x < B) : small B (l ++ [x]) := by
  intro y hy; simp only [List.mem_append, List.mem_singleton] at hy; rcases hy with hy | hy
  · exact h y hy
  · omega
theorem wv_lt {B : Nat} {l : List Nat} (h : small B l) : wv B l < B ^ l.length := by
  induction l with
  | nil => simp [wv]
  | cons x l ih =>
    have h1 : x < B := h x (by simp)
    have h2 := ih (fun y hy => h y (by simp [hy]))
    simp only [wv, List.length_cons, Nat.pow_succ]
    have h3 : B * wv B l + B ≤ B * B ^ l.length := by rw [← Nat.mul_succ]; exact Nat.mul_le_mul_left _ h2
    rw [Nat.mul_comm (B ^ l.length) B]
    omega
def iv (k : IntKind) (l : List Nat) : List Value := l.map (fun (x : Nat) => Value.int k (x : Int))
theorem iv_length (k : IntKind) (l : List Nat) : (iv k l).length = l.length := by simp [iv]
theorem iv_snoc (k : IntKind) (l : List Nat) (x : Nat) : iv k (l ++ [x]) = iv k l ++ [.int k x] := by simp [iv]
/-- a slice of numbers that the call has made -/
def Own (e : TypeId) (k : IntKind) (B : Nat) (w : World) (v : Value) (xs : List Nat) : Prop := w.ownsRow B e 1 v xs.length (iv k xs)

theorem Own.nil (e : TypeId) (k : IntKind) (B : Nat) (w : World) : Own e k B w (.slice none 0 0) [] := World.ownsRow_nil _ _ _ _
def seg (l : List UInt8) (a b : Nat) : List UInt8 := (l.drop a).take (b - a)
theorem seg_self (l : List UInt8) (a : Nat) : seg l a a = [] := by simp [seg]
theorem seg_snoc (l : List UInt8) (a b : Nat) (h : a ≤ b) (hb : b < l.length) : seg l a (b + 1) = seg l a b ++ [l[b]] := by
  unfold seg
  rw [show b + 1 - a = (b - a) + 1 by omega, List.take_succ_eq_append_getElem (by simp; omega)]
  congr 2
  simp only [List.getElem_drop]
  congr 1; omega
theorem seg_drop (l : List UInt8) (a b : Nat) (h : a ≤ b) : l.drop a = seg l a b ++ l.drop b := by
  unfold seg
  have h1 := (List.take_append_drop (b - a) (l.drop a)).symm
  rw [List.drop_drop, show a + (b - a) = b by omega] at h1
  exact h1
theorem seg_all (l : List UInt8) (a b : Nat) (h : l.all isD = true) : (seg l a b).all isD = true := by
  rw [List.all_eq_true] at h ⊢
  exact fun x hx => h x (List.mem_of_mem_drop (List.mem_of_mem_take hx))
theorem seg_lt (l : List UInt8) (a b : Nat) (h : l.all isD = true) : dec (seg l a b) < 10 ^ (b - a) := by
  have h1 := dec_lt _ (seg_all l a b h)
  have h2 : 10 ^ (seg l a b).length ≤ 10 ^ (b - a) := Nat.pow_le_pow_right (by decide) (by unfold seg; exact List.length_take_le _ _)
  omega
theorem pow10_4 (n : Nat) : 10 ^ (4 * n) = 10000 ^ n := by rw [Nat.pow_mul]
theorem words_step {l : List UInt8} {xs : List Nat} {i lo : Nat} (hall : l.all isD = true) (hlo : lo ≤ i) (hi : i ≤ l.length) (hx : wv 10000 xs = dec (l.drop i)) (hn : l.length - i = 4 * xs.length) :
    wv 10000 (xs ++ [dec (seg l lo i)]) = dec (l.drop lo) := by
  rw [wv_snoc, hx, seg_drop l lo i hlo, dec_append, List.length_drop, hn, pow10_4, Nat.mul_comm]; omega

theorem Tryz.infoInt : (Tryz.prog.info? 3).map (fun i => (i.zero, i.size, i.bytes)) = some (some (.int .i64 0), 1, 8) := by kernel_rfl
def WordsRet (n k B : Nat) (w w' : World) (e : Ending) : Prop :=
  ∃ v xs, e = .returned v ∧ Own 3 .i64 B w' v xs ∧ wv 10000 xs = n ∧ small 10000 xs ∧ xs.length ≤ k ∧ Gr w w'

set_option maxHeartbeats 2000000 in
set_option maxRecDepth 100000 in
theorem r1_words {k : Nat} (n : Nat) (w : World) (hs : Sm k n) :
    Calls Tryz.prog 111 #[.string (Tx n)] w (fun e w' => WordsRet n k w.heap.size w w' e) := by
  have hk := hs.2
  have hsz : (Tx (n : Int)).size ≤ k := by rw [size_Tx_nat]; exact hs.1
  have htx := nat_text n
  have hall := (dec_decDigits n).2.1
  have hdec := (dec_decDigits n).1
  generalize Lib.decDigits n = ds at htx hall hdec
  generalize Tx (n : Int) = s at hsz htx ⊢
  have hlen : ds.length = s.size := by rw [← htx]; simp
  have hdig : ∀ j (h : j < s.size), ∃ h' : j < ds.length, s[j] = ds[j] ∧ 48 ≤ s[j].toNat ∧ s[j].toNat ≤ 57 := by
    intro j h
    have h' : j < ds.length := by omega
    have h2 : s[j] = ds[j] := by rw [get_data]; simp only [htx]
    refine ⟨h', h2, ?_⟩
    rw [h2]
    rw [List.all_eq_true] at hall
    exact isD_iff.1 (hall _ (List.getElem_mem h'))
  have HLEN := Lib.hid hlen; clear hlen
  have HDIG := Lib.hid hdig; clear hdig
  have HALL := Lib.hid hall; clear hall
  have HDEC := Lib.hid hdec; clear hdec htx
  obtain ⟨i0, hi, hz0, hz1, hz2⟩ := info_parts Tryz.infoInt
  go_enter Tryz.func111, Tryz.ntmps111
  go_wp2
  go_loopw [3, 4] (fun v i wr => ∃ (q : Int) (xs : List Nat), i = .int .i64 q ∧ -4 ≤ q ∧ q ≤ s.size ∧ Own 3 .i64 w.heap.size wr v xs ∧ Gr w wr ∧ small 10000 xs ∧
      Hid (wv 10000 xs = dec (ds.drop q.toNat)) ∧ Hid (0 < q → ds.length - q.toNat = 4 * xs.length) ∧ xs.length + q.toNat ≤ s.size) (fun _ i _ => (intOf i).toNat)
  case atStart =>
    refine ⟨s.size, [], rfl, by omega, by omega, Own.nil _ _ _ _, Gr.refl _, by intro x hx; simp at hx, ?_, ?_, by simp⟩
    · show _ = _; rw [Int.toNat_natCast, List.drop_of_length_le (by have := HLEN.out; omega)]; rfl
    · intro _; rw [Int.toNat_natCast]; have := HLEN.out; simp; omega
  case round =>
    obtain ⟨q, xs, rfl, q1, q2, hown, hg, hsm, HW, HP, hxl⟩ := hrel
    by_cases hq : 0 < q
    · obtain ⟨i, rfl⟩ : ∃ i : Nat, q = i := ⟨q.toNat, by omega⟩
      have hcase : ∃ lo : Nat, lo < i ∧ i ≤ lo + 4 ∧ ((4 < i ∧ (i : Int) - 4 = lo) ∨ (¬ 4 < i ∧ Hid (lo = 0))) := by
        by_cases h : 4 < i
        · exact ⟨i - 4, by omega, by omega, .inl ⟨h, by omega⟩⟩
        · exact ⟨0, by omega, by omega, .inr ⟨h, rfl⟩⟩
      obtain ⟨lo, hlo1, hlo2, hcase⟩ := hcase
      have hseg : ∀ j, lo ≤ j → j ≤ i → dec (seg ds lo j) < 10000 := fun j h1 h2 => by
        have h3 := seg_lt ds lo j HALL.out
        have h4 : 10 ^ (j - lo) ≤ 10 ^ 4 := Nat.pow_le_pow_right (by decide) (by omega)
        omega
      have HSEG := Lib.hid hseg; clear hseg
      have HW' : Hid (wv 10000 (xs ++ [dec (seg ds lo i)]) = dec (ds.drop lo)) := words_step HALL.out (by omega) (by have := HLEN.out; omega) (by have := HW.out; rwa [Int.toNat_natCast] at this) (by have := HP.out hq; rwa [Int.toNat_natCast] at this)
      have HSM : Hid (small 10000 (xs ++ [dec (seg ds lo i)])) := small_snoc hsm (HSEG.out i (by omega) (Nat.le_refl _))
      have HP' : Hid (∀ q : Int, q = (i : Int) - 4 → -4 ≤ q ∧ q ≤ s.size ∧ q.toNat = lo ∧ (0 < q → ds.length - q.toNat = 4 * (xs.length + 1)) ∧ xs.length + 1 + q.toNat ≤ s.size) := by
        intro q hq'; have := HP.out hq; have := HLEN.out; rcases hcase with ⟨_, h⟩ | ⟨_, h⟩
        · omega
        · have := h.out; omega
      have hxl' : xs.length + i ≤ s.size := by omega
      have hLO : lo < s.size + 1 := by omega
      clear HW HP hxl hsm
      rcases hcase with ⟨hc1, hc2⟩ | ⟨hc1, hc2⟩
      all_goals
        go_wp2
        go_loop [5, 6] (fun n j => ∃ jj : Nat, lo ≤ jj ∧ jj ≤ i ∧ j = .int .i64 jj ∧ n = .int .i64 (dec (seg ds lo jj) : Nat)) (fun _ j => i - (intOf j).toNat)
        case atStart => exact ⟨lo, Nat.le_refl _, by omega, by first | rfl | (rw [hc2.out]; rfl), by rw [seg_self]; rfl⟩
        case round =>
          obtain ⟨jj, hj1, hj2, rfl, rfl⟩ := hrel
          have hv := HSEG.out jj hj1 hj2
          by_cases hjl : jj < i
          · have hjs : jj < s.size := by omega
            obtain ⟨hd0, hd1, hd2, hd3⟩ := HDIG.out jj hjs
            have HS : Hid (dec (seg ds lo (jj + 1)) = 10 * dec (seg ds lo jj) + (s[jj].toNat - 48)) := by show _ = _; rw [seg_snoc _ _ _ hj1 hd0, dec_snoc, hd1]; rfl
            clear hd1
            go_wp2
            go_round
            case rel => exact ⟨jj + 1, by omega, by omega, by go_num, by rw [HS.out]; congr 1; omega⟩
            case measure => simp [intOf]; omega
          · have hji : jj = i := by omega
            have HJ : Hid (dec (seg ds lo jj) = dec (seg ds lo i)) := by show _ = _; rw [hji]
            clear hji
            have hgs := hg.size
            go_wp2_with (at_builtin; refine wpList_append_own _ rfl _ _ 123 rfl w.heap.size 3 i0 (.int .i64 0) 1 8 Tryz.underlying123 hi hz0 hz1 hz2 rfl (by decide) _ _ _ rfl (World.ownsRow.alloc hown _) ⟨wr.heap.size, 0, none⟩ 1 1 [.int .i64 (dec (seg ds lo jj) : Nat)] rfl rfl (cell_one_new _ _ _) ?c2 ?c3 ?c4 ?c5 ?_)
            case c2 => rfl
            case c3 => unfold maxLen; omega
            case c4 => omega
            case c5 => omega
            · intro v' w1 hown' hgrow _
              have OW : Hid (Own 3 .i64 w.heap.size w1 v' (xs ++ [dec (seg ds lo i)])) := by
                rw [← HJ.out]; show World.ownsRow _ _ _ _ _ _ _; rw [iv_snoc, List.length_append]; exact hown'
              have HG : Hid (Gr w w1) := Below.grown (hg.alloc _) hgrow (by simp; omega) (fun k hk => (World.ownsRow.lt hown k hk).1)
              clear hown' hgrow
              go_wp2
              go_roundw
              case rel =>
                obtain ⟨a1, a2, a3, a4, a5⟩ := HP'.out ((i : Int) - 4) rfl
                refine ⟨(i : Int) - 4, _, by first | rfl | (rw [hc2]), a1, a2, OW.out, HG.out, HSM.out, ?_, ?_, ?_⟩
                · rw [a3]; exact HW'.out
                · intro h; rw [List.length_append]; exact a4 h
                · rw [List.length_append]; exact a5
              case measure => simp [intOf]; omega
    · go_wp2
      go_ret
      refine ⟨_, xs, rfl, hown, ?_, hsm, by omega, hg⟩
      rw [HW.out, show q.toNat = 0 by omega, List.drop_zero]
      exact HDEC.out
end Go.Proofs.YtlbnibicehpobaaGreatDoor

/- The contract of the reference's text. -/
namespace Go.Proofs.YtlbnibicehpobaaGreatDoor
open Go.RowKit
open Z

/-- a slice that reads as numbers -/
def Rd (k : IntKind) (w : World) (v : Value) (xs : List Nat) : Prop :=
  ∃ a cap, v = .slice a xs.length cap ∧ (xs.length ≤ cap ∧ cap ≤ maxLen) ∧ (xs = [] ∨ ∃ g off, a = some ⟨g, off, none⟩ ∧ g < w.heap.size ∧ ∀ i (h : i < xs.length), w.cell? ⟨g, off + i, none⟩ = some (.int k (xs[i] : Nat)))
theorem Own.form {e : TypeId} {k : IntKind} {B : Nat} {w : World} {v : Value} {xs : List Nat} (h : Own e k B w v xs) :
    ∃ a cap, v = .slice a xs.length cap ∧ (xs.length ≤ cap ∧ cap ≤ maxLen) ∧ (xs = [] ∨ ∃ g, a = some ⟨g, 0, none⟩ ∧ B ≤ g ∧ g < w.heap.size ∧ ∀ i (h : i < xs.length), w.cell? ⟨g, i, none⟩ = some (.int k (xs[i] : Nat))) := by
  have h1 := h.2
  rcases h1 with ⟨rfl, h2⟩ | ⟨g, cap, cur, rfl, hB, hg, hn1, hn2, _⟩
  · have : xs = [] := List.eq_nil_of_length_eq_zero h2
    subst this
    exact ⟨none, 0, rfl, ⟨by simp, by unfold maxLen; omega⟩, .inl rfl⟩
  · refine ⟨_, cap, rfl, ⟨hn1, hn2⟩, .inr ⟨g, rfl, hB, (Array.getElem?_eq_some_iff.1 hg).1, fun i hi => ?_⟩⟩
    have := World.ownsRow.cellAt h i (by omega)
    rw [this]
    simp [iv, hi]
theorem Own.rd {e : TypeId} {k : IntKind} {B : Nat} {w : World} {v : Value} {xs : List Nat} (h : Own e k B w v xs) : Rd k w v xs := by
  obtain ⟨a, cap, rfl, h0, h1⟩ := h.form
  refine ⟨a, cap, rfl, h0, ?_⟩
  rcases h1 with h1 | ⟨g, rfl, _, hg, hc⟩
  · exact .inl h1
  · exact .inr ⟨g, 0, rfl, hg, fun i hi => by rw [Nat.zero_add]; exact hc i hi⟩
theorem Rd.gr {k : IntKind} {w w' : World} {v : Value} {xs : List Nat} (h : Rd k w v xs) (hg : Gr w w') : Rd k w' v xs := by
  obtain ⟨a, cap, rfl, h0, h1⟩ := h
  refine ⟨a, cap, rfl, h0, ?_⟩
  rcases h1 with h1 | ⟨g, off, rfl, hg', hc⟩
  · exact .inl h1
  · exact .inr ⟨g, off, rfl, Nat.lt_of_lt_of_le hg' hg.size, fun i hi => (Below.cell hg (p := ⟨g, off + i, none⟩) hg').trans (hc i hi)⟩
/-- bytes that the call has made -/
def OwnB (B : Nat) (w : World) (v : Value) (l : List UInt8) : Prop := w.ownsRow B 5 1 v l.length (l.map fun c => Value.int .u8 (c.toNat : Int))
theorem OwnB.form {B : Nat} {w : World} {v : Value} {l : List UInt8} (h : OwnB B w v l) : ∃ a cap, v = .slice a l.length cap := by
  have h1 := h.2
  rcases h1 with ⟨rfl, h2⟩ | ⟨g, cap, cur, rfl, _⟩
  · exact ⟨none, 0, by rw [h2]⟩
  · exact ⟨_, cap, rfl⟩
theorem OwnB.convert {B : Nat} {w : World} {v : Value} {l : List UInt8} (h : OwnB B w v l) (hl : l ≠ []) :
    (convert 94 9 v).run Tryz.prog w = .ok (.string ⟨l.toArray⟩) w := by
  have h1 := h.2
  rcases h1 with ⟨rfl, h2⟩ | ⟨g, cap, cur, rfl, _⟩
  · exact absurd (List.eq_nil_of_length_eq_zero h2) hl
  · refine run_convert_bytes_back w 94 9 5 ⟨g, 0, none⟩ cap l (by kernel_rfl) (by kernel_rfl) (by kernel_rfl) (fun j hj => ?_)
    have := World.ownsRow.cells h (g := g) rfl j (.int .u8 (l[j].toNat : Int)) (by simp [hj])
    exact this
theorem Tryz.infoU8 : (Tryz.prog.info? 5).map (fun i => (i.zero, i.size, i.bytes)) = some (some (.int .u8 0), 1, 1) := by kernel_rfl

theorem ntx0_digit {V d : Nat} (hd : d < 10) (h : d ≠ 0 ∨ V ≠ 0) : ntx0 (10 * V + d) = ntx0 V ++ [UInt8.ofNat (48 + d)] := by
  rw [ntx0_step (show 10 * V + d ≠ 0 by omega), show (10 * V + d) / 10 = V by omega, show (10 * V + d) % 10 = d by omega]
theorem ntx0_nil {V : Nat} : (ntx0 V).length = 0 ↔ V = 0 := by
  unfold ntx0; split
  · simp [*]
  · rw [Lib.decDigits_length]; have := Lib.nDigits_pos V; omega
theorem ntx0_text (V : Nat) : (if V = 0 then (⟨#[48]⟩ : ByteArray) else ⟨(ntx0 V).toArray⟩) = Tx (V : Int) := by
  unfold ntx0
  split
  · rename_i h; subst h; exact Tx_zero.symm
  · apply ba_ext; rw [nat_text]
theorem wv_drop {l : List Nat} {i : Nat} (h : i < l.length) : wv 10000 (l.drop i) = l[i] + 10000 * wv 10000 (l.drop (i + 1)) := by
  rw [← List.getElem_cons_drop (h := h)]; rfl
theorem digits_le {a b k : Nat} (h : a ≤ b) (hb : Lib.nDigits b ≤ k) : Lib.nDigits a ≤ k := by
  have hk : 1 ≤ k := Nat.le_trans (Lib.nDigits_pos b) hb
  rw [nDigits_le_iff _ _ hk] at hb ⊢; omega
theorem ntx0_len (V k : Nat) (h : Lib.nDigits V ≤ k) : (ntx0 V).length ≤ k := by
  unfold ntx0; split
  · simp
  · rw [Lib.decDigits_length]; exact h

def TextRel (B : Nat) (T : Nat) (w : World) (v : Value) (wr : World) : Prop := OwnB B wr v (ntx0 T) ∧ Gr w wr

theorem one1 (x : Value) (h : x.oneCell' = true) : ∀ u ∈ [x], u.oneCell' = true := fun u hu => by simp at hu; subst hu; exact h
theorem split_dm {p m : Nat} (h : m < 10 * p) (hp : 0 < p) : ∃ d r : Nat, (m : Int).tdiv p = d ∧ (m : Int).tmod p = r ∧ Hid (m = p * d + r ∧ r < p) ∧ d < 10 ∧ r < p := by
  refine ⟨m / p, m % p, rfl, rfl, ⟨(Nat.div_add_mod m p).symm, Nat.mod_lt _ hp⟩, ?_, Nat.mod_lt _ hp⟩
  exact (Nat.div_lt_iff_lt_mul hp).2 h
theorem OwnB.push {B : Nat} {w : World} {v : Value} {V d : Nat} (hd : d < 10) (hne : d ≠ 0 ∨ V ≠ 0)
    (h : w.ownsRow B 5 1 v ((ntx0 V).length + 1) ((ntx0 V).map (fun c => Value.int .u8 (c.toNat : Int)) ++ [.int .u8 (48 + (d : Int))])) : OwnB B w v (ntx0 (10 * V + d)) := by
  unfold OwnB
  rw [ntx0_digit hd hne, List.length_append, List.map_append]
  have : ((UInt8.ofNat (48 + d)).toNat : Int) = 48 + (d : Int) := by rw [UInt8.toNat_ofNat']; omega
  simp only [List.map_cons, List.map_nil, this]
  exact h
set_option maxHeartbeats 4000000 in
set_option maxRecDepth 100000 in
theorem r1_text {k : Nat} (v : Value) (xs : List Nat) (w : World) (hr : Rd .i64 w v xs) (hsm : small 10000 xs) (hk : Sm k (wv 10000 xs : Nat)) (hlx : xs.length ≤ 1000000) :
    Calls Tryz.prog 112 #[v] w fun e w' => e = .returned (.string (Tx (wv 10000 xs : Nat))) ∧ Gr w w' := by
  obtain ⟨a, cap, rfl, -, hr⟩ := hr
  have hk1 : Lib.nDigits (wv 10000 xs) ≤ k := by simpa [Sm] using hk.1
  have hk2 := hk.2
  have hbd : ∀ T, T ≤ wv 10000 xs → (ntx0 T).length ≤ 1000000 := fun T hT => Nat.le_trans (ntx0_len T k (digits_le hT hk1)) hk2
  have HBD := Lib.hid hbd; clear hbd hk1
  have HSM := Lib.hid hsm; clear hsm
  have HR := Lib.hid hr; clear hr
  obtain ⟨i0, hi, hz0, hz1, hz2⟩ := info_parts Tryz.infoU8
  go_enter Tryz.func112, Tryz.ntmps112
  go_wp2
  go_loopw [3, 4] (fun v i wr => ∃ (q : Int), i = .int .i64 q ∧ -1 ≤ q ∧ q < xs.length ∧ Hid (OwnB w.heap.size wr v (ntx0 (wv 10000 (xs.drop (q + 1).toNat)))) ∧ Gr w wr) (fun _ i _ => (intOf i + 1).toNat)
  case atStart =>
    refine ⟨_, rfl, by omega, by omega, ?_, Gr.refl _⟩
    show OwnB _ _ _ _
    rw [List.drop_of_length_le (by omega)]
    exact World.ownsRow_nil _ _ _ _
  case round =>
    obtain ⟨q, rfl, q1, q2, hown, hg⟩ := hrel
    by_cases hq : 0 ≤ q
    · obtain ⟨i, rfl⟩ : ∃ i : Nat, q = i := ⟨q.toNat, by omega⟩
      have hil : i < xs.length := by omega
      obtain ⟨g, off, rfl, hgl, hc⟩ := HR.out.resolve_left (fun h => by rw [h] at hil; simp at hil)
      have hcell : wr.cell? ⟨g, off + i, none⟩ = some (.int .i64 (xs[i] : Nat)) := (Below.cell hg (p := ⟨g, off + i, none⟩) hgl).trans (hc i hil)
      have hxi : xs[i] < 10000 := HSM.out _ (List.getElem_mem hil)
      have HT : Hid (wv 10000 (xs.drop i) = xs[i] + 10000 * wv 10000 (xs.drop (i + 1))) := wv_drop hil
      clear hc
      have hT : xs[i] + 10000 * wv 10000 (xs.drop (i + 1)) ≤ wv 10000 xs := by
        rw [← HT.out]
        have h1 := wv_append 10000 (xs.take i) (xs.drop i)
        rw [List.take_append_drop] at h1
        have h2 : 1 ≤ 10000 ^ (xs.take i).length := Nat.one_le_pow _ _ (by decide)
        have h3 : 1 * wv 10000 (xs.drop i) ≤ 10000 ^ (xs.take i).length * wv 10000 (xs.drop i) := Nat.mul_le_mul_right _ h2
        omega
      obtain ⟨N, HN⟩ : ∃ N, Hid (N = wv 10000 xs) := ⟨_, rfl⟩
      rw [← HN.out] at hT
      obtain ⟨V, HV⟩ : ∃ V, Hid (V = wv 10000 (xs.drop (i + 1))) := ⟨_, rfl⟩
      rw [← HV.out] at hT
      obtain ⟨x, HX⟩ : ∃ x, Hid (x = xs[i]) := ⟨xs[i], rfl⟩
      rw [← HX.out] at hT hxi hcell
      go_wp2
      obtain ⟨wo, hwo⟩ : ∃ wo : World, wo = wr := ⟨_, rfl⟩
      go_loopw [3, 5, 6] (fun v n p wi => ∃ (V' m c : Nat) (pp : Int), p = .int .i64 pp ∧ n = .int .i64 m ∧ Hid (OwnB w.heap.size wi v (ntx0 V')) ∧ Gr w wi ∧ V' * c + m = x + 10000 * V ∧ m < c ∧ ((pp = 1000 ∧ c = 10000) ∨ (pp = 100 ∧ c = 1000) ∨ (pp = 10 ∧ c = 100) ∨ (pp = 1 ∧ c = 10) ∨ (pp = 0 ∧ c = 1))) (fun _ _ p _ => (intOf p).toNat)
      case atStart =>
        refine ⟨V, x, 10000, 1000, rfl, rfl, ?_, hg, by omega, hxi, .inl ⟨rfl, rfl⟩⟩
        rw [HV.out]; have := hown; rwa [show ((i : Int) + 1).toNat = i + 1 by omega] at this
      case round =>
        obtain ⟨V', m, c, pp, rfl, rfl, hownI, hgI, hV', hm, hpp⟩ := hrel
        clear hown hg hwo
        rcases hpp with ⟨rfl, rfl⟩ | ⟨rfl, rfl⟩ | ⟨rfl, rfl⟩ | ⟨rfl, rfl⟩ | ⟨rfl, rfl⟩
        · skip
          have hm' : m < 10 * 1000 := by omega
          obtain ⟨d, r, hd, hr, HD, hd10, hr10⟩ := split_dm hm' (by decide)
          simp only [Int.cast_ofNat_Int] at hd hr
          have HV' := Lib.hid hV'; clear hV'
          have h10 := HBD.out (10 * V' + d) (by have := HN.out; have := HD.out; have := HV'.out; omega)
          have h11 := HBD.out V' (by have := HN.out; have := HD.out; have := HV'.out; omega)
          obtain ⟨av, capv, rfl⟩ := OwnB.form hownI.out
          have hgs := hgI.size
          have hrel' : ∀ W U, Hid (OwnB w.heap.size W U (ntx0 (10 * V' + d))) → Gr w W → ∃ (V' m c : Nat) (pp : Int), Value.int .i64 100 = .int .i64 pp ∧ Value.int .i64 (r : Nat) = .int .i64 m ∧ Hid (OwnB w.heap.size W U (ntx0 V')) ∧ Gr w W ∧ V' * c + m = x + 10000 * V ∧ m < c ∧ ((pp = 1000 ∧ c = 10000) ∨ (pp = 100 ∧ c = 1000) ∨ (pp = 10 ∧ c = 100) ∨ (pp = 1 ∧ c = 10) ∨ (pp = 0 ∧ c = 1)) :=
            fun W U h1 h2 => ⟨10 * V' + d, r, 1000, 100, rfl, rfl, h1, h2, by have := HD.out; have := HV'.out; omega, by have := HD.out; omega, by omega⟩
          have HREL := Lib.hid hrel'; clear hrel'
          by_cases hd0 : d = 0
          · by_cases hV0 : V' = 0
            · have hb0 : ((d : Int) != 0) = false := by simp [hd0]
              have hlen0 : (ntx0 V').length = 0 := ntx0_nil.2 hV0
              have hnl : ¬ 0 < (ntx0 V').length := by omega
              have HO : Hid (OwnB w.heap.size wr (.slice av (ntx0 V').length capv) (ntx0 (10 * V' + d))) := by
                show OwnB _ _ _ _; rw [show 10 * V' + d = V' by omega]; exact hownI.out
              have hd0' : (d : Int) = 0 := by omega
              clear h10 h11 hlen0 hd0
              go_wp2
              go_roundw
              case rel => exact HREL.out _ _ HO.out hgI
              case measure => simp [intOf]
            · have hlen0 : 0 < (ntx0 V').length := Nat.pos_of_ne_zero (fun h => hV0 (ntx0_nil.1 h))
              have hbd0 : ((d : Int) != 0) = false := by simp [hd0]
              clear hd0
              go_wp2_with (at_builtin; refine wpList_append_own _ rfl _ _ 94 rfl w.heap.size 5 i0 (.int .u8 0) 1 1 Tryz.underlying94 hi hz0 hz1 hz2 rfl (by decide) _ _ _ rfl (World.ownsRow.alloc hownI.out _) ⟨wr.heap.size, 0, none⟩ 1 1 [.int .u8 (48 + (d : Int))] rfl rfl (cell_one_new _ _ _) (one1 _ rfl) ?c3 ?c4 ?c5 ?_)
              case c3 => unfold maxLen; omega
              case c4 => omega
              case c5 => first | omega | (simp; omega)
              · intro v' w1 hown' hgrow _
                have OW : Hid (OwnB w.heap.size w1 v' (ntx0 (10 * V' + d))) := OwnB.push hd10 (.inr hV0) hown'
                have HG : Hid (Gr w w1) := Below.grown (hgI.alloc _) hgrow (by simp; omega) (fun k hk => (World.ownsRow.lt hownI.out k hk).1)
                clear hown' hgrow
                go_wp2
                go_roundw
                case rel => exact HREL.out _ _ OW.out HG.out
                case measure => simp [intOf]
          · have hbd0 : ((d : Int) != 0) = true := by simp [hd0]
            go_wp2_with (at_builtin; refine wpList_append_own _ rfl _ _ 94 rfl w.heap.size 5 i0 (.int .u8 0) 1 1 Tryz.underlying94 hi hz0 hz1 hz2 rfl (by decide) _ _ _ rfl (World.ownsRow.alloc hownI.out _) ⟨wr.heap.size, 0, none⟩ 1 1 [.int .u8 (48 + (d : Int))] rfl rfl (cell_one_new _ _ _) (one1 _ rfl) ?c3 ?c4 ?c5 ?_)
            case c3 => unfold maxLen; omega
            case c4 => omega
            case c5 => first | omega | (simp; omega)
            · intro v' w1 hown' hgrow _
              have OW : Hid (OwnB w.heap.size w1 v' (ntx0 (10 * V' + d))) := OwnB.push hd10 (.inl hd0) hown'
              have HG : Hid (Gr w w1) := Below.grown (hgI.alloc _) hgrow (by simp; omega) (fun k hk => (World.ownsRow.lt hownI.out k hk).1)
              clear hown' hgrow
              go_wp2
              go_roundw
              case rel => exact HREL.out _ _ OW.out HG.out
              case measure => simp [intOf]
        · skip
          have hm' : m < 10 * 100 := by omega
          obtain ⟨d, r, hd, hr, HD, hd10, hr10⟩ := split_dm hm' (by decide)
          simp only [Int.cast_ofNat_Int] at hd hr
          have HV' := Lib.hid hV'; clear hV'
          have h10 := HBD.out (10 * V' + d) (by have := HN.out; have := HD.out; have := HV'.out; omega)
          have h11 := HBD.out V' (by have := HN.out; have := HD.out; have := HV'.out; omega)
          obtain ⟨av, capv, rfl⟩ := OwnB.form hownI.out
          have hgs := hgI.size
          have hrel' : ∀ W U, Hid (OwnB w.heap.size W U (ntx0 (10 * V' + d))) → Gr w W → ∃ (V' m c : Nat) (pp : Int), Value.int .i64 10 = .int .i64 pp ∧ Value.int .i64 (r : Nat) = .int .i64 m ∧ Hid (OwnB w.heap.size W U (ntx0 V')) ∧ Gr w W ∧ V' * c + m = x + 10000 * V ∧ m < c ∧ ((pp = 1000 ∧ c = 10000) ∨ (pp = 100 ∧ c = 1000) ∨ (pp = 10 ∧ c = 100) ∨ (pp = 1 ∧ c = 10) ∨ (pp = 0 ∧ c = 1)) :=
            fun W U h1 h2 => ⟨10 * V' + d, r, 100, 10, rfl, rfl, h1, h2, by have := HD.out; have := HV'.out; omega, by have := HD.out; omega, by omega⟩
          have HREL := Lib.hid hrel'; clear hrel'
          by_cases hd0 : d = 0
          · by_cases hV0 : V' = 0
            · have hb0 : ((d : Int) != 0) = false := by simp [hd0]
              have hlen0 : (ntx0 V').length = 0 := ntx0_nil.2 hV0
              have hnl : ¬ 0 < (ntx0 V').length := by omega
              have HO : Hid (OwnB w.heap.size wr (.slice av (ntx0 V').length capv) (ntx0 (10 * V' + d))) := by
                show OwnB _ _ _ _; rw [show 10 * V' + d = V' by omega]; exact hownI.out
              have hd0' : (d : Int) = 0 := by omega
              clear h10 h11 hlen0 hd0
              go_wp2
              go_roundw
              case rel => exact HREL.out _ _ HO.out hgI
              case measure => simp [intOf]
            · have hlen0 : 0 < (ntx0 V').length := Nat.pos_of_ne_zero (fun h => hV0 (ntx0_nil.1 h))
              have hbd0 : ((d : Int) != 0) = false := by simp [hd0]
              clear hd0
              go_wp2_with (at_builtin; refine wpList_append_own _ rfl _ _ 94 rfl w.heap.size 5 i0 (.int .u8 0) 1 1 Tryz.underlying94 hi hz0 hz1 hz2 rfl (by decide) _ _ _ rfl (World.ownsRow.alloc hownI.out _) ⟨wr.heap.size, 0, none⟩ 1 1 [.int .u8 (48 + (d : Int))] rfl rfl (cell_one_new _ _ _) (one1 _ rfl) ?c3 ?c4 ?c5 ?_)
              case c3 => unfold maxLen; omega
              case c4 => omega
              case c5 => first | omega | (simp; omega)
              · intro v' w1 hown' hgrow _
                have OW : Hid (OwnB w.heap.size w1 v' (ntx0 (10 * V' + d))) := OwnB.push hd10 (.inr hV0) hown'
                have HG : Hid (Gr w w1) := Below.grown (hgI.alloc _) hgrow (by simp; omega) (fun k hk => (World.ownsRow.lt hownI.out k hk).1)
                clear hown' hgrow
                go_wp2
                go_roundw
                case rel => exact HREL.out _ _ OW.out HG.out
                case measure => simp [intOf]
          · have hbd0 : ((d : Int) != 0) = true := by simp [hd0]
            go_wp2_with (at_builtin; refine wpList_append_own _ rfl _ _ 94 rfl w.heap.size 5 i0 (.int .u8 0) 1 1 Tryz.underlying94 hi hz0 hz1 hz2 rfl (by decide) _ _ _ rfl (World.ownsRow.alloc hownI.out _) ⟨wr.heap.size, 0, none⟩ 1 1 [.int .u8 (48 + (d : Int))] rfl rfl (cell_one_new _ _ _) (one1 _ rfl) ?c3 ?c4 ?c5 ?_)
            case c3 => unfold maxLen; omega
            case c4 => omega
            case c5 => first | omega | (simp; omega)
            · intro v' w1 hown' hgrow _
              have OW : Hid (OwnB w.heap.size w1 v' (ntx0 (10 * V' + d))) := OwnB.push hd10 (.inl hd0) hown'
              have HG : Hid (Gr w w1) := Below.grown (hgI.alloc _) hgrow (by simp; omega) (fun k hk => (World.ownsRow.lt hownI.out k hk).1)
              clear hown' hgrow
              go_wp2
              go_roundw
              case rel => exact HREL.out _ _ OW.out HG.out
              case measure => simp [intOf]
        · skip
          have hm' : m < 10 * 10 := by omega
          obtain ⟨d, r, hd, hr, HD, hd10, hr10⟩ := split_dm hm' (by decide)
          simp only [Int.cast_ofNat_Int] at hd hr
          have HV' := Lib.hid hV'; clear hV'
          have h10 := HBD.out (10 * V' + d) (by have := HN.out; have := HD.out; have := HV'.out; omega)
          have h11 := HBD.out V' (by have := HN.out; have := HD.out; have := HV'.out; omega)
          obtain ⟨av, capv, rfl⟩ := OwnB.form hownI.out
          have hgs := hgI.size
          have hrel' : ∀ W U, Hid (OwnB w.heap.size W U (ntx0 (10 * V' + d))) → Gr w W → ∃ (V' m c : Nat) (pp : Int), Value.int .i64 1 = .int .i64 pp ∧ Value.int .i64 (r : Nat) = .int .i64 m ∧ Hid (OwnB w.heap.size W U (ntx0 V')) ∧ Gr w W ∧ V' * c + m = x + 10000 * V ∧ m < c ∧ ((pp = 1000 ∧ c = 10000) ∨ (pp = 100 ∧ c = 1000) ∨ (pp = 10 ∧ c = 100) ∨ (pp = 1 ∧ c = 10) ∨ (pp = 0 ∧ c = 1)) :=
            fun W U h1 h2 => ⟨10 * V' + d, r, 10, 1, rfl, rfl, h1, h2, by have := HD.out; have := HV'.out; omega, by have := HD.out; omega, by omega⟩
          have HREL := Lib.hid hrel'; clear hrel'
          by_cases hd0 : d = 0
          · by_cases hV0 : V' = 0
            · have hb0 : ((d : Int) != 0) = false := by simp [hd0]
              have hlen0 : (ntx0 V').length = 0 := ntx0_nil.2 hV0
              have hnl : ¬ 0 < (ntx0 V').length := by omega
              have HO : Hid (OwnB w.heap.size wr (.slice av (ntx0 V').length capv) (ntx0 (10 * V' + d))) := by
                show OwnB _ _ _ _; rw [show 10 * V' + d = V' by omega]; exact hownI.out
              have hd0' : (d : Int) = 0 := by omega
              clear h10 h11 hlen0 hd0
              go_wp2
              go_roundw
              case rel => exact HREL.out _ _ HO.out hgI
              case measure => simp [intOf]
            · have hlen0 : 0 < (ntx0 V').length := Nat.pos_of_ne_zero (fun h => hV0 (ntx0_nil.1 h))
              have hbd0 : ((d : Int) != 0) = false := by simp [hd0]
              clear hd0
              go_wp2_with (at_builtin; refine wpList_append_own _ rfl _ _ 94 rfl w.heap.size 5 i0 (.int .u8 0) 1 1 Tryz.underlying94 hi hz0 hz1 hz2 rfl (by decide) _ _ _ rfl (World.ownsRow.alloc hownI.out _) ⟨wr.heap.size, 0, none⟩ 1 1 [.int .u8 (48 + (d : Int))] rfl rfl (cell_one_new _ _ _) (one1 _ rfl) ?c3 ?c4 ?c5 ?_)
              case c3 => unfold maxLen; omega
              case c4 => omega
              case c5 => first | omega | (simp; omega)
              · intro v' w1 hown' hgrow _
                have OW : Hid (OwnB w.heap.size w1 v' (ntx0 (10 * V' + d))) := OwnB.push hd10 (.inr hV0) hown'
                have HG : Hid (Gr w w1) := Below.grown (hgI.alloc _) hgrow (by simp; omega) (fun k hk => (World.ownsRow.lt hownI.out k hk).1)
                clear hown' hgrow
                go_wp2
                go_roundw
                case rel => exact HREL.out _ _ OW.out HG.out
                case measure => simp [intOf]
          · have hbd0 : ((d : Int) != 0) = true := by simp [hd0]
            go_wp2_with (at_builtin; refine wpList_append_own _ rfl _ _ 94 rfl w.heap.size 5 i0 (.int .u8 0) 1 1 Tryz.underlying94 hi hz0 hz1 hz2 rfl (by decide) _ _ _ rfl (World.ownsRow.alloc hownI.out _) ⟨wr.heap.size, 0, none⟩ 1 1 [.int .u8 (48 + (d : Int))] rfl rfl (cell_one_new _ _ _) (one1 _ rfl) ?c3 ?c4 ?c5 ?_)
            case c3 => unfold maxLen; omega
            case c4 => omega
            case c5 => first | omega | (simp; omega)
            · intro v' w1 hown' hgrow _
              have OW : Hid (OwnB w.heap.size w1 v' (ntx0 (10 * V' + d))) := OwnB.push hd10 (.inl hd0) hown'
              have HG : Hid (Gr w w1) := Below.grown (hgI.alloc _) hgrow (by simp; omega) (fun k hk => (World.ownsRow.lt hownI.out k hk).1)
              clear hown' hgrow
              go_wp2
              go_roundw
              case rel => exact HREL.out _ _ OW.out HG.out
              case measure => simp [intOf]
        · skip
          obtain ⟨d, hd⟩ : ∃ d, d = m := ⟨_, rfl⟩
          subst hd
          have HD : Hid (d = 1 * d + 0 ∧ 0 < 1) := ⟨by omega, by omega⟩
          have hd10 : d < 10 := by omega
          have HV' := Lib.hid hV'; clear hV'
          have h10 := HBD.out (10 * V' + d) (by have := HN.out; have := HD.out; have := HV'.out; omega)
          have h11 := HBD.out V' (by have := HN.out; have := HD.out; have := HV'.out; omega)
          obtain ⟨av, capv, rfl⟩ := OwnB.form hownI.out
          have hgs := hgI.size
          have hrel' : ∀ W U, Hid (OwnB w.heap.size W U (ntx0 (10 * V' + d))) → Gr w W → ∃ (V' m c : Nat) (pp : Int), Value.int .i64 0 = .int .i64 pp ∧ Value.int .i64 (0 : Nat) = .int .i64 m ∧ Hid (OwnB w.heap.size W U (ntx0 V')) ∧ Gr w W ∧ V' * c + m = x + 10000 * V ∧ m < c ∧ ((pp = 1000 ∧ c = 10000) ∨ (pp = 100 ∧ c = 1000) ∨ (pp = 10 ∧ c = 100) ∨ (pp = 1 ∧ c = 10) ∨ (pp = 0 ∧ c = 1)) :=
            fun W U h1 h2 => ⟨10 * V' + d, 0, 1, 0, rfl, rfl, h1, h2, by have := HD.out; have := HV'.out; omega, by have := HD.out; omega, by omega⟩
          have HREL := Lib.hid hrel'; clear hrel'
          by_cases hd0 : d = 0
          · by_cases hV0 : V' = 0
            · have hb0 : ((d : Int) != 0) = false := by simp [hd0]
              have hlen0 : (ntx0 V').length = 0 := ntx0_nil.2 hV0
              have hnl : ¬ 0 < (ntx0 V').length := by omega
              have HO : Hid (OwnB w.heap.size wr (.slice av (ntx0 V').length capv) (ntx0 (10 * V' + d))) := by
                show OwnB _ _ _ _; rw [show 10 * V' + d = V' by omega]; exact hownI.out
              have hd0' : (d : Int) = 0 := by omega
              clear h10 h11 hlen0 hd0
              go_wp2
              go_roundw
              case rel => exact HREL.out _ _ HO.out hgI
              case measure => simp [intOf]
            · have hlen0 : 0 < (ntx0 V').length := Nat.pos_of_ne_zero (fun h => hV0 (ntx0_nil.1 h))
              have hbd0 : ((d : Int) != 0) = false := by simp [hd0]
              clear hd0
              go_wp2_with (at_builtin; refine wpList_append_own _ rfl _ _ 94 rfl w.heap.size 5 i0 (.int .u8 0) 1 1 Tryz.underlying94 hi hz0 hz1 hz2 rfl (by decide) _ _ _ rfl (World.ownsRow.alloc hownI.out _) ⟨wr.heap.size, 0, none⟩ 1 1 [.int .u8 (48 + (d : Int))] rfl rfl (cell_one_new _ _ _) (one1 _ rfl) ?c3 ?c4 ?c5 ?_)
              case c3 => unfold maxLen; omega
              case c4 => omega
              case c5 => first | omega | (simp; omega)
              · intro v' w1 hown' hgrow _
                have OW : Hid (OwnB w.heap.size w1 v' (ntx0 (10 * V' + d))) := OwnB.push hd10 (.inr hV0) hown'
                have HG : Hid (Gr w w1) := Below.grown (hgI.alloc _) hgrow (by simp; omega) (fun k hk => (World.ownsRow.lt hownI.out k hk).1)
                clear hown' hgrow
                go_wp2
                go_roundw
                case rel => exact HREL.out _ _ OW.out HG.out
                case measure => simp [intOf]
          · have hbd0 : ((d : Int) != 0) = true := by simp [hd0]
            go_wp2_with (at_builtin; refine wpList_append_own _ rfl _ _ 94 rfl w.heap.size 5 i0 (.int .u8 0) 1 1 Tryz.underlying94 hi hz0 hz1 hz2 rfl (by decide) _ _ _ rfl (World.ownsRow.alloc hownI.out _) ⟨wr.heap.size, 0, none⟩ 1 1 [.int .u8 (48 + (d : Int))] rfl rfl (cell_one_new _ _ _) (one1 _ rfl) ?c3 ?c4 ?c5 ?_)
            case c3 => unfold maxLen; omega
            case c4 => omega
            case c5 => first | omega | (simp; omega)
            · intro v' w1 hown' hgrow _
              have OW : Hid (OwnB w.heap.size w1 v' (ntx0 (10 * V' + d))) := OwnB.push hd10 (.inl hd0) hown'
              have HG : Hid (Gr w w1) := Below.grown (hgI.alloc _) hgrow (by simp; omega) (fun k hk => (World.ownsRow.lt hownI.out k hk).1)
              clear hown' hgrow
              go_wp2
              go_roundw
              case rel => exact HREL.out _ _ OW.out HG.out
              case measure => simp [intOf]
        · skip
          have HO : Hid (OwnB w.heap.size wr u3 (ntx0 (wv 10000 (xs.drop ((i : Int) - 1 + 1).toNat)))) := by
            show OwnB _ _ _ _
            rw [show ((i : Int) - 1 + 1).toNat = i by omega, HT.out, ← HX.out, ← HV.out, show x + 10000 * V = V' by omega]
            exact hownI.out
          go_wp2
          go_roundw
          case rel => exact ⟨(i : Int) - 1, rfl, by omega, by omega, HO.out, hgI⟩
          case measure => simp [intOf]
    · have hq1 : q = -1 := by omega
      subst hq1
      obtain ⟨av, capv, rfl⟩ := OwnB.form hown.out
      have hown2 : OwnB w.heap.size wr (.slice av (ntx0 (wv 10000 (xs.drop ((-1 : Int) + 1).toNat))).length capv) (ntx0 (wv 10000 (xs.drop ((-1 : Int) + 1).toNat))) := hown.out
      clear hown
      rw [show ((-1 : Int) + 1).toNat = 0 from rfl, List.drop_zero] at hown2 ⊢
      have HF := Lib.hid (ntx0_text (wv 10000 xs))
      by_cases hz : wv 10000 xs = 0
      · have hl : (ntx0 (wv 10000 xs)).length = 0 := ntx0_nil.2 hz
        have HZ := Lib.hid hz; clear hz
        have hl' : (((ntx0 (wv 10000 xs)).length : Int) == 0) = true := by simp [hl]
        clear hl
        go_wp2
        go_ret
        refine ⟨ret_str ?_, hg⟩
        rw [← HF.out, if_pos HZ.out]
      · have hl : (ntx0 (wv 10000 xs)).length ≠ 0 := fun h => hz (ntx0_nil.1 h)
        have hl' : (((ntx0 (wv 10000 xs)).length : Int) == 0) = false := beq_eq_false_iff_ne.2 (by omega)
        have hcv := OwnB.convert hown2 (fun h => hl (by rw [h]; rfl))
        have HZ := Lib.hid hz; clear hz hl
        go_wp2
        go_ret
        refine ⟨ret_str ?_, hg⟩
        rw [← HF.out, if_neg HZ.out]
end Go.Proofs.YtlbnibicehpobaaGreatDoor

/- Contracts of the reference's plus and minus. -/
namespace Go.Proofs.YtlbnibicehpobaaGreatDoor
open Go.RowKit
open Z

/-- append of one new number to a slice that the call has made -/
theorem push_own {e t : TypeId} {k : IntKind} {bytes : Nat} {i : TypeInfo} (hi : Tryz.prog.info? e = some i) (hz0 : i.zero = some (.int k 0)) (hz1 : i.size = 1) (hz2 : i.bytes = bytes) (hb : bytes ≤ 8)
    (ht : Tryz.prog.underlying t = some (.slice e)) {ops : Array Oper} {rest : List Oper} {o : Oper} {a : Act} {Q : Exit → Act → World → Prop} {w0 w : World} (hgd : o.guard = none) (s x : Operand)
    (ho : o.op = .call { callee := .builtin .append, args := #[s, x], argTypes := #[t, t] }) (v : Value) (xs : List Nat) (hs : a.eval s = v) (hown : Own e k w0.heap.size w v xs) (hg : Gr w0 w)
    (z : Int) (n : Nat) (hz : z = n) (hx : a.eval x = .slice (some ⟨w.heap.size, 0, none⟩) 1 1) (hlen : xs.length ≤ 3000000)
    (h : ∀ v' w', Hid (Own e k w0.heap.size w' v' (xs ++ [n])) → Gr w0 w' → wpList Tryz.prog ops Q rest (a.put o.dst v') w') :
    wpList Tryz.prog ops Q (o :: rest) a (w.alloc (.cells #[.int k z] e)) := by
  have hgs := hg.size
  refine wpList_append_own _ hgd s x t ho w0.heap.size e i (.int k 0) 1 bytes ht hi hz0 hz1 hz2 rfl (by decide) v xs.length (iv k xs) hs (World.ownsRow.alloc hown _) ⟨w.heap.size, 0, none⟩ 1 1 [.int k z] hx rfl (cell_one_new _ _ _) (one1 _ rfl)
    (by unfold maxLen; omega) (by have : (xs.length + 1) * bytes ≤ (xs.length + 1) * 8 := Nat.mul_le_mul_left _ hb
                                  omega) (by simp; omega) (fun v' w' hown' hgrow _ => h v' w' ?_ ?_)
  · show World.ownsRow _ _ _ _ _ _ _
    rw [iv_snoc, List.length_append, ← hz]; exact hown'
  · exact Below.grown (hg.alloc _) hgrow (by simp; omega) (fun k hk => (World.ownsRow.lt hown k hk).1)

theorem wv_take_succ (B : Nat) (l : List Nat) (i : Nat) : wv B (l.take (i + 1)) = wv B (l.take i) + B ^ i * l.getD i 0 := by
  by_cases h : i < l.length
  · rw [List.take_succ_eq_append_getElem h, wv_snoc, List.length_take, Nat.min_eq_left (by omega)]
    simp [h]
  · rw [List.take_of_length_le (by omega), List.take_of_length_le (by omega)]
    simp [h]
theorem small_getD {B : Nat} {l : List Nat} (hB : 0 < B) (h : small B l) (i : Nat) : l.getD i 0 < B := by
  by_cases hi : i < l.length
  · simp [hi]; exact h _ (List.getElem_mem hi)
  · simp [hi]; exact hB
/-- a number of a slice -/
theorem Rd.at {k : IntKind} {w w' : World} {a : Option Addr} {n cap : Nat} {xs : List Nat} (h : Rd k w (.slice a n cap) xs) (hg : Gr w w') (i : Nat) (hi : i < xs.length) :
    ∃ g off, a = some ⟨g, off, none⟩ ∧ w'.cell? ⟨g, off + i, none⟩ = some (.int k (xs.getD i 0 : Nat)) := by
  obtain ⟨a', cap', he, -, h1⟩ := h
  simp only [Value.slice.injEq] at he
  obtain ⟨rfl, -, -⟩ := he
  rcases h1 with h1 | ⟨g, off, rfl, hg', hc⟩
  · subst h1; simp at hi
  · refine ⟨g, off, rfl, ?_⟩
    rw [Below.cell hg (p := ⟨g, off + i, none⟩) hg', hc i hi]
    simp [hi]
theorem plus_step {T c x y i : Nat} {out : List Nat} {V : Nat} (hl : out.length = i) (h : wv 10000 out + 10000 ^ i * c = V) (hT : T = c + x + y) :
    wv 10000 (out ++ [T % 10000]) + 10000 ^ (i + 1) * (T / 10000) = V + 10000 ^ i * x + 10000 ^ i * y := by
  rw [wv_snoc, hl, ← h, Nat.pow_succ, Nat.mul_assoc, Nat.add_assoc, ← Nat.mul_add, Nat.mod_add_div, hT, Nat.mul_add, Nat.mul_add]
  omega
theorem Sm.add {k k' : Nat} {n m : Nat} (hn : Sm k n) (hm : Sm k' m) (h : max k k' + 1 ≤ 1000000) : Sm (max k k' + 1) ((n + m : Nat) : Int) := by
  refine ⟨?_, h⟩
  have h1 := hn.1
  have h2 := hm.1
  simp only [Int.natAbs_natCast] at h1 h2 ⊢
  have h1' := (nDigits_le_iff n (max k k') (by have := Lib.nDigits_pos n; omega)).1 (by omega)
  have h2' := (nDigits_le_iff m (max k k') (by have := Lib.nDigits_pos m; omega)).1 (by omega)
  rw [nDigits_le_iff _ _ (by omega), Nat.pow_succ]
  omega
theorem getD_out {l : List Nat} {i : Nat} (h : l.length ≤ i) : l.getD i 0 = 0 := by rw [List.getD_eq_getElem?_getD, List.getElem?_eq_none h]; rfl
set_option maxHeartbeats 4000000 in
set_option maxRecDepth 100000 in
theorem r1_plus {k k' : Nat} (n m : Nat) (w : World) (hn : Sm k n) (hm : Sm k' m) (hk : max k k' + 1 ≤ 1000000) :
    Calls Tryz.prog 88 #[.string (Tx n), .string (Tx m)] w fun e w' => e = .returned (.string (Tx ((n + m : Nat) : Int))) ∧ Gr w w' := by
  obtain ⟨i0, hi, hz0, hz1, hz2⟩ := info_parts Tryz.infoInt
  have hw1 := fun w => r1_words n w hn
  have hw2 := fun w => r1_words m w hm
  have HW1 := Lib.hid hw1; clear hw1
  have HW2 := Lib.hid hw2; clear hw2
  have HT := Lib.hid (fun v xs (w : World) => r1_text (k := max k k' + 1) v xs w)
  have HSUM := Lib.hid (hn.add hm hk)
  have hk1 := hn.2
  have hk2 := hm.2
  generalize Tx (n : Int) = s at HW1 ⊢
  generalize Tx (m : Int) = t at HW2 ⊢
  go_enter Tryz.func88, Tryz.ntmps88
  go_wp2_with fail
  refine (HW1.out _).mono ?_
  rintro e w1 ⟨va, xa, rfl, ha, hxa, hsa, hla, hga⟩
  go_wp2_with fail
  refine (HW2.out _).mono ?_
  rintro e w2 ⟨vb, xb, rfl, hb, hxb, hsb, hlb, hgb⟩
  have HA := Lib.hid ((Own.rd ha).gr hgb)
  have HB := Lib.hid (Own.rd hb)
  obtain ⟨aa, ca, rfl, -, -⟩ := Own.form ha
  obtain ⟨ab, cb, rfl, -, -⟩ := Own.form hb
  have HG2 := Lib.hid (hga.trans hgb)
  have HXA := Lib.hid hxa; clear hxa
  have HXB := Lib.hid hxb; clear hxb
  clear ha hb hga hgb HW1 HW2
  go_wp2
  go_loopw [7, 8, 9] (fun v c i wr => ∃ (out : List Nat) (cc ii : Nat), c = .int .i64 cc ∧ i = .int .i64 ii ∧ Hid (Own 3 .i64 w2.heap.size wr v out) ∧ Gr w2 wr ∧ Hid (small 10000 out ∧ out.length = ii) ∧ cc ≤ 1 ∧
    ii ≤ max xa.length xb.length + 1 ∧ Hid (ii = max xa.length xb.length + 1 → cc = 0) ∧ Hid (wv 10000 out + 10000 ^ ii * cc = wv 10000 (xa.take ii) + wv 10000 (xb.take ii))) (fun _ _ i _ => max xa.length xb.length + 2 - (intOf i).toNat)
  case atStart => exact ⟨[], 0, 0, rfl, rfl, Own.nil _ _ _ _, Gr.refl _, ⟨fun x hx => by simp at hx, rfl⟩, by omega, by omega, fun h => rfl, by show _ = _; simp [wv]⟩
  case round =>
    obtain ⟨out, cc, ii, rfl, rfl, hown, hg, HO, hcc, hii, HE, HV⟩ := hrel
    obtain ⟨x, HX⟩ : ∃ x, Hid (x = xa.getD ii 0) := ⟨_, rfl⟩
    obtain ⟨y, HY⟩ : ∃ y, Hid (y = xb.getD ii 0) := ⟨_, rfl⟩
    have hx : x < 10000 := by rw [HX.out]; exact small_getD (by omega) hsa _
    have hy : y < 10000 := by rw [HY.out]; exact small_getD (by omega) hsb _
    have hcA : ii < xa.length → ∃ g off, aa = some ⟨g, off, none⟩ ∧ wr.cell? ⟨g, off + ii, none⟩ = some (.int .i64 x) := fun h => by rw [HX.out]; exact HA.out.at hg ii h
    have hcB : ii < xb.length → ∃ g off, ab = some ⟨g, off, none⟩ ∧ wr.cell? ⟨g, off + ii, none⟩ = some (.int .i64 y) := fun h => by rw [HY.out]; exact HB.out.at hg ii h
    have HCA := Lib.hid hcA; clear hcA
    have HCB := Lib.hid hcB; clear hcB
    by_cases hexit : ¬ ii < xa.length ∧ ¬ ii < xb.length ∧ cc = 0
    · obtain ⟨e1, e2, rfl⟩ := hexit
      have HF : Hid (wv 10000 out = n + m) := by
        have h := HV.out
        rw [List.take_of_length_le (by omega), List.take_of_length_le (by omega), HXA.out, HXB.out] at h
        show _ = _; omega
      go_wp2_with fail
      refine (HT.out _ out _ (Own.rd hown.out) HO.out.1 (by rw [HF.out]; exact HSUM.out) (by have := HO.out.2; omega)).mono ?_
      rintro e w3 ⟨rfl, hg3⟩
      rw [HF.out]
      go_wp2
      go_ret
      exact ⟨rfl, HG2.out.trans (hg.trans hg3)⟩
    · have HSTEP : ∀ T : Nat, T = cc + x + y → ∀ W U, Hid (Own 3 .i64 w2.heap.size W U (out ++ [T % 10000])) → Gr w2 W → ∃ (out : List Nat) (c' i' : Nat), Value.int .i64 (((T / 10000 : Nat)) : Int) = .int .i64 c' ∧ Value.int .i64 ((ii : Int) + 1) = .int .i64 i' ∧ Hid (Own 3 .i64 w2.heap.size W U out) ∧ Gr w2 W ∧ Hid (small 10000 out ∧ out.length = i') ∧ c' ≤ 1 ∧
          i' ≤ max xa.length xb.length + 1 ∧ Hid (i' = max xa.length xb.length + 1 → c' = 0) ∧ Hid (wv 10000 out + 10000 ^ i' * c' = wv 10000 (xa.take i') + wv 10000 (xb.take i')) := by
        intro T hT W U h1 h2
        have hle : ii ≤ max xa.length xb.length := by
          rcases Nat.lt_or_ge (max xa.length xb.length) ii with h | h
          · have h0 := HE.out (by omega); omega
          · exact h
        refine ⟨out ++ [T % 10000], T / 10000, ii + 1, rfl, by go_num, h1, h2, ⟨small_snoc HO.out.1 (by omega), by rw [List.length_append, HO.out.2]; rfl⟩, by omega, by omega, fun h => ?_, ?_⟩
        · have e1 : x = 0 := by rw [HX.out]; exact getD_out (by omega)
          have e2 : y = 0 := by rw [HY.out]; exact getD_out (by omega)
          omega
        · show _ = _
          rw [plus_step HO.out.2 HV.out hT, wv_take_succ, wv_take_succ, HX.out, HY.out]; omega
      have HST := Lib.hid HSTEP; clear HSTEP
      have hol : out.length ≤ 3000000 := by have := HO.out.2; omega
      by_cases e1 : ii < xa.length
      · obtain ⟨ga, oa, rfl, hca⟩ := HCA.out e1
        by_cases e2 : ii < xb.length
        · obtain ⟨gb, ob, rfl, hcb⟩ := HCB.out e2
          clear hexit
          go_wp2_with (at_builtin; refine push_own hi hz0 hz1 hz2 (by decide) Tryz.underlying123 rfl _ _ rfl _ out rfl hown.out hg _ ((cc + x + y) % 10000) (by omega) rfl hol ?_)
          intro v' w3 hO hg3
          go_wp2
          go_roundw
          case rel => rw [show ((cc : Int) + x + y) / 10000 = (((cc + x + y) / 10000 : Nat) : Int) by omega]; exact HST.out _ rfl _ _ hO hg3
          case measure => simp [intOf]; omega
        · have hy0 : y = 0 := by rw [HY.out]; exact getD_out (by omega)
          clear hexit
          go_wp2_with (at_builtin; refine push_own hi hz0 hz1 hz2 (by decide) Tryz.underlying123 rfl _ _ rfl _ out rfl hown.out hg _ ((cc + x) % 10000) (by omega) rfl hol ?_)
          intro v' w3 hO hg3
          go_wp2
          go_roundw
          case rel => rw [show ((cc : Int) + x) / 10000 = (((cc + x) / 10000 : Nat) : Int) by omega]; exact HST.out (cc + x) (by omega) _ _ hO hg3
          case measure => simp [intOf]; omega
      · by_cases e2 : ii < xb.length
        · obtain ⟨gb, ob, rfl, hcb⟩ := HCB.out e2
          have hx0 : x = 0 := by rw [HX.out]; exact getD_out (by omega)
          clear hexit
          go_wp2_with (at_builtin; refine push_own hi hz0 hz1 hz2 (by decide) Tryz.underlying123 rfl _ _ rfl _ out rfl hown.out hg _ ((cc + y) % 10000) (by omega) rfl hol ?_)
          intro v' w3 hO hg3
          go_wp2
          go_roundw
          case rel => rw [show ((cc : Int) + y) / 10000 = (((cc + y) / 10000 : Nat) : Int) by omega]; exact HST.out (cc + y) (by omega) _ _ hO hg3
          case measure => simp [intOf]; omega
        · have hx0 : x = 0 := by rw [HX.out]; exact getD_out (by omega)
          have hy0 : y = 0 := by rw [HY.out]; exact getD_out (by omega)
          have hc1 : 0 < cc := by omega
          clear hexit
          go_wp2_with (at_builtin; refine push_own hi hz0 hz1 hz2 (by decide) Tryz.underlying123 rfl _ _ rfl _ out rfl hown.out hg _ (cc % 10000) (by omega) rfl hol ?_)
          intro v' w3 hO hg3
          go_wp2
          go_roundw
          case rel => rw [show (cc : Int) / 10000 = ((cc / 10000 : Nat) : Int) by omega]; exact HST.out cc (by omega) _ _ hO hg3
          case measure => simp [intOf]; omega
end Go.Proofs.YtlbnibicehpobaaGreatDoor

/- The contract of the reference's minus. -/
namespace Go.Proofs.YtlbnibicehpobaaGreatDoor
open Go.RowKit
open Z

theorem minus_step {d b x y bo i : Nat} {out : List Nat} {V W : Nat} (hl : out.length = i) (h : wv 10000 out + V = W + 10000 ^ i * bo) (hT : d + y + bo = x + 10000 * b) :
    wv 10000 (out ++ [d]) + (V + 10000 ^ i * y) = (W + 10000 ^ i * x) + 10000 ^ (i + 1) * b := by
  have h1 : 10000 ^ i * (d + y + bo) = 10000 ^ i * (x + 10000 * b) := by rw [hT]
  rw [Nat.mul_add, Nat.mul_add, Nat.mul_add, ← Nat.mul_assoc] at h1
  rw [wv_snoc, hl, Nat.pow_succ]
  omega
theorem minus_end {out xa xb : List Nat} {n m bo : Nat} (hso : small 10000 out) (hl : out.length = xa.length) (ha : wv 10000 xa = n) (hb : wv 10000 xb = m) (hle : m ≤ n) (hsa : small 10000 xa)
    (h : wv 10000 out + wv 10000 (xb.take xa.length) = wv 10000 (xa.take xa.length) + 10000 ^ xa.length * bo) : wv 10000 out = n - m := by
  have h1 := wv_lt hso
  have h2 := wv_lt hsa
  have h3 := wv_append 10000 (xb.take xa.length) (xb.drop xa.length)
  rw [List.take_append_drop, hb] at h3
  rw [List.take_length, ha] at h
  rw [ha] at h2
  rw [hl] at h1
  rcases Nat.eq_zero_or_pos bo with hb0 | hb0
  · subst hb0
    simp only [Nat.mul_zero, Nat.add_zero] at h
    by_cases hd : wv 10000 (xb.drop xa.length) = 0
    · rw [hd] at h3; simp only [Nat.mul_zero, Nat.add_zero] at h3; omega
    · exfalso
      rcases Nat.lt_or_ge xb.length xa.length with h4 | h4
      · rw [List.drop_of_length_le (by omega)] at hd; exact hd rfl
      · rw [List.length_take, Nat.min_eq_left h4] at h3
        have h5 : 10000 ^ xa.length * 1 ≤ 10000 ^ xa.length * wv 10000 (xb.drop xa.length) := Nat.mul_le_mul_left _ (by omega)
        omega
  · exfalso
    have h5 : 10000 ^ xa.length * 1 ≤ 10000 ^ xa.length * bo := Nat.mul_le_mul_left _ hb0
    omega
theorem Sm.le {k : Nat} {n m : Nat} (hn : Sm k n) (h : m ≤ n) : Sm k (m : Int) := by
  refine ⟨?_, hn.2⟩
  have h1 := hn.1
  simp only [Int.natAbs_natCast] at h1 ⊢
  exact digits_le h h1

set_option maxHeartbeats 4000000 in
set_option maxRecDepth 100000 in
theorem r1_minus {k k' : Nat} (n m : Nat) (w : World) (hn : Sm k n) (hm : Sm k' m) (hle : m ≤ n) :
    Calls Tryz.prog 89 #[.string (Tx n), .string (Tx m)] w fun e w' => e = .returned (.string (Tx ((n - m : Nat) : Int))) ∧ Gr w w' := by
  obtain ⟨i0, hi, hz0, hz1, hz2⟩ := info_parts Tryz.infoInt
  have HW1 := Lib.hid (fun w => r1_words n w hn)
  have HW2 := Lib.hid (fun w => r1_words m w hm)
  have HT := Lib.hid (fun v xs (w : World) => r1_text (k := k) v xs w)
  have HSUM := Lib.hid (hn.le (Nat.sub_le n m))
  have HLE := Lib.hid hle; clear hle
  have hk1 := hn.2
  have hk2 := hm.2
  generalize Tx (n : Int) = s at HW1 ⊢
  generalize Tx (m : Int) = t at HW2 ⊢
  go_enter Tryz.func89, Tryz.ntmps89
  go_wp2_with fail
  refine (HW1.out _).mono ?_
  rintro e w1 ⟨va, xa, rfl, ha, hxa, hsa, hla, hga⟩
  go_wp2_with fail
  refine (HW2.out _).mono ?_
  rintro e w2 ⟨vb, xb, rfl, hb, hxb, hsb, hlb, hgb⟩
  have HA := Lib.hid ((Own.rd ha).gr hgb)
  have HB := Lib.hid (Own.rd hb)
  obtain ⟨aa, ca, rfl, -, -⟩ := Own.form ha
  obtain ⟨ab, cb, rfl, -, -⟩ := Own.form hb
  have HG2 := Lib.hid (hga.trans hgb)
  have HXA := Lib.hid hxa; clear hxa
  have HXB := Lib.hid hxb; clear hxb
  clear ha hb hga hgb HW1 HW2
  go_wp2
  go_loopw [7, 8, 9] (fun v c i wr => ∃ (out : List Nat) (bo ii : Nat), c = .int .i64 bo ∧ i = .int .i64 ii ∧ Hid (Own 3 .i64 w2.heap.size wr v out) ∧ Gr w2 wr ∧ Hid (small 10000 out ∧ out.length = ii) ∧ bo ≤ 1 ∧
    ii ≤ xa.length ∧ Hid (wv 10000 out + wv 10000 (xb.take ii) = wv 10000 (xa.take ii) + 10000 ^ ii * bo)) (fun _ _ i _ => xa.length - (intOf i).toNat)
  case atStart => exact ⟨[], 0, 0, rfl, rfl, Own.nil _ _ _ _, Gr.refl _, ⟨fun x hx => by simp at hx, rfl⟩, by omega, by omega, by show _ = _; simp [wv]⟩
  case round =>
    obtain ⟨out, bo, ii, rfl, rfl, hown, hg, HO, hbo, hii, HV⟩ := hrel
    obtain ⟨x, HX⟩ : ∃ x, Hid (x = xa.getD ii 0) := ⟨_, rfl⟩
    obtain ⟨y, HY⟩ : ∃ y, Hid (y = xb.getD ii 0) := ⟨_, rfl⟩
    have hx : x < 10000 := by rw [HX.out]; exact small_getD (by omega) hsa _
    have hy : y < 10000 := by rw [HY.out]; exact small_getD (by omega) hsb _
    have hcA : ii < xa.length → ∃ g off, aa = some ⟨g, off, none⟩ ∧ wr.cell? ⟨g, off + ii, none⟩ = some (.int .i64 x) := fun h => by rw [HX.out]; exact HA.out.at hg ii h
    have hcB : ii < xb.length → ∃ g off, ab = some ⟨g, off, none⟩ ∧ wr.cell? ⟨g, off + ii, none⟩ = some (.int .i64 y) := fun h => by rw [HY.out]; exact HB.out.at hg ii h
    have HCA := Lib.hid hcA; clear hcA
    have HCB := Lib.hid hcB; clear hcB
    by_cases e1 : ii < xa.length
    · have HSTEP : ∀ d b : Nat, d + y + bo = x + 10000 * b → (d < 10000 ∧ b ≤ 1) → ∀ W U, Hid (Own 3 .i64 w2.heap.size W U (out ++ [d])) → Gr w2 W → ∃ (out : List Nat) (c' i' : Nat), Value.int .i64 (b : Int) = .int .i64 c' ∧ Value.int .i64 ((ii : Int) + 1) = .int .i64 i' ∧ Hid (Own 3 .i64 w2.heap.size W U out) ∧ Gr w2 W ∧ Hid (small 10000 out ∧ out.length = i') ∧ c' ≤ 1 ∧
          i' ≤ xa.length ∧ Hid (wv 10000 out + wv 10000 (xb.take i') = wv 10000 (xa.take i') + 10000 ^ i' * c') := by
        intro d b hT hdb W U h1 h2
        refine ⟨out ++ [d], b, ii + 1, rfl, by go_num, h1, h2, ⟨small_snoc HO.out.1 hdb.1, by rw [List.length_append, HO.out.2]; rfl⟩, hdb.2, by omega, ?_⟩
        show _ = _
        rw [wv_take_succ, wv_take_succ, ← HX.out, ← HY.out]
        exact minus_step HO.out.2 HV.out hT
      have HST := Lib.hid HSTEP; clear HSTEP
      have hol : out.length ≤ 3000000 := by have := HO.out.2; omega
      obtain ⟨ga, oa, rfl, hca⟩ := HCA.out e1
      by_cases e2 : ii < xb.length
      · obtain ⟨gb, ob, rfl, hcb⟩ := HCB.out e2
        by_cases hneg : x < bo + y
        · go_wp2_with (at_builtin; refine push_own hi hz0 hz1 hz2 (by decide) Tryz.underlying123 rfl _ _ rfl _ out rfl hown.out hg _ (x + 10000 - bo - y) (by omega) rfl hol ?_)
          intro v' w3 hO hg3
          go_wp2
          go_roundw
          case rel => exact HST.out (x + 10000 - bo - y) 1 (by omega) (by omega) _ _ hO hg3
          case measure => simp [intOf]; omega
        · go_wp2_with (at_builtin; refine push_own hi hz0 hz1 hz2 (by decide) Tryz.underlying123 rfl _ _ rfl _ out rfl hown.out hg _ (x - bo - y) (by omega) rfl hol ?_)
          intro v' w3 hO hg3
          go_wp2
          go_roundw
          case rel => exact HST.out (x - bo - y) 0 (by omega) (by omega) _ _ hO hg3
          case measure => simp [intOf]; omega
      · have hy0 : y = 0 := by rw [HY.out]; exact getD_out (by omega)
        by_cases hneg : x < bo
        · go_wp2_with (at_builtin; refine push_own hi hz0 hz1 hz2 (by decide) Tryz.underlying123 rfl _ _ rfl _ out rfl hown.out hg _ (x + 10000 - bo) (by omega) rfl hol ?_)
          intro v' w3 hO hg3
          go_wp2
          go_roundw
          case rel => exact HST.out (x + 10000 - bo) 1 (by omega) (by omega) _ _ hO hg3
          case measure => simp [intOf]; omega
        · go_wp2_with (at_builtin; refine push_own hi hz0 hz1 hz2 (by decide) Tryz.underlying123 rfl _ _ rfl _ out rfl hown.out hg _ (x - bo) (by omega) rfl hol ?_)
          intro v' w3 hO hg3
          go_wp2
          go_roundw
          case rel => exact HST.out (x - bo) 0 (by omega) (by omega) _ _ hO hg3
          case measure => simp [intOf]; omega
    · obtain rfl : ii = xa.length := by omega
      have HF : Hid (wv 10000 out = n - m) := minus_end HO.out.1 HO.out.2 HXA.out HXB.out HLE.out hsa HV.out
      go_wp2_with fail
      refine (HT.out _ out _ (Own.rd hown.out) HO.out.1 (by rw [HF.out]; exact HSUM.out) (by have := HO.out.2; omega)).mono ?_
      rintro e w3 ⟨rfl, hg3⟩
      rw [HF.out]
      go_wp2
      go_ret
      exact ⟨rfl, HG2.out.trans (hg.trans hg3)⟩
end Go.Proofs.YtlbnibicehpobaaGreatDoor

/- Contracts of the reference's Order, Sum and Diff. -/
namespace Go.Proofs.YtlbnibicehpobaaGreatDoor
open Go.RowKit
open Z

set_option maxHeartbeats 400000 in
theorem r1_short {k : Nat} (a : Int) (w : World) (hs : Sm k a) :
    Calls Tryz.prog 87 #[.string (Tx a)] w fun e w' => e = .returned (.bool (decide ((Tx a).size ≤ 17))) ∧ w = w' := by
  have h := hs.len2
  go_enter Tryz.func87, Tryz.ntmps87
  go_wp2
  go_ret
  exact ⟨ret_bool (decide_eq_decide.2 (by omega)), rfl⟩
def cmpZ (a b : Int) : Int := if a < b then -1 else if b < a then 1 else 0
theorem cmpZ_lt {a b : Int} (h : a < b) : cmpZ a b = -1 := by unfold cmpZ; rw [if_pos h]
theorem cmpZ_gt {a b : Int} (h : b < a) : cmpZ a b = 1 := by unfold cmpZ; rw [if_neg (by omega), if_pos h]
theorem cmpN_nat (a b : Int) (ha : 0 ≤ a) (hb : 0 ≤ b) : cmpN a.natAbs b.natAbs = cmpZ a b := by unfold cmpN cmpZ; repeat' split <;> omega
theorem cmpN_neg (a b : Int) (ha : a < 0) (hb : b < 0) : cmpN b.natAbs a.natAbs = cmpZ a b := by unfold cmpN cmpZ; repeat' split <;> omega

set_option maxHeartbeats 1000000 in
theorem r1_Order {k k' : Nat} (a b : Int) (w : World) (ha : Sm k a) (hb : Sm k' b) :
    Calls Tryz.prog 60 #[.string (Tx a), .string (Tx b)] w fun e w' => e = .returned (.int .i64 (cmpZ a b)) ∧ Gr w w' := by
  have H1 := Lib.hid (fun w => r1_Sign a w ha)
  have H2 := Lib.hid (fun w => r1_Sign b w hb)
  have H3 := Lib.hid (fun w => r1_body_Tx a w ha)
  have H4 := Lib.hid (fun w => r1_body_Tx b w hb)
  have H5 := Lib.hid (fun w => r1_compare a.natAbs b.natAbs w ha.abs hb.abs)
  have H6 := Lib.hid (fun w => r1_compare b.natAbs a.natAbs w hb.abs ha.abs)
  have hsa : a.sign = -1 ∧ a < 0 ∨ a.sign = 0 ∧ a = 0 ∨ a.sign = 1 ∧ 0 < a := by
    rcases Int.lt_trichotomy a 0 with h | h | h
    · exact .inl ⟨sign_neg' h, h⟩
    · exact .inr (.inl ⟨by subst h; rfl, h⟩)
    · exact .inr (.inr ⟨sign_pos' h, h⟩)
  have hsb : b.sign = -1 ∧ b < 0 ∨ b.sign = 0 ∧ b = 0 ∨ b.sign = 1 ∧ 0 < b := by
    rcases Int.lt_trichotomy b 0 with h | h | h
    · exact .inl ⟨sign_neg' h, h⟩
    · exact .inr (.inl ⟨by subst h; rfl, h⟩)
    · exact .inr (.inr ⟨sign_pos' h, h⟩)
  obtain ⟨x, hx⟩ : ∃ x, x = a.sign := ⟨_, rfl⟩
  obtain ⟨y, hy⟩ : ∃ y, y = b.sign := ⟨_, rfl⟩
  rw [← hx] at H1 hsa
  rw [← hy] at H2 hsb
  clear hx hy
  obtain ⟨s, hs⟩ : ∃ s, s = Tx a := ⟨_, rfl⟩
  obtain ⟨t, ht⟩ : ∃ t, t = Tx b := ⟨_, rfl⟩
  rw [← hs] at H1 H3 ⊢
  rw [← ht] at H2 H4 ⊢
  clear hs ht
  obtain ⟨c, hc⟩ : ∃ c, c = cmpZ a b := ⟨_, rfl⟩
  rw [← hc]
  have HC : Hid ((a < b → c = -1) ∧ (b < a → c = 1) ∧ (0 ≤ a → 0 ≤ b → cmpN a.natAbs b.natAbs = c) ∧ (a < 0 → b < 0 → cmpN b.natAbs a.natAbs = c)) :=
    ⟨fun h => hc.trans (cmpZ_lt h), fun h => hc.trans (cmpZ_gt h), fun h h' => (cmpN_nat a b h h').trans hc.symm, fun h h' => (cmpN_neg a b h h').trans hc.symm⟩
  clear hc
  have hcases : (x < y ∧ c = -1) ∨ (y < x ∧ c = 1) ∨ (x = -1 ∧ y = -1 ∧ Hid (cmpN b.natAbs a.natAbs = c)) ∨ (x = y ∧ 0 ≤ y ∧ Hid (cmpN a.natAbs b.natAbs = c)) := by
    obtain ⟨c1, c2, c3, c4⟩ := HC.out
    rcases hsa with ⟨rfl, h1⟩ | ⟨rfl, h1⟩ | ⟨rfl, h1⟩ <;> rcases hsb with ⟨rfl, h2⟩ | ⟨rfl, h2⟩ | ⟨rfl, h2⟩
    · exact .inr (.inr (.inl ⟨rfl, rfl, c4 h1 h2⟩))
    · exact .inl ⟨by omega, c1 (by omega)⟩
    · exact .inl ⟨by omega, c1 (by omega)⟩
    · exact .inr (.inl ⟨by omega, c2 (by omega)⟩)
    · exact .inr (.inr (.inr ⟨rfl, by omega, c3 (by omega) (by omega)⟩))
    · exact .inl ⟨by omega, c1 (by omega)⟩
    · exact .inr (.inl ⟨by omega, c2 (by omega)⟩)
    · exact .inr (.inl ⟨by omega, c2 (by omega)⟩)
    · exact .inr (.inr (.inr ⟨rfl, by omega, c3 (by omega) (by omega)⟩))
  clear hsa hsb HC
  rcases hcases with ⟨h1, rfl⟩ | ⟨h1, rfl⟩ | ⟨rfl, rfl, h1⟩ | ⟨rfl, h2, h1⟩
  · have hne : ((x : Int) == y) = false := beq_eq_false_iff_ne.2 (by omega)
    go_enter Tryz.func60, Tryz.ntmps60
    go_wp2_with fail
    refine (H1.out _).mono ?_; rintro e w' ⟨rfl, rfl⟩
    go_wp2_with fail
    refine (H2.out _).mono ?_; rintro e w' ⟨rfl, rfl⟩
    go_wp2
    go_ret
    exact ⟨rfl, Gr.refl _⟩
  · have hne : ((x : Int) == y) = false := beq_eq_false_iff_ne.2 (by omega)
    have hnl : ¬ x < y := by omega
    go_enter Tryz.func60, Tryz.ntmps60
    go_wp2_with fail
    refine (H1.out _).mono ?_; rintro e w' ⟨rfl, rfl⟩
    go_wp2_with fail
    refine (H2.out _).mono ?_; rintro e w' ⟨rfl, rfl⟩
    go_wp2
    go_ret
    exact ⟨rfl, Gr.refl _⟩
  · go_enter Tryz.func60, Tryz.ntmps60
    go_wp2_with fail
    refine (H1.out _).mono ?_; rintro e w' ⟨rfl, rfl⟩
    go_wp2_with fail
    refine (H2.out _).mono ?_; rintro e w' ⟨rfl, rfl⟩
    go_wp2_with fail
    refine (H4.out _).mono ?_; rintro e w' ⟨rfl, rfl⟩
    go_wp2_with fail
    refine (H3.out _).mono ?_; rintro e w' ⟨rfl, rfl⟩
    go_wp2_with fail
    refine (H6.out _).mono ?_; rintro e w' ⟨rfl, hg⟩
    go_wp2
    go_ret
    exact ⟨ret_int h1.out, hg⟩
  · have hnl : ¬ x < 0 := by omega
    go_enter Tryz.func60, Tryz.ntmps60
    go_wp2_with fail
    refine (H1.out _).mono ?_; rintro e w' ⟨rfl, rfl⟩
    go_wp2_with fail
    refine (H2.out _).mono ?_; rintro e w' ⟨rfl, rfl⟩
    go_wp2_with fail
    refine (H3.out _).mono ?_; rintro e w' ⟨rfl, rfl⟩
    go_wp2_with fail
    refine (H4.out _).mono ?_; rintro e w' ⟨rfl, rfl⟩
    go_wp2_with fail
    refine (H5.out _).mono ?_; rintro e w' ⟨rfl, hg⟩
    go_wp2
    go_ret
    exact ⟨ret_int h1.out, hg⟩

theorem Calls.gr {P : Program} {f : FuncId} {args : Array Value} {w w0 : World} {v : Ending} (h : Calls P f args w fun e w' => e = v ∧ Gr w w') (hg : Gr w0 w) : Calls P f args w fun e w' => e = v ∧ Gr w0 w' :=
  Calls.mono h fun _ _ ⟨a, b⟩ => ⟨a, hg.trans b⟩
theorem Sm17 {a : Int} (h : (Tx a).size ≤ 17) : Sm 17 a := by
  rw [size_Tx, itoa_length] at h
  exact ⟨by omega, by omega⟩
theorem bd17 {a : Int} (h : (Tx a).size ≤ 17) : -100000000000000000 < a ∧ a < 100000000000000000 := by
  have h1 := (Sm17 h).1
  have h2 := (nDigits_le_iff a.natAbs 17 (by omega)).1 h1
  have h3 : 10 ^ 17 = 100000000000000000 := rfl
  omega
theorem Sm.addZ {k k' : Nat} {a b : Int} (ha : Sm k a) (hb : Sm k' b) (h : max k k' + 1 ≤ 1000000) : Sm (max k k' + 1) (a + b) := by
  have h1 := Sm.add (n := a.natAbs) (m := b.natAbs) ha.abs hb.abs h
  refine ⟨?_, h⟩
  have h2 := h1.1
  simp only [Int.natAbs_natCast] at h2
  exact digits_le (Int.natAbs_add_le a b) h2
theorem natAbs_add_same {a b : Int} (h : decide (a < 0) = decide (b < 0)) : (a + b).natAbs = a.natAbs + b.natAbs := by
  by_cases h1 : a < 0 <;> by_cases h2 : b < 0 <;> simp [h1, h2] at h <;> omega
theorem natCast_of_natAbs {a : Int} (h : 0 ≤ a) : (a.natAbs : Int) = a := by omega
set_option maxHeartbeats 4000000 in
set_option maxRecDepth 100000 in
theorem r1_Sum {k k' : Nat} (a b : Int) (w : World) (ha : Sm k a) (hb : Sm k' b) (hk : max k k' + 1 ≤ 1000000) :
    Calls Tryz.prog 63 #[.string (Tx a), .string (Tx b)] w fun e w' => e = .returned (.string (Tx (a + b))) ∧ Gr w w' := by
  have hg0 := Gr.refl w
  by_cases hs : (Tx a).size ≤ 17 ∧ (Tx b).size ≤ 17
  · obtain ⟨h1, h2⟩ := hs
    have d1 : decide ((Tx a).size ≤ 17) = true := decide_eq_true h1
    have d2 : decide ((Tx b).size ≤ 17) = true := decide_eq_true h2
    have s1 := Sm17 h1
    have s2 := Sm17 h2
    obtain ⟨b1, b2⟩ := bd17 h1
    obtain ⟨b3, b4⟩ := bd17 h2
    clear h1 h2
    go_enter Tryz.func63, Tryz.ntmps63
    go_wp2_with (first | (go_at_call 87; refine (r1_short _ _ (by assumption)).mono ?_; rintro e w' ⟨rfl, rfl⟩) | (go_at_call 82; refine (r1_number _ _ (by assumption)).mono ?_; rintro e w' ⟨rfl, rfl⟩) | (go_at_call 59; refine (r1_Whole _ _ (by omega) (by omega)).mono ?_; rintro e w' ⟨rfl, hg⟩))
    go_ret
    exact ⟨rfl, by assumption⟩
  · have hs' : decide ((Tx a).size ≤ 17) = false ∨ (decide ((Tx a).size ≤ 17) = true ∧ decide ((Tx b).size ≤ 17) = false) := by
      by_cases h1 : (Tx a).size ≤ 17
      · exact .inr ⟨decide_eq_true h1, decide_eq_false (fun h2 => hs ⟨h1, h2⟩)⟩
      · exact .inl (decide_eq_false h1)
    clear hs
    have sa := ha.abs
    have sb := hb.abs
    have sp := sa.add sb hk
    have sm1 := sa.le (Nat.sub_le a.natAbs b.natAbs)
    have sm2 := sb.le (Nat.sub_le b.natAbs a.natAbs)
    have hcmp : (cmpN a.natAbs b.natAbs = -1 ∧ a.natAbs ≤ b.natAbs) ∨ (0 ≤ cmpN a.natAbs b.natAbs ∧ b.natAbs ≤ a.natAbs) := by
      rcases Nat.lt_or_ge a.natAbs b.natAbs with h | h
      · exact .inl ⟨cmpN_lt h, by omega⟩
      · refine .inr ⟨?_, h⟩; unfold cmpN; rw [if_neg (by omega)]; split <;> omega
    have hsgn : (∃ na : Bool, decide (a < 0) = na ∧ decide (b < 0) = na ∧ Hid (Tx (if na then -((a.natAbs + b.natAbs : Nat) : Int) else ((a.natAbs + b.natAbs : Nat) : Int)) = Tx (a + b))) ∨
        (∃ na : Bool, decide (a < 0) = na ∧ decide (b < 0) = !na ∧ Hid (b.natAbs ≤ a.natAbs → Tx (if na then -((a.natAbs - b.natAbs : Nat) : Int) else ((a.natAbs - b.natAbs : Nat) : Int)) = Tx (a + b)) ∧
          Hid (a.natAbs ≤ b.natAbs → Tx (if !na then -((b.natAbs - a.natAbs : Nat) : Int) else ((b.natAbs - a.natAbs : Nat) : Int)) = Tx (a + b))) := by
      by_cases h1 : a < 0 <;> by_cases h2 : b < 0
      · exact .inl ⟨true, decide_eq_true h1, decide_eq_true h2, congrArg Tx (by simp; omega)⟩
      · exact .inr ⟨true, decide_eq_true h1, decide_eq_false h2, fun _ => congrArg Tx (by simp; omega), fun _ => congrArg Tx (by simp; omega)⟩
      · exact .inr ⟨false, decide_eq_false h1, decide_eq_true h2, fun _ => congrArg Tx (by simp; omega), fun _ => congrArg Tx (by simp; omega)⟩
      · exact .inl ⟨false, decide_eq_false h1, decide_eq_false h2, congrArg Tx (by simp; omega)⟩
    rcases hsgn with ⟨na, n1, n2, HF⟩ | ⟨na, n1, n2, HF1, HF2⟩
    · rcases hs' with h1 | ⟨h1, h2⟩ <;> cases na
      all_goals
        go_enter Tryz.func63, Tryz.ntmps63
        go_wp2_with (first
          | (go_at_call 87; refine (r1_short _ _ (by assumption)).mono ?_; rintro e w' ⟨rfl, rfl⟩)
          | (go_at_call 78; refine (r1_body_Tx _ _ (by assumption)).mono ?_; rintro e w' ⟨rfl, rfl⟩)
          | (go_at_call 56; refine (r1_Sign _ _ (by assumption)).mono ?_; rintro e w' ⟨rfl, rfl⟩)
          | (go_at_call 88; refine (Calls.gr (r1_plus _ _ _ (by assumption) (by assumption) hk) (by assumption)).mono ?_; rintro e w' ⟨rfl, hg⟩)
          | (go_at_call 81; refine (Calls.gr (r1_compare _ _ _ (by assumption) (by assumption)) (by assumption)).mono ?_; rintro e w' ⟨rfl, hg⟩)
          | (go_at_call 83; refine (r1_signed _ _ _ _ (by assumption)).mono ?_; rintro e w' ⟨rfl, rfl⟩))
        go_ret
        exact ⟨ret_str HF.out, by assumption⟩
    · rcases hcmp with ⟨hc, hle⟩ | ⟨hc, hle⟩
      · have HF := Lib.hid (HF2.out hle)
        clear HF1 HF2
        rcases hs' with h1 | ⟨h1, h2⟩ <;> cases na
        all_goals
          go_enter Tryz.func63, Tryz.ntmps63
          go_wp2_with (first
            | (go_at_call 87; refine (r1_short _ _ (by assumption)).mono ?_; rintro e w' ⟨rfl, rfl⟩)
            | (go_at_call 78; refine (r1_body_Tx _ _ (by assumption)).mono ?_; rintro e w' ⟨rfl, rfl⟩)
            | (go_at_call 56; refine (r1_Sign _ _ (by assumption)).mono ?_; rintro e w' ⟨rfl, rfl⟩)
            | (go_at_call 88; refine (Calls.gr (r1_plus _ _ _ (by assumption) (by assumption) hk) (by assumption)).mono ?_; rintro e w' ⟨rfl, hg⟩)
            | (go_at_call 89; refine (Calls.gr (r1_minus _ _ _ (by assumption) (by assumption) hle) (by assumption)).mono ?_; rintro e w' ⟨rfl, hg⟩)
            | (go_at_call 81; refine (Calls.gr (r1_compare _ _ _ (by assumption) (by assumption)) (by assumption)).mono ?_; rintro e w' ⟨rfl, hg⟩)
            | (go_at_call 83; refine (r1_signed _ _ _ _ (by assumption)).mono ?_; rintro e w' ⟨rfl, rfl⟩))
          go_ret
          exact ⟨ret_str HF.out, by assumption⟩
      · have HF := Lib.hid (HF1.out hle)
        clear HF1 HF2
        rcases hs' with h1 | ⟨h1, h2⟩ <;> cases na
        all_goals
          go_enter Tryz.func63, Tryz.ntmps63
          go_wp2_with (first
            | (go_at_call 87; refine (r1_short _ _ (by assumption)).mono ?_; rintro e w' ⟨rfl, rfl⟩)
            | (go_at_call 78; refine (r1_body_Tx _ _ (by assumption)).mono ?_; rintro e w' ⟨rfl, rfl⟩)
            | (go_at_call 56; refine (r1_Sign _ _ (by assumption)).mono ?_; rintro e w' ⟨rfl, rfl⟩)
            | (go_at_call 88; refine (Calls.gr (r1_plus _ _ _ (by assumption) (by assumption) hk) (by assumption)).mono ?_; rintro e w' ⟨rfl, hg⟩)
            | (go_at_call 89; refine (Calls.gr (r1_minus _ _ _ (by assumption) (by assumption) hle) (by assumption)).mono ?_; rintro e w' ⟨rfl, hg⟩)
            | (go_at_call 81; refine (Calls.gr (r1_compare _ _ _ (by assumption) (by assumption)) (by assumption)).mono ?_; rintro e w' ⟨rfl, hg⟩)
            | (go_at_call 83; refine (r1_signed _ _ _ _ (by assumption)).mono ?_; rintro e w' ⟨rfl, rfl⟩))
          go_ret
          exact ⟨ret_str HF.out, by assumption⟩
set_option maxHeartbeats 400000 in
theorem r1_Diff {k k' : Nat} (a b : Int) (w : World) (ha : Sm k a) (hb : Sm k' b) (hk : max k k' + 1 ≤ 1000000) :
    Calls Tryz.prog 110 #[.string (Tx a), .string (Tx b)] w fun e w' => e = .returned (.string (Tx (a - b))) ∧ Gr w w' := by
  have hb' := hb.neg
  have HF : Hid (Tx (a + -b) = Tx (a - b)) := congrArg Tx (by omega)
  go_enter Tryz.func110, Tryz.ntmps110
  go_wp2_with (first
    | (go_at_call 85; refine (r1_Negated _ _ (by assumption)).mono ?_; rintro e w' ⟨rfl, rfl⟩)
    | (go_at_call 63; refine (r1_Sum _ _ _ (by assumption) (by assumption) hk).mono ?_; rintro e w' ⟨rfl, hg⟩))
  go_ret
  exact ⟨ret_str HF.out, hg⟩
end Go.Proofs.YtlbnibicehpobaaGreatDoor

/- The contract of the reference's times. -/
namespace Go.Proofs.YtlbnibicehpobaaGreatDoor
open Go.RowKit
open Z

theorem wv_set {B : Nat} {l : List Nat} {j d : Nat} (h : j < l.length) : wv B (l.set j d) + B ^ j * l.getD j 0 = wv B l + B ^ j * d := by
  induction l generalizing j with
  | nil => simp at h
  | cons x l ih =>
    cases j with
    | zero => simp [wv]; omega
    | succ j =>
      have := ih (j := j) (by simpa using h)
      simp only [List.set_cons_succ, wv, List.getD_cons_succ, Nat.pow_succ]
      have e1 : B ^ j * B * l.getD j 0 = B * (B ^ j * l.getD j 0) := by rw [Nat.mul_comm (B ^ j) B, Nat.mul_assoc]
      have e2 : B ^ j * B * d = B * (B ^ j * d) := by rw [Nat.mul_comm (B ^ j) B, Nat.mul_assoc]
      rw [e1, e2, Nat.add_assoc, ← Nat.mul_add, this, Nat.mul_add]; omega
theorem small_set {B : Nat} {l : List Nat} {j d : Nat} (h : small B l) (hd : d < B) : small B (l.set j d) := by
  intro x hx
  rcases List.mem_or_eq_of_mem_set hx with h1 | h1
  · exact h x h1
  · omega
theorem getD_set {l : List Nat} {j d i : Nat} (h : j < l.length) : (l.set j d).getD i 0 = if i = j then d else l.getD i 0 := by
  rw [List.getD_eq_getElem?_getD, List.getD_eq_getElem?_getD, List.getElem?_set]
  by_cases hij : j = i
  · subst hij; simp [h]
  · rw [if_neg hij, if_neg (fun e => hij e.symm)]
theorem wv_ge {B : Nat} {l : List Nat} {j : Nat} : B ^ j * l.getD j 0 ≤ wv B l := by
  induction l generalizing j with
  | nil => simp [wv]
  | cons x l ih =>
    cases j with
    | zero => simp [wv]
    | succ j =>
      have := ih (j := j)
      simp only [List.getD_cons_succ, wv, Nat.pow_succ]
      have e1 : B ^ j * B * l.getD j 0 = B * (B ^ j * l.getD j 0) := by rw [Nat.mul_comm (B ^ j) B, Nat.mul_assoc]
      have := Nat.mul_le_mul_left B this
      omega
theorem high_zero {B : Nat} {l : List Nat} {j : Nat} (h : wv B l < B ^ j) : l.getD j 0 = 0 := by
  have h1 := wv_ge (B := B) (l := l) (j := j)
  rcases Nat.eq_zero_or_pos (l.getD j 0) with h2 | h2
  · exact h2
  · have : B ^ j * 1 ≤ B ^ j * l.getD j 0 := Nat.mul_le_mul_left _ h2
    omega
theorem iv_set (k : IntKind) (l : List Nat) (j d : Nat) : iv k (l.set j d) = (iv k l).set j (.int k d) := by simp [iv, List.map_set]
/-- a slice of numbers that the call has made, at a known place -/
def OwnAt (e : TypeId) (k : IntKind) (g len cap : Nat) (w : World) (xs : List Nat) : Prop := xs.length = len ∧ w.ownsRow g e 1 (.slice (some ⟨g, 0, none⟩) len cap) len (iv k xs)
theorem OwnAt.cell {e : TypeId} {k : IntKind} {g len cap : Nat} {w : World} {xs : List Nat} (h : OwnAt e k g len cap w xs) (j : Nat) (hj : j < len) :
    w.cell? ⟨g, j, none⟩ = some (.int k (xs.getD j 0 : Nat)) ∧ w.frozen? ⟨g, j, none⟩ = false := by
  refine ⟨?_, World.ownsRow.frozenAt h.2 j⟩
  have := h.1
  rw [World.ownsRow.cellAt h.2 j (by omega)]
  have hj' : j < xs.length := by omega
  simp [iv, hj']
theorem OwnAt.set {e : TypeId} {k : IntKind} {g len cap : Nat} {w w0 : World} {xs : List Nat} (h : OwnAt e k g len cap w xs) (hg : Gr w0 w) (hb : w0.heap.size ≤ g) (j : Nat) (z : Int) (d : Nat) (hz : z = d) :
    OwnAt e k g len cap (w.setCell ⟨g, j, none⟩ (.int k z)) (xs.set j d) ∧ Gr w0 (w.setCell ⟨g, j, none⟩ (.int k z)) := by
  subst hz
  have h1 := World.ownsRow.stored h.2 j (.int k d)
  refine ⟨⟨by rw [List.length_set]; exact h.1, ?_⟩, Below.setCell hg hb _⟩
  rw [iv_set]
  exact h1.1
theorem OwnAt.rd {e : TypeId} {k : IntKind} {g len cap : Nat} {w : World} {xs : List Nat} (h : OwnAt e k g len cap w xs) : Rd k w (.slice (some ⟨g, 0, none⟩) len cap) xs := by
  obtain ⟨rfl, h⟩ := h
  exact Own.rd (e := e) (B := g) h
theorem OwnAt.drewN {e : TypeId} {k : IntKind} {g len cap : Nat} {w : World} {xs : List Nat} (h : OwnAt e k g len cap w xs) (n : Nat) : OwnAt e k g len cap (w.drewN n) xs := h
theorem iv_zeros (k : IntKind) (n : Nat) : (madeCells (Value.int k 0).cells (n * 1)).toList = iv k (List.replicate n 0) := by
  rw [Nat.mul_one]
  show (madeCells #[Value.int k 0] n).toList = _
  rw [toList_madeCells_one]; simp [iv]
theorem wv_zeros (B n : Nat) : wv B (List.replicate n 0) = 0 := by
  induction n with
  | zero => rfl
  | succ n ih => simp [List.replicate_succ, wv, ih]
theorem small_zeros {B : Nat} (n : Nat) (hB : 0 < B) : small B (List.replicate n 0) := by
  intro x hx; rw [List.eq_of_mem_replicate hx]; exact hB
theorem times_step {B i k c x y V Y T : Nat} {o : List Nat} (hj : i + k < o.length) (h : wv B o + c * B ^ (i + k) = V + x * Y * B ^ i) (hT : T = o.getD (i + k) 0 + c + x * y) :
    wv B (o.set (i + k) (T % B)) + T / B * B ^ (i + k + 1) = V + x * (Y + B ^ k * y) * B ^ i := by
  have h1 := wv_set (B := B) (d := T % B) hj
  have h2 : B ^ (i + k) * T = B ^ (i + k) * (o.getD (i + k) 0 + c + x * y) := by rw [hT]
  rw [Nat.mul_add, Nat.mul_add] at h2
  have h3 : B ^ (i + k) * T = B ^ (i + k) * (T % B) + T / B * B ^ (i + k + 1) := by
    rw [Nat.pow_succ, Nat.mul_comm (B ^ (i + k)) B, ← Nat.mul_assoc, Nat.mul_comm (T / B * B), ← Nat.mul_add, Nat.mul_comm (T / B) B, Nat.mod_add_div]
  have h4 : x * (Y + B ^ k * y) * B ^ i = x * Y * B ^ i + B ^ (i + k) * (x * y) := by
    rw [Nat.mul_add, Nat.add_mul, Nat.pow_add]
    congr 1
    ac_rfl
  have h5 : B ^ (i + k) * c = c * B ^ (i + k) := Nat.mul_comm _ _
  omega
theorem Sm.mul {k k' : Nat} {n m : Nat} (hn : Sm k n) (hm : Sm k' m) (h : k + k' ≤ 1000000) : Sm (k + k') ((n * m : Nat) : Int) := by
  refine ⟨?_, h⟩
  have h1 := hn.1
  have h2 := hm.1
  simp only [Int.natAbs_natCast] at h1 h2 ⊢
  have p1 := Lib.nDigits_pos n
  have p2 := Lib.nDigits_pos m
  have h1' := (nDigits_le_iff n k (by omega)).1 h1
  have h2' := (nDigits_le_iff m k' (by omega)).1 h2
  rw [nDigits_le_iff _ _ (by omega), Nat.pow_add]
  exact Nat.mul_lt_mul'' h1' h2'

theorem w_mul {z c x y B : Nat} (hB : 0 < B ∧ B ≤ 1000000000) (hz : z < B) (hc : c < B) (hx : x < B) (hy : y < B) :
    (wrap64 ((z : Int) + c + wrap64 ((x : Int) * y))).tdiv B = (((z + c + x * y) / B : Nat) : Int) ∧ wrap64 ((wrap64 ((z : Int) + c + wrap64 ((x : Int) * y))).tdiv B) = (((z + c + x * y) / B : Nat) : Int) ∧
      (wrap64 ((z : Int) + c + wrap64 ((x : Int) * y))).tmod B = (((z + c + x * y) % B : Nat) : Int) := by
  have h1 : x * y ≤ 1000000000 * 1000000000 := Nat.mul_le_mul (by omega) (by omega)
  have h2 : ((x : Int) * y) = ((x * y : Nat) : Int) := by rw [Int.natCast_mul]
  rw [h2]
  generalize x * y = p at h1
  have h3 : wrap64 (p : Int) = p := by simp only [wrap64]; omega
  have h4 : wrap64 ((z : Int) + c + p) = ((z + c + p : Nat) : Int) := by simp only [wrap64]; omega
  have h5 : (((z + c + p : Nat) : Int)).tdiv B = (((z + c + p) / B : Nat) : Int) := rfl
  have h6 : (((z + c + p : Nat) : Int)).tmod B = (((z + c + p) % B : Nat) : Int) := rfl
  have h7 : (z + c + p) / B ≤ z + c + p := Nat.div_le_self _ _
  rw [h3, h4, h5, h6]
  refine ⟨rfl, ?_, rfl⟩
  clear h5
  generalize (z + c + p) / B = q at h7
  simp only [wrap64]; omega
theorem mul_lt_pow {A : Nat} {l l' : List Nat} {i : Nat} (h : small A l) (h' : small A l') (hA : 0 < A) (hi : i ≤ l.length) : wv A (l.take i) * wv A l' < A ^ (i + l'.length) := by
  rw [Nat.pow_add]
  have h1 : wv A (l.take i) < A ^ (l.take i).length := wv_lt (fun x hx => h x (List.mem_of_mem_take hx))
  rw [List.length_take, Nat.min_eq_left hi] at h1
  exact Nat.mul_lt_mul'' h1 (wv_lt h')
set_option maxHeartbeats 4000000 in
set_option maxRecDepth 100000 in
theorem r1_times {k k' : Nat} (n m : Nat) (w : World) (hn : Sm k n) (hm : Sm k' m) (hk : k + k' ≤ 900000) :
    Calls Tryz.prog 84 #[.string (Tx n), .string (Tx m)] w fun e w' => e = .returned (.string (Tx ((n * m : Nat) : Int))) ∧ Gr w w' := by
  obtain ⟨i0, hi, hz0, hz1, hz2⟩ := info_parts Tryz.infoInt
  have HW1 := Lib.hid (fun w => r1_words n w hn)
  have HW2 := Lib.hid (fun w => r1_words m w hm)
  have HT := Lib.hid (fun v xs (w : World) => r1_text (k := k + k') v xs w)
  have HSUM := Lib.hid (hn.mul hm (by omega))
  have hk1 := hn.2
  have hk2 := hm.2
  generalize Tx (n : Int) = s at HW1 ⊢
  generalize Tx (m : Int) = t at HW2 ⊢
  go_enter Tryz.func84, Tryz.ntmps84
  go_wp2_with fail
  refine (HW1.out _).mono ?_
  rintro e w1 ⟨va, xa, rfl, ha, hxa, hsa, hla, hga⟩
  go_wp2_with fail
  refine (HW2.out _).mono ?_
  rintro e w2 ⟨vb, xb, rfl, hb, hxb, hsb, hlb, hgb⟩
  have HA := Lib.hid ((Own.rd ha).gr hgb)
  have HB := Lib.hid (Own.rd hb)
  obtain ⟨aa, ca, rfl, -, -⟩ := Own.form ha
  obtain ⟨ab, cb, rfl, -, -⟩ := Own.form hb
  have HG2 := Lib.hid (hga.trans hgb)
  have HXA := Lib.hid hxa; clear hxa
  have HXB := Lib.hid hxb; clear hxb
  have HSA := Lib.hid hsa; clear hsa
  have HSB := Lib.hid hsb; clear hsb
  clear ha hb hga hgb HW1 HW2
  have hzc : (Value.int .i64 0).cells.size = 1 := rfl
  go_wp2_with (at_make; refine wpList_make_full w2 rfl _ _ 123 rfl w2.heap.size 3 i0 (.int .i64 0) 1 Tryz.underlying123 hi hz0 hz1 .i64 .i64 _ _ (xa.length + xb.length + 1) rfl rfl (by omega) (by omega) (by rw [hz2]; omega) (by unfold maxLen; omega) (Nat.le_refl _) ?_)
  intro w3 hown0 hgr0
  have HO0 : Hid (OwnAt 3 .i64 w2.heap.size (xa.length + xb.length + 1) (xa.length + xb.length + 1) w3 (List.replicate (xa.length + xb.length + 1) 0)) := by
    refine ⟨by simp, ?_⟩
    rw [toList_madeCells_one] at hown0
    have : iv .i64 (List.replicate (xa.length + xb.length + 1) 0) = List.replicate (xa.length + xb.length + 1) (Value.int .i64 0) := by simp [iv]
    rw [this]; exact hown0
  have hg3 : Gr w2 w3 := Below.grown (Below.refl _ _) hgr0 (Nat.le_refl _) (fun k hk => by simp at hk)
  clear hown0 hgr0
  go_wp2
  go_loopw [8] (fun i wr => ∃ (o : List Nat) (ii : Nat), i = .int .i64 ii ∧ ii ≤ xa.length ∧ Hid (OwnAt 3 .i64 w2.heap.size (xa.length + xb.length + 1) (xa.length + xb.length + 1) wr o) ∧ Gr w2 wr ∧
      Hid (small 10000 o ∧ wv 10000 o = wv 10000 (xa.take ii) * wv 10000 xb)) (fun i _ => xa.length - (intOf i).toNat)
  case atStart => exact ⟨_, 0, rfl, Nat.zero_le _, HO0.out, hg3, small_zeros _ (by omega), by rw [wv_zeros]; simp [wv]⟩
  case round =>
    obtain ⟨o, ii, rfl, hii, HO, hg, HV⟩ := hrel
    clear HO0 hg3
    by_cases e1 : ii < xa.length
    · obtain ⟨x, HX⟩ : ∃ x, Hid (x = xa.getD ii 0) := ⟨_, rfl⟩
      have hx : x < 10000 := by rw [HX.out]; exact small_getD (by omega) HSA.out _
      obtain ⟨ga, oa, rfl, hca2⟩ := HA.out.at (Gr.refl _) ii e1
      rw [← HX.out] at hca2
      have hcaN : ∀ W, Gr w2 W → W.cell? ⟨ga, oa + ii, none⟩ = some (.int .i64 x) := fun W hW => by
        obtain ⟨g', o', e, hc⟩ := HA.out.at hW ii e1
        simp only [Option.some.injEq, Addr.mk.injEq, and_true] at e
        rw [e.1, e.2, HX.out]; exact hc
      have HCA := Lib.hid hcaN; clear hcaN hca2
      obtain ⟨wo, hwo⟩ : ∃ wo : World, wo = wr := ⟨_, rfl⟩
      go_wp2
      go_loopw [9, 10] (fun c k wi => ∃ (o' : List Nat) (cc kk : Nat), c = .int .i64 cc ∧ k = .int .i64 kk ∧ kk ≤ xb.length + 1 ∧ cc < 10000 ∧ Hid (kk = xb.length + 1 → cc = 0) ∧
          Hid (OwnAt 3 .i64 w2.heap.size (xa.length + xb.length + 1) (xa.length + xb.length + 1) wi o') ∧ Gr w2 wi ∧
          Hid (small 10000 o' ∧ wv 10000 o' + cc * 10000 ^ (ii + kk) = wv 10000 o + x * wv 10000 (xb.take kk) * 10000 ^ ii ∧ ∀ j, ii + kk ≤ j → o'.getD j 0 = o.getD j 0)) (fun _ k _ => xb.length + 2 - (intOf k).toNat)
      case atStart => exact ⟨o, 0, 0, rfl, rfl, by omega, by omega, fun _ => rfl, HO.out, hg, HV.out.1, by simp [wv], fun _ _ => rfl⟩
      case round =>
        obtain ⟨o', cc, kk, rfl, rfl, hkk, hcc, HE, HO', hgi, HV'⟩ := hrel
        clear hg hwo
        by_cases hexit : ¬ kk < xb.length ∧ cc = 0
        · obtain ⟨e2, rfl⟩ := hexit
          have HN : Hid (small 10000 o' ∧ wv 10000 o' = wv 10000 (xa.take (ii + 1)) * wv 10000 xb) := by
            refine ⟨HV'.out.1, ?_⟩
            have h := HV'.out.2.1
            rw [List.take_of_length_le (by omega), HV.out.2] at h
            rw [wv_take_succ, ← HX.out, Nat.add_mul]
            have : 10000 ^ ii * x * wv 10000 xb = x * wv 10000 xb * 10000 ^ ii := by ac_rfl
            omega
          go_wp2
          go_roundw
          case rel => exact ⟨o', ii + 1, by go_num, by omega, HO'.out, hgi, HN.out⟩
          case measure => simp [intOf]; omega
        · have hin : ii + kk < xa.length + xb.length + 1 := by
            rcases Nat.lt_or_ge kk (xb.length + 1) with h | h
            · omega
            · have := HE.out (by omega); omega
          obtain ⟨z, HZ⟩ : ∃ z, Hid (z = o'.getD (ii + kk) 0) := ⟨_, rfl⟩
          have hz : z < 10000 := by rw [HZ.out]; exact small_getD (by omega) HV'.out.1 _
          obtain ⟨hco, hfo⟩ := HO'.out.cell (ii + kk) hin
          rw [← HZ.out] at hco
          have hca := HCA.out wr hgi
          by_cases e2 : kk < xb.length
          · clear hexit
            obtain ⟨y, HY⟩ : ∃ y, Hid (y = xb.getD kk 0) := ⟨_, rfl⟩
            have hy : y < 10000 := by rw [HY.out]; exact small_getD (by omega) HSB.out _
            obtain ⟨gb, ob, rfl, hcb⟩ := HB.out.at hgi kk e2
            rw [← HY.out] at hcb
            go_wp2
            go_quiet (fail)
            have HM := Lib.hid (w_mul (B := 10000) (by omega) hz hcc hx hy)
            have HT' : Hid (z + cc + x * y < 10000 * 10000) := by
              have h1 : x * y ≤ 9999 * 9999 := Nat.mul_le_mul (by omega) (by omega)
              show _ < _; omega
            go_wp2
            go_roundw
            case rel =>
              obtain ⟨hm1, hm2, hm3⟩ := HM.out
              have hset := (HO'.out.drewN nq).set (below_drewN hgi nq) (Nat.le_refl _) (ii + kk) _ ((z + cc + x * y) % 10000) hm3
              refine ⟨o'.set (ii + kk) ((z + cc + x * y) % 10000), (z + cc + x * y) / 10000, kk + 1, congrArg (Value.int .i64) hm2, by go_num, by omega, ?_, fun h => by omega, hset.1, hset.2, small_set HV'.out.1 (Nat.mod_lt _ (by omega)), ?_, ?_⟩
              · have := HT'.out; exact Nat.div_lt_of_lt_mul this
              · rw [wv_take_succ, ← HY.out, ← Nat.add_assoc]
                exact times_step (by rw [HO'.out.1]; exact hin) HV'.out.2.1 (by rw [← HZ.out])
              · intro j hj
                rw [getD_set (by rw [HO'.out.1]; exact hin), if_neg (by omega)]
                exact HV'.out.2.2 j (by omega)
            case measure => simp [intOf]; omega
          · have hkl : kk = xb.length := by
              rcases Nat.lt_or_ge kk (xb.length + 1) with h | h
              · omega
              · have := HE.out (by omega); omega
            have hz0 : z = 0 := by
              rw [HZ.out, HV'.out.2.2 _ (Nat.le_refl _)]
              refine high_zero (B := 10000) ?_
              rw [HV.out.2, hkl]
              exact mul_lt_pow HSA.out HSB.out (by omega) (by omega)
            have hc0 : 0 < cc := by omega
            have HKL := Lib.hid hkl
            clear hexit hkl
            subst hz0
            have HM := Lib.hid (w_mul (B := 10000) (z := 0) (x := 0) (y := 0) (by omega) (by omega) hcc (by omega) (by omega))
            go_wp2
            go_roundw
            case rel =>
              have hset := HO'.out.set hgi (Nat.le_refl _) (ii + kk) _ (cc % 10000) rfl
              have hcz : cc / 10000 = 0 := Nat.div_eq_of_lt hcc
              have hcm : cc % 10000 = cc := Nat.mod_eq_of_lt hcc
              refine ⟨o'.set (ii + kk) (cc % 10000), cc / 10000, kk + 1, rfl, by go_num, by have := HKL.out; omega, by omega, fun h => hcz, hset.1, hset.2, small_set HV'.out.1 (Nat.mod_lt _ (by omega)), ?_, ?_⟩
              · rw [wv_take_succ, ← Nat.add_assoc]
                refine times_step (y := xb.getD kk 0) (by rw [HO'.out.1]; exact hin) HV'.out.2.1 ?_
                rw [← HZ.out, getD_out (l := xb) (by have := HKL.out; omega)]; omega
              · intro j hj
                rw [getD_set (by rw [HO'.out.1]; exact hin), if_neg (by omega)]
                exact HV'.out.2.2 j (by omega)
            case measure => simp [intOf]; omega
    · have hil : ii = xa.length := by omega
      have HF : Hid (wv 10000 o = n * m) := by
        show _ = _
        rw [HV.out.2, hil, List.take_length, HXA.out, HXB.out]
      go_wp2_with fail
      refine (HT.out _ o _ (OwnAt.rd HO.out) HV.out.1 (by rw [HF.out]; exact HSUM.out) (by have := HO.out.1; omega)).mono ?_
      rintro e w4 ⟨rfl, hg4⟩
      rw [HF.out]
      go_wp2
      go_ret
      exact ⟨rfl, HG2.out.trans (hg.trans hg4)⟩
end Go.Proofs.YtlbnibicehpobaaGreatDoor

/- The contract of the reference's divided. -/
namespace Go.Proofs.YtlbnibicehpobaaGreatDoor
open Go.RowKit
open Z

theorem Tx_digit (c : Nat) (h : c < 10) : Tx (c : Int) = ⟨#[UInt8.ofNat (48 + c)]⟩ := by
  apply ba_ext; rw [nat_text, Lib.decDigits, dif_pos h]
theorem Tx_snoc (r c : Nat) (hr : 0 < r) (hc : c < 10) : Tx (r : Int) ++ Tx (c : Int) = Tx ((10 * r + c : Nat) : Int) := by
  apply ba_ext
  rw [ByteArray.data_append, Array.toList_append, nat_text, nat_text, nat_text, Lib.decDigits.eq_1 c, dif_pos hc, Lib.decDigits.eq_1 (10 * r + c), dif_neg (by omega), show (10 * r + c) / 10 = r by omega, show (10 * r + c) % 10 = c by omega]
theorem extract_one (s : ByteArray) (i : Nat) (h : i < s.size) (c : Nat) (hc : s[i].toNat = 48 + c) (h10 : c < 10) : s.extract i (i + 1) = Tx (c : Int) := by
  rw [Tx_digit c h10]
  apply ba_ext
  rw [Lib.extract_data]
  have h1 : i < s.data.toList.length := by simpa using h
  rw [List.drop_eq_getElem_cons h1, show i + 1 - i = 1 by omega]
  simp only [List.take_succ_cons, List.take_zero, List.cons.injEq, and_true]
  rw [get_data] at hc
  have h3 : (UInt8.ofNat (48 + c)).toNat = 48 + c := by rw [UInt8.toNat_ofNat']; omega
  exact UInt8.toNat_inj.1 (hc.trans h3.symm)
theorem Sm.mk' {k n : Nat} (h : n < 10 ^ k) (hk : 1 ≤ k ∧ k ≤ 1000000) : Sm k (n : Int) := ⟨by simp only [Int.natAbs_natCast]; exact (nDigits_le_iff n k hk.1).2 h, hk.2⟩
theorem div_step {m Q r c R dd r' V : Nat} (h : V = Q * m + r) (hR : R = 10 * r + c) (hd : R = dd * m + r') : 10 * V + c = (10 * Q + dd) * m + r' := by
  rw [Nat.add_mul, Nat.mul_assoc, h, Nat.mul_add]; omega

theorem ownsRow_gr {w w' : World} {base : Nat} {e : TypeId} {size : Nat} {v : Value} {n : Nat} {xs : List Value} (h : w.ownsRow base e size v n xs) (hg : Gr w w') : w'.ownsRow base e size v n xs :=
  h.kept ⟨hg.os, hg.tape, hg.output, hg.size, fun k hk _ => hg.block k hk⟩ (row := none) (by cases hv : v.ownBlock <;> simp)
theorem OwnB.gr {B : Nat} {w w' : World} {v : Value} {l : List UInt8} (h : OwnB B w v l) (hg : Gr w w') : OwnB B w' v l := ownsRow_gr h hg
theorem Own.gr {e : TypeId} {k : IntKind} {B : Nat} {w w' : World} {v : Value} {xs : List Nat} (h : Own e k B w v xs) (hg : Gr w w') : Own e k B w' v xs := ownsRow_gr h hg
theorem ret_ss {s s' t t' : ByteArray} (h : s = s') (h' : t = t') : Ending.returned (.tuple #[.string s, .string t]) = .returned (.tuple #[.string s', .string t']) := by rw [h, h']
def DivRet (n m : Nat) (w w' : World) (e : Ending) : Prop := e = .returned (.tuple #[.string (Tx ((n / m : Nat) : Int)), .string (Tx ((n % m : Nat) : Int))]) ∧ Gr w w'

set_option maxHeartbeats 4000000 in
set_option maxRecDepth 100000 in
theorem r1_divided {k k' : Nat} (n m : Nat) (w : World) (hn : Sm k n) (hm : Sm k' m) (hk : k' + 1 ≤ 1000000) (hm0 : 0 < m) :
    Calls Tryz.prog 113 #[.string (Tx n), .string (Tx m)] w (fun e w' => DivRet n m w w' e) := by
  obtain ⟨i0, hi, hz0, hz1, hz2⟩ := info_parts Tryz.infoU8
  have hk1 := hn.2
  have hm10 : m < 10 ^ k' := by
    have h1 := hm.1
    simp only [Int.natAbs_natCast] at h1
    exact (nDigits_le_iff m k' (by have := Lib.nDigits_pos m; omega)).1 h1
  have HM10 := Lib.hid hm10; clear hm10
  have hs1 := hn.len2
  have hs2 := hm.len2
  have htx := nat_text n
  have hdd := dec_decDigits n
  have hdl : (Tx (n : Int)).size ≤ k + 1 := hn.size.1
  generalize Lib.decDigits n = ds at htx hdd
  have HN := Lib.hid hdd.1
  have hlen : ds.length = (Tx (n : Int)).size := by rw [← htx]; simp
  have hdig : ∀ j (h : j < (Tx (n : Int)).size), ∃ h' : j < ds.length, (Tx (n : Int))[j] = ds[j] ∧ 48 ≤ (Tx (n : Int))[j].toNat ∧ (Tx (n : Int))[j].toNat ≤ 57 := by
    intro j h
    have h' : j < ds.length := by omega
    have h2 : (Tx (n : Int))[j] = ds[j] := by rw [get_data]; simp only [htx]
    refine ⟨h', h2, ?_⟩
    rw [h2]
    have hall := hdd.2.1
    rw [List.all_eq_true] at hall
    exact isD_iff.1 (hall _ (List.getElem_mem h'))
  have HSM := Lib.hid hn
  clear hn hdd htx
  generalize Tx (n : Int) = s at hs1 hlen hdig hdl ⊢
  have HLEN := Lib.hid hlen; clear hlen
  have HDIG := Lib.hid hdig; clear hdig
  go_enter Tryz.func113, Tryz.ntmps113
  go_wp2
  go_loopw [6, 7, 8] (fun v r i wr => ∃ (Q R ii : Nat), i = .int .i64 ii ∧ ii ≤ s.size ∧ r = .string (Tx (R : Int)) ∧ R < m ∧ Hid (OwnB w.heap.size wr v (ntx0 Q)) ∧ Gr w wr ∧ Hid (dec (ds.take ii) = Q * m + R)) (fun _ _ i _ => s.size - (intOf i).toNat)
  case atStart => exact ⟨0, 0, 0, rfl, Nat.zero_le _, congrArg Value.string Tx_zero.symm, hm0, World.ownsRow_nil _ _ _ _, Gr.refl _, by show _ = _; simp [dec]⟩
  case round =>
    obtain ⟨Q, R, ii, rfl, hii, rfl, hR, hown, hg, HV⟩ := hrel
    have hgs := hg.size
    by_cases e1 : ii < s.size
    · obtain ⟨h', hd1, hd2, hd3⟩ := HDIG.out ii e1
      obtain ⟨c, hc, HC⟩ : ∃ c : Nat, c < 10 ∧ Hid (s[ii].toNat = 48 + c) := ⟨s[ii].toNat - 48, by omega, by show _ = _; omega⟩
      have hext := extract_one s ii e1 c HC.out hc
      have HT : Hid (dec (ds.take (ii + 1)) = 10 * dec (ds.take ii) + c) := by
        show _ = _
        have hx := HC.out
        rw [hd1] at hx
        rw [take_snoc _ _ h', dec_snoc]; unfold dv; omega
      clear hd1 hd2 hd3
      have hR10 : Hid (10 * R + c < 10 * m) := by show _ < _; omega
      have hP : Hid (∀ x, x ≤ 10 * R + c → Sm (k' + 1) (x : Int)) := fun x hx => Sm.mk' (by have := HM10.out; have := hR10.out; rw [Nat.pow_succ]; omega) (by omega)
      obtain ⟨X, HX⟩ : ∃ X, Hid (X = 10 * R + c) := ⟨_, rfl⟩
      rw [← HX.out] at hR10 hP
      have hrest : (((Tx (R : Int)).toList == [48]) = true ∧ s.extract ii (ii + 1) = Tx (X : Int)) ∨ (((Tx (R : Int)).toList == [48]) = false ∧ Tx (R : Int) ++ Tx (c : Int) = Tx (X : Int) ∧ s.extract ii (ii + 1) = Tx (c : Int) ∧ (Tx (R : Int)).size ≤ 1000002 ∧ (Tx (c : Int)).size ≤ 1000002) := by
        have hx := HX.out
        rcases Nat.eq_zero_or_pos R with h | h
        · exact .inl ⟨by rw [h]; exact tests_zero, by rw [hext]; congr 2; omega⟩
        · exact .inr ⟨(tests_pos (by omega)).1, by rw [hx]; exact Tx_snoc R c h hc, hext, by have := (hP.out R (by omega)).size; omega, by have := (hP.out c (by omega)).size; omega⟩
      clear hext
      have HQ : ∀ dd r' : Nat, X = dd * m + r' → r' < m → dd ≤ 9 ∧ dec (ds.take (ii + 1)) = (10 * Q + dd) * m + r' := by
        intro dd r' h1 h2
        refine ⟨?_, ?_⟩
        · rcases Nat.lt_or_ge dd 10 with h | h
          · omega
          · have h3 : 10 * m ≤ dd * m := Nat.mul_le_mul_right _ h
            have := hR10.out; omega
        · rw [HT.out]; exact div_step HV.out HX.out h1
      have HQ' := Lib.hid HQ; clear HQ
      have HGO : Hid (∀ W U (dd r' : Nat), X = dd * m + r' → r' < m → Hid (OwnB w.heap.size W U (ntx0 (10 * Q + dd))) → Gr w W → ∃ (Q R i' : Nat), Value.int .i64 ((ii : Int) + 1) = .int .i64 i' ∧ i' ≤ s.size ∧ Value.string (Tx (r' : Int)) = .string (Tx (R : Int)) ∧ R < m ∧ Hid (OwnB w.heap.size W U (ntx0 Q)) ∧ Gr w W ∧ Hid (dec (ds.take i') = Q * m + R)) :=
        fun W U dd r' h1 h2 h3 h4 => ⟨10 * Q + dd, r', ii + 1, by go_num, by omega, rfl, h2, h3, h4, (HQ'.out dd r' h1 h2).2⟩
      have hlenQ : (ntx0 Q).length ≤ 1000001 := by
        have h1 := HV.out
        have h2 := dec_append (ds.take ii) (ds.drop ii)
        rw [List.take_append_drop, HN.out] at h2
        have h3 : 1 ≤ 10 ^ (ds.drop ii).length := Nat.one_le_pow _ _ (by decide)
        have h4 : dec (ds.take ii) * 1 ≤ dec (ds.take ii) * 10 ^ (ds.drop ii).length := Nat.mul_le_mul_left _ h3
        have h5 : Q * 1 ≤ Q * m := Nat.mul_le_mul_left _ hm0
        have h6 : Q ≤ n := by omega
        have h7 := HSM.out.1
        simp only [Int.natAbs_natCast] at h7
        have := ntx0_len Q k (digits_le h6 h7)
        omega
      clear HV HT
      obtain ⟨wo, rfl⟩ : ∃ wo : World, wo = wr := ⟨_, rfl⟩
      rcases hrest with ⟨h1, h2⟩ | ⟨h1, h2, h3, h4, h5⟩
      all_goals
        go_wp2
        go_loopw [7, 9] (fun r d wi => ∃ (r' dd : Nat), r = .string (Tx (r' : Int)) ∧ d = .int .u8 (48 + (dd : Int)) ∧ dd ≤ 9 ∧ Hid (X = dd * m + r') ∧ Gr wo wi) (fun _ d _ => 58 - (intOf d).toNat)
        case atStart => exact ⟨X, 0, rfl, rfl, by omega, by show _ = _; omega, Gr.refl _⟩
        case round =>
          obtain ⟨r', dd, rfl, rfl, hdd, HX', hgi⟩ := hrel
          have hsr := hP.out r' (by have := HX'.out; omega)
          by_cases hrm : r' < m
          · have hcmp := cmpN_lt hrm
            obtain ⟨av, capv, rfl⟩ := OwnB.form hown.out
            by_cases hd0 : dd = 0
            · by_cases hQ0 : Q = 0
              · have hl0 : (ntx0 Q).length = 0 := ntx0_nil.2 hQ0
                have hnl : ¬ 0 < (ntx0 Q).length := by omega
                have hdz : (dd : Int) = 0 := by omega
                have HO : Hid (OwnB w.heap.size wo (.slice av (ntx0 Q).length capv) (ntx0 (10 * Q + dd))) := by
                  show OwnB _ _ _ _; rw [show 10 * Q + dd = Q by omega]; exact hown.out
                clear hl0 hd0 hQ0
                go_wp2_with (go_at_call 81; refine (Calls.gr (r1_compare _ _ _ hsr hm) hgi).mono ?_; rintro e wx ⟨rfl, hgx⟩)
                go_roundw
                case rel => exact HGO.out _ _ dd r' HX'.out hrm (OwnB.gr HO.out hgx) (hg.trans hgx)
                case measure => simp [intOf]; omega
              · have hnl : 0 < (ntx0 Q).length := Nat.pos_of_ne_zero (fun h => hQ0 (ntx0_nil.1 h))
                have hdz : (dd : Int) = 0 := by omega
                clear hd0
                go_wp2_with (first
                  | (go_at_call 81; refine (Calls.gr (r1_compare _ _ _ hsr hm) hgi).mono ?_; rintro e wx ⟨rfl, hgx⟩; have hown2 : Hid (OwnB w.heap.size wx (.slice av (ntx0 Q).length capv) (ntx0 Q)) := OwnB.gr hown.out hgx; have hgw : Gr w wx := hg.trans hgx; have hws := hgw.size)
                  | (at_builtin; refine wpList_append_own _ rfl _ _ 94 rfl w.heap.size 5 i0 (.int .u8 0) 1 1 Tryz.underlying94 hi hz0 hz1 hz2 rfl (by decide) _ _ _ rfl (World.ownsRow.alloc hown2.out _) ⟨wx.heap.size, 0, none⟩ 1 1 [.int .u8 48] rfl rfl (cell_one_new _ _ _) (one1 _ rfl) ?c3 ?c4 ?c5 ?_))
                case c3 => unfold maxLen; omega
                case c4 => omega
                case c5 => first | omega | (simp; omega)
                · intro v' w1 hown' hgrow _
                  have OW : Hid (OwnB w.heap.size w1 v' (ntx0 (10 * Q + dd))) := OwnB.push (by omega) (.inr hQ0) (by rw [show (48 : Int) + (dd : Int) = 48 by omega]; exact hown')
                  have HG : Hid (Gr w w1) := Below.grown (hgw.alloc _) hgrow (by simp; omega) (fun k hk => (World.ownsRow.lt hown2.out k hk).1)
                  clear hown' hgrow
                  go_wp2
                  go_roundw
                  case rel => exact HGO.out _ _ dd r' HX'.out hrm OW.out HG.out
                  case measure => simp [intOf]; omega
            · have hb1 : ((48 + (dd : Int)) != 48) = true := by rw [bne_iff_ne]; omega
              go_wp2_with (first
                | (go_at_call 81; refine (Calls.gr (r1_compare _ _ _ hsr hm) hgi).mono ?_; rintro e wx ⟨rfl, hgx⟩; have hown2 : Hid (OwnB w.heap.size wx (.slice av (ntx0 Q).length capv) (ntx0 Q)) := OwnB.gr hown.out hgx; have hgw : Gr w wx := hg.trans hgx; have hws := hgw.size)
                | (at_builtin; refine wpList_append_own _ rfl _ _ 94 rfl w.heap.size 5 i0 (.int .u8 0) 1 1 Tryz.underlying94 hi hz0 hz1 hz2 rfl (by decide) _ _ _ rfl (World.ownsRow.alloc hown2.out _) ⟨wx.heap.size, 0, none⟩ 1 1 [.int .u8 (48 + (dd : Int))] rfl rfl (cell_one_new _ _ _) (one1 _ rfl) ?c3 ?c4 ?c5 ?_))
              case c3 => unfold maxLen; omega
              case c4 => omega
              case c5 => first | omega | (simp; omega)
              · intro v' w1 hown' hgrow _
                have OW : Hid (OwnB w.heap.size w1 v' (ntx0 (10 * Q + dd))) := OwnB.push (by omega) (.inl hd0) hown'
                have HG : Hid (Gr w w1) := Below.grown (hgw.alloc _) hgrow (by simp; omega) (fun k hk => (World.ownsRow.lt hown2.out k hk).1)
                clear hown' hgrow
                go_wp2
                go_roundw
                case rel => exact HGO.out _ _ dd r' HX'.out hrm OW.out HG.out
                case measure => simp [intOf]; omega
          · have hge : 0 ≤ cmpN r' m := by unfold cmpN; rw [if_neg hrm]; split <;> omega
            have HX2 : Hid (X = (dd + 1) * m + (r' - m)) := by
              have := HX'.out; show _ = _; rw [Nat.add_mul]; omega
            have hdd9 : dd + 1 ≤ 9 := by
              rcases Nat.lt_or_ge dd 9 with h | h
              · omega
              · have h3 : 10 * m ≤ (dd + 1) * m := Nat.mul_le_mul_right _ (by omega)
                have := hR10.out; have := HX2.out; omega
            have hle : m ≤ r' := by omega
            go_wp2_with (first
              | (go_at_call 81; refine (Calls.gr (r1_compare _ _ _ hsr hm) hgi).mono ?_; rintro e wx ⟨rfl, hgx⟩)
              | (go_at_call 89; refine (Calls.gr (r1_minus _ _ _ hsr hm hle) hgx).mono ?_; rintro e wy ⟨rfl, hgy⟩))
            go_roundw
            case rel => exact ⟨r' - m, dd + 1, rfl, congrArg (Value.int .u8) (by omega), hdd9, HX2.out, hgy⟩
            case measure => simp [intOf]; omega
    · have hii' : ii = s.size := by omega
      have HF : Hid (Q = n / m ∧ R = n % m) := by
        have h := HV.out
        rw [hii', ← HLEN.out, List.take_length, HN.out] at h
        have h1 : n / m = Q := by
          rw [h, Nat.mul_comm, Nat.mul_add_div hm0, Nat.div_eq_of_lt hR]; omega
        have h2 := Nat.div_add_mod n m
        rw [h1, Nat.mul_comm] at h2
        exact ⟨h1.symm, by omega⟩
      obtain ⟨av, capv, rfl⟩ := OwnB.form hown.out
      have HQ := Lib.hid (ntx0_text Q)
      by_cases hz : Q = 0
      · have hl : (ntx0 Q).length = 0 := ntx0_nil.2 hz
        have HZ := Lib.hid hz; clear hz
        have hl' : (((ntx0 Q).length : Int) == 0) = true := by simp [hl]
        clear hl
        go_wp2
        go_ret2
        exact ⟨ret_ss (by rw [← HF.out.1, ← HQ.out, if_pos HZ.out]) (by rw [← HF.out.2]), hg⟩
      · have hl : (ntx0 Q).length ≠ 0 := fun h => hz (ntx0_nil.1 h)
        have hl' : (((ntx0 Q).length : Int) == 0) = false := beq_eq_false_iff_ne.2 (by omega)
        have hcv := OwnB.convert hown.out (fun h => hl (by rw [h]; rfl))
        have HZ := Lib.hid hz; clear hz hl
        go_wp2
        go_ret2
        exact ⟨ret_ss (by rw [← HF.out.1, ← HQ.out, if_neg HZ.out]) (by rw [← HF.out.2]), hg⟩
end Go.Proofs.YtlbnibicehpobaaGreatDoor

/- Contracts of the reference's Product, Floor, Rest, Common, Int and the functions with errors. -/
namespace Go.Proofs.YtlbnibicehpobaaGreatDoor
open Go.RowKit
open Z

theorem Sm.mulZ {k k' : Nat} {a b : Int} (ha : Sm k a) (hb : Sm k' b) (h : k + k' ≤ 1000000) : Sm (k + k') (a * b) := by
  have h1 := Sm.mul (n := a.natAbs) (m := b.natAbs) ha.abs hb.abs h
  refine ⟨?_, h⟩
  have h2 := h1.1
  rw [Int.natAbs_natCast] at h2
  rw [Int.natAbs_mul]
  exact h2
theorem signed_mul (a b : Int) : (if (decide (a < 0) != decide (b < 0)) then -((a.natAbs * b.natAbs : Nat) : Int) else ((a.natAbs * b.natAbs : Nat) : Int)) = a * b := by
  by_cases h1 : a < 0 <;> by_cases h2 : b < 0
  · obtain ⟨x, rfl⟩ : ∃ x : Nat, a = -x := ⟨a.natAbs, by omega⟩
    obtain ⟨y, rfl⟩ : ∃ y : Nat, b = -y := ⟨b.natAbs, by omega⟩
    simp only [h1, h2, bne_self_eq_false, Bool.false_eq_true, if_false, Int.natAbs_neg, Int.natAbs_natCast, Int.natCast_mul, Int.neg_mul_neg]
  · obtain ⟨x, rfl⟩ : ∃ x : Nat, a = -x := ⟨a.natAbs, by omega⟩
    obtain ⟨y, rfl⟩ : ∃ y : Nat, b = y := ⟨b.natAbs, by omega⟩
    simp only [h1, h2, decide_true, decide_false, Bool.bne_false, if_true, Int.natAbs_neg, Int.natAbs_natCast, Int.natCast_mul, Int.neg_mul]
  · obtain ⟨x, rfl⟩ : ∃ x : Nat, a = x := ⟨a.natAbs, by omega⟩
    obtain ⟨y, rfl⟩ : ∃ y : Nat, b = -y := ⟨b.natAbs, by omega⟩
    simp only [h1, h2, decide_true, decide_false, Bool.bne_true, Bool.not_false, if_true, Int.natAbs_neg, Int.natAbs_natCast, Int.natCast_mul, Int.mul_neg]
  · obtain ⟨x, rfl⟩ : ∃ x : Nat, a = x := ⟨a.natAbs, by omega⟩
    obtain ⟨y, rfl⟩ : ∃ y : Nat, b = y := ⟨b.natAbs, by omega⟩
    simp only [h1, h2, bne_self_eq_false, Bool.false_eq_true, if_false, Int.natAbs_natCast, Int.natCast_mul]
theorem short_mul {a b : Int} (h : (Tx a).size + (Tx b).size ≤ 17) : Sm 17 a ∧ Sm 17 b ∧ -100000000000000000 < a * b ∧ a * b < 100000000000000000 := by
  have s1 := size_Tx a
  have s2 := size_Tx b
  rw [itoa_length] at s1 s2
  have hb1 : Sm (Lib.nDigits a.natAbs) a := ⟨Nat.le_refl _, by omega⟩
  have hb2 : Sm (Lib.nDigits b.natAbs) b := ⟨Nat.le_refl _, by omega⟩
  have h3 := (Sm.mulZ hb1 hb2 (by omega)).1
  have h4 := (nDigits_le_iff (a * b).natAbs 17 (by omega)).1 (by omega)
  have h5 : 10 ^ 17 = 100000000000000000 := rfl
  refine ⟨⟨by omega, by omega⟩, ⟨by omega, by omega⟩, by omega, by omega⟩

set_option maxHeartbeats 1000000 in
set_option maxRecDepth 100000 in
theorem r1_Product {k k' : Nat} (a b : Int) (w : World) (ha : Sm k a) (hb : Sm k' b) (hk : k + k' ≤ 900000) :
    Calls Tryz.prog 61 #[.string (Tx a), .string (Tx b)] w fun e w' => e = .returned (.string (Tx (a * b))) ∧ Gr w w' := by
  have hg0 := Gr.refl w
  have l1 := ha.len2
  have l2 := hb.len2
  by_cases hs : (Tx a).size + (Tx b).size ≤ 17
  · obtain ⟨h1, h2, h3, h4⟩ := short_mul hs
    have HP : Hid (wrap64 (a * b) = a * b) := by show _ = _; simp only [wrap64]; omega
    have HW := Lib.hid (fun w => r1_Whole (a * b) w (by omega) (by omega))
    obtain ⟨p, hp⟩ : ∃ p, p = a * b := ⟨_, rfl⟩
    rw [← hp] at HW HP ⊢
    have hp' : a * b = p := hp.symm
    have b1 : -100000000000000000 < p := by omega
    have b2 : p < 100000000000000000 := by omega
    clear h3 h4 hp
    go_enter Tryz.func61, Tryz.ntmps61
    go_wp2_with (first
      | (go_at_call 82; refine (r1_number _ _ (by assumption)).mono ?_; rintro e w' ⟨rfl, rfl⟩)
      | (go_at_call 59; refine (HW.out _).mono ?_; rintro e w' ⟨rfl, hg⟩))
    go_ret
    exact ⟨rfl, by assumption⟩
  · have sa := ha.abs
    have sb := hb.abs
    have sp := sa.mul sb (by omega)
    have HF := Lib.hid (congrArg Tx (signed_mul a b))
    obtain ⟨na, h1⟩ : ∃ na, decide (a < 0) = na := ⟨_, rfl⟩
    obtain ⟨nb, h2⟩ : ∃ nb, decide (b < 0) = nb := ⟨_, rfl⟩
    rw [h1, h2] at HF
    cases na <;> cases nb
    all_goals
      go_enter Tryz.func61, Tryz.ntmps61
      go_wp2_with (first
        | (go_at_call 78; refine (r1_body_Tx _ _ (by assumption)).mono ?_; rintro e w' ⟨rfl, rfl⟩)
        | (go_at_call 56; refine (r1_Sign _ _ (by assumption)).mono ?_; rintro e w' ⟨rfl, rfl⟩)
        | (go_at_call 84; refine (Calls.gr (r1_times _ _ _ (by assumption) (by assumption) hk) (by assumption)).mono ?_; rintro e w' ⟨rfl, hg⟩)
        | (go_at_call 83; refine (r1_signed _ _ _ _ (by assumption)).mono ?_; rintro e w' ⟨rfl, rfl⟩))
      go_ret
      exact ⟨ret_str HF.out, by assumption⟩
end Go.Proofs.YtlbnibicehpobaaGreatDoor

/- Plain mathematics of division, rounded down, and of greatest common divisors. No program. -/
namespace Go.Proofs.YtlbnibicehpobaaGreatDoor.Z
open Go

theorem fdiv_pp (x m : Nat) : ((x : Int)).fdiv m = ((x / m : Nat) : Int) := by
  rw [Int.fdiv_eq_ediv_of_nonneg _ (by omega)]; rfl
theorem fdiv_np (x m : Nat) (hm : 0 < m) : (-(x : Int)).fdiv m = if x % m = 0 then -((x / m : Nat) : Int) else -((x / m : Nat) : Int) - 1 := by
  rw [Int.fdiv_eq_ediv_of_nonneg _ (by omega), Int.neg_ediv]
  have hs : (m : Int).sign = 1 := Int.sign_eq_one_of_pos (by omega)
  have hd : ((m : Int) ∣ (x : Int)) ↔ x % m = 0 := by rw [Int.natCast_dvd_natCast]; exact Nat.dvd_iff_mod_eq_zero
  by_cases h : x % m = 0
  · rw [if_pos (hd.2 h), if_pos h]; simp
  · rw [if_neg (fun e => h (hd.1 e)), if_neg h, hs]; rfl
/-- the quotient, rounded down, by magnitudes -/
theorem fdiv_by_abs (a b : Int) (hb : b ≠ 0) : a.fdiv b =
    if (decide (a < 0) != decide (b < 0)) then (if a.natAbs % b.natAbs = 0 then -((a.natAbs / b.natAbs : Nat) : Int) else -((a.natAbs / b.natAbs + 1 : Nat) : Int)) else ((a.natAbs / b.natAbs : Nat) : Int) := by
  by_cases h1 : a < 0 <;> by_cases h2 : b < 0
  · obtain ⟨x, rfl⟩ : ∃ x : Nat, a = -x := ⟨a.natAbs, by omega⟩
    obtain ⟨y, rfl⟩ : ∃ y : Nat, b = -y := ⟨b.natAbs, by omega⟩
    rw [Int.neg_fdiv_neg, fdiv_pp]
    simp only [h1, h2, bne_self_eq_false, Bool.false_eq_true, if_false, Int.natAbs_neg, Int.natAbs_natCast]
  · obtain ⟨x, rfl⟩ : ∃ x : Nat, a = -x := ⟨a.natAbs, by omega⟩
    obtain ⟨y, rfl⟩ : ∃ y : Nat, b = y := ⟨b.natAbs, by omega⟩
    rw [fdiv_np _ _ (by omega)]
    simp only [h1, h2, decide_true, decide_false, Bool.bne_false, if_true, Int.natAbs_neg, Int.natAbs_natCast]
    split <;> omega
  · obtain ⟨x, rfl⟩ : ∃ x : Nat, a = x := ⟨a.natAbs, by omega⟩
    obtain ⟨y, rfl⟩ : ∃ y : Nat, b = -y := ⟨b.natAbs, by omega⟩
    have h3 : ((x : Int)).fdiv (-(y : Int)) = (-(x : Int)).fdiv y := by
      have := Int.neg_fdiv_neg (-(x : Int)) (y : Int)
      rw [Int.neg_neg] at this; exact this
    rw [h3, fdiv_np _ _ (by omega)]
    simp only [h1, h2, decide_true, decide_false, Bool.bne_true, Bool.not_false, if_true, Int.natAbs_neg, Int.natAbs_natCast]
    split <;> omega
  · obtain ⟨x, rfl⟩ : ∃ x : Nat, a = x := ⟨a.natAbs, by omega⟩
    obtain ⟨y, rfl⟩ : ∃ y : Nat, b = y := ⟨b.natAbs, by omega⟩
    rw [fdiv_pp]
    simp only [h1, h2, bne_self_eq_false, Bool.false_eq_true, if_false, Int.natAbs_natCast]
theorem tdiv_abs (a b : Int) : a.tdiv b = if (decide (a < 0) != decide (b < 0)) then -((a.natAbs / b.natAbs : Nat) : Int) else ((a.natAbs / b.natAbs : Nat) : Int) := by
  by_cases h1 : a < 0 <;> by_cases h2 : b < 0
  · obtain ⟨x, rfl⟩ : ∃ x : Nat, a = -x := ⟨a.natAbs, by omega⟩
    obtain ⟨y, rfl⟩ : ∃ y : Nat, b = -y := ⟨b.natAbs, by omega⟩
    rw [Int.neg_tdiv_neg]
    simp only [h1, h2, bne_self_eq_false, Bool.false_eq_true, if_false, Int.natAbs_neg, Int.natAbs_natCast]; rfl
  · obtain ⟨x, rfl⟩ : ∃ x : Nat, a = -x := ⟨a.natAbs, by omega⟩
    obtain ⟨y, rfl⟩ : ∃ y : Nat, b = y := ⟨b.natAbs, by omega⟩
    rw [Int.neg_tdiv]
    simp only [h1, h2, decide_true, decide_false, Bool.bne_false, if_true, Int.natAbs_neg, Int.natAbs_natCast]; rfl
  · obtain ⟨x, rfl⟩ : ∃ x : Nat, a = x := ⟨a.natAbs, by omega⟩
    obtain ⟨y, rfl⟩ : ∃ y : Nat, b = -y := ⟨b.natAbs, by omega⟩
    rw [Int.tdiv_neg]
    simp only [h1, h2, decide_true, decide_false, Bool.bne_true, Bool.not_false, if_true, Int.natAbs_neg, Int.natAbs_natCast]; rfl
  · obtain ⟨x, rfl⟩ : ∃ x : Nat, a = x := ⟨a.natAbs, by omega⟩
    obtain ⟨y, rfl⟩ : ∃ y : Nat, b = y := ⟨b.natAbs, by omega⟩
    simp only [h1, h2, bne_self_eq_false, Bool.false_eq_true, if_false, Int.natAbs_natCast]; rfl
theorem tmod_zero (a b : Int) : a.tmod b = 0 ↔ a.natAbs % b.natAbs = 0 := by
  rw [← Int.dvd_iff_tmod_eq_zero, ← Nat.dvd_iff_mod_eq_zero, Int.natAbs_dvd_natAbs]
theorem fdiv_natAbs_le (a b : Int) (hb : b ≠ 0) : (a.fdiv b).natAbs ≤ a.natAbs := by
  rw [fdiv_by_abs a b hb]
  have h0 : 1 ≤ b.natAbs := by omega
  have h1 : a.natAbs / b.natAbs ≤ a.natAbs := Nat.div_le_self _ _
  have h5 : a.natAbs % b.natAbs ≠ 0 → a.natAbs / b.natAbs + 1 ≤ a.natAbs := by
    intro h2
    rcases Nat.lt_or_ge 1 b.natAbs with h | h
    · have h4 : a.natAbs ≠ 0 := fun e => by rw [e] at h2; simp at h2
      have := Nat.div_lt_self (by omega : 0 < a.natAbs) h
      omega
    · have : b.natAbs = 1 := by omega
      rw [this] at h2; exact absurd (Nat.mod_one _) h2
  generalize a.natAbs / b.natAbs = q at h1 h5
  split
  · split
    · omega
    · rename_i h2
      have := h5 h2
      omega
  · omega
theorem fmod_def' (a b : Int) : a - b * a.fdiv b = a.fmod b := by have := Int.mul_fdiv_add_fmod a b; omega
theorem fmod_natAbs_le (a b : Int) (hb : b ≠ 0) : (a.fmod b).natAbs < b.natAbs := by
  rcases Int.lt_or_gt_of_ne hb with h | h
  · have h1 := Int.neg_fmod_neg a b
    obtain ⟨y, rfl⟩ : ∃ y : Nat, b = -y := ⟨b.natAbs, by omega⟩
    have h2 := Int.fmod_nonneg_of_pos (-a) (show (0 : Int) < y by omega)
    have h3 := Int.fmod_lt_of_pos (-a) (show (0 : Int) < y by omega)
    have h4 := Int.neg_fmod_neg (-a) (y : Int)
    rw [Int.neg_neg] at h4
    rw [h4]; omega
  · have h2 := Int.fmod_nonneg_of_pos a h
    have h3 := Int.fmod_lt_of_pos a h
    omega
theorem fmod_pp (x m : Nat) : ((x : Int)).fmod m = ((x % m : Nat) : Int) := by
  rw [Int.fmod_eq_emod_of_nonneg _ (by omega)]; rfl
theorem gcd_step (n m : Nat) : Nat.gcd n m = Nat.gcd m (n % m) := by rw [Nat.gcd_comm m, ← Nat.gcd_rec, Nat.gcd_comm]
end Go.Proofs.YtlbnibicehpobaaGreatDoor.Z

/- Contracts of the reference's Floor, Rest, Common, Int and the functions with errors. -/
namespace Go.Proofs.YtlbnibicehpobaaGreatDoor
open Go.RowKit
open Z

theorem Sm.of_le {k : Nat} {a b : Int} (ha : Sm k a) (h : b.natAbs ≤ a.natAbs) : Sm k b := ⟨digits_le h ha.1, ha.2⟩
theorem Sm.one : Sm 1 ((1 : Nat) : Int) := ⟨by rw [Int.natAbs_natCast, Lib.nDigits_small (by omega)]; exact Nat.le_refl _, by omega⟩
theorem Sm.mono {k k' : Nat} {a : Int} (h : Sm k a) (hk : k ≤ k') (hk' : k' ≤ 1000000) : Sm k' a := ⟨Nat.le_trans h.1 hk, hk'⟩
theorem Tx_one : Tx ((1 : Nat) : Int) = ⟨#[49]⟩ := by
  rw [Tx_digit 1 (by omega)]; rfl

set_option maxHeartbeats 2000000 in
set_option maxRecDepth 100000 in
theorem r1_Floor {k k' : Nat} (a b : Int) (w : World) (ha : Sm k a) (hb : Sm k' b) (hk : k + 1 ≤ 900000 ∧ k' + 1 ≤ 900000) (hb0 : b ≠ 0) :
    Calls Tryz.prog 86 #[.string (Tx a), .string (Tx b)] w fun e w' => e = .returned (.string (Tx (a.fdiv b))) ∧ Gr w w' := by
  have hg0 := Gr.refl w
  have HFD := Lib.hid (fdiv_by_abs a b hb0)
  have HLE := Lib.hid (fdiv_natAbs_le a b hb0)
  by_cases hs : (Tx a).size ≤ 17 ∧ (Tx b).size ≤ 17
  · obtain ⟨h1, h2⟩ := hs
    have d1 : decide ((Tx a).size ≤ 17) = true := decide_eq_true h1
    have d2 : decide ((Tx b).size ≤ 17) = true := decide_eq_true h2
    have s1 := Sm17 h1
    have s2 := Sm17 h2
    obtain ⟨b1, b2⟩ := bd17 h1
    obtain ⟨b3, b4⟩ := bd17 h2
    clear h1 h2
    have hbz : (b == 0) = false := beq_eq_false_iff_ne.2 hb0
    have HTD := Lib.hid (tdiv_abs a b)
    have HTM := Lib.hid (tmod_zero a b)
    have hql : a.natAbs / b.natAbs ≤ a.natAbs := Nat.div_le_self _ _
    obtain ⟨q, hq⟩ : ∃ q, a.tdiv b = q := ⟨_, rfl⟩
    obtain ⟨r, hr⟩ : ∃ r, a.tmod b = r := ⟨_, rfl⟩
    rw [hq] at HTD
    rw [hr] at HTM
    obtain ⟨na, n1⟩ : ∃ na, decide (a < 0) = na := ⟨_, rfl⟩
    obtain ⟨nb, n2⟩ : ∃ nb, decide (b < 0) = nb := ⟨_, rfl⟩
    rw [n1, n2] at HTD HFD
    have q1 : -100000000000000000 < q ∧ q < 100000000000000000 := by
      have h := HTD.out
      generalize a.natAbs / b.natAbs = p at h hql
      split at h <;> omega
    obtain ⟨q1, q2⟩ := q1
    have hf : (r ≠ 0 ∧ na ≠ nb → q - 1 = a.fdiv b) ∧ (¬(r ≠ 0 ∧ na ≠ nb) → q = a.fdiv b) := by
      have h1 := HTD.out
      have h2 := HFD.out
      have h3 := HTM.out
      rw [h1, h2]
      generalize a.natAbs / b.natAbs = p
      generalize a.natAbs % b.natAbs = p' at h3
      by_cases hr0 : r = 0
      · have := h3.1 hr0
        subst this
        cases na <;> cases nb <;> simp [hr0]
      · have hp : p' ≠ 0 := fun e => hr0 (h3.2 e)
        cases na <;> cases nb <;> simp [hr0, hp]
        all_goals omega
    have HF := Lib.hid hf; clear hf
    obtain ⟨F, hF⟩ : ∃ F, F = a.fdiv b := ⟨_, rfl⟩
    rw [← hF] at HF ⊢
    clear HFD HLE HTD HTM hF hql
    by_cases hr0 : r = 0
    · have hr0' : (r == 0) = true := by simp [hr0]
      have HF2 := Lib.hid (HF.out.2 (by simp [hr0]))
      cases na <;> cases nb
      all_goals
        go_enter Tryz.func86, Tryz.ntmps86
        go_wp2_with (first
          | (go_at_call 87; refine (r1_short _ _ (by assumption)).mono ?_; rintro e w' ⟨rfl, rfl⟩)
          | (go_at_call 82; refine (r1_number _ _ (by assumption)).mono ?_; rintro e w' ⟨rfl, rfl⟩)
          | (go_at_call 59; refine (r1_Whole _ _ (by omega) (by omega)).mono ?_; rintro e w' ⟨rfl, hg⟩))
        go_ret
        exact ⟨ret_str (congrArg Tx HF2.out), by assumption⟩
    · have hr0' : (r == 0) = false := beq_eq_false_iff_ne.2 hr0
      have hr1 : (r != 0) = true := bne_iff_ne.2 hr0
      have HF2 : Hid (Tx (if na = nb then q else q - 1) = Tx F) := by
        show _ = _
        by_cases h : na = nb
        · rw [if_pos h]; exact congrArg Tx (HF.out.2 (fun h' => h'.2 h))
        · rw [if_neg h]; exact congrArg Tx (HF.out.1 ⟨hr0, h⟩)
      clear HF
      cases na <;> cases nb
      all_goals
        go_enter Tryz.func86, Tryz.ntmps86
        go_wp2_with (first
          | (go_at_call 87; refine (r1_short _ _ (by assumption)).mono ?_; rintro e w' ⟨rfl, rfl⟩)
          | (go_at_call 82; refine (r1_number _ _ (by assumption)).mono ?_; rintro e w' ⟨rfl, rfl⟩)
          | (go_at_call 59; refine (r1_Whole _ _ (by omega) (by omega)).mono ?_; rintro e w' ⟨rfl, hg⟩))
        go_ret
        exact ⟨ret_str HF2.out, by assumption⟩
  · have hs' : decide ((Tx a).size ≤ 17) = false ∨ (decide ((Tx a).size ≤ 17) = true ∧ decide ((Tx b).size ≤ 17) = false) := by
      by_cases h1 : (Tx a).size ≤ 17
      · exact .inr ⟨decide_eq_true h1, decide_eq_false (fun h2 => hs ⟨h1, h2⟩)⟩
      · exact .inl (decide_eq_false h1)
    clear hs
    have sa := ha.abs
    have sb := hb.abs
    have hb1 : 0 < b.natAbs := by omega
    have sq : Sm k ((a.natAbs / b.natAbs : Nat) : Int) := sa.le (Nat.div_le_self _ _)
    have sq1 := sq.add Sm.one (by have := Lib.nDigits_pos a.natAbs; have := ha.1; omega)
    have hone := Tx_one
    have hD := fun w => r1_divided a.natAbs b.natAbs w sa sb (by omega) hb1
    have HD := Lib.hid hD; clear hD
    have HP := Lib.hid (fun w => r1_plus (a.natAbs / b.natAbs) 1 w sq Sm.one (by have := Lib.nDigits_pos a.natAbs; have := ha.1; omega))
    have hfd := HFD.out
    obtain ⟨na, n1⟩ : ∃ na, decide (a < 0) = na := ⟨_, rfl⟩
    obtain ⟨nb, n2⟩ : ∃ nb, decide (b < 0) = nb := ⟨_, rfl⟩
    rw [n1, n2] at hfd
    have hrc : (((Tx ((a.natAbs % b.natAbs : Nat) : Int)).toList == [48]) = true ∧ Hid (a.natAbs % b.natAbs = 0)) ∨ (((Tx ((a.natAbs % b.natAbs : Nat) : Int)).toList == [48]) = false ∧ Hid (a.natAbs % b.natAbs ≠ 0)) := by
      rw [Tx_is0]
      by_cases h : a.natAbs % b.natAbs = 0
      · exact .inl ⟨by rw [h]; rfl, h⟩
      · exact .inr ⟨decide_eq_false (by omega), h⟩
    obtain ⟨Q, hQ⟩ : ∃ Q, a.natAbs / b.natAbs = Q := ⟨_, rfl⟩
    obtain ⟨R, hR⟩ : ∃ R, a.natAbs % b.natAbs = R := ⟨_, rfl⟩
    unfold DivRet at HD
    rw [hQ] at HD HP hfd sq sq1
    rw [hR] at HD hrc hfd
    clear hQ hR HFD HLE
    have sq2 : Sm (k + 1) ((Q : Nat) : Int) := sq.mono (by omega) (by omega)
    have HF1 : Hid (R = 0 → Tx (if (na != nb) = true then -(Q : Int) else (Q : Int)) = Tx (a.fdiv b)) := fun h => by
      rw [hfd, if_pos h]
    have HF2 : Hid (R ≠ 0 → (na != nb) = true → Tx (-((Q + 1 : Nat) : Int)) = Tx (a.fdiv b)) := fun h h' => by
      rw [hfd, if_pos h', if_neg h]
    have HF3 : Hid ((na != nb) = false → Tx (Q : Int) = Tx (a.fdiv b)) := fun h' => by
      rw [hfd, h']; rfl
    clear hfd
    rcases hrc with ⟨hr, HR⟩ | ⟨hr, HR⟩ <;> rcases hs' with h1 | ⟨h1, h2⟩ <;> cases na <;> cases nb
    all_goals
      go_enter Tryz.func86, Tryz.ntmps86
      go_wp2_with (first
        | (go_at_call 87; refine (r1_short _ _ (by assumption)).mono ?_; rintro e w' ⟨rfl, rfl⟩)
        | (go_at_call 78; refine (r1_body_Tx _ _ (by assumption)).mono ?_; rintro e w' ⟨rfl, rfl⟩)
        | (go_at_call 56; refine (r1_Sign _ _ (by assumption)).mono ?_; rintro e w' ⟨rfl, rfl⟩)
        | (go_at_call 113; refine (Calls.gr (HD.out _) (by assumption)).mono ?_; rintro e w' ⟨rfl, hg⟩)
        | (go_at_call 88; rw [← hone]; refine (Calls.gr (HP.out _) (by assumption)).mono ?_; rintro e w' ⟨rfl, hg⟩)
        | (go_at_call 83; refine (r1_signed _ _ _ _ (by assumption)).mono ?_; rintro e w' ⟨rfl, rfl⟩))
      go_ret
      first
        | exact ⟨ret_str (HF3.out rfl), by assumption⟩
        | exact ⟨ret_str (HF1.out HR.out), by assumption⟩
        | exact ⟨ret_str (HF2.out HR.out rfl), by assumption⟩
end Go.Proofs.YtlbnibicehpobaaGreatDoor

/- Contracts of the reference's Rest, Common, Int and the functions with errors. -/
namespace Go.Proofs.YtlbnibicehpobaaGreatDoor
open Go.RowKit
open Z

set_option maxHeartbeats 1000000 in
theorem r1_Rest {k k' : Nat} (a b : Int) (w : World) (ha : Sm k a) (hb : Sm k' b) (hk : k + k' + 2 ≤ 900000) (hb0 : b ≠ 0) :
    Calls Tryz.prog 80 #[.string (Tx a), .string (Tx b)] w fun e w' => e = .returned (.string (Tx (a.fmod b))) ∧ Gr w w' := by
  have hg0 := Gr.refl w
  have hf : Sm k (a.fdiv b) := ha.of_le (fdiv_natAbs_le a b hb0)
  have hp := hb.mulZ hf (by omega)
  have HF := Lib.hid (congrArg Tx (fmod_def' a b))
  go_enter Tryz.func80, Tryz.ntmps80
  go_wp2_with (first
    | (go_at_call 86; refine (Calls.gr (r1_Floor _ _ _ ha hb (by omega) hb0) (by assumption)).mono ?_; rintro e w' ⟨rfl, hg⟩)
    | (go_at_call 61; refine (Calls.gr (r1_Product _ _ _ (by assumption) (by assumption) (by omega)) (by assumption)).mono ?_; rintro e w' ⟨rfl, hg⟩)
    | (go_at_call 110; refine (Calls.gr (r1_Diff _ _ _ (by assumption) (by assumption) (by omega)) (by assumption)).mono ?_; rintro e w' ⟨rfl, hg⟩))
  go_ret
  exact ⟨ret_str HF.out, by assumption⟩

set_option maxHeartbeats 1000000 in
theorem r1_Common {k : Nat} (a b : Int) (w : World) (ha : Sm k a) (hb : Sm k b) (hk : k + k + 2 ≤ 900000) :
    Calls Tryz.prog 58 #[.string (Tx a), .string (Tx b)] w fun e w' => e = .returned (.string (Tx ((Nat.gcd a.natAbs b.natAbs : Nat) : Int))) ∧ Gr w w' := by
  have sa := ha.abs
  have sb := hb.abs
  go_enter Tryz.func58, Tryz.ntmps58
  go_wp2_with (go_at_call 79; refine (r1_Magnitude _ _ (by assumption)).mono ?_; rintro e w' ⟨rfl, rfl⟩)
  go_loopw [0, 1] (fun u v wr => ∃ x y : Nat, u = .string (Tx (x : Int)) ∧ v = .string (Tx (y : Int)) ∧ Hid (Sm k (x : Int)) ∧ Hid (Sm k (y : Int)) ∧ Gr w wr ∧ Hid (Nat.gcd x y = Nat.gcd a.natAbs b.natAbs)) (fun _ v _ => match v with | .string t => (ival t.data.toList).toNat | _ => 0)
  case atStart => exact ⟨a.natAbs, b.natAbs, rfl, rfl, sa, sb, Gr.refl _, rfl⟩
  case round =>
    obtain ⟨x, y, rfl, rfl, hx, hy, hg, HG⟩ := hrel
    by_cases hy0 : y = 0
    · have HF : Hid (Tx (x : Int) = Tx ((Nat.gcd a.natAbs b.natAbs : Nat) : Int)) := by
        show _ = _
        have := HG.out
        rw [hy0, Nat.gcd_zero_right] at this
        rw [this]
      have t1 : ((Tx (y : Int)).toList == [48]) = true := by rw [Tx_is0]; exact decide_eq_true (by omega)
      clear hy0
      go_wp2
      go_ret
      exact ⟨ret_str HF.out, hg⟩
    · have t1 : ((Tx (y : Int)).toList == [48]) = false := by rw [Tx_is0]; exact decide_eq_false (by omega)
      have HR := Lib.hid (fun w => r1_Rest (x : Int) (y : Int) w hx.out hy.out (by omega) (by omega))
      rw [fmod_pp] at HR
      have HG2 : Hid (Nat.gcd y (x % y) = Nat.gcd a.natAbs b.natAbs) := by show _ = _; rw [← gcd_step]; exact HG.out
      have HS2 : Hid (Sm k ((x % y : Nat) : Int)) := hy.out.le (Nat.le_of_lt (Nat.mod_lt _ (by omega)))
      have HM : Hid (x % y < y) := Nat.mod_lt _ (by omega)
      go_wp2_with (go_at_call 80; refine (Calls.gr (HR.out _) hg).mono ?_; rintro e w' ⟨rfl, hg2⟩)
      go_roundw
      case rel => exact ⟨y, x % y, rfl, rfl, hy, HS2, hg2, HG2⟩
      case measure => simp [data_Tx, ival_itoa]; exact HM.out
end Go.Proofs.YtlbnibicehpobaaGreatDoor

/- Contracts of the reference's functions with errors. -/
namespace Go.Proofs.YtlbnibicehpobaaGreatDoor
open Go.RowKit
open Z

theorem chk_cases (s : ByteArray) : (chk s.data.toList == 0) = false ∨ (∃ a : Int, s = Tx a ∧ Sm 4096 a ∧ chk s.data.toList = 0) := by
  rcases cases_text s with ⟨a, rfl⟩ | h
  · rw [chk_Tx]
    by_cases h : 4096 < Lib.nDigits a.natAbs
    · rw [if_pos h]; exact .inl rfl
    · rw [if_neg h]; exact .inr ⟨a, rfl, ⟨by omega, by omega⟩, rfl⟩
  · left; unfold chk; rw [h]; rfl
theorem chk_val (l : List UInt8) : chk l = 0 ∨ chk l = 3 ∨ chk l = 23 := by
  unfold chk; split
  · split
    · exact .inr (.inr rfl)
    · exact .inl rfl
  · exact .inr (.inl rfl)
/-- a result, or the error of too many digits -/
def longR (x : Int) : ByteArray × Int := if 4096 < Lib.nDigits x.natAbs then (⟨#[]⟩, 23) else (Tx x, 0)
def both (s t : ByteArray) : Int := if chk s.data.toList = 0 then chk t.data.toList else chk s.data.toList
/-- the result of an operation on two texts -/
def opR (s t : ByteArray) (f : Int → Int → ByteArray × Int) : ByteArray × Int :=
  if both s t = 0 then f (ival s.data.toList) (ival t.data.toList) else (⟨#[]⟩, both s t)
def retR (k : IntKind) (p : ByteArray × Int) : Ending := .returned (.tuple #[.string p.1, .int k p.2])
theorem opR_err {s t : ByteArray} {f : Int → Int → ByteArray × Int} (h : (both s t == 0) = false) : opR s t f = (⟨#[]⟩, both s t) := by
  unfold opR; rw [if_neg (by simpa using h)]
theorem opR_ok {s t : ByteArray} {f : Int → Int → ByteArray × Int} {a b : Int} (hs : s = Tx a) (ht : t = Tx b) (h : both s t = 0) : opR s t f = f a b := by
  unfold opR; rw [if_pos h, hs, ht, data_Tx, data_Tx, ival_itoa, ival_itoa]
theorem both_cases (s t : ByteArray) : (both s t == 0) = false ∨ (∃ a b : Int, s = Tx a ∧ t = Tx b ∧ Sm 4096 a ∧ Sm 4096 b ∧ both s t = 0) := by
  unfold both
  rcases chk_cases s with h | ⟨a, h1, h2, h3⟩
  · left; rw [if_neg (by simpa using h)]; exact h
  · rw [if_pos h3]
    rcases chk_cases t with h | ⟨b, h4, h5, h6⟩
    · exact .inl h
    · exact .inr ⟨a, b, h1, h4, h2, h5, h6⟩

theorem retR_mk {k : IntKind} {s : ByteArray} {z : Int} {p : ByteArray × Int} (h : p = (s, z)) : Ending.returned (.tuple #[.string s, .int k z]) = retR k p := by rw [h]; rfl
end Go.Proofs.YtlbnibicehpobaaGreatDoor

/- Contracts of the reference's Int, Small and Few. -/
namespace Go.Proofs.YtlbnibicehpobaaGreatDoor
open Go.RowKit
open Z

def minI : Int := -9223372036854775808
def maxI : Int := 9223372036854775807
def inI (a : Int) : Bool := decide (minI ≤ a) && decide (a ≤ maxI)
theorem Sm_minI : Sm 19 (-9223372036854775808 : Int) := ⟨(nDigits_le_iff _ 19 (by omega)).2 (by decide), by omega⟩
theorem Sm_maxI : Sm 19 (9223372036854775807 : Int) := ⟨(nDigits_le_iff _ 19 (by omega)).2 (by decide), by omega⟩
/-- the loop of ref.Int over the digits, from below -/
theorem int_bd {a : Int} (h : inI a = true) : -9223372036854775808 ≤ a ∧ a ≤ 9223372036854775807 := by
  unfold inI minI maxI at h
  rw [Bool.and_eq_true] at h
  exact ⟨of_decide_eq_true h.1, of_decide_eq_true h.2⟩
theorem cmp_min {a : Int} : (cmpZ a (-9223372036854775808) < 0) ↔ ¬ minI ≤ a := by unfold cmpZ minI; repeat' split <;> omega
theorem cmp_max {a : Int} : (0 < cmpZ a 9223372036854775807) ↔ ¬ a ≤ maxI := by unfold cmpZ maxI; repeat' split <;> omega
theorem ret_ib {x y : Int} {b : Bool} {k : IntKind} (h : x = y) : Ending.returned (.tuple #[.int k x, .bool b]) = .returned (.tuple #[.int k y, .bool b]) := by rw [h]
theorem ret_ii {x y x' y' : Int} {k k' : IntKind} (h : x = y) (h' : x' = y') : Ending.returned (.tuple #[.int k x, .int k' x']) = .returned (.tuple #[.int k y, .int k' y']) := by rw [h, h']
theorem dec_take_mono (l : List UInt8) (k : Nat) : dec (l.take k) ≤ dec l := by
  have h2 := dec_append (l.take k) (l.drop k)
  rw [List.take_append_drop] at h2
  have h3 : 1 ≤ 10 ^ (l.drop k).length := Nat.one_le_pow _ _ (by decide)
  have h4 : dec (l.take k) * 1 ≤ dec (l.take k) * 10 ^ (l.drop k).length := Nat.mul_le_mul_left _ h3
  omega
/-- the int of a text, or an error -/
def smallR (s : ByteArray) : Int × Int := if chk s.data.toList = 0 then (if inI (ival s.data.toList) then (ival s.data.toList, 0) else (0, 2)) else (0, chk s.data.toList)
end Go.Proofs.YtlbnibicehpobaaGreatDoor
