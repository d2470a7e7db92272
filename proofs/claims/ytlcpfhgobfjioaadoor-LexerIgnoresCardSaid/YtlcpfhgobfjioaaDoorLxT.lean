/- Law 7: mathematics of Word, Number, Quote, Unquote. -/
import Derived.Test.YtlcpfhgobfjioaaDoorLxS
set_option linter.unusedVariables false
set_option linter.unusedSimpArgs false
namespace Go.Proofs.YtlcpfhgobfjioaaDoor
open Go.RowKit Go.Shelf
open Z
theorem cut_len (l : List UInt8) (a b : Nat) : (cutL l a b).length = min (b - a) (l.length - a) := by unfold cutL; simp
theorem cut_all (l : List UInt8) : cutL l 0 l.length = l := by unfold cutL; simp
theorem txtK_len (kd : Int) (t : List UInt8) : (txtK kd t).length = t.length := by
  unfold txtK Lib.toLowerA
  split <;> simp
theorem isTok_iff {l : List UInt8} {kd : Int} : isTok l kd = true ↔ skipB l 0 = 0 ∧ (kindR l 0).1 = kd ∧ (kindR l 0).2.1 = 0 ∧ (kindR l 0).2.2 = l.length ∧ txtK kd l = l := by
  unfold isTok
  simp only [Bool.and_eq_true, decide_eq_true_eq]
  unfold tokR
  have hs := skipB_le (l := l) (k := 0) (Nat.zero_le _)
  have hk := kindR_le hs.2
  by_cases he : (kindR l (skipB l 0)).2.1 = 0
  · rw [if_neg (by simpa using he)]
    simp only
    constructor
    · rintro ⟨-, h1, h2⟩
      have hl := congrArg List.length h2
      rw [txtK_len, cut_len] at hl
      have h0 : skipB l 0 = 0 := by omega
      rw [h0] at hl h1 h2 he hk
      have hend : (kindR l 0).2.2 = l.length := by omega
      rw [hend, cut_all, h1] at h2
      exact ⟨h0, h1, he, hend, h2⟩
    · rintro ⟨h0, h1, h2, h3, h4⟩
      rw [h0, h1, h3, cut_all]
      exact ⟨trivial, rfl, h4⟩
  · rw [if_pos he]
    constructor
    · rintro ⟨h, -⟩; exact absurd h he
    · rintro ⟨h0, -, h2, -⟩; rw [h0] at he; exact absurd h2 he
theorem kindR_cons (c : UInt8) (t : List UInt8) : kindR (c :: t) 0 =
    if letP c then (0, 0, runK wordP (c :: t) 1)
    else if c = 34 then (if (c :: t)[runK plainP (c :: t) 1]? = some 34 then (0, 0, runK plainP (c :: t) 1 + 1) else (0, 4, runK plainP (c :: t) 1))
    else if isD c then (1, 0, decK (c :: t) (runK isD (c :: t) 1))
    else if signP c then (2, 0, 1)
    else (0, 4, 0) := rfl
theorem kindR_nil : kindR [] 0 = (3, 0, 0) := rfl
theorem skip_cons {c : UInt8} (t : List UInt8) (h : c ≠ 32) : skipB (c :: t) 0 = 0 := skipB_stop fun _ => by simpa using h
theorem run_cons {p : UInt8 → Bool} {c : UInt8} (t : List UInt8) (h : p c = true) : runK p (c :: t) 0 = runK p (c :: t) 1 := runK_in (by simp) (by simpa using h)
theorem hp_nil : Lib.hasPrefix [] [34] = false := rfl
/-- a word of the language -/
def IsW (l : List UInt8) : Prop := ∃ c t, l = c :: t ∧ letP c = true ∧ runK wordP l 0 = l.length ∧ Lib.toLowerA l = l
theorem wordR_yes {l : List UInt8} (h : IsW l) : wordR l = if 24 < l.length then 13 else 0 := by
  obtain ⟨c, t, rfl, hc, hr, hl⟩ := h
  have h34 : c ≠ 34 := by rintro rfl; exact absurd hc (by decide)
  have hp : Lib.hasPrefix (c :: t) [34] = false := by rw [prefix_cons, beq_eq_false_iff_ne]; exact h34
  have hT : isTok (c :: t) 0 = true := by
    rw [isTok_iff, kindR_cons, if_pos hc]
    refine ⟨skip_cons t (by rintro rfl; exact absurd hc (by decide)), rfl, rfl, ?_, ?_⟩
    · rw [← run_cons t (let_word hc)]; exact hr
    · unfold txtK; rw [if_pos ⟨rfl, hp⟩]; exact hl
  unfold wordR
  rw [hp, hT]; rfl
theorem wordR_no {l : List UInt8} (h : ¬ IsW l) : wordR l = 8 := by
  unfold wordR
  rw [if_pos]
  cases hp : Lib.hasPrefix l [34]
  · cases hT : isTok l 0
    · rfl
    · exfalso
      apply h
      rw [isTok_iff] at hT
      obtain ⟨h0, h1, h2, h3, h4⟩ := hT
      cases l with
      | nil => rw [kindR_nil] at h1; exact absurd h1 (by simp)
      | cons c t =>
        rw [kindR_cons] at h1 h2 h3
        rw [prefix_cons, beq_eq_false_iff_ne] at hp
        by_cases hc : letP c = true
        · rw [if_pos hc] at h3
          refine ⟨c, t, rfl, hc, ?_, ?_⟩
          · rw [run_cons t (let_word hc)]; exact h3
          · unfold txtK at h4
            rw [if_pos ⟨rfl, by rw [prefix_cons, beq_eq_false_iff_ne]; exact hp⟩] at h4
            exact h4
        · rw [if_neg hc, if_neg hp] at h1 h2
          split at h1
          · exact absurd h1 (by simp)
          · rename_i hd
            rw [if_neg hd] at h2
            split at h1
            · exact absurd h1 (by simp)
            · rename_i hs
              rw [if_neg hs] at h2
              exact absurd h2 (by simp)
  · rfl
/-- a number of the language -/
def IsN (l : List UInt8) : Prop := ∃ c t, l = c :: t ∧ isD c = true ∧ decK l (runK isD l 0) = l.length
theorem digit_not {c : UInt8} (h : isD c = true) : letP c = false ∧ c ≠ 34 ∧ c ≠ 32 := by
  have hd := isD_iff.1 h
  refine ⟨?_, ?_, ?_⟩
  · unfold letP; simp; omega
  · rintro rfl; exact absurd h (by decide)
  · rintro rfl; exact absurd h (by decide)
theorem txt1 (l : List UInt8) : txtK 1 l = l := by unfold txtK; rw [if_neg]; simp
theorem isTok_num {l : List UInt8} : isTok l 1 = true ↔ IsN l := by
  rw [isTok_iff]
  constructor
  · rintro ⟨h0, h1, h2, h3, -⟩
    cases l with
    | nil => rw [kindR_nil] at h1; exact absurd h1 (by simp)
    | cons c t =>
      rw [kindR_cons] at h1 h3
      by_cases hc : letP c = true
      · rw [if_pos hc] at h1; exact absurd h1 (by simp)
      · rw [if_neg hc] at h1 h3
        by_cases h34 : c = 34
        · rw [if_pos h34] at h1
          split at h1 <;> exact absurd h1 (by simp)
        · rw [if_neg h34] at h1 h3
          by_cases hd : isD c = true
          · rw [if_pos hd] at h3
            exact ⟨c, t, rfl, hd, by rw [run_cons t hd]; exact h3⟩
          · rw [if_neg hd] at h1
            split at h1 <;> exact absurd h1 (by simp)
  · rintro ⟨c, t, rfl, hd, hr⟩
    obtain ⟨n1, n2, n3⟩ := digit_not hd
    rw [kindR_cons, if_neg (by rw [n1]; decide), if_neg n2, if_pos hd]
    exact ⟨skip_cons t n3, rfl, rfl, by rw [← run_cons t hd]; exact hr, txt1 _⟩
theorem numR_yes {l : List UInt8} (h : IsN l) : numR l = 0 := by unfold numR; rw [if_pos (isTok_num.2 h)]
theorem numR_no {l : List UInt8} (h : ¬ IsN l) : numR l = 3 := by unfold numR; rw [if_neg (fun e => h (isTok_num.1 e))]
/-- a text in quotes -/
def IsU (l : List UInt8) : Prop := ∃ t, l = 34 :: t ∧ quotedR l 0 = l.length
theorem isTok_quo {t : List UInt8} : isTok (34 :: t) 0 = true ↔ quotedR (34 :: t) 0 = (34 :: t).length := by
  rw [isTok_iff, kindR_cons, if_neg (by decide), if_pos rfl]
  have hx : txtK 0 (34 :: t) = 34 :: t := by unfold txtK; rw [if_neg]; rw [prefix_cons]; simp
  have hs := skip_cons (c := 34) t (by decide)
  unfold quotedR
  rw [show 0 + 1 = 1 from rfl]
  by_cases h : (34 :: t)[runK plainP (34 :: t) 1]? = some 34
  · rw [if_pos h, if_pos h]
    simp only
    constructor
    · rintro ⟨-, -, -, e, -⟩; omega
    · intro e; exact ⟨hs, trivial, trivial, by omega, hx⟩
  · rw [if_neg h, if_neg h]
    simp only
    constructor
    · rintro ⟨-, -, e, -⟩; exact absurd e (by simp)
    · intro e; omega
theorem hp_cons {l : List UInt8} (h : Lib.hasPrefix l [34] = true) : ∃ t, l = 34 :: t := by
  cases l with
  | nil => rw [hp_nil] at h; cases h
  | cons c t => rw [prefix_cons, beq_iff_eq] at h; exact ⟨t, by rw [h]⟩
theorem unquR_yes {l : List UInt8} (h : IsU l) : unquR l = ((l.drop 1).take (l.length - 2), 0) := by
  obtain ⟨t, rfl, hq⟩ := h
  unfold unquR
  rw [prefix_cons, isTok_quo.2 hq]
  rfl
theorem unquR_no {l : List UInt8} (h : ¬ IsU l) : unquR l = ([], 3) := by
  unfold unquR
  rw [if_pos]
  cases hp : Lib.hasPrefix l [34]
  · rfl
  · obtain ⟨t, rfl⟩ := hp_cons hp
    cases hT : isTok (34 :: t) 0
    · rfl
    · exact absurd ⟨t, rfl, isTok_quo.1 hT⟩ h
theorem quo_two {t : List UInt8} (h : quotedR (34 :: t) 0 = (34 :: t).length) : 2 ≤ (34 :: t).length := by
  unfold quotedR at h
  have hr := runK_le (p := plainP) (l := 34 :: t) (k := 1) (by simp)
  rw [show 0 + 1 = 1 from rfl] at h
  split at h
  · omega
  · omega
theorem unq2 {l : List UInt8} (h : Lib.hasPrefix l [34] = true) (hT : isTok l 0 = true) : 2 ≤ l.length := by
  obtain ⟨t, rfl⟩ := hp_cons h
  exact quo_two (isTok_quo.1 hT)
theorem take_len_all {p : UInt8 → Bool} : ∀ (l : List UInt8) (x : UInt8), p x = false → ((l ++ [x]).takeWhile p).length ≤ l.length ∧ (((l ++ [x]).takeWhile p).length = l.length ↔ l.all p = true)
  | [], x, hx => by simp [List.takeWhile, hx]
  | c :: l, x, hx => by
    have ih := take_len_all l x hx
    rw [List.cons_append, List.takeWhile_cons]
    cases hc : p c
    · simp [hc]
    · simp only [if_true, List.length_cons, List.all_cons, hc, Bool.true_and]
      exact ⟨by omega, by rw [← ih.2]; omega⟩
theorem quote_tok (l : List UInt8) : isTok ([34] ++ l ++ [34]) 0 = l.all plainP := by
  have e : [34] ++ l ++ [34] = 34 :: (l ++ [34]) := rfl
  have hx : plainP 34 = false := by decide
  have ht := take_len_all (p := plainP) l 34 hx
  have hrun : runK plainP (34 :: (l ++ [34])) 1 = 1 + ((l ++ [34]).takeWhile plainP).length := rfl
  rw [e, Bool.eq_iff_iff, isTok_quo]
  unfold quotedR
  rw [show 0 + 1 = 1 from rfl, hrun]
  constructor
  · intro h
    split at h
    · simp only [List.length_cons, List.length_append, List.length_nil] at h
      rw [← ht.2]; omega
    · omega
  · intro h
    have hl := ht.2.2 h
    rw [hl, if_pos]
    · simp; omega
    · rw [show 1 + l.length = l.length + 1 by omega, List.getElem?_cons_succ]; simp
theorem quoteR_yes {l : List UInt8} (h : l.all plainP = true) : quoteR l = ([34] ++ l ++ [34], 0) := by unfold quoteR; rw [quote_tok, if_pos h]
theorem quoteR_no {l : List UInt8} (h : l.all plainP = false) : quoteR l = ([], 3) := by unfold quoteR; rw [quote_tok, if_neg (by rw [h]; decide)]
end Go.Proofs.YtlcpfhgobfjioaaDoor
