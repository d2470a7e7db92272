/- Law 7: mathematics of LexerIgnores: the tokens of a text are those of the text with more blanks and capital letters. -/
import Derived.Test.YtlcpfhgobfjioaaDoorLyEG
set_option linter.unusedVariables false
set_option linter.unusedSimpArgs false
namespace Go.Proofs.YtlcpfhgobfjioaaDoor
open Go.RowKit Go.Shelf
open Z
theorem run_cut {p : UInt8 → Bool} (pre tx rest : List UInt8) {j : Nat} (hj : j ≤ tx.length) (h : runK p (pre ++ (tx ++ rest)) (pre.length + j) ≤ pre.length + tx.length) : runK p (pre ++ (tx ++ rest)) (pre.length + j) = pre.length + runK p tx j := by
  refine run_app pre tx rest hj ?_
  by_cases hr : rest.takeWhile p = []
  · exact .inr hr
  · left
    have hp : 0 < (rest.takeWhile p).length := List.length_pos_iff.2 hr
    have hle := (List.takeWhile_sublist (l := tx.drop j) p).length_le
    rw [List.length_drop] at hle
    unfold runK at h ⊢
    rw [drop_app pre tx rest hj, List.takeWhile_append] at h
    split at h
    · rw [List.length_append, List.length_drop] at h; omega
    · rename_i hne
      rw [List.length_drop] at hne; omega
/-- what a place begins with is, cut out, a token by itself -/
theorem kind_cut (pre tx rest : List UInt8) (h0 : tx ≠ []) {kd : Int} (h : kindR (pre ++ (tx ++ rest)) pre.length = (kd, 0, pre.length + tx.length)) : kindR tx 0 = (kd, 0, tx.length) := by
  have hp : 0 < tx.length := List.length_pos_iff.2 h0
  have hg := get_app pre tx rest hp
  have e1 : pre.length + 1 = pre.length + (0 + 1) := by omega
  have hP : (pre ++ (tx ++ rest)).length = pre.length + (tx.length + rest.length) := by simp
  rw [Nat.add_zero, List.getElem?_eq_getElem hp] at hg
  unfold kindR at h ⊢
  rw [hg] at h
  rw [List.getElem?_eq_getElem hp]
  simp only at h ⊢
  by_cases h1 : letP tx[0] = true
  · rw [if_pos h1] at h ⊢
    simp only [Prod.mk.injEq] at h
    obtain ⟨ha, -, hc⟩ := h
    rw [e1] at hc
    have := run_cut (p := wordP) (j := 0 + 1) pre tx rest hp (by omega)
    simp only [Prod.mk.injEq]
    exact ⟨ha, trivial, by omega⟩
  · rw [if_neg h1] at h ⊢
    by_cases h2 : tx[0] = 34
    · rw [if_pos h2] at h ⊢
      by_cases h3 : (pre ++ (tx ++ rest))[runK plainP (pre ++ (tx ++ rest)) (pre.length + 1)]? = some 34
      · rw [if_pos h3] at h
        simp only [Prod.mk.injEq] at h
        obtain ⟨ha, -, hc⟩ := h
        rw [e1] at hc h3
        have hr := run_cut (p := plainP) (j := 0 + 1) pre tx rest hp (by omega)
        rw [hr, get_app pre tx rest (by omega)] at h3
        rw [if_pos h3]
        simp only [Prod.mk.injEq]
        exact ⟨ha, trivial, by omega⟩
      · rw [if_neg h3] at h
        simp only [Prod.mk.injEq] at h
        exact absurd h.2.1 (by decide)
    · rw [if_neg h2] at h ⊢
      by_cases h3 : isD tx[0] = true
      · rw [if_pos h3] at h ⊢
        simp only [Prod.mk.injEq] at h
        obtain ⟨ha, -, hc⟩ := h
        have hle0 := runK_le (p := isD) (l := pre ++ (tx ++ rest)) (k := pre.length + 1) (by omega)
        have hd := decK_le hle0.2
        have hr := run_cut (p := isD) (j := 0 + 1) pre tx rest hp (by rw [← e1]; omega)
        have hrl := runK_le (p := isD) (l := tx) (k := 0 + 1) hp
        rw [e1, hr] at hc
        simp only [Prod.mk.injEq]
        refine ⟨ha, trivial, ?_⟩
        generalize runK isD tx (0 + 1) = j at *
        unfold decK at hc ⊢
        by_cases hq : (pre ++ (tx ++ rest))[pre.length + j]? = some 46 ∧ runK isD (pre ++ (tx ++ rest)) (pre.length + j + 1) ≠ pre.length + j + 1
        · rw [if_pos hq] at hc
          have hj : j < tx.length := by
            by_cases hl : pre.length + j + 1 ≤ (pre ++ (tx ++ rest)).length
            · have := (runK_le (p := isD) hl).1; omega
            · rw [List.getElem?_eq_none (by omega)] at hq; cases hq.1
          have hr2 := run_cut (p := isD) (j := j + 1) pre tx rest hj (by rw [← Nat.add_assoc]; omega)
          rw [← Nat.add_assoc] at hr2
          rw [get_app pre tx rest hj] at hq
          rw [if_pos ⟨hq.1, by have := hq.2; omega⟩]
          omega
        · rw [if_neg hq] at hc
          have hj : j = tx.length := by omega
          rw [if_neg (fun e => by rw [List.getElem?_eq_none (by omega)] at e; cases e.1)]
          exact hj
      · rw [if_neg h3] at h ⊢
        by_cases h4 : signP tx[0] = true
        · rw [if_pos h4] at h ⊢
          simp only [Prod.mk.injEq] at h ⊢
          exact ⟨h.1, trivial, by omega⟩
        · rw [if_neg h4] at h
          simp only [Prod.mk.injEq] at h
          exact absurd h.2.1 (by decide)
/-- a token with capital letters, if it is a word without quotes -/
def upT (t : Tk) : List UInt8 := if t.1 = 0 ∧ Lib.hasPrefix t.2.1 [34] = false then Lib.toUpperA t.2.1 else t.2.1
theorem up_byte : ∀ n, n < 256 → (wordP (UInt8.ofNat n) = true → Lib.lowerB (Lib.upperB (Lib.lowerB (UInt8.ofNat n))) = Lib.lowerB (UInt8.ofNat n) ∧ wordP (Lib.upperB (Lib.lowerB (UInt8.ofNat n))) = true ∧ (letP (UInt8.ofNat n) = true → letP (Lib.upperB (Lib.lowerB (UInt8.ofNat n))) = true) ∧ (Lib.lowerB (UInt8.ofNat n)).toNat < 128 ∧ Lib.lowerB (UInt8.ofNat n) ≠ 34) := by decide +kernel
theorem up_c (c : UInt8) : wordP c = true → Lib.lowerB (Lib.upperB (Lib.lowerB c)) = Lib.lowerB c ∧ wordP (Lib.upperB (Lib.lowerB c)) = true ∧ (letP c = true → letP (Lib.upperB (Lib.lowerB c)) = true) ∧ (Lib.lowerB c).toNat < 128 ∧ Lib.lowerB c ≠ 34 := by
  have := up_byte c.toNat c.toNat_lt
  simpa only [UInt8.ofNat_toNat] using this
theorem run_every {p : UInt8 → Bool} {l : List UInt8} {k : Nat} (hk : k ≤ l.length) (h : ∀ c ∈ l, p c = true) : runK p l k = l.length := by
  unfold runK
  have e := List.takeWhile_append_of_pos (p := p) (l₁ := l.drop k) (l₂ := []) (fun a ha => h a (List.mem_of_mem_drop ha))
  rw [List.append_nil, List.takeWhile_nil, List.append_nil] at e
  rw [e, List.length_drop]; omega
theorem kind_pos {l : List UInt8} {k : Nat} (h3 : (kindR l k).1 ≠ 3) (he : (kindR l k).2.1 = 0) : k < (kindR l k).2.2 := by
  unfold kindR at h3 he ⊢
  by_cases hl : k < l.length
  · rw [List.getElem?_eq_getElem hl] at h3 he ⊢
    simp only at h3 he ⊢
    have r1 := runK_le (p := wordP) (l := l) (k := k + 1) (by omega)
    have r2 := runK_le (p := plainP) (l := l) (k := k + 1) (by omega)
    have r3 := runK_le (p := isD) (l := l) (k := k + 1) (by omega)
    have r4 := decK_le r3.2
    split
    · simp only; omega
    · split
      · split <;> simp only <;> omega
      · split
        · simp only; omega
        · split
          · simp only; omega
          · rename_i a b c d
            rw [if_neg a, if_neg b, if_neg c, if_neg d] at he
            exact absurd he (by simp)
  · rw [List.getElem?_eq_none (by omega)] at h3; exact absurd rfl h3
theorem low_prefix {l : List UInt8} (h : ∀ c ∈ l, c ≠ 34) : Lib.hasPrefix l [34] = false := by
  cases l with
  | nil => rfl
  | cons c t => rw [prefix_cons, beq_eq_false_iff_ne]; exact h c (List.mem_cons_self ..)
/-- a token of a text: the raw text of it, and what it is in capital letters -/
theorem tok_up {l : List UInt8} {k : Nat} (hk : k ≤ l.length) (he : (tokR l k).2.1 = 0) (h3 : (tokR l k).1.1 ≠ 3) :
    upT (tokR l k).1 ≠ [] ∧ (upT (tokR l k).1)[0]? ≠ some 32 ∧ kindR (upT (tokR l k).1) 0 = ((tokR l k).1.1, 0, (upT (tokR l k).1).length) ∧ txtK (tokR l k).1.1 (upT (tokR l k).1) = (tokR l k).1.2.1 ∧
    (upT (tokR l k).1).length = (tokR l k).1.2.1.length ∧ ((tokR l k).1.1 = 0 → Lib.hasPrefix (tokR l k).1.2.1 [34] = false → ∀ c ∈ (tokR l k).1.2.1, c.toNat < 128) := by
  obtain ⟨a, ha⟩ : ∃ a, skipB l k = a := ⟨_, rfl⟩
  have hs := skipB_le hk
  rw [ha] at hs
  have hkk := kindR_le hs.2
  have h2 : (kindR l a).2.1 = 0 := by
    apply Classical.byContradiction
    intro h2
    unfold tokR at he
    rw [ha, if_pos h2] at he
    exact h2 he
  have e : tokR l k = (((kindR l a).1, txtK (kindR l a).1 (cutL l a (kindR l a).2.2), (a : Int)), 0, (kindR l a).2.2) := by
    unfold tokR; rw [ha, if_neg (by simpa using h2)]
  rw [e] at h3 ⊢
  simp only at h3 ⊢
  have hpos := kind_pos h3 h2
  have hkind : kindR l a = ((kindR l a).1, 0, (kindR l a).2.2) := Prod.ext rfl (Prod.ext h2 rfl)
  generalize (kindR l a).1 = kd at *
  generalize (kindR l a).2.2 = en at *
  have hrl : (cutL l a en).length = en - a := by rw [cut_len]; omega
  have hsplit : l.take a ++ (cutL l a en ++ l.drop en) = l := by
    unfold cutL
    have e1 : l.drop en = (l.drop a).drop (en - a) := by rw [List.drop_drop]; congr 1; omega
    rw [e1, List.take_append_drop, List.take_append_drop]
  have hta : (l.take a).length = a := by rw [List.length_take]; omega
  have hne : cutL l a en ≠ [] := fun h => by rw [h] at hrl; simp at hrl; omega
  have K : kindR (cutL l a en) 0 = (kd, 0, (cutL l a en).length) := by
    refine kind_cut (l.take a) (cutL l a en) (l.drop en) hne ?_
    rw [hsplit, hta, hrl, hkind]
    simp only [Prod.mk.injEq, true_and]; omega
  generalize cutL l a en = raw at *
  clear hsplit hrl hkind hpos
  have h32 : raw[0]? ≠ some 32 := by
    intro h
    cases raw with
    | nil => cases h
    | cons c t =>
      simp only [List.getElem?_cons_zero, Option.some.injEq] at h
      subst h
      rw [kindR_cons, if_neg (by decide), if_neg (by decide), if_neg (by decide), if_neg (by decide)] at K
      simp only [Prod.mk.injEq] at K
      exact absurd K.2.1 (by decide)
  by_cases hq : kd = 0 ∧ Lib.hasPrefix raw [34] = false
  · have ht : txtK kd raw = Lib.toLowerA raw := by unfold txtK; rw [if_pos hq]
    obtain ⟨rfl, hq⟩ := hq
    have hall : ∀ c ∈ raw, wordP c = true := by
      have := word_bytes (l := raw) (k := 0) (Nat.zero_le _) (by rw [K]) (by rw [K]) (by rw [K]; simp only; rw [cut_all]; exact hq)
      rw [K] at this
      simp only at this
      rwa [cut_all] at this
    have B := fun c (hc : c ∈ raw) => up_c c (hall c hc)
    have hlq : Lib.hasPrefix (Lib.toLowerA raw) [34] = false := low_prefix fun c hc => by
      obtain ⟨x, hx, rfl⟩ := List.mem_map.1 hc
      exact (B x hx).2.2.2.2
    have hu : upT (0, Lib.toLowerA raw, (a : Int)) = Lib.toUpperA (Lib.toLowerA raw) := by unfold upT; rw [if_pos ⟨rfl, hlq⟩]
    have hul : (Lib.toUpperA (Lib.toLowerA raw)).length = raw.length := by simp [Lib.toUpperA, Lib.toLowerA]
    have hww : ∀ c ∈ Lib.toUpperA (Lib.toLowerA raw), wordP c = true := fun c hc => by
      obtain ⟨x, hx, rfl⟩ := List.mem_map.1 hc
      obtain ⟨y, hy, rfl⟩ := List.mem_map.1 hx
      exact (B y hy).2.1
    rw [ht, hu]
    have hlow : Lib.toLowerA (Lib.toUpperA (Lib.toLowerA raw)) = Lib.toLowerA raw := by
      unfold Lib.toLowerA Lib.toUpperA
      rw [List.map_map, List.map_map]
      exact List.map_congr_left fun c hc => (B c hc).1
    have hup : Lib.hasPrefix (Lib.toUpperA (Lib.toLowerA raw)) [34] = false := low_prefix fun c hc e => by
      have := hww c hc; rw [e] at this; exact absurd this (by decide)
    have hfirst : ∃ c t, Lib.toUpperA (Lib.toLowerA raw) = c :: t ∧ letP c = true := by
      cases raw with
      | nil => exact absurd rfl hne
      | cons c t =>
        refine ⟨_, _, rfl, ?_⟩
        rw [prefix_cons, beq_eq_false_iff_ne] at hq
        refine (B c (List.mem_cons_self ..)).2.2.1 ?_
        rw [kindR_cons] at K
        by_cases hl : letP c = true
        · exact hl
        · rw [if_neg hl, if_neg hq] at K
          split at K
          · simp at K
          · split at K <;> simp at K
    obtain ⟨c, t, hct, hl⟩ := hfirst
    refine ⟨?_, ?_, ?_, ?_, ?_, ?_⟩
    · rw [hct]; simp
    · rw [hct]
      simp only [List.getElem?_cons_zero, ne_eq, Option.some.injEq]
      rintro rfl; exact absurd hl (by decide)
    · have hr := run_every (p := wordP) (k := 1) (by rw [hct]; simp) hww
      rw [hct] at hr ⊢
      rw [kindR_cons, if_pos hl, hr]
    · unfold txtK; rw [if_pos ⟨rfl, hup⟩]; exact hlow
    · rw [hul]; simp [Lib.toLowerA]
    · intro _ _ c hc
      obtain ⟨x, hx, rfl⟩ := List.mem_map.1 hc
      exact (B x hx).2.2.2.1
  · have ht : txtK kd raw = raw := by unfold txtK; rw [if_neg hq]
    have hu : upT (kd, raw, (a : Int)) = raw := by unfold upT; rw [if_neg hq]
    rw [ht, hu]
    exact ⟨hne, h32, K, ht, rfl, fun h1 h2 => absurd ⟨h1, h2⟩ hq⟩
theorem Toks.ends {l : List UInt8} {L : List Tk} (T : Toks l L) : Ends L := by
  refine ⟨T.pos, fun j hj => ?_⟩
  rw [T.tok j hj]
  constructor
  · intro h3
    apply Classical.byContradiction
    intro hl
    exact T.mid j (by omega) h3
  · intro h
    have := T.last
    rwa [show L.length - 1 = j by omega] at this
theorem scanF_256 (l : List UInt8) : ∀ n out k, out.length ≤ 256 → (scanF l n out k).1.length ≤ 256 := by
  intro n
  induction n with
  | zero => intro out k _; simp [scanF]
  | succ n ih =>
    intro out k h
    unfold scanF
    split
    · simp
    · split
      · simp
      · split
        · simp; omega
        · exact ih _ _ (by simp; omega)
theorem scanR_256 (l : List UInt8) : (scanR l).1.length ≤ 256 := by
  unfold scanR
  split
  · simp
  · exact scanF_256 l 257 [] 0 (by simp)
end Go.Proofs.YtlcpfhgobfjioaaDoor
