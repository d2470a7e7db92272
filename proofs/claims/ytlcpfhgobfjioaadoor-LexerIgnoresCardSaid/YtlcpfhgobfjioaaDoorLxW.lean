/- Law 7: mathematics of the places of tokens. -/
import Derived.Test.YtlcpfhgobfjioaaDoorLxV
set_option linter.unusedVariables false
set_option linter.unusedSimpArgs false
namespace Go.Proofs.YtlcpfhgobfjioaaDoor
open Go.RowKit Go.Shelf
open Z
/-- where the token of a number begins to be looked for -/
def kAt (l : List UInt8) : Nat → Nat
  | 0 => 0
  | j + 1 => (tokR l (kAt l j)).2.2
theorem kAt_le (l : List UInt8) : ∀ j, kAt l j ≤ l.length
  | 0 => Nat.zero_le _
  | j + 1 => tokR_le (kAt_le l j)
/-- what a list of tokens is that Scan returns with no error -/
structure Toks (l : List UInt8) (L : List Tk) : Prop where
  pos : 0 < L.length
  tok : ∀ j (h : j < L.length), L[j] = (tokR l (kAt l j)).1
  ok : ∀ j, j < L.length → (tokR l (kAt l j)).2.1 = 0
  mid : ∀ j, j + 1 < L.length → (tokR l (kAt l j)).1.1 ≠ 3
  last : (tokR l (kAt l (L.length - 1))).1.1 = 3
theorem scanF_toks (l : List UInt8) : ∀ n out, out.length ≤ 256 → (∀ j (h : j < out.length), out[j] = (tokR l (kAt l j)).1) → (∀ j, j < out.length → (tokR l (kAt l j)).2.1 = 0 ∧ (tokR l (kAt l j)).1.1 ≠ 3) →
    257 ≤ out.length + n → (scanF l n out (kAt l out.length)).2.2 = 0 → Toks l (scanF l n out (kAt l out.length)).1 := by
  intro n
  induction n with
  | zero => intro out hl _ _ hn; omega
  | succ n ih =>
    intro out hl h1 h2 hn h0
    unfold scanF at h0 ⊢
    by_cases he : (tokR l (kAt l out.length)).2.1 ≠ 0
    · rw [if_pos he] at h0; exact absurd h0 he
    · rw [if_neg he] at h0 ⊢
      have he0 : (tokR l (kAt l out.length)).2.1 = 0 := by simpa using he
      by_cases hf : out.length = 256
      · rw [if_pos hf] at h0; exact absurd h0 (by simp)
      · rw [if_neg hf] at h0 ⊢
        have g1 : ∀ j (h : j < (out ++ [(tokR l (kAt l out.length)).1]).length), (out ++ [(tokR l (kAt l out.length)).1])[j] = (tokR l (kAt l j)).1 := fun j h => by
          by_cases hj : j < out.length
          · rw [List.getElem_append_left hj]; exact h1 j hj
          · have : j = out.length := by simp at h; omega
            subst this
            rw [List.getElem_append_right (by omega)]; simp
        by_cases h3 : (tokR l (kAt l out.length)).1.1 = 3
        · rw [if_pos h3] at h0 ⊢
          refine ⟨by simp, g1, fun j hj => ?_, fun j hj => ?_, ?_⟩
          · by_cases hj2 : j < out.length
            · exact (h2 j hj2).1
            · have : j = out.length := by simp at hj; omega
              subst this; exact he0
          · exact (h2 j (by simp at hj; omega)).2
          · simp only [List.length_append, List.length_singleton, Nat.add_sub_cancel]; exact h3
        · rw [if_neg h3] at h0 ⊢
          have e : (tokR l (kAt l out.length)).2.2 = kAt l (out ++ [(tokR l (kAt l out.length)).1]).length := by simp [kAt]
          rw [e] at h0 ⊢
          refine ih _ (by simp; omega) g1 (fun j hj => ?_) (by simp; omega) h0
          by_cases hj2 : j < out.length
          · exact h2 j hj2
          · have : j = out.length := by simp at hj; omega
            subst this; exact ⟨he0, h3⟩
theorem scan_toks {l : List UInt8} (h : (scanR l).2.2 = 0) : Toks l (scanR l).1 := by
  unfold scanR at h ⊢
  by_cases hl : 4096 < l.length
  · rw [if_pos hl] at h; exact absurd h (by simp)
  · rw [if_neg hl] at h ⊢
    exact scanF_toks l 257 [] (by simp) (fun j h => absurd h (by simp)) (fun j h => absurd h (by simp)) (by simp) h
theorem scanF_err (l : List UInt8) : ∀ n out k, k ≤ l.length → (scanF l n out k).2.2 ≠ 0 → (scanF l n out k).1 = [] ∧ 0 ≤ (scanF l n out k).2.1 ∧ (scanF l n out k).2.1 ≤ l.length := by
  intro n
  induction n with
  | zero => intro out k _ h; exact absurd rfl h
  | succ n ih =>
    intro out k hk h
    unfold scanF at h ⊢
    have hle := tokR_le hk
    by_cases he : (tokR l k).2.1 ≠ 0
    · rw [if_pos he]
      exact ⟨rfl, by simp, Int.ofNat_le.2 hle⟩
    · rw [if_neg he] at h ⊢
      by_cases hf : out.length = 256
      · rw [if_pos hf]
        have hs := skipB_le hk
        have ha : (tokR l k).1.2.2 = (skipB l k : Int) := by
          unfold tokR at he ⊢
          by_cases h2 : (kindR l (skipB l k)).2.1 ≠ 0
          · rw [if_pos h2] at he; exact absurd h2 he
          · rw [if_neg h2]
        exact ⟨rfl, by simp only [ha]; omega, by simp only [ha]; omega⟩
      · rw [if_neg hf] at h ⊢
        by_cases h3 : (tokR l k).1.1 = 3
        · rw [if_pos h3] at h; exact absurd rfl h
        · rw [if_neg h3] at h ⊢
          exact ih _ _ hle h
theorem scan_err {l : List UInt8} (h : (scanR l).2.2 ≠ 0) : (scanR l).1 = [] ∧ 0 ≤ (scanR l).2.1 ∧ (scanR l).2.1 ≤ l.length := by
  unfold scanR at h ⊢
  by_cases hl : 4096 < l.length
  · rw [if_pos hl]; simp
  · rw [if_neg hl] at h ⊢
    exact scanF_err l 257 [] 0 (Nat.zero_le _) h
/-- what a token is that stands at a place -/
theorem tok_facts {l : List UInt8} {k : Nat} (hk : k ≤ l.length) (he : (tokR l k).2.1 = 0) :
    (tokR l k).1.2.2 = (skipB l k : Int) ∧ (tokR l k).1.2.1.length = (tokR l k).2.2 - skipB l k ∧ skipB l k ≤ (tokR l k).2.2 ∧
    (tokR l k).1.2.1 = txtK (tokR l k).1.1 (cutL l (skipB l k) (tokR l k).2.2) ∧ ((tokR l k).1.1 = 3 → skipB l k = l.length) := by
  have hs := skipB_le hk
  have hkk := kindR_le hs.2
  have h2 : ¬ (kindR l (skipB l k)).2.1 ≠ 0 := by
    intro h2
    unfold tokR at he
    rw [if_pos h2] at he
    exact h2 he
  have e : tokR l k = (((kindR l (skipB l k)).1, txtK (kindR l (skipB l k)).1 (cutL l (skipB l k) (kindR l (skipB l k)).2.2), ((skipB l k : Nat) : Int)), 0, (kindR l (skipB l k)).2.2) := by
    unfold tokR; rw [if_neg h2]
  rw [e]
  refine ⟨rfl, ?_, hkk.1, rfl, ?_⟩
  · simp only
    rw [txtK_len, cut_len]; omega
  · simp only
    intro h3
    unfold kindR at h3
    by_cases hl : skipB l k < l.length
    · rw [List.getElem?_eq_getElem hl] at h3
      simp only at h3
      repeat' split at h3
      all_goals simp at h3
    · omega
theorem skip_blank {l : List UInt8} {k : Nat} (hk : k ≤ l.length) : ∀ c ∈ cutL l k (skipB l k), c = 32 := by
  intro c hc
  unfold cutL skipB at hc
  rw [show k + ((l.drop k).takeWhile (· == 32)).length - k = ((l.drop k).takeWhile (· == 32)).length by omega] at hc
  have ht : (l.drop k).take ((l.drop k).takeWhile (· == 32)).length = (l.drop k).takeWhile (· == 32) := by
    conv => lhs; arg 2; rw [← List.takeWhile_append_dropWhile (p := (· == 32)) (l := l.drop k)]
    exact List.take_left
  rw [ht] at hc
  simpa using List.all_eq_true.1 List.all_takeWhile c hc
/-- the text at a token's place is the token, or it is of ASCII and the token in capital letters -/
theorem tok_here {l : List UInt8} {k : Nat} (hk : k ≤ l.length) (he : (tokR l k).2.1 = 0) :
    cutL l (skipB l k) (tokR l k).2.2 = (tokR l k).1.2.1 ∨ ((∀ c ∈ cutL l (skipB l k) (tokR l k).2.2, c.toNat < 128) ∧ Lib.toLowerA (cutL l (skipB l k) (tokR l k).2.2) = (tokR l k).1.2.1) := by
  obtain ⟨-, -, -, h, -⟩ := tok_facts hk he
  have hs := skipB_le hk
  have h2 : ¬ (kindR l (skipB l k)).2.1 ≠ 0 := by
    intro h2
    unfold tokR at he
    rw [if_pos h2] at he
    exact h2 he
  have e1 : (tokR l k).1.1 = (kindR l (skipB l k)).1 := by unfold tokR; rw [if_neg h2]
  have e2 : (tokR l k).2.2 = (kindR l (skipB l k)).2.2 := by unfold tokR; rw [if_neg h2]
  unfold txtK at h
  by_cases hq : (tokR l k).1.1 = 0 ∧ Lib.hasPrefix (cutL l (skipB l k) (tokR l k).2.2) [34] = false
  · rw [if_pos hq] at h
    refine .inr ⟨fun c hc => ?_, h.symm⟩
    refine word_ascii (word_bytes hs.2 (by rw [← e1]; exact hq.1) (by simpa using h2) ?_ c ?_)
    · rw [← e2]; exact hq.2
    · rw [← e2]; exact hc
  · rw [if_neg hq] at h
    exact .inl h.symm
theorem place_facts {l : List UInt8} {L : List Tk} (T : Toks l L) {j : Nat} (h : j < L.length) : ∃ (kd : Int) (tx : List UInt8) (a : Nat), L[j] = (kd, tx, (a : Int)) ∧ kAt l j ≤ a ∧ a + tx.length = kAt l (j + 1) ∧ kAt l (j + 1) ≤ l.length ∧
    (∀ c ∈ cutL l (kAt l j) a, c = 32) ∧ (cutL l a (kAt l (j + 1)) = tx ∨ ((∀ c ∈ cutL l a (kAt l (j + 1)), c.toNat < 128) ∧ Lib.toLowerA (cutL l a (kAt l (j + 1))) = tx)) ∧
    (j + 1 = L.length → kd = 3 ∧ a = l.length) ∧ (j + 1 ≠ L.length → kd ≠ 3) := by
  have hk := kAt_le l j
  have he := T.ok j h
  obtain ⟨f1, f2, f3, f4, f5⟩ := tok_facts hk he
  have hb := skip_blank hk
  have hh := tok_here hk he
  refine ⟨(tokR l (kAt l j)).1.1, (tokR l (kAt l j)).1.2.1, skipB l (kAt l j), ?_, (skipB_le hk).1, ?_, kAt_le l (j + 1), hb, hh, fun e => ?_, fun e => ?_⟩
  · rw [T.tok j h, ← f1]
  · rw [f2]; show _ = (tokR l (kAt l j)).2.2; omega
  · have : j = L.length - 1 := by omega
    have h3 := T.last
    rw [← this] at h3
    exact ⟨h3, f5 h3⟩
  · exact T.mid j (by omega)
theorem trim_blank {l : List UInt8} (h : ∀ c ∈ l, c = 32) : Lib.trimB l 32 = [] := by
  have hd : ∀ l : List UInt8, (∀ c ∈ l, c = 32) → l.dropWhile (· == (32 : UInt8)) = [] := by
    intro l
    induction l with
    | nil => intro _; rfl
    | cons c l ih =>
      intro h
      rw [List.dropWhile_cons, h c (List.mem_cons_self ..)]
      simp only [beq_self_eq_true, if_true]
      exact ih fun c hc => h c (List.mem_cons_of_mem _ hc)
  unfold Lib.trimB Lib.trimLeftB Lib.trimRightB
  rw [hd l.reverse (fun c hc => h c (List.mem_reverse.1 hc))]
  rfl
end Go.Proofs.YtlcpfhgobfjioaaDoor
