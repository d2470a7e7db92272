/- LxSW: LxS, LxT, LxU, LxV, LxW, joined. -/
import Derived.Test.YtlcpfhgobfjioaaDoorLxNR
set_option linter.unusedVariables false
set_option linter.unusedSimpArgs false

/- Law 7: LexerScans. -/
namespace Go.Proofs.YtlcpfhgobfjioaaDoor.Z
open Go
end Go.Proofs.YtlcpfhgobfjioaaDoor.Z
namespace Go.Proofs.YtlcpfhgobfjioaaDoor
open Go.RowKit Go.Shelf
open Z
end Go.Proofs.YtlcpfhgobfjioaaDoor

/- Law 7: mathematics of Word, Number, Quote, Unquote. -/
namespace Go.Proofs.YtlcpfhgobfjioaaDoor
open Go.RowKit Go.Shelf
open Z
theorem cut_len (l : List UInt8) (a b : Nat) : (cutL l a b).length = min (b - a) (l.length - a) := by unfold cutL; simp
theorem cut_all (l : List UInt8) : cutL l 0 l.length = l := by unfold cutL; simp
theorem txtK_len (kd : Int) (t : List UInt8) : (txtK kd t).length = t.length := by
  unfold txtK Lib.toLowerA
  split <;> simp
theorem isTok_iff {l : List UInt8} {kd : Int} : isTok l kd = true ↔ skipB l 0 = 0 ∧ (kindR l 0).1 = kd ∧ (kindR l 0).2.1 = 0 ∧ (kindR l 0).2.2 = l.length ∧ txtK kd l = l := by
  unfold isTok
  simp only [Bool.and_eq_true, decide_eq_true_eq]
  unfold tokR
  have hs := skipB_le (l := l) (k := 0) (Nat.zero_le _)
  have hk := kindR_le hs.2
  by_cases he : (kindR l (skipB l 0)).2.1 = 0
  · rw [if_neg (by simpa using he)]
    simp only
    constructor
    · rintro ⟨-, h1, h2⟩
      have hl := congrArg List.length h2
      rw [txtK_len, cut_len] at hl
      have h0 : skipB l 0 = 0 := by omega
      rw [h0] at hl h1 h2 he hk
      have hend : (kindR l 0).2.2 = l.length := by omega
      rw [hend, cut_all, h1] at h2
      exact ⟨h0, h1, he, hend, h2⟩
    · rintro ⟨h0, h1, h2, h3, h4⟩
      rw [h0, h1, h3, cut_all]
      exact ⟨trivial, rfl, h4⟩
  · rw [if_pos he]
    constructor
    · rintro ⟨h, -⟩; exact absurd h he
    · rintro ⟨h0, -, h2, -⟩; rw [h0] at he; exact absurd h2 he
theorem kindR_cons (c : UInt8) (t : List UInt8) : kindR (c :: t) 0 =
    if letP c then (0, 0, runK wordP (c :: t) 1)
    else if c = 34 then (if (c :: t)[runK plainP (c :: t) 1]? = some 34 then (0, 0, runK plainP (c :: t) 1 + 1) else (0, 4, runK plainP (c :: t) 1))
    else if isD c then (1, 0, decK (c :: t) (runK isD (c :: t) 1))
    else if signP c then (2, 0, 1)
    else (0, 4, 0) := rfl
theorem kindR_nil : kindR [] 0 = (3, 0, 0) := rfl
end Go.Proofs.YtlcpfhgobfjioaaDoor

/- Law 7: the reference's Word, Number, Plain, Quote, Unquote. -/
namespace Go.Proofs.YtlcpfhgobfjioaaDoor
open Go.RowKit Go.Shelf
open Z
end Go.Proofs.YtlcpfhgobfjioaaDoor

/- Law 7: LexerWords and LexerQuotes. -/
namespace Go.Proofs.YtlcpfhgobfjioaaDoor
open Go.RowKit Go.Shelf
open Z
end Go.Proofs.YtlcpfhgobfjioaaDoor

/- Law 7: mathematics of the places of tokens. -/
namespace Go.Proofs.YtlcpfhgobfjioaaDoor
open Go.RowKit Go.Shelf
open Z
/-- where the token of a number begins to be looked for -/
def kAt (l : List UInt8) : Nat → Nat
  | 0 => 0
  | j + 1 => (tokR l (kAt l j)).2.2
theorem kAt_le (l : List UInt8) : ∀ j, kAt l j ≤ l.length
  | 0 => Nat.zero_le _
  | j + 1 => tokR_le (kAt_le l j)
/-- what a list of tokens is that Scan returns with no error -/
structure Toks (l : List UInt8) (L : List Tk) : Prop where
  pos : 0 < L.length
  tok : ∀ j (h : j < L.length), L[j] = (tokR l (kAt l j)).1
  ok : ∀ j, j < L.length → (tokR l (kAt l j)).2.1 = 0
  mid : ∀ j, j + 1 < L.length → (tokR l (kAt l j)).1.1 ≠ 3
  last : (tokR l (kAt l (L.length - 1))).1.1 = 3
theorem scanF_toks (l : List UInt8) : ∀ n out, out.length ≤ 256 → (∀ j (h : j < out.length), out[j] = (tokR l (kAt l j)).1) → (∀ j, j < out.length → (tokR l (kAt l j)).2.1 = 0 ∧ (tokR l (kAt l j)).1.1 ≠ 3) →
    257 ≤ out.length + n → (scanF l n out (kAt l out.length)).2.2 = 0 → Toks l (scanF l n out (kAt l out.length)).1 := by
  intro n
  induction n with
  | zero => intro out hl _ _ hn; omega
  | succ n ih =>
    intro out hl h1 h2 hn h0
    unfold scanF at h0 ⊢
    by_cases he : (tokR l (kAt l out.length)).2.1 ≠ 0
    · rw [if_pos he] at h0; exact absurd h0 he
    · rw [if_neg he] at h0 ⊢
      have he0 : (tokR l (kAt l out.length)).2.1 = 0 := by simpa using he
      by_cases hf : out.length = 256
      · rw [if_pos hf] at h0; exact absurd h0 (by simp)
      · rw [if_neg hf] at h0 ⊢
        have g1 : ∀ j (h : j < (out ++ [(tokR l (kAt l out.length)).1]).length), (out ++ [(tokR l (kAt l out.length)).1])[j] = (tokR l (kAt l j)).1 := fun j h => by
          by_cases hj : j < out.length
          · rw [List.getElem_append_left hj]; exact h1 j hj
          · have : j = out.length := by simp at h; omega
            subst this
            rw [List.getElem_append_right (by omega)]; simp
        by_cases h3 : (tokR l (kAt l out.length)).1.1 = 3
        · rw [if_pos h3] at h0 ⊢
          refine ⟨by simp, g1, fun j hj => ?_, fun j hj => ?_, ?_⟩
          · by_cases hj2 : j < out.length
            · exact (h2 j hj2).1
            · have : j = out.length := by simp at hj; omega
              subst this; exact he0
          · exact (h2 j (by simp at hj; omega)).2
          · simp only [List.length_append, List.length_singleton, Nat.add_sub_cancel]; exact h3
        · rw [if_neg h3] at h0 ⊢
          have e : (tokR l (kAt l out.length)).2.2 = kAt l (out ++ [(tokR l (kAt l out.length)).1]).length := by simp [kAt]
          rw [e] at h0 ⊢
          refine ih _ (by simp; omega) g1 (fun j hj => ?_) (by simp; omega) h0
          by_cases hj2 : j < out.length
          · exact h2 j hj2
          · have : j = out.length := by simp at hj; omega
            subst this; exact ⟨he0, h3⟩
theorem scan_toks {l : List UInt8} (h : (scanR l).2.2 = 0) : Toks l (scanR l).1 := by
  unfold scanR at h ⊢
  by_cases hl : 4096 < l.length
  · rw [if_pos hl] at h; exact absurd h (by simp)
  · rw [if_neg hl] at h ⊢
    exact scanF_toks l 257 [] (by simp) (fun j h => absurd h (by simp)) (fun j h => absurd h (by simp)) (by simp) h
/-- what a token is that stands at a place -/
theorem tok_facts {l : List UInt8} {k : Nat} (hk : k ≤ l.length) (he : (tokR l k).2.1 = 0) :
    (tokR l k).1.2.2 = (skipB l k : Int) ∧ (tokR l k).1.2.1.length = (tokR l k).2.2 - skipB l k ∧ skipB l k ≤ (tokR l k).2.2 ∧
    (tokR l k).1.2.1 = txtK (tokR l k).1.1 (cutL l (skipB l k) (tokR l k).2.2) ∧ ((tokR l k).1.1 = 3 → skipB l k = l.length) := by
  have hs := skipB_le hk
  have hkk := kindR_le hs.2
  have h2 : ¬ (kindR l (skipB l k)).2.1 ≠ 0 := by
    intro h2
    unfold tokR at he
    rw [if_pos h2] at he
    exact h2 he
  have e : tokR l k = (((kindR l (skipB l k)).1, txtK (kindR l (skipB l k)).1 (cutL l (skipB l k) (kindR l (skipB l k)).2.2), ((skipB l k : Nat) : Int)), 0, (kindR l (skipB l k)).2.2) := by
    unfold tokR; rw [if_neg h2]
  rw [e]
  refine ⟨rfl, ?_, hkk.1, rfl, ?_⟩
  · simp only
    rw [txtK_len, cut_len]; omega
  · simp only
    intro h3
    unfold kindR at h3
    by_cases hl : skipB l k < l.length
    · rw [List.getElem?_eq_getElem hl] at h3
      simp only at h3
      repeat' split at h3
      all_goals simp at h3
    · omega
theorem skip_blank {l : List UInt8} {k : Nat} (hk : k ≤ l.length) : ∀ c ∈ cutL l k (skipB l k), c = 32 := by
  intro c hc
  unfold cutL skipB at hc
  rw [show k + ((l.drop k).takeWhile (· == 32)).length - k = ((l.drop k).takeWhile (· == 32)).length by omega] at hc
  have ht : (l.drop k).take ((l.drop k).takeWhile (· == 32)).length = (l.drop k).takeWhile (· == 32) := by
    conv => lhs; arg 2; rw [← List.takeWhile_append_dropWhile (p := (· == 32)) (l := l.drop k)]
    exact List.take_left
  rw [ht] at hc
  simpa using List.all_eq_true.1 List.all_takeWhile c hc
/-- the text at a token's place is the token, or it is of ASCII and the token in capital letters -/
theorem tok_here {l : List UInt8} {k : Nat} (hk : k ≤ l.length) (he : (tokR l k).2.1 = 0) :
    cutL l (skipB l k) (tokR l k).2.2 = (tokR l k).1.2.1 ∨ ((∀ c ∈ cutL l (skipB l k) (tokR l k).2.2, c.toNat < 128) ∧ Lib.toLowerA (cutL l (skipB l k) (tokR l k).2.2) = (tokR l k).1.2.1) := by
  obtain ⟨-, -, -, h, -⟩ := tok_facts hk he
  have hs := skipB_le hk
  have h2 : ¬ (kindR l (skipB l k)).2.1 ≠ 0 := by
    intro h2
    unfold tokR at he
    rw [if_pos h2] at he
    exact h2 he
  have e1 : (tokR l k).1.1 = (kindR l (skipB l k)).1 := by unfold tokR; rw [if_neg h2]
  have e2 : (tokR l k).2.2 = (kindR l (skipB l k)).2.2 := by unfold tokR; rw [if_neg h2]
  unfold txtK at h
  by_cases hq : (tokR l k).1.1 = 0 ∧ Lib.hasPrefix (cutL l (skipB l k) (tokR l k).2.2) [34] = false
  · rw [if_pos hq] at h
    refine .inr ⟨fun c hc => ?_, h.symm⟩
    refine word_ascii (word_bytes hs.2 (by rw [← e1]; exact hq.1) (by simpa using h2) ?_ c ?_)
    · rw [← e2]; exact hq.2
    · rw [← e2]; exact hc
  · rw [if_neg hq] at h
    exact .inl h.symm
theorem place_facts {l : List UInt8} {L : List Tk} (T : Toks l L) {j : Nat} (h : j < L.length) : ∃ (kd : Int) (tx : List UInt8) (a : Nat), L[j] = (kd, tx, (a : Int)) ∧ kAt l j ≤ a ∧ a + tx.length = kAt l (j + 1) ∧ kAt l (j + 1) ≤ l.length ∧
    (∀ c ∈ cutL l (kAt l j) a, c = 32) ∧ (cutL l a (kAt l (j + 1)) = tx ∨ ((∀ c ∈ cutL l a (kAt l (j + 1)), c.toNat < 128) ∧ Lib.toLowerA (cutL l a (kAt l (j + 1))) = tx)) ∧
    (j + 1 = L.length → kd = 3 ∧ a = l.length) ∧ (j + 1 ≠ L.length → kd ≠ 3) := by
  have hk := kAt_le l j
  have he := T.ok j h
  obtain ⟨f1, f2, f3, f4, f5⟩ := tok_facts hk he
  have hb := skip_blank hk
  have hh := tok_here hk he
  refine ⟨(tokR l (kAt l j)).1.1, (tokR l (kAt l j)).1.2.1, skipB l (kAt l j), ?_, (skipB_le hk).1, ?_, kAt_le l (j + 1), hb, hh, fun e => ?_, fun e => ?_⟩
  · rw [T.tok j h, ← f1]
  · rw [f2]; show _ = (tokR l (kAt l j)).2.2; omega
  · have : j = L.length - 1 := by omega
    have h3 := T.last
    rw [← this] at h3
    exact ⟨h3, f5 h3⟩
  · exact T.mid j (by omega)
end Go.Proofs.YtlcpfhgobfjioaaDoor
