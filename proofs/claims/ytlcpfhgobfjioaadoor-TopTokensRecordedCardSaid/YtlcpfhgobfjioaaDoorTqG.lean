/- T4: mathematics of tokens that are joined: what Scan returns can be joined. -/
import Derived.Test.YtlcpfhgobfjioaaDoorLyI
import Derived.Test.YtlcpfhgobfjioaaDoorTqC
set_option linter.unusedVariables false
set_option linter.unusedSimpArgs false
namespace Go.Proofs.YtlcpfhgobfjioaaDoor
open Go.RowKit Go.Shelf
open Z Rc
theorem kind_range (l : List UInt8) (k : Nat) : 0 ≤ (kindR l k).1 ∧ (kindR l k).1 ≤ 3 := by
  unfold kindR
  split
  · simp
  · repeat' split
    all_goals simp
theorem low_byte : ∀ n, n < 256 → (wordP (UInt8.ofNat n) = true → wordP (Lib.lowerB (UInt8.ofNat n)) = true ∧ (letP (UInt8.ofNat n) = true → letP (Lib.lowerB (UInt8.ofNat n)) = true) ∧ Lib.lowerB (Lib.lowerB (UInt8.ofNat n)) = Lib.lowerB (UInt8.ofNat n)) := by decide +kernel
theorem low_c (c : UInt8) : wordP c = true → wordP (Lib.lowerB c) = true ∧ (letP c = true → letP (Lib.lowerB c) = true) ∧ Lib.lowerB (Lib.lowerB c) = Lib.lowerB c := by
  have := low_byte c.toNat c.toNat_lt
  simpa only [UInt8.ofNat_toNat] using this
/-- a token of a text is a token by itself -/
theorem tok_self {l : List UInt8} {k : Nat} (hk : k ≤ l.length) (he : (tokR l k).2.1 = 0) : chkR (tokR l k).1.1 (tokR l k).1.2.1 = 0 := by
  by_cases h3 : (tokR l k).1.1 = 3
  · obtain ⟨f1, f2, f3, f4, f5⟩ := tok_facts hk he
    have hs := f5 h3
    have hle := tokR_le hk
    have : (tokR l k).1.2.1 = [] := List.eq_nil_of_length_eq_zero (by omega)
    rw [h3, this]
    unfold chkR
    rw [if_neg (by decide), if_pos (isTok_end.2 rfl)]
  · have hr : 0 ≤ (tokR l k).1.1 ∧ (tokR l k).1.1 ≤ 3 := by
      unfold tokR
      split
      · simp
      · exact kind_range _ _
    obtain ⟨u1, u2, u3, u4, u5, -⟩ := tok_up hk he h3
    have key : ∀ tx : List UInt8, tx ≠ [] → tx[0]? ≠ some 32 → kindR tx 0 = ((tokR l k).1.1, 0, tx.length) → txtK (tokR l k).1.1 tx = tx → chkR (tokR l k).1.1 tx = 0 := by
      intro tx h1 h2 hk2 h4
      have hp : 0 < tx.length := List.length_pos_iff.2 h1
      unfold chkR
      rw [if_neg (by omega), if_pos]
      rw [isTok_iff]
      refine ⟨skipB_stop fun hkl e => h2 (by rw [List.getElem?_eq_getElem hkl, e]), ?_, ?_, ?_, h4⟩ <;> rw [hk2]
    by_cases hq : (tokR l k).1.1 = 0 ∧ Lib.hasPrefix (tokR l k).1.2.1 [34] = false
    · generalize hup : upT (tokR l k).1 = up at *
      generalize (tokR l k).1.2.1 = tx at *
      generalize (tokR l k).1.1 = kd at *
      obtain ⟨rfl, hq⟩ := hq
      have hpf : Lib.hasPrefix up [34] = false := by
        apply Classical.byContradiction
        intro h
        unfold txtK at u4
        rw [if_neg (fun e => h e.2)] at u4
        rw [u4] at h; exact h hq
      have ht : tx = Lib.toLowerA up := by
        unfold txtK at u4
        rw [if_pos ⟨rfl, hpf⟩] at u4
        exact u4.symm
      have hall : ∀ c ∈ up, wordP c = true := by
        have := word_bytes (l := up) (k := 0) (Nat.zero_le _) (by rw [u3]) (by rw [u3]) (by rw [u3]; simp only; rw [cut_all]; exact hpf)
        rw [u3] at this
        simp only at this
        rwa [cut_all] at this
      subst ht
      have hww : ∀ c ∈ Lib.toLowerA up, wordP c = true := fun c hc => by
        obtain ⟨x, hx, rfl⟩ := List.mem_map.1 hc
        exact (low_c x (hall x hx)).1
      have hfirst : ∃ c t, Lib.toLowerA up = c :: t ∧ letP c = true := by
        cases up with
        | nil => exact absurd rfl u1
        | cons c t =>
          refine ⟨_, _, rfl, ?_⟩
          rw [prefix_cons, beq_eq_false_iff_ne] at hpf
          refine (low_c c (hall c (List.mem_cons_self ..))).2.1 ?_
          rw [kindR_cons] at u3
          by_cases hl : letP c = true
          · exact hl
          · rw [if_neg hl, if_neg hpf] at u3
            split at u3
            · simp at u3
            · split at u3 <;> simp at u3
      obtain ⟨c, t, hct, hl⟩ := hfirst
      refine key _ ?_ ?_ ?_ ?_
      · rw [hct]; simp
      · rw [hct]
        simp only [List.getElem?_cons_zero, ne_eq, Option.some.injEq]
        rintro rfl; exact absurd hl (by decide)
      · have hr := run_every (p := wordP) (k := 1) (by rw [hct]; simp) hww
        rw [hct] at hr ⊢
        rw [kindR_cons, if_pos hl, hr]
      · unfold txtK
        rw [if_pos ⟨rfl, hq⟩]
        unfold Lib.toLowerA
        rw [List.map_map]
        exact List.map_congr_left fun c hc => (low_c c (hall c hc)).2.2
    · have hu : upT (tokR l k).1 = (tokR l k).1.2.1 := by unfold upT; rw [if_neg hq]
      rw [hu] at u1 u2 u3 u4
      exact key _ u1 u2 u3 u4
theorem sum_kAt {s : List UInt8} {L : List Tk} (T : Toks s L) : ∀ j, j ≤ L.length → sumT (L.take j) ≤ kAt s j
  | 0, _ => by simp [sumT]
  | j + 1, h => by
    have ih := sum_kAt T j (by omega)
    obtain ⟨kd, tx, a, ea, e1, e2, -⟩ := place_facts T (j := j) (by omega)
    rw [sumT_snoc (by omega), ea]
    simp only
    omega
/-- the tokens of a short text can be joined, and are found again -/
theorem toks_join {s : List UInt8} (hs : s.length ≤ 200) (h0 : (scanR s).2.2 = 0) : (scanR s).1.length ≤ 256 ∧ sumT (scanR s).1 ≤ 200 ∧ joinR (scanR s).1 = (jt (scanR s).1 ((scanR s).1.length - 1), 0) ∧ (jt (scanR s).1 ((scanR s).1.length - 1)).length ≤ 456 := by
  have T := scan_toks h0
  have hn := scanR_256 s
  generalize (scanR s).1 = L at *
  have h1 := sum_kAt T L.length (Nat.le_refl _)
  have h2 := kAt_le s L.length
  rw [List.take_length] at h1
  have hsum : sumT (L.take (L.length - 1)) ≤ 200 := Nat.le_trans (sum_kAt T (L.length - 1) (by omega)) (Nat.le_trans (kAt_le s _) hs)
  have hj := jt_len (L := L) (L.length - 1) (by omega)
  refine ⟨hn, by omega, ?_, by omega⟩
  rw [join_ok T.ends (fun j hj => by rw [T.tok j hj]; exact tok_self (kAt_le s j) (T.ok j hj)), if_neg (by omega)]
end Go.Proofs.YtlcpfhgobfjioaaDoor
