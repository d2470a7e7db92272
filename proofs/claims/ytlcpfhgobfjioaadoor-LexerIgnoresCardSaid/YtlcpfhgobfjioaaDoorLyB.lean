/- Law 7: where the first end stands (slices.IndexFunc with isEnd). -/
import Derived.Test.YtlcpfhgobfjioaaDoorLyA
set_option linter.unusedVariables false
set_option linter.unusedSimpArgs false
namespace Go.Proofs.YtlcpfhgobfjioaaDoor
open Go.RowKit Go.Shelf
open Z
/-- the place of the first end, or -1 -/
def endI (L : List Tk) : Int := if L.all (fun t => t.1 != 3) then -1 else (L.findIdx (fun t => t.1 == 3) : Nat)
theorem endI_at {L : List Tk} {k : Nat} (hk : k < L.length) (h3 : L[k].1 = 3) (h : ∀ j (hj : j < L.length), j < k → L[j].1 ≠ 3) : endI L = k := by
  unfold endI
  rw [if_neg, (List.findIdx_eq hk).2 ⟨by simpa using h3, fun j hj => by simpa using h j (by omega) hj⟩]
  intro hall
  have := List.all_eq_true.1 hall _ (List.getElem_mem hk)
  rw [h3] at this
  exact absurd this (by decide)
theorem endI_none {L : List Tk} (h : ∀ j (hj : j < L.length), L[j].1 ≠ 3) : endI L = -1 := by
  unfold endI
  rw [if_pos]
  rw [List.all_eq_true]
  intro x hx
  obtain ⟨j, hj, rfl⟩ := List.getElem_of_mem hx
  simpa using h j hj
theorem endI_ends {L : List Tk} : (0 < L.length ∧ endI L = ((L.length - 1 : Nat) : Int)) ↔ Ends L := by
  constructor
  · rintro ⟨hp, he⟩
    by_cases hall : ∀ j (hj : j < L.length), L[j].1 ≠ 3
    · rw [endI_none hall] at he; omega
    · have hx : ∃ x ∈ L, (x.1 == 3) = true := by
        apply Classical.byContradiction
        intro hno
        exact hall fun j hj e => hno ⟨L[j], List.getElem_mem hj, by simpa using e⟩
      have hlt := List.findIdx_lt_length_of_exists hx
      have hat := List.findIdx_getElem (w := hlt)
      have hne : endI L = (L.findIdx (fun t => t.1 == 3) : Nat) := by
        unfold endI
        rw [if_neg]
        intro hall2
        obtain ⟨x, hx1, hx2⟩ := hx
        have := List.all_eq_true.1 hall2 x hx1
        have h3 : x.1 = 3 := by simpa using hx2
        rw [h3] at this
        exact absurd this (by decide)
      rw [hne] at he
      have hi : L.findIdx (fun t => t.1 == 3) = L.length - 1 := by omega
      refine ⟨hp, fun j hj => ⟨fun h3 => ?_, fun hl => ?_⟩⟩
      · by_cases hj2 : j < L.findIdx (fun t => t.1 == 3)
        · have := List.not_of_lt_findIdx hj2
          exact absurd h3 (by simpa using this)
        · omega
      · have hj2 : j = L.findIdx (fun t => t.1 == 3) := by omega
        subst hj2
        simpa using hat
  · rintro ⟨hp, h⟩
    exact ⟨hp, endI_at (by omega) ((h (L.length - 1) (by omega)).2 (by omega)) fun j hj hl e => by have := (h j hj).1 e; omega⟩
set_option maxRecDepth 100000 in
set_option maxHeartbeats 2000000 in
theorem sl_IndexEnd {a : Option Addr} {L : List Tk} {c : Nat} (w : World) (hL : TksAt w a L) (hl : L.length ≤ 1000000000000) :
    Calls Tryd.prog 31 #[.slice a L.length c, .func (.func 32) #[] #[]] w fun e w' => e = .returned (.int .i64 (endI L)) ∧ Gr w w' := by
  have HL := Lib.hid hL
  obtain ⟨V, hV⟩ : ∃ V, endI L = V := ⟨_, rfl⟩
  have HV := Lib.hid hV
  rw [hV]
  obtain ⟨n, hn⟩ : ∃ n, L.length = n := ⟨_, rfl⟩
  have HN := Lib.hid hn
  rw [hn] at hl ⊢
  clear hL hn hV
  go_enter Tryd.func31, Tryd.ntmps31
  go_wp2
  go_loopw [8] (fun i wr => ∃ k : Nat, i = .int .i64 k ∧ k ≤ n ∧ Hid (Gr w wr) ∧ Hid (∀ j (hj : j < L.length), j < k → L[j].1 ≠ 3)) (fun i _ => n - (intOf i).toNat)
  case atStart => exact ⟨0, rfl, by omega, Lib.hid (Gr.refl _), Lib.hid fun j hj h => absurd h (by omega)⟩
  case round =>
    obtain ⟨k, rfl, hk, HG, HF⟩ := hrel
    by_cases hlt : k < n
    · have k1 : k < L.length := by rw [HN.out]; exact hlt
      obtain ⟨p, o, rfl, c0, c1, c2⟩ := (HL.out.gr HG.out).at k1
      have HYES : Hid (L[k].1 = 3 → V = k) := Lib.hid fun h => by rw [← HV.out]; exact endI_at k1 h HF.out
      have HNO : Hid (L[k].1 ≠ 3 → ∀ j (hj : j < L.length), j < k + 1 → L[j].1 ≠ 3) := Lib.hid fun h j hj hl => by
        by_cases e : j = k
        · subst e; exact h
        · exact HF.out j hj (by omega)
      generalize L[k] = x at *
      obtain ⟨kd, tx, ta⟩ := x
      simp only at c0 c1 c2 HYES HNO
      have C := Lib.hid (fun w => lx_isEnd kd (str tx) ta w)
      by_cases h3 : kd = 3
      · have z : (kd == 3) = true := by simp [h3]
        have hv := HYES.out h3
        rw [z] at C
        have HVK := Lib.hid hv
        clear HYES HNO HF h3 hv z
        go_wp2_with fail
        refine (C.out _).mono ?_; rintro e w1 ⟨rfl, hg1⟩
        have HG1 := Lib.hid (Gr.trans HG.out hg1); clear hg1 c0 c1 c2
        go_wp2
        go_ret
        exact ⟨by rw [HVK.out]; rfl, HG1.out⟩
      · have z : (kd == 3) = false := by rw [beq_eq_false_iff_ne]; exact h3
        have HF2 := Lib.hid (HNO.out h3)
        rw [z] at C
        clear HYES HNO HF h3 z
        go_wp2_with fail
        refine (C.out _).mono ?_; rintro e w1 ⟨rfl, hg1⟩
        have HG1 := Lib.hid (Gr.trans HG.out hg1); clear hg1 c0 c1 c2
        go_wp2
        go_roundw
        case rel => exact ⟨k + 1, by go_num, by omega, HG1, HF2⟩
        case measure => simp [intOf]; omega
    · have HVN : Hid (V = -1) := Lib.hid (by rw [← HV.out]; exact endI_none fun j hj => HF.out j hj (by rw [HN.out] at hj; omega))
      clear HF
      go_wp2
      go_ret
      exact ⟨by rw [HVN.out]; rfl, HG.out⟩
end Go.Proofs.YtlcpfhgobfjioaaDoor
