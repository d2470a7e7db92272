/- Law 7: the reader's decimals and kind. -/
import Derived.Test.YtlcpfhgobfjioaaDoorLxD
set_option linter.unusedVariables false
set_option linter.unusedSimpArgs false
namespace Go.Proofs.YtlcpfhgobfjioaaDoor
open Go.RowKit Go.Shelf
open Z
theorem RdrAt.lt {w : World} {b : Nat} {s : ByteArray} {k : Nat} (h : RdrAt w b s k) : b < w.heap.size := cellLt h.c0
theorem getq {s : ByteArray} {k : Nat} (hk : k < s.size) : s.data.toList[k]? = some s[k] := by
  rw [List.getElem?_eq_getElem (by simpa using hk)]; rfl
/-- the answer of next as one contract -/
def nextB (p : UInt8 → Bool) (s : ByteArray) (k : Nat) : Bool := match s.data.toList[k]? with
  | none => false
  | some c => p c
theorem lx_nextR (b : Nat) (s : ByteArray) (k : Nat) (v : Value) (p : UInt8 → Bool) (w : World) (hr : RdrAt w b s k) (hc : ClsAt b w v p) (hs : s.size ≤ 100000) (hk : k ≤ s.size) :
    Calls Tryd.prog 74 #[.pointer (some ⟨b, 0, none⟩), v] w fun e w' => e = .returned (.bool (nextB p s k)) ∧ RdrAt w' b s (if nextB p s k = true then k + 1 else k) ∧ Upd b w w' := by
  by_cases hkl : k < s.size
  · have hq : nextB p s k = p s[k] := by unfold nextB; rw [getq hkl]
    cases hp : p s[k]
    · rw [hq, hp]; simpa using lx_next_no b s k v p w hr hc hs hkl hp
    · rw [hq, hp]; simpa using lx_next_yes b s k v p w hr hc hs hkl hp
  · have hq : nextB p s k = false := by unfold nextB; rw [List.getElem?_eq_none (by simp; omega)]
    rw [hq]; simpa using lx_next_end b s k v p w hr hc hs (by omega)
set_option maxRecDepth 100000 in
set_option maxHeartbeats 2000000 in
theorem lx_decimals (b : Nat) (s : ByteArray) (k : Nat) (w : World) (hr : RdrAt w b s k) (hs : s.size ≤ 100000) (hk : k ≤ s.size) :
    Calls Tryd.prog 81 #[.pointer (some ⟨b, 0, none⟩)] w fun e w' => e = .returned (.tuple #[]) ∧ RdrAt w' b s (decK s.data.toList k) ∧ Upd b w w' := by
  have hsz : s.data.toList.length = s.size := by simp
  have HP := Lib.hid (lx_one_point b w hr.lt)
  have HR := Lib.hid hr
  obtain ⟨c0, c1, f1⟩ := hr
  have HNX := Lib.hid (fun v w' (h1 : RdrAt w' b s k) (h2 : ClsAt b w' v fun c => c == 46) => lx_nextR b s k v _ w' h1 h2 hs hk)
  obtain ⟨K, hK⟩ : ∃ K, decK s.data.toList k = K := ⟨_, rfl⟩
  have HK := Lib.hid hK
  rw [hK]
  clear hK
  go_enter Tryd.func81, Tryd.ntmps81
  go_wp2_with fail
  refine HP.out.mono ?_; rintro e w1 ⟨v, rfl, hc, hg⟩
  have HN := Lib.hid (HNX.out v w1 (HR.out.gr hg) hc)
  have HU1 := Lib.hid (Upd.of_gr (b := b) hg)
  clear hc hg HP HNX c0 c1 f1
  cases hn : nextB (fun c => c == 46) s k
  · rw [hn] at HN
    have hkK : k = K := by
      rw [← HK.out]
      unfold decK
      rw [if_neg]
      rintro ⟨h, -⟩
      unfold nextB at hn
      rw [h] at hn
      simp at hn
    subst hkK
    clear hn HK HR
    simp only [Bool.false_eq_true, if_false] at HN
    go_wp2_with fail
    refine HN.out.mono ?_; rintro e w2 ⟨rfl, hr2, hu2⟩
    have HR2 := Lib.hid hr2
    have HU2 := Lib.hid (HU1.out.trans hu2)
    clear hr2 hu2 HN
    go_wp2
    (try simp only [Exit.inBlock, Exit.then])
    (first | (refine bodyPost_ret (results_none rfl _ _ _) rfl ?_) | (refine bodyPost_end (results_none rfl _ _ _) rfl ?_))
    exact ⟨rfl, HR2.out, HU2.out⟩
  · rw [hn] at HN
    simp only [if_true] at HN
    have hkl : k < s.size := by
      by_cases h : k < s.size
      · exact h
      · unfold nextB at hn; rw [List.getElem?_eq_none (by simp; omega)] at hn; cases hn
    have h46 : s.data.toList[k]? = some 46 := by
      unfold nextB at hn; rw [getq hkl] at hn ⊢
      simp at hn; rw [hn]
    have HK2 : Hid (K = if runK isD s.data.toList (k + 1) ≠ k + 1 then runK isD s.data.toList (k + 1) else k) := Lib.hid (by
      rw [← HK.out]; unfold decK
      by_cases h : runK isD s.data.toList (k + 1) ≠ k + 1
      · rw [if_pos ⟨h46, h⟩, if_pos h]
      · rw [if_neg (fun e => h e.2), if_neg h])
    clear hn HK HR h46
    go_wp2_with fail
    refine HN.out.mono ?_; rintro e w2 ⟨rfl, hr2, hu2⟩
    have HR2 := Lib.hid hr2
    have HU2 := Lib.hid (HU1.out.trans hu2)
    have HD := Lib.hid (lx_digit b w2 hr2.lt)
    clear hr2 hu2 HN HU1
    go_wp2_with fail
    refine HD.out.mono ?_; rintro e w3 ⟨v3, rfl, hc, hg⟩
    have HN3 := Lib.hid (lx_run b s (k + 1) v3 isD w3 (HR2.out.gr hg) hc hs (by omega))
    have HU3 := Lib.hid (HU2.out.trans (Upd.of_gr hg))
    have hrl := runK_le (p := isD) (l := s.data.toList) (k := k + 1) (by omega)
    clear hc hg HD HR2 HU2
    generalize runK isD s.data.toList (k + 1) = q at *
    go_wp2_with fail
    refine HN3.out.mono ?_; rintro e w4 ⟨rfl, hr4, hu4⟩
    have HR4 := Lib.hid hr4
    have HU4 := Lib.hid (HU3.out.trans hu4)
    clear hr4 hu4 HN3 HU3
    by_cases hq : q = k + 1
    · have hv : K = k := by rw [HK2.out, if_neg (by simp [hq])]
      have h0 : q - (k + 1) = 0 := by omega
      clear HK2
      subst hv
      obtain ⟨c0, c1, f1⟩ := HR4.out
      have HR5 := Lib.hid (HR4.out.set K)
      have HU5 := Lib.hid (HU4.out.trans (Upd.set (b := b) (o := 1) w4 (.int .i64 (K : Nat))))
      have hb0 : (((q - (K + 1) : Nat) : Int) == 0) = true := by rw [h0]; rfl
      clear hq h0 hrl
      generalize q - (K + 1) = z at *
      go_wp2
      (try simp only [Exit.inBlock, Exit.then])
      (first | (refine bodyPost_ret (results_none rfl _ _ _) rfl ?_) | (refine bodyPost_end (results_none rfl _ _ _) rfl ?_))
      exact ⟨rfl, HR5.out, HU5.out⟩
    · have hv : K = q := by rw [HK2.out, if_pos hq]
      clear HK2
      subst hv
      have hb0 : (((K - (k + 1) : Nat) : Int) == 0) = false := by rw [beq_eq_false_iff_ne]; omega
      clear hq hrl
      generalize K - (k + 1) = z at *
      go_wp2
      (try simp only [Exit.inBlock, Exit.then])
      (first | (refine bodyPost_ret (results_none rfl _ _ _) rfl ?_) | (refine bodyPost_end (results_none rfl _ _ _) rfl ?_))
      exact ⟨rfl, HR4.out, HU4.out⟩
end Go.Proofs.YtlcpfhgobfjioaaDoor
