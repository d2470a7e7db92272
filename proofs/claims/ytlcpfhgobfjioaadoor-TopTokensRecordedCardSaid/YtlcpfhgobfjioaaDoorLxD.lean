/- Law 7: the reader's run, decimals, kind. -/
import Derived.Test.YtlcpfhgobfjioaaDoorLxC
set_option linter.unusedVariables false
set_option linter.unusedSimpArgs false
namespace Go.Proofs.YtlcpfhgobfjioaaDoor.Z
open Go
/-- the end of a number's decimals -/
def decK (l : List UInt8) (k : Nat) : Nat := if l[k]? = some 46 ∧ runK isD l (k + 1) ≠ k + 1 then runK isD l (k + 1) else k
/-- what begins at a place: its kind, the error, and how far the reader has come -/
def kindR (l : List UInt8) (k : Nat) : Int × Int × Nat := match l[k]? with
  | none => (3, 0, k)
  | some c =>
    if letP c then (0, 0, runK wordP l (k + 1))
    else if c = 34 then (if l[runK plainP l (k + 1)]? = some 34 then (0, 0, runK plainP l (k + 1) + 1) else (0, 4, runK plainP l (k + 1)))
    else if isD c then (1, 0, decK l (runK isD l (k + 1)))
    else if signP c then (2, 0, k + 1)
    else (0, 4, k)
theorem decK_le {l : List UInt8} {k : Nat} (hk : k ≤ l.length) : k ≤ decK l k ∧ decK l k ≤ l.length := by
  unfold decK
  split
  · rename_i h
    have hl : k < l.length := by
      by_cases hk : k < l.length
      · exact hk
      · rw [List.getElem?_eq_none (by omega)] at h; cases h.1
    have := runK_le (p := isD) (l := l) (k := k + 1) (by omega)
    omega
  · omega
theorem kindR_le {l : List UInt8} {k : Nat} (hk : k ≤ l.length) : k ≤ (kindR l k).2.2 ∧ (kindR l k).2.2 ≤ l.length := by
  unfold kindR
  by_cases hl : k < l.length
  · rw [List.getElem?_eq_getElem hl]
    simp only
    have h1 := runK_le (p := wordP) (l := l) (k := k + 1) (by omega)
    have h2 := runK_le (p := plainP) (l := l) (k := k + 1) (by omega)
    have h3 := runK_le (p := isD) (l := l) (k := k + 1) (by omega)
    have h4 := decK_le h3.2
    split
    · simp only; omega
    · split
      · split
        · rename_i h
          have : runK plainP l (k + 1) < l.length := by
            by_cases hh : runK plainP l (k + 1) < l.length
            · exact hh
            · rw [List.getElem?_eq_none (by omega)] at h; cases h
          simp only; omega
        · simp only; omega
      · split
        · simp only; omega
        · split <;> simp only <;> omega
  · rw [List.getElem?_eq_none (by omega)]; simp only; omega
end Go.Proofs.YtlcpfhgobfjioaaDoor.Z
namespace Go.Proofs.YtlcpfhgobfjioaaDoor
open Go.RowKit Go.Shelf
open Z
set_option maxRecDepth 100000 in
set_option maxHeartbeats 2000000 in
theorem lx_run (b : Nat) (s : ByteArray) (k : Nat) (v : Value) (p : UInt8 → Bool) (w : World) (hr : RdrAt w b s k) (hc : ClsAt b w v p) (hs : s.size ≤ 100000) (hk : k ≤ s.size) :
    Calls Tryd.prog 56 #[.pointer (some ⟨b, 0, none⟩), v] w fun e w' => e = .returned (.int .i64 ((runK p s.data.toList k - k : Nat) : Int)) ∧ RdrAt w' b s (runK p s.data.toList k) ∧ Upd b w w' := by
  have hsz : s.data.toList.length = s.size := by simp
  have HR := Lib.hid hr
  have HC := Lib.hid hc
  obtain ⟨K, hK⟩ : ∃ K, K = runK p s.data.toList k := ⟨_, rfl⟩
  have HK := Lib.hid hK
  have hKle := runK_le (p := p) (l := s.data.toList) (k := k) (by omega)
  rw [← hK, hsz] at hKle
  rw [← hK]
  obtain ⟨c0, c1, f1⟩ := hr
  have hv : ∃ id caps, v = .func (.func id) #[] caps := by obtain ⟨id, caps, h, -⟩ := hc; exact ⟨id, caps, h⟩
  obtain ⟨id, caps, rfl⟩ := hv
  clear hc hK
  go_enter Tryd.func56, Tryd.ntmps56
  go_wp2
  go_loopw [] (fun wr => ∃ j : Nat, j ≤ s.size ∧ Hid (runK p s.data.toList j = K) ∧ Hid (RdrAt wr b s j) ∧ Hid (Upd b w wr)) (fun wr => s.size - rdrN wr b)
  case atStart => exact ⟨k, hk, Lib.hid HK.out.symm, HR, Lib.hid (Upd.refl b w)⟩
  case round =>
    obtain ⟨j, hj, HJ, HRj, HU⟩ := hrel
    have HPj := Lib.hid HRj.out.pos
    have HCj := Lib.hid (HC.out.upd HU.out)
    clear c0 c1 f1
    by_cases hin : ∃ h : j < s.size, p s[j] = true
    · obtain ⟨hjl, hp⟩ := hin
      have HN := Lib.hid (lx_next_yes b s j _ p wr HRj.out HCj.out hs hjl hp)
      have HJ2 : Hid (runK p s.data.toList (j + 1) = K) := Lib.hid ((runK_in (by omega) (by rw [← get_data s j hjl]; exact hp)).symm.trans HJ.out)
      clear hp HRj HCj
      go_wp2_with fail
      refine HN.out.mono ?_; rintro e w2 ⟨rfl, hr2, hu2⟩
      have HR2 := Lib.hid hr2
      have HU2 := Lib.hid (HU.out.trans hu2)
      clear hr2 hu2 HN
      go_wp2
      go_roundw
      case rel => exact ⟨j + 1, by omega, HJ2, HR2, HU2⟩
      case measure =>
        rw [HR2.out.pos, HPj.out]; omega
    · have HN : Hid (Calls Tryd.prog 74 #[.pointer (some ⟨b, 0, none⟩), .func (.func id) #[] caps] wr fun e w' => e = .returned (.bool false) ∧ RdrAt w' b s j ∧ Upd b wr w') := by
        by_cases hjl : j < s.size
        · exact Lib.hid (lx_next_no b s j _ p wr HRj.out HCj.out hs hjl (by
            cases hq : p s[j]
            · rfl
            · exact absurd ⟨hjl, hq⟩ hin))
        · exact Lib.hid (lx_next_end b s j _ p wr HRj.out HCj.out hs (by omega))
      have hjK : j = K := by
        rw [← HJ.out, runK_out fun h => by
          cases hq : p s.data.toList[j]
          · rfl
          · exact absurd ⟨by omega, by rw [get_data s j (by omega)]; exact hq⟩ hin]
      subst hjK
      clear hin HRj HCj HJ HK
      go_wp2_with fail
      refine HN.out.mono ?_; rintro e w2 ⟨rfl, hr2, hu2⟩
      have HR2 := Lib.hid hr2
      have HU2 := Lib.hid (HU.out.trans hu2)
      obtain ⟨c0, c1, f1⟩ := hr2
      have hsub : IntKind.i64.wrap ((j : Int) - (k : Int)) = ((j - k : Nat) : Int) := by rw [IntKind.wrap_i64]; omega
      clear hu2 HN
      go_wp2
      go_ret
      exact ⟨by go_num, HR2.out, HU2.out⟩
end Go.Proofs.YtlcpfhgobfjioaaDoor
