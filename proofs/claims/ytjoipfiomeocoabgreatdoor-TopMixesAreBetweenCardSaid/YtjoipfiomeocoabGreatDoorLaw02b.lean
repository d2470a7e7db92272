/- The law's helpers of layer 2: short. -/
import Derived.Test.YtjoipfiomeocoabGreatDoorLaw02a
import Derived.Test.YtjoipfiomeocoabGreatDoorLaw01b
set_option linter.unusedVariables false
set_option linter.unusedSimpArgs false
namespace Go.Proofs.YtjoipfiomeocoabGreatDoor
open Go.RowKit Go.Shelf
open Z

def shortB (s : ByteArray) : Bool := decide (s.size ≤ 120) && (chkS s == 0)
theorem retG_Few {w0 : World} {s : ByteArray} (hs : s.size ≤ maxLen) : RetG w0 69 #[.string s] (.bool (decide (s.size ≤ 120))) := .of fun w1 _ => ret_Few2 hs
theorem retG_Check2 {w0 : World} {s : ByteArray} (hs : s.size ≤ 400000) : RetG w0 20 #[.string s] (.int .i64 (chkS s)) := .of fun w1 _ => r2_Check s hs
set_option maxHeartbeats 2000000 in
set_option maxRecDepth 100000 in
theorem l2_short (g : Nat) (l : List ByteArray) (w : World) (hl : l.length ≤ 1000) (hc : Strs w g l) (hsz : ∀ s ∈ l, s.size ≤ maxLen) :
    Calls Tryz.prog 28 #[.slice (some ⟨g, 0, none⟩) l.length l.length] w (fun e w' => e = .returned (.bool (l.all shortB)) ∧ Gr w w') := by
  have HC := Lib.hid hc
  have HSZ := Lib.hid hsz
  clear hc hsz
  go_enter Tryz.func28, Tryz.ntmps28
  go_wp2
  go_loopw [4, 7] (fun _ i wr => ∃ k : Nat, k ≤ l.length ∧ i = .int .i64 k ∧ Hid (Gr w wr) ∧ Hid (∀ j (h : j < l.length), j < k → shortB l[j] = true)) (fun _ i _ => l.length - (intOf i).toNat)
  case atStart => exact ⟨0, Nat.zero_le _, rfl, Gr.refl _, fun j hj h => absurd h (by omega)⟩
  case round =>
    obtain ⟨k, hk, rfl, HR, HK⟩ := hrel
    by_cases hlt : k < l.length
    · have hcell := gr_cell HR.out (HC.out k hlt)
      have hmx := HSZ.out _ (List.getElem_mem hlt)
      obtain ⟨s, HS⟩ : ∃ s, Hid (l[k] = s) := ⟨l[k], Lib.hid rfl⟩
      rw [HS.out] at hcell hmx
      have F := Lib.hid (retG_Few (w0 := w) hmx)
      by_cases h4 : s.size ≤ 120
      · rw [decide_eq_true h4] at F
        have CK := Lib.hid (retG_Check2 (w0 := w) (s := s) (by omega))
        have hb : shortB l[k] = (chkS s == 0) := by rw [HS.out]; unfold shortB; rw [decide_eq_true h4]; rfl
        have HB := Lib.hid hb
        clear h4 hmx hb
        generalize chkS s = c at *
        by_cases h0 : c = 0
        · have HB2 : Hid (shortB l[k] = true) := by show _ = _; rw [HB.out, h0]; rfl
          subst h0
          go_wp2_with fail
          refine (F.out _ HR.out).mono ?_
          rintro e w1 ⟨rfl, hg⟩
          have HR1 := Lib.hid (Gr.trans HR.out hg)
          clear hg
          go_wp2_with fail
          refine (CK.out _ HR1.out).mono ?_
          rintro e w2 ⟨rfl, hg⟩
          have HR2 := Lib.hid (Gr.trans HR1.out hg)
          clear hg hcell
          go_wp2
          go_roundw
          case rel =>
            refine ⟨k + 1, by omega, by go_num, HR2.out, fun j hj h => ?_⟩
            by_cases hjk : j = k
            · subst hjk; exact HB2.out
            · exact HK.out j hj (by omega)
          case measure => simp [intOf]; omega
        · have HB2 : Hid (shortB l[k] = false) := by show _ = _; rw [HB.out]; exact beq_eq_false_iff_ne.2 h0
          have hne : (c == 0) = false := beq_eq_false_iff_ne.2 h0
          clear h0
          go_wp2_with fail
          refine (F.out _ HR.out).mono ?_
          rintro e w1 ⟨rfl, hg⟩
          have HR1 := Lib.hid (Gr.trans HR.out hg)
          clear hg
          go_wp2_with fail
          refine (CK.out _ HR1.out).mono ?_
          rintro e w2 ⟨rfl, hg⟩
          have HR2 := Lib.hid (Gr.trans HR1.out hg)
          clear hg hcell
          go_wp2
          go_ret
          exact ⟨ret_bool (all_not hlt HB2.out).symm, HR2.out⟩
      · rw [decide_eq_false h4] at F
        have HB2 : Hid (shortB l[k] = false) := by show _ = _; rw [HS.out]; unfold shortB; rw [decide_eq_false h4]; rfl
        clear h4 hmx
        go_wp2_with fail
        refine (F.out _ HR.out).mono ?_
        rintro e w1 ⟨rfl, hg⟩
        have HR1 := Lib.hid (Gr.trans HR.out hg)
        clear hg hcell
        go_wp2
        go_ret
        exact ⟨ret_bool (all_not hlt HB2.out).symm, HR1.out⟩
    · have HB : Hid (l.all shortB = true) := all_get fun j hj => HK.out j hj (by omega)
      go_wp2
      go_ret
      exact ⟨ret_bool HB.out.symm, HR.out⟩
theorem memL2 {s t : ByteArray} (hs : s.size ≤ maxLen) (ht : t.size ≤ maxLen) : ∀ x ∈ [s, t], x.size ≤ maxLen := fun x hx => by
  simp only [List.mem_cons, List.not_mem_nil, or_false] at hx
  rcases hx with rfl | rfl
  · exact hs
  · exact ht
theorem memL3 {s t u : ByteArray} (hs : s.size ≤ maxLen) (ht : t.size ≤ maxLen) (hu : u.size ≤ maxLen) : ∀ x ∈ [s, t, u], x.size ≤ maxLen := fun x hx => by
  simp only [List.mem_cons, List.not_mem_nil, or_false] at hx
  rcases hx with rfl | rfl | rfl
  · exact hs
  · exact ht
  · exact hu
theorem short_new1 (s : ByteArray) (w0 w : World) (ty : TypeId) (hg : Gr w0 w) (hs : s.size ≤ maxLen) :
    Calls Tryz.prog 28 #[.slice (some ⟨w.heap.size, 0, none⟩) 1 1] (w.alloc (.cells #[.string s] ty)) (fun e w' => e = .returned (.bool (shortB s)) ∧ Gr w0 w') := by
  refine (l2_short w.heap.size [s] _ (by simp) (strs_one (by simp)) (fun x hx => by simp only [List.mem_singleton] at hx; subst hx; exact hs)).mono ?_
  rintro e w' ⟨rfl, h⟩
  exact ⟨by simp, Gr.trans (hg.alloc _) h⟩
theorem short_new2 (s t : ByteArray) (w0 w : World) (ty : TypeId) (hg : Gr w0 w) (hs : s.size ≤ maxLen) (ht : t.size ≤ maxLen) :
    Calls Tryz.prog 28 #[.slice (some ⟨w.heap.size, 0, none⟩) 2 2] (w.alloc (.cells #[.string s, .string t] ty)) (fun e w' => e = .returned (.bool (shortB s && shortB t)) ∧ Gr w0 w') := by
  refine (l2_short w.heap.size [s, t] _ (by simp) (strs_two (by simp) (by simp)) (memL2 hs ht)).mono ?_
  rintro e w' ⟨rfl, h⟩
  exact ⟨by simp, Gr.trans (hg.alloc _) h⟩
theorem short_new3 (s t u : ByteArray) (w0 w : World) (ty : TypeId) (hg : Gr w0 w) (hs : s.size ≤ maxLen) (ht : t.size ≤ maxLen) (hu : u.size ≤ maxLen) :
    Calls Tryz.prog 28 #[.slice (some ⟨w.heap.size, 0, none⟩) 3 3] (w.alloc (.cells #[.string s, .string t, .string u] ty)) (fun e w' => e = .returned (.bool (shortB s && shortB t && shortB u)) ∧ Gr w0 w') := by
  refine (l2_short w.heap.size [s, t, u] _ (by simp) (strs_three (by simp) (by simp) (by simp)) (memL3 hs ht hu)).mono ?_
  rintro e w' ⟨rfl, h⟩
  exact ⟨by simp [Bool.and_assoc], Gr.trans (hg.alloc _) h⟩
/-- a short text is that of a number of up to 120 digits -/
theorem short_RT {s : ByteArray} (h : shortB s = true) : ∃ r : Rat, s = RT r ∧ Sh 120 r := by
  unfold shortB at h
  rw [Bool.and_eq_true] at h
  obtain ⟨r, h1, h2, _⟩ := text_sh (s := s) (k := 120) (by simpa using h.2) (of_decide_eq_true h.1)
  exact ⟨r, h1, h2⟩
end Go.Proofs.YtjoipfiomeocoabGreatDoor
