/- The law's helpers of layer 1: few and right. -/
import Derived.Test.YtjcneleacldfcaaDoorRefB
set_option linter.unusedVariables false
set_option linter.unusedSimpArgs false
namespace Go.Proofs.YtjcneleacldfcaaDoor
open Go.RowKit
open Z

/-- a block that holds texts -/
def Strs (w : World) (g : Nat) (l : List ByteArray) : Prop := ∀ i (h : i < l.length), w.cell? ⟨g, i, none⟩ = some (.string l[i])
def fewB (s : ByteArray) : Bool := (decide (s.size ≤ 400) || !(chk s.data.toList == 0)) && decide (s.size ≤ 5000)
def rightB (s : ByteArray) : Bool := decide (s.size ≤ 400) && (chk s.data.toList == 0)
theorem all_get {α : Type} {l : List α} {p : α → Bool} (h : ∀ j (h : j < l.length), p l[j] = true) : l.all p = true := by
  rw [List.all_eq_true]
  intro x hx
  obtain ⟨j, hj, rfl⟩ := List.getElem_of_mem hx
  exact h j hj
theorem all_not {α : Type} {l : List α} {p : α → Bool} {j : Nat} (hj : j < l.length) (h : p l[j] = false) : l.all p = false := by
  rw [List.all_eq_false]
  exact ⟨_, List.getElem_mem hj, by simp [h]⟩
set_option maxHeartbeats 2000000 in
theorem l1_few (g : Nat) (l : List ByteArray) (cap : Nat) (w : World) (hl : l.length ≤ 1000) (hcap : l.length ≤ cap) (hc : Strs w g l) (hsz : ∀ s ∈ l, s.size ≤ maxLen) :
    Calls Tryd.prog 8 #[.slice (some ⟨g, 0, none⟩) l.length cap] w (fun e w' => e = .returned (.bool (l.all fewB)) ∧ w = w') := by
  have HC := Lib.hid hc
  have HSZ := Lib.hid hsz
  clear hc hsz
  go_enter Tryd.func8, Tryd.ntmps8
  go_wp2
  go_loop [4, 7] (fun _ i => ∃ k : Nat, k ≤ l.length ∧ i = .int .i64 k ∧ Hid (∀ j (h : j < l.length), j < k → fewB l[j] = true)) (fun _ i => l.length - (intOf i).toNat)
  case atStart => exact ⟨0, Nat.zero_le _, rfl, fun j hj h => absurd h (by omega)⟩
  case round =>
    obtain ⟨k, hk, rfl, HK⟩ := hrel
    by_cases hlt : k < l.length
    · have hcell := HC.out k hlt
      have hmx := HSZ.out _ (List.getElem_mem hlt)
      obtain ⟨s, HS⟩ : ∃ s, Hid (l[k] = s) := ⟨l[k], Lib.hid rfl⟩
      rw [HS.out] at hcell hmx
      have HF := Lib.hid (fun w => r1_Few s w hmx)
      have HCK := Lib.hid (fun w => r1_Check s w hmx)
      unfold maxLen at hmx
      by_cases h4 : s.size ≤ 400
      · rw [decide_eq_true h4] at HF
        have HB : Hid (fewB l[k] = true) := by show _ = _; rw [HS.out]; unfold fewB; rw [decide_eq_true h4, decide_eq_true (show s.size ≤ 5000 by omega)]; rfl
        go_wp2_with (go_at_call 40; refine (HF.out _).mono ?_; rintro e w' ⟨rfl, rfl⟩)
        go_round
        case rel =>
          refine ⟨k + 1, by omega, by go_num, fun j hj h => ?_⟩
          by_cases hjk : j = k
          · subst hjk; exact HB.out
          · exact HK.out j hj (by omega)
        case measure => simp [intOf]; omega
      · rw [decide_eq_false h4] at HF
        cases hck : (chk s.data.toList == 0)
        · by_cases h5 : s.size ≤ 5000
          · have HB : Hid (fewB l[k] = true) := by show _ = _; rw [HS.out]; unfold fewB; rw [decide_eq_true h5, hck]; simp
            go_wp2_with (first | (go_at_call 40; refine (HF.out _).mono ?_; rintro e w' ⟨rfl, rfl⟩) | (go_at_call 10; refine (HCK.out _).mono ?_; rintro e w' ⟨rfl, rfl⟩))
            go_round
            case rel =>
              refine ⟨k + 1, by omega, by go_num, fun j hj h => ?_⟩
              by_cases hjk : j = k
              · subst hjk; exact HB.out
              · exact HK.out j hj (by omega)
            case measure => simp [intOf]; omega
          · have HB : Hid (fewB l[k] = false) := by show _ = _; rw [HS.out]; unfold fewB; rw [decide_eq_false h5]; simp
            go_wp2_with (first | (go_at_call 40; refine (HF.out _).mono ?_; rintro e w' ⟨rfl, rfl⟩) | (go_at_call 10; refine (HCK.out _).mono ?_; rintro e w' ⟨rfl, rfl⟩))
            go_ret
            exact ⟨ret_bool (all_not hlt HB.out).symm, rfl⟩
        · have HB : Hid (fewB l[k] = false) := by show _ = _; rw [HS.out]; unfold fewB; rw [decide_eq_false h4, hck]; simp
          go_wp2_with (first | (go_at_call 40; refine (HF.out _).mono ?_; rintro e w' ⟨rfl, rfl⟩) | (go_at_call 10; refine (HCK.out _).mono ?_; rintro e w' ⟨rfl, rfl⟩))
          go_ret
          exact ⟨ret_bool (all_not hlt HB.out).symm, rfl⟩
    · have HB : Hid (l.all fewB = true) := all_get fun j hj => HK.out j hj (by omega)
      go_wp2
      go_ret
      exact ⟨ret_bool HB.out.symm, rfl⟩
theorem strs_one {w : World} {g : Nat} {s : ByteArray} (h0 : w.cell? ⟨g, 0, none⟩ = some (.string s)) : Strs w g [s] := fun i hi => by
  have : i = 0 := by simp at hi; omega
  subst this; exact h0
theorem strs_two {w : World} {g : Nat} {s t : ByteArray} (h0 : w.cell? ⟨g, 0, none⟩ = some (.string s)) (h1 : w.cell? ⟨g, 1, none⟩ = some (.string t)) : Strs w g [s, t] := fun i hi => by
  have : i = 0 ∨ i = 1 := by simp at hi; omega
  rcases this with rfl | rfl
  · exact h0
  · exact h1
theorem strs_three {w : World} {g : Nat} {s t u : ByteArray} (h0 : w.cell? ⟨g, 0, none⟩ = some (.string s)) (h1 : w.cell? ⟨g, 1, none⟩ = some (.string t)) (h2 : w.cell? ⟨g, 2, none⟩ = some (.string u)) : Strs w g [s, t, u] := fun i hi => by
  have : i = 0 ∨ i = 1 ∨ i = 2 := by simp at hi; omega
  rcases this with rfl | rfl | rfl
  · exact h0
  · exact h1
  · exact h2
end Go.Proofs.YtjcneleacldfcaaDoor
