/- Numbers of cues: the rest of the reference. -/
import Derived.Test.YtahbikegdgpncaaDoorNuA
import Derived.Deep.RegionHeld3
import Derived.IntWalk
set_option linter.unusedVariables false
set_option linter.unusedSimpArgs false
namespace Go.Proofs.YtahbikegdgpncaaDoor
open Go.RowKit Go.Shelf
open Z

/-- a pair of a text and the number of an error -/
def vTI (p : List UInt8 × Int) : Value := .tuple #[.string (str p.1), .int .i64 p.2]
set_option maxHeartbeats 1000000 in
theorem r5_Order (s t : ByteArray) (w : World) (hs : s.size ≤ maxLen) (ht : t.size ≤ maxLen) (h1 : nuE s.data.toList = 0) (h2 : nuE t.data.toList = 0) :
    Calls Tryd.prog 45 #[.string s, .string t] w fun e w' => e = .returned (.int .i64 (ordN (nuV s.data.toList) (nuV t.data.toList))) ∧ Gr w w' := by
  have H1 := Lib.hid (fun w => r5_Value s w hs h1)
  have H2 := Lib.hid (fun w => r5_Value t w ht h2)
  have b1 := (nuV_le h1).2
  have b2 := (nuV_le h2).2
  clear hs ht h1 h2
  unfold ordN
  generalize nuV s.data.toList = x at *
  generalize nuV t.data.toList = y at *
  rcases Nat.lt_trichotomy x y with h | rfl | h
  · rw [if_pos h]
    go_enter Tryd.func45, Tryd.ntmps45
    go_wp2_with fail
    refine (H1.out _).mono ?_; rintro e w1 ⟨rfl, hg⟩
    have HG := Lib.hid hg; clear hg
    go_wp2_with fail
    refine (H2.out _).mono ?_; rintro e w2 ⟨rfl, hg⟩
    replace HG := Lib.hid (Gr.trans HG.out hg); clear hg
    go_wp2
    go_ret
    exact ⟨rfl, HG.out⟩
  · rw [if_neg (by omega), if_neg (by omega)]
    go_enter Tryd.func45, Tryd.ntmps45
    go_wp2_with fail
    refine (H1.out _).mono ?_; rintro e w1 ⟨rfl, hg⟩
    have HG := Lib.hid hg; clear hg
    go_wp2_with fail
    refine (H2.out _).mono ?_; rintro e w2 ⟨rfl, hg⟩
    replace HG := Lib.hid (Gr.trans HG.out hg); clear hg
    go_wp2
    go_ret
    exact ⟨rfl, HG.out⟩
  · rw [if_neg (by omega), if_pos h]
    go_enter Tryd.func45, Tryd.ntmps45
    go_wp2_with fail
    refine (H1.out _).mono ?_; rintro e w1 ⟨rfl, hg⟩
    have HG := Lib.hid hg; clear hg
    go_wp2_with fail
    refine (H2.out _).mono ?_; rintro e w2 ⟨rfl, hg⟩
    replace HG := Lib.hid (Gr.trans HG.out hg); clear hg
    go_wp2
    go_ret
    exact ⟨rfl, HG.out⟩
theorem nuCmp_err {a b : List UInt8} (h : both2 a b ≠ 0) : nuCmp a b = (0, both2 a b) := if_neg h
theorem nuCmp_ok {a b : List UInt8} (h : both2 a b = 0) : nuCmp a b = (ordN (nuV a) (nuV b), 0) := if_pos h
theorem both2_zero {a b : List UInt8} (h : both2 a b = 0) : nuE a = 0 ∧ nuE b = 0 := by
  unfold both2 at h
  by_cases h1 : nuE a = 0
  · rw [if_pos h1] at h; exact ⟨h1, h⟩
  · rw [if_neg h1] at h; exact absurd h h1
/-- a slice of texts, as it is read -/
def RdS (w : World) (a : Option Addr) (l : List ByteArray) : Prop := ∀ k (h : k < l.length), ∃ b o, a = some ⟨b, o, none⟩ ∧ w.cell? ⟨b, o + k, none⟩ = some (.string l[k])
theorem cellLt {w : World} {b o : Nat} {v : Value} (h : w.cell? ⟨b, o, none⟩ = some v) : b < w.heap.size := by
  by_cases hb : b < w.heap.size
  · exact hb
  · exfalso
    have : w.heap[b]? = none := Array.getElem?_eq_none (by omega)
    simp [World.cell?, this] at h
theorem cell_gr {W w1 : World} (h : Gr W w1) {b o : Nat} {v : Value} (hc : W.cell? ⟨b, o, none⟩ = some v) : w1.cell? ⟨b, o, none⟩ = some v :=
  (Below.cell h (p := ⟨b, o, none⟩) (cellLt hc)).trans hc
theorem RdS.gr {w w' : World} {a : Option Addr} {l : List ByteArray} (h : RdS w a l) (hg : Gr w w') : RdS w' a l := fun k hk => by
  obtain ⟨b, o, e, hat⟩ := h k hk
  exact ⟨b, o, e, cell_gr hg hat⟩
end Go.Proofs.YtahbikegdgpncaaDoor
