/- The program's rational numbers: its smallest parts. -/
import Derived.Test.YtjoipfiomeocoabGreatDoorRef01a
import Derived.Test.YtjoipfiomeocoabGreatDoorRat08
import Derived.Test.YtjoipfiomeocoabGreatDoorShelf
import Derived.Deep.QuietTactic
import Derived.BigQuiet
import Derived.WalkSmall
set_option linter.unusedVariables false
set_option linter.unusedSimpArgs false
namespace Go.Proofs.YtjoipfiomeocoabGreatDoor
open Go.RowKit Go.Shelf
open Z

/-- the library's variable MaxLen is an int -/
def Mx (w : World) : Prop := ∃ m, w.cell? ⟨0, 0, none⟩ = some (.int .i64 m)
theorem cell_lt {w : World} {b o : Nat} {v : Value} (h : w.cell? ⟨b, o, none⟩ = some v) : b < w.heap.size := by
  by_cases hb : b < w.heap.size
  · exact hb
  · exfalso
    have : w.heap[b]? = none := Array.getElem?_eq_none (by omega)
    simp [World.cell?, this] at h
theorem gr_cell {W w1 : World} (h : Gr W w1) {b o : Nat} {v : Value} (hc : W.cell? ⟨b, o, none⟩ = some v) : w1.cell? ⟨b, o, none⟩ = some v :=
  (Below.cell h (p := ⟨b, o, none⟩) (cell_lt hc)).trans hc
theorem Mx.gr {w w' : World} (h : Mx w) (hg : Gr w w') : Mx w' := h.elim fun m hm => ⟨m, gr_cell hg hm⟩
/-- a fraction in a block of its own -/
structure FB (w : World) (b : Nat) (p q : ByteArray) : Prop where
  c0 : w.cell? ⟨b, 0, none⟩ = some (.string p)
  c1 : w.cell? ⟨b, 1, none⟩ = some (.string q)
  f0 : w.frozen? ⟨b, 0, none⟩ = false
  f1 : w.frozen? ⟨b, 1, none⟩ = false
theorem FB.new (w : World) (p q : ByteArray) (ty : TypeId) : FB (w.alloc (.cells #[.string p, .string q] ty)) w.heap.size p q :=
  ⟨by rw [World.cell?_alloc_at _ _ _ _ rfl]; rfl, by rw [World.cell?_alloc_at _ _ _ _ rfl]; rfl, World.frozen?_alloc_at _ _ _ _ rfl, World.frozen?_alloc_at _ _ _ _ rfl⟩
theorem FB.gr {w w' : World} {b : Nat} {p q : ByteArray} (h : FB w b p q) (hg : Gr w w') : FB w' b p q :=
  ⟨gr_cell hg h.c0, gr_cell hg h.c1, (Below.frozen hg (p := ⟨b, 0, none⟩) (cell_lt h.c0)).trans h.f0, (Below.frozen hg (p := ⟨b, 1, none⟩) (cell_lt h.c0)).trans h.f1⟩
theorem FB.alloc {w : World} {b : Nat} {p q : ByteArray} (h : FB w b p q) (o : Obj) : FB (w.alloc o) b p q := h.gr ((Gr.refl w).alloc o)
theorem FB.set {w : World} {b b' o : Nat} {p q : ByteArray} {u : Value} (h : FB w b p q) (hn : b ≠ b') : FB (w.setCell ⟨b', o, none⟩ u) b p q :=
  ⟨(World.cell?_setCell_other _ _ _ _ (by simp only [ne_eq, Addr.mk.injEq]; omega)).trans h.c0, (World.cell?_setCell_other _ _ _ _ (by simp only [ne_eq, Addr.mk.injEq]; omega)).trans h.c1, (World.frozen?_setCell _ _ _ _).trans h.f0, (World.frozen?_setCell _ _ _ _).trans h.f1⟩
/-- both cells stored anew -/
theorem FB.store {w0 w : World} {b : Nat} {p q p' q' : ByteArray} (h : FB w b p q) (hg : Gr w0 w) (hb : w0.heap.size ≤ b) :
    FB ((w.setCell ⟨b, 0, none⟩ (.string p')).setCell ⟨b, 1, none⟩ (.string q')) b p' q' ∧ Gr w0 ((w.setCell ⟨b, 0, none⟩ (.string p')).setCell ⟨b, 1, none⟩ (.string q')) := by
  have a1 : (w.setCell ⟨b, 0, none⟩ (.string p')).cell? ⟨b, 1, none⟩ = some (.string q) := (World.cell?_setCell_other _ _ _ _ (by simp)).trans h.c1
  have a0 : (w.setCell ⟨b, 0, none⟩ (.string p')).cell? ⟨b, 0, none⟩ = some (.string p') := World.cell?_setCell_same _ _ _ h.c0
  refine ⟨⟨(World.cell?_setCell_other _ _ _ _ (by simp)).trans a0, World.cell?_setCell_same _ _ _ a1, ?_, ?_⟩, (Below.setCell (Below.setCell hg hb _) hb _)⟩
  · rw [World.frozen?_setCell, World.frozen?_setCell]; exact h.f0
  · rw [World.frozen?_setCell, World.frozen?_setCell]; exact h.f1
/-- a block that holds ints -/
def Ints (w : World) (g : Nat) (l : List Int) : Prop := ∀ i (h : i < l.length), w.cell? ⟨g, i, none⟩ = some (.int .i64 l[i])
set_option maxHeartbeats 1000000 in
set_option maxRecDepth 100000 in
theorem q_first (g : Nat) (l : List Int) (w : World) (hl : l.length ≤ 100) (hc : Ints w g l) :
    Calls Tryz.prog 44 #[.slice (some ⟨g, 0, none⟩) l.length l.length] w (fun e w' => e = .returned (.int .i64 (firstE l)) ∧ w = w') := by
  have HC := Lib.hid hc
  clear hc
  go_enter Tryz.func44, Tryz.ntmps44
  go_wp2
  go_loop [2, 5] (fun _ i => ∃ k : Nat, k ≤ l.length ∧ i = .int .i64 k ∧ Hid (∀ j (h : j < l.length), j < k → l[j] = 0)) (fun _ i => l.length - (intOf i).toNat)
  case atStart => exact ⟨0, Nat.zero_le _, rfl, fun j hj h => absurd h (by omega)⟩
  case round =>
    obtain ⟨k, hk, rfl, HK⟩ := hrel
    by_cases hlt : k < l.length
    · have hcell := HC.out k hlt
      obtain ⟨c, HS⟩ : ∃ c, Hid (l[k] = c) := ⟨l[k], Lib.hid rfl⟩
      rw [HS.out] at hcell
      by_cases h0 : c = 0
      · have H0 : Hid (l[k] = 0) := HS.out.trans h0
        subst h0
        go_wp2
        go_round
        case rel =>
          refine ⟨k + 1, by omega, by go_num, fun j hj h => ?_⟩
          by_cases hjk : j = k
          · subst hjk; exact H0.out
          · exact HK.out j hj (by omega)
        case measure => simp [intOf]; omega
      · have HF : Hid (firstE l = c) := (firstE_at hlt HK.out (by rw [HS.out]; exact h0)).trans HS.out
        have hne : (c == 0) = false := beq_eq_false_iff_ne.2 h0
        clear h0
        go_wp2
        go_ret
        exact ⟨ret_int HF.out.symm, rfl⟩
    · have HF : Hid (firstE l = 0) := firstE_all fun j hj => HK.out j hj (by omega)
      go_wp2
      go_ret
      exact ⟨ret_int HF.out.symm, rfl⟩
theorem first_new2 (a b : Int) (w : World) (ty : TypeId) :
    Calls Tryz.prog 44 #[.slice (some ⟨w.heap.size, 0, none⟩) 2 2] (w.alloc (.cells #[.int .i64 a, .int .i64 b] ty)) (fun e w' => e = .returned (.int .i64 (firstE [a, b])) ∧ w.alloc (.cells #[.int .i64 a, .int .i64 b] ty) = w') := by
  refine q_first w.heap.size [a, b] _ (by simp) fun i hi => ?_
  have : i = 0 ∨ i = 1 := by simp at hi; omega
  rcases this with rfl | rfl <;> simp
theorem first_new3 (a b c : Int) (w : World) (ty : TypeId) :
    Calls Tryz.prog 44 #[.slice (some ⟨w.heap.size, 0, none⟩) 3 3] (w.alloc (.cells #[.int .i64 a, .int .i64 b, .int .i64 c] ty)) (fun e w' => e = .returned (.int .i64 (firstE [a, b, c])) ∧ w.alloc (.cells #[.int .i64 a, .int .i64 b, .int .i64 c] ty) = w') := by
  refine q_first w.heap.size [a, b, c] _ (by simp) fun i hi => ?_
  have : i = 0 ∨ i = 1 ∨ i = 2 := by simp at hi; omega
  rcases this with rfl | rfl | rfl <;> simp
theorem q_cut (s : ByteArray) (w : World) (hm : Mx w) (hs : s.size ≤ 400000) :
    Calls Tryz.prog 91 #[.string s, .string ⟨#[47]⟩] w (fun e w' => e = .returned (.tuple #[.string (str (top s.data.toList)), .string (str (if parted s.data.toList = true then bot s.data.toList else [])), .bool (parted s.data.toList)]) ∧ Gr w w') := by
  obtain ⟨m, hm⟩ := hm
  refine (Tryz.strings_Cut s ⟨#[47]⟩ m w (by omega) hm).mono ?_
  rintro e w' ⟨rfl, n, rfl⟩
  have h := cut_slash s.data.toList
  rw [show (⟨#[47]⟩ : ByteArray).data.toList = [47] from rfl, h]
  exact ⟨rfl, below_drewN (Gr.refl w) n⟩
theorem q_minus (a : Int) (w : World) : Calls Tryz.prog 82 #[.string (Tx a), .string ⟨#[45]⟩] w (fun e w' => e = .returned (.bool (decide (a < 0))) ∧ w = w') := by
  refine (Tryz.strings_HasPrefix (Tx a) ⟨#[45]⟩ w).mono ?_
  rintro e w' ⟨rfl, rfl⟩
  rw [show (⟨#[45]⟩ : ByteArray).data.toList = [45] from rfl, hasMinus]
  exact ⟨rfl, rfl⟩
end Go.Proofs.YtjoipfiomeocoabGreatDoor
