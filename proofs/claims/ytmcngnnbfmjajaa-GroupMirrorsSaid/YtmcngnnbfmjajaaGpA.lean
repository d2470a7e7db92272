/- Law 14: what the walks share: lists of ints, groups and tables in memory. -/
import Derived.Test.YtmcngnnbfmjajaaRows
import Derived.Test.YtmcngnnbfmjajaaGpM
import Derived.WalkKit
import Derived.WalkSpells
import Derived.WalkLawsBesides
import Derived.Lib.Hide
import Derived.Outline
import Derived.Below
import Derived.LoopN
import Derived.Deep.QuietTactic
import Derived.Deep.OwnRows
import Derived.OwnWalk
import Derived.Laws.AppendOwn
import Derived.Deep.RegionHeld3
import Derived.Deep.WholeRow
import Derived.Laws.Rows
set_option linter.unusedVariables false
set_option linter.unusedSimpArgs false
namespace Go.Proofs.Ytmcngnnbfmjajaa
open Go.RowKit
open Z

/-- the world has grown: what was there is as it was -/
def Gr (w w' : World) : Prop := Below w.heap.size w w'
theorem Gr.refl (w : World) : Gr w w := Below.refl _ _
theorem Gr.trans {a b c : World} (h : Gr a b) (k : Gr b c) : Gr a c := Below.trans h (Below.mono k h.size)
theorem Gr.drew {a w : World} (h : Gr a w) : Gr a w.drew := Below.drew h
theorem Gr.alloc {a w : World} (h : Gr a w) (o : Obj) : Gr a (w.alloc o) := Below.alloc h h.size o
theorem Gr.set {w w' : World} (h : Gr w w') {g o : Nat} (hb : w.heap.size ≤ g) (v : Value) : Gr w (w'.setCell ⟨g, o, none⟩ v) := Below.setCell h hb _
theorem ret_int {k : IntKind} {a b : Int} (h : a = b) : Ending.returned (.int k a) = Ending.returned (.int k b) := by rw [h]
theorem ret_bool {a b : Bool} (h : a = b) : Ending.returned (.bool a) = Ending.returned (.bool b) := by rw [h]
theorem cellLt {w : World} {b o : Nat} {v : Value} (hc : w.cell? ⟨b, o, none⟩ = some v) : b < w.heap.size := by
  by_cases hb : b < w.heap.size
  · exact hb
  · exfalso
    have : w.heap[b]? = none := Array.getElem?_eq_none (by omega)
    simp [World.cell?, this] at hc
theorem gr_cell {w w' : World} (h : Gr w w') {b o : Nat} {v : Value} (hc : w.cell? ⟨b, o, none⟩ = some v) : w'.cell? ⟨b, o, none⟩ = some v :=
  (Below.cell h (p := ⟨b, o, none⟩) (cellLt hc)).trans hc
/-- a list of ints lies behind an address -/
def RdI (w : World) (a : Option Addr) (l : List Int) : Prop := ∀ k (h : k < l.length), ∃ b o, a = some ⟨b, o, none⟩ ∧ w.cell? ⟨b, o + k, none⟩ = some (.int .i64 l[k])
theorem RdI.gr {w w' : World} {a : Option Addr} {l : List Int} (h : RdI w a l) (hg : Gr w w') : RdI w' a l := fun k hk => by
  obtain ⟨b, o, h1, h2⟩ := h k hk
  exact ⟨b, o, h1, gr_cell hg h2⟩
theorem RdI.nil (w : World) (a : Option Addr) : RdI w a [] := fun k hk => absurd hk (by simp)
theorem RdI.take {w : World} {a : Option Addr} {l : List Int} (h : RdI w a l) (n : Nat) : RdI w a (l.take n) := fun k hk => by
  have hk2 : k < l.length := by rw [List.length_take] at hk; omega
  obtain ⟨b, o, h1, h2⟩ := h k hk2
  exact ⟨b, o, h1, by rw [List.getElem_take]; exact h2⟩
theorem RdI.new (w : World) (L : List Int) : RdI (w.alloc (.cells (L.map fun k => Value.int .i64 k).toArray 3)) (some ⟨w.heap.size, 0, none⟩) L := fun k hk => by
  have h := heap_alloc_last w (.cells (L.map fun k => Value.int .i64 k).toArray 3)
  refine ⟨w.heap.size, 0, rfl, ?_⟩
  rw [Nat.zero_add, cell_of_row _ _ _ _ _ _ h]
  simp [List.getElem?_eq_getElem hk]
/-- a group as a value -/
def GpV (w : World) (v : Value) (g : Gp) : Prop := ∃ a cap, v = .agg #[.int .i64 g.1, .slice a g.2.length cap] ∧ RdI w a g.2 ∧ g.2.length ≤ cap ∧ cap ≤ maxLen
theorem GpV.gr {w w' : World} {v : Value} {g : Gp} (h : GpV w v g) (hg : Gr w w') : GpV w' v g := by
  obtain ⟨a, cap, h1, h2, h3⟩ := h
  exact ⟨a, cap, h1, h2.gr hg, h3⟩
/-- a table lies behind an address -/
def RdG (w : World) (a : Option Addr) (l : List Gp) : Prop := ∀ k (h : k < l.length), ∃ b o c cap, a = some ⟨b, o, none⟩ ∧ w.cell? ⟨b, o + k * 2, none⟩ = some (.int .i64 l[k].1) ∧ w.cell? ⟨b, o + k * 2 + 1, none⟩ = some (.slice c l[k].2.length cap) ∧ RdI w c l[k].2 ∧ l[k].2.length ≤ cap ∧ cap ≤ maxLen
theorem RdG.gr {w w' : World} {a : Option Addr} {l : List Gp} (h : RdG w a l) (hg : Gr w w') : RdG w' a l := fun k hk => by
  obtain ⟨b, o, c, cap, h1, h2, h3, h4, h5⟩ := h k hk
  exact ⟨b, o, c, cap, h1, gr_cell hg h2, gr_cell hg h3, h4.gr hg, h5⟩
theorem RdG.nil (w : World) (a : Option Addr) : RdG w a [] := fun k hk => absurd hk (by simp)
theorem RdG.take {w : World} {a : Option Addr} {l : List Gp} (h : RdG w a l) (n : Nat) : RdG w a (l.take n) := fun k hk => by
  have hk2 : k < l.length := by rw [List.length_take] at hk; omega
  obtain ⟨b, o, c, cap, h1, h2, h3, h4, h5⟩ := h k hk2
  refine ⟨b, o, c, cap, h1, ?_⟩
  rw [List.getElem_take]
  exact ⟨h2, h3, h4, h5⟩

set_option maxRecDepth 100000 in
theorem gp_inRange (n a b : Int) (w : World) : Calls Try.prog 40 #[.int .i64 n, .int .i64 a, .int .i64 b] w fun e w' => e = .returned (.bool (decide (a ≤ n) && decide (n ≤ b))) ∧ w' = w := by
  by_cases h1 : a ≤ n
  · by_cases h2 : n ≤ b
    · go_enter Try.func40, Try.ntmps40
      go_wp2
      go_ret
      exact ⟨ret_bool (by simp [h1, h2]), rfl⟩
    · go_enter Try.func40, Try.ntmps40
      go_wp2
      go_ret
      exact ⟨ret_bool (by simp [h1, h2]), rfl⟩
  · go_enter Try.func40, Try.ntmps40
    go_wp2
    go_ret
    exact ⟨ret_bool (by rw [decide_eq_false (by omega : ¬ a ≤ n), Bool.false_and]), rfl⟩
/-- the first place of an int -/
def idxR (l : List Int) (v : Int) : Int := match l.findIdx? (· == v) with | some k => k | none => -1
set_option maxHeartbeats 1000000 in
set_option maxRecDepth 100000 in
theorem sl_Index {a : Option Addr} {l : List Int} {cap : Nat} (v : Int) (w : World) (hr : RdI w a l) (hlen : l.length ≤ 1000000) :
    Calls Try.prog 61 #[.slice a l.length cap, .int .i64 v] w fun e w' => (∃ i : Int, e = .returned (.int .i64 i) ∧ decide (0 ≤ i) = l.contains v) ∧ Gr w w' := by
  have HR := Lib.hid hr
  obtain ⟨V, hV⟩ : ∃ V, l.contains v = V := ⟨_, rfl⟩
  rw [hV]
  have HV := Lib.hid hV
  obtain ⟨n, hn⟩ : ∃ n, n = l.length := ⟨_, rfl⟩
  have HN := Lib.hid hn
  rw [← hn] at hlen ⊢
  clear hn hV hr
  go_enter Try.func61, Try.ntmps61
  go_wp2
  go_loopw [8] (fun i wr => ∃ j : Nat, i = .int .i64 j ∧ j ≤ n ∧ Hid (∀ k (h : k < l.length), k < j → l[k] ≠ v) ∧ Hid (Gr w wr)) (fun i _ => n - (intOf i).toNat)
  case atStart => exact ⟨0, rfl, Nat.zero_le _, Lib.hid (fun k _ h => absurd h (by omega)), Lib.hid (Gr.refl w)⟩
  case round =>
    obtain ⟨j, rfl, hj, HP, HG⟩ := hrel
    by_cases hlt : j < n
    · have hjl : j < l.length := by rw [← HN.out]; exact hlt
      obtain ⟨b, o, rfl, hc⟩ := (HR.out.gr HG.out) j hjl
      by_cases he : l[j] = v
      · have hv : V = true := by rw [← HV.out, ← he]; simp
        subst hv
        rw [he] at hc
        clear he HP HV
        go_wp2
        go_ret
        exact ⟨⟨j, rfl, by simp⟩, HG.out⟩
      · have HP2 : Hid (∀ k (h : k < l.length), k < j + 1 → l[k] ≠ v) := Lib.hid fun k h hkj => by
          by_cases e : k = j
          · subst e; exact he
          · exact HP.out k h (by omega)
        generalize l[j] = x at *
        have hf : (v == x) = false := by simp; omega
        clear HP he
        go_wp2
        go_roundw
        case rel => exact ⟨j + 1, by go_num, by omega, HP2, HG⟩
        case measure => simp [intOf]; omega
    · have hv : V = false := by
        rw [← HV.out, Bool.eq_false_iff]
        intro h
        obtain ⟨k, hk, e⟩ := List.getElem_of_mem (show v ∈ l by simpa using h)
        exact HP.out k hk (by rw [← HN.out] at hk; omega) e
      subst hv
      clear HP HV
      go_wp2
      go_ret
      exact ⟨⟨-1, rfl, rfl⟩, HG.out⟩
set_option maxRecDepth 100000 in
theorem sl_Contains {a : Option Addr} {l : List Int} {cap : Nat} (v : Int) (w : World) (hr : RdI w a l) (hlen : l.length ≤ 1000000) :
    Calls Try.prog 41 #[.slice a l.length cap, .int .i64 v] w fun e w' => e = .returned (.bool (l.contains v)) ∧ Gr w w' := by
  have HI := Lib.hid (sl_Index (cap := cap) v w hr hlen)
  clear hr hlen
  generalize l.length = n at *
  generalize l.contains v = V at *
  go_enter Try.func41, Try.ntmps41
  go_wp2_with fail
  refine HI.out.mono ?_; rintro e w1 ⟨⟨i, rfl, hi⟩, hg1⟩
  have HG := Lib.hid hg1
  clear hg1 HI
  cases V
  all_goals
    have HI2 := Lib.hid hi
    clear hi
    go_wp2
    go_ret
    exact ⟨ret_bool HI2.out, HG.out⟩
set_option maxHeartbeats 1000000 in
set_option maxRecDepth 100000 in
theorem r14_occurs {a : Option Addr} {l : List Int} {cap : Nat} (v : Int) (w : World) (hr : RdI w a l) (hlen : l.length ≤ 1000000) :
    Calls Try.prog 42 #[.slice a l.length cap, .int .i64 v] w fun e w' => e = .returned (.bool (l.contains v)) ∧ w = w' := by
  have HR := Lib.hid hr
  obtain ⟨V, hV⟩ : ∃ V, l.contains v = V := ⟨_, rfl⟩
  rw [hV]
  have HV := Lib.hid hV
  obtain ⟨n, hn⟩ : ∃ n, n = l.length := ⟨_, rfl⟩
  have HN := Lib.hid hn
  rw [← hn] at hlen ⊢
  clear hn hV hr
  go_enter Try.func42, Try.ntmps42
  go_wp2
  go_loop [5] (fun i => ∃ j : Nat, i = .int .i64 j ∧ j ≤ n ∧ Hid (∀ k (h : k < l.length), k < j → l[k] ≠ v)) (fun i => n - (intOf i).toNat)
  case atStart => exact ⟨0, rfl, Nat.zero_le _, Lib.hid (fun k _ h => absurd h (by omega))⟩
  case round =>
    obtain ⟨j, rfl, hj, HP⟩ := hrel
    by_cases hlt : j < n
    · have hjl : j < l.length := by rw [← HN.out]; exact hlt
      obtain ⟨b, o, rfl, hc⟩ := HR.out j hjl
      by_cases he : l[j] = v
      · have hv : V = true := by rw [← HV.out, ← he]; simp
        subst hv
        rw [he] at hc
        clear he HP HV
        go_wp2
        go_ret
        exact ⟨rfl, rfl⟩
      · have HP2 : Hid (∀ k (h : k < l.length), k < j + 1 → l[k] ≠ v) := Lib.hid fun k h hkj => by
          by_cases e : k = j
          · subst e; exact he
          · exact HP.out k h (by omega)
        generalize l[j] = x at *
        have hf : (x == v) = false := by simp; omega
        clear HP he
        go_wp2
        go_round
        case rel => exact ⟨j + 1, by go_num, by omega, HP2⟩
        case measure => simp [intOf]; omega
    · have hv : V = false := by
        rw [← HV.out, Bool.eq_false_iff]
        intro h
        obtain ⟨k, hk, e⟩ := List.getElem_of_mem (show v ∈ l by simpa using h)
        exact HP.out k hk (by rw [← HN.out] at hk; omega) e
      subst hv
      clear HP HV
      go_wp2
      go_ret
      exact ⟨rfl, rfl⟩
end Go.Proofs.Ytmcngnnbfmjajaa
