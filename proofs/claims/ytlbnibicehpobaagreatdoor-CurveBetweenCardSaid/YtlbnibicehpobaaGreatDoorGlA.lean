/- Glides: the reference's levels and checks. -/
import Derived.Test.YtlbnibicehpobaaGreatDoorLvD
import Derived.Deep.RegionHeld3
import Derived.IntWalk
set_option linter.unusedVariables false
set_option linter.unusedSimpArgs false
namespace Go.Proofs.YtlbnibicehpobaaGreatDoor
open Go.RowKit Go.Shelf
open Z

/-- a glide as a value, and as the block that a function lays for it -/
abbrev vGl (s : ByteArray) (x st ti : Int) : Value := .agg #[.string s, .int .i64 x, .int .i64 st, .int .i64 ti]
abbrev oGl (s : ByteArray) (x st ti : Int) : Obj := .cells #[.string s, .int .i64 x, .int .i64 st, .int .i64 ti] 62
def Box4 (w : World) (b : Nat) (s : ByteArray) (x st ti : Int) : Prop :=
  w.cell? ⟨b, 0, none⟩ = some (.string s) ∧ w.cell? ⟨b, 1, none⟩ = some (.int .i64 x) ∧ w.cell? ⟨b, 2, none⟩ = some (.int .i64 st) ∧ w.cell? ⟨b, 3, none⟩ = some (.int .i64 ti)
theorem Box4.gr {w w' : World} {b : Nat} {s : ByteArray} {x st ti : Int} (h : Box4 w b s x st ti) (hg : Gr w w') : Box4 w' b s x st ti :=
  ⟨gr_cell hg h.1, gr_cell hg h.2.1, gr_cell hg h.2.2.1, gr_cell hg h.2.2.2⟩
theorem Box4.new (w : World) (s : ByteArray) (x st ti : Int) (t : TypeId) : Box4 (w.alloc (.cells #[.string s, .int .i64 x, .int .i64 st, .int .i64 ti] t)) w.heap.size s x st ti :=
  ⟨by simp, by simp, by simp, by simp⟩
/-- a glide in a block of its own, that may be stored -/
structure GB (w : World) (b : Nat) (s : ByteArray) (x st ti : Int) : Prop where
  c0 : w.cell? ⟨b, 0, none⟩ = some (.string s)
  c1 : w.cell? ⟨b, 1, none⟩ = some (.int .i64 x)
  c2 : w.cell? ⟨b, 2, none⟩ = some (.int .i64 st)
  c3 : w.cell? ⟨b, 3, none⟩ = some (.int .i64 ti)
  f0 : w.frozen? ⟨b, 0, none⟩ = false
  f1 : w.frozen? ⟨b, 1, none⟩ = false
  f2 : w.frozen? ⟨b, 2, none⟩ = false
  f3 : w.frozen? ⟨b, 3, none⟩ = false
theorem GB.new2 (w : World) (o : Obj) (s : ByteArray) (x st ti : Int) (t : TypeId) : GB ((w.alloc o).alloc (.cells #[.string s, .int .i64 x, .int .i64 st, .int .i64 ti] t)) (w.heap.size + 1) s x st ti :=
  ⟨by rw [World.cell?_alloc_at _ _ _ _ (by simp)]; rfl, by rw [World.cell?_alloc_at _ _ _ _ (by simp)]; rfl, by rw [World.cell?_alloc_at _ _ _ _ (by simp)]; rfl, by rw [World.cell?_alloc_at _ _ _ _ (by simp)]; rfl,
    World.frozen?_alloc_at _ _ _ _ (by simp), World.frozen?_alloc_at _ _ _ _ (by simp), World.frozen?_alloc_at _ _ _ _ (by simp), World.frozen?_alloc_at _ _ _ _ (by simp)⟩
theorem GB.new (w : World) (s : ByteArray) (x st ti : Int) (t : TypeId) : GB (w.alloc (.cells #[.string s, .int .i64 x, .int .i64 st, .int .i64 ti] t)) w.heap.size s x st ti :=
  ⟨by rw [World.cell?_alloc_at _ _ _ _ rfl]; rfl, by rw [World.cell?_alloc_at _ _ _ _ rfl]; rfl, by rw [World.cell?_alloc_at _ _ _ _ rfl]; rfl, by rw [World.cell?_alloc_at _ _ _ _ rfl]; rfl,
    World.frozen?_alloc_at _ _ _ _ rfl, World.frozen?_alloc_at _ _ _ _ rfl, World.frozen?_alloc_at _ _ _ _ rfl, World.frozen?_alloc_at _ _ _ _ rfl⟩
theorem GB.gr {w w' : World} {b : Nat} {s : ByteArray} {x st ti : Int} (h : GB w b s x st ti) (hg : Gr w w') : GB w' b s x st ti :=
  ⟨gr_cell hg h.c0, gr_cell hg h.c1, gr_cell hg h.c2, gr_cell hg h.c3, (Below.frozen hg (p := ⟨b, 0, none⟩) (cell_lt h.c0)).trans h.f0, (Below.frozen hg (p := ⟨b, 1, none⟩) (cell_lt h.c0)).trans h.f1, (Below.frozen hg (p := ⟨b, 2, none⟩) (cell_lt h.c0)).trans h.f2, (Below.frozen hg (p := ⟨b, 3, none⟩) (cell_lt h.c0)).trans h.f3⟩
theorem GB.store {w0 w : World} {b : Nat} {s : ByteArray} {x st ti : Int} (h : GB w b s x st ti) (s' : ByteArray) (x' st' ti' : Int) (hg : Gr w0 w) (hb : w0.heap.size ≤ b) :
    GB ((((w.setCell ⟨b, 0, none⟩ (.string s')).setCell ⟨b, 1, none⟩ (.int .i64 x')).setCell ⟨b, 2, none⟩ (.int .i64 st')).setCell ⟨b, 3, none⟩ (.int .i64 ti')) b s' x' st' ti' ∧
    Gr w0 ((((w.setCell ⟨b, 0, none⟩ (.string s')).setCell ⟨b, 1, none⟩ (.int .i64 x')).setCell ⟨b, 2, none⟩ (.int .i64 st')).setCell ⟨b, 3, none⟩ (.int .i64 ti')) := by
  have other : ∀ (u : World) (i j : Nat) (v : Value), i ≠ j → (u.setCell ⟨b, j, none⟩ v).cell? ⟨b, i, none⟩ = u.cell? ⟨b, i, none⟩ := fun u i j v hn => World.cell?_setCell_other _ _ _ _ (by simp only [ne_eq, Addr.mk.injEq]; omega)
  have same : ∀ (u : World) (i : Nat) (v v' : Value), u.cell? ⟨b, i, none⟩ = some v → (u.setCell ⟨b, i, none⟩ v').cell? ⟨b, i, none⟩ = some v' := fun u i v v' hc => World.cell?_setCell_same _ _ _ hc
  refine ⟨⟨?_, ?_, ?_, ?_, ?_, ?_, ?_, ?_⟩, Below.setCell (Below.setCell (Below.setCell (Below.setCell hg hb _) hb _) hb _) hb _⟩
  · rw [other _ _ _ _ (by omega), other _ _ _ _ (by omega), other _ _ _ _ (by omega), same _ _ _ _ h.c0]
  · rw [other _ _ _ _ (by omega), other _ _ _ _ (by omega)]; exact same _ _ _ _ ((other _ _ _ _ (by omega)).trans h.c1)
  · rw [other _ _ _ _ (by omega)]; exact same _ _ _ _ ((other _ _ _ _ (by omega)).trans ((other _ _ _ _ (by omega)).trans h.c2))
  · exact same _ _ _ _ ((other _ _ _ _ (by omega)).trans ((other _ _ _ _ (by omega)).trans ((other _ _ _ _ (by omega)).trans h.c3)))
  all_goals simp only [World.frozen?_setCell]
  · exact h.f0
  · exact h.f1
  · exact h.f2
  · exact h.f3
/-- the level of a right glide -/
def ofG (a : Rat) (x st ti t : Int) : Rat := if st + ti ≤ t then (x : Rat) else if t ≤ st then a else a + ((x : Rat) - a) * Rat.divInt (t - st) ti
theorem okL_time (t : Int) : okL (t, 10000000) = (decide (0 ≤ t) && decide (t ≤ 10000000)) := rfl
theorem okL_cases (n m : Int) : (okL (n, m) = true ∧ 0 ≤ n ∧ n ≤ m) ∨ (okL (n, m) = false ∧ n < 0) ∨ (okL (n, m) = false ∧ 0 ≤ n ∧ m < n) := by
  unfold okL
  by_cases h0 : n < 0
  · exact .inr (.inl ⟨by rw [decide_eq_false (by simp; omega)]; rfl, h0⟩)
  · by_cases h1 : m < n
    · exact .inr (.inr ⟨by rw [decide_eq_false (show ¬ (n, m).1 ≤ (n, m).2 by simp; omega), Bool.and_false], by omega, h1⟩)
    · exact .inl ⟨by rw [decide_eq_true (by simp; omega), decide_eq_true (by simp; omega)]; rfl, by omega, by omega⟩
section
variable {w0 : World}
theorem retG_same {f : FuncId} {args : Array Value} {v : Value} (h : ∀ w, Calls Tryz.prog f args w (fun e w' => e = .returned v ∧ w = w')) : RetG w0 f args v :=
  fun w _ => (h w).mono fun _ _ ⟨h1, h2⟩ => ⟨h1, h2 ▸ Gr.refl w⟩
set_option maxHeartbeats 1000000 in
set_option maxRecDepth 100000 in
theorem ret_Mixed {k k' j : Nat} {a b v : Rat} (ha : Sh k a) (hb : Sh k' b) (hv : Sh j v) (hk : k ≤ 10000) (hk' : k' ≤ 10000) (hj : j ≤ 10000) : Ret w0 66 #[.string (RT a), .string (RT b), .string (RT v)] (.string (RT (a + (b - a) * v))) := by
  have C1 := Lib.hid (ret_Minus (w0 := w0) hb ha (by omega) (by omega))
  have C2 := Lib.hid (ret_Times (w0 := w0) (hb.sub ha) hv (by omega) (by omega))
  have C3 := Lib.hid (ret_Plus (w0 := w0) ha ((hb.sub ha).mul hv) (by omega) (by omega))
  clear ha hb hv
  generalize RT (a + (b - a) * v) = r at *
  generalize RT ((b - a) * v) = q at *
  generalize RT (b - a) = p at *
  generalize RT a = s at *
  generalize RT b = t at *
  generalize RT v = u at *
  intro w hg
  have HG := Lib.hid hg; clear hg
  go_enter Tryz.func66, Tryz.ntmps66
  go_wp2_with fail
  refine (C1.out _ HG.out).mono ?_
  rintro e w1 ⟨rfl, hg⟩
  replace HG := Lib.hid hg; clear hg
  go_wp2_with fail
  refine (C2.out _ HG.out).mono ?_
  rintro e w1 ⟨rfl, hg⟩
  replace HG := Lib.hid hg; clear hg
  go_wp2_with fail
  refine (C3.out _ HG.out).mono ?_
  rintro e w1 ⟨rfl, hg⟩
  replace HG := Lib.hid hg; clear hg
  go_wp2
  go_ret
  exact ⟨rfl, HG.out⟩
theorem glE_zero_iff {s : ByteArray} {x st ti : Int} (h : glE s x st ti = 0) : ∃ a : Rat, s = RT a ∧ InR a ∧ lvlQ a = true ∧ 0 ≤ x ∧ x ≤ 65535 ∧ 0 ≤ st ∧ st ≤ 10000000 ∧ 0 ≤ ti ∧ ti ≤ 10000000 := by
  unfold glE at h
  by_cases hc : compE s = 0
  · rw [if_pos hc] at h
    obtain ⟨a, e, ia, la⟩ := compE_zero hc
    unfold tgE at h
    split at h
    · rename_i hb
      rw [Bool.and_eq_true, Bool.and_eq_true] at hb
      obtain ⟨b1, b2, b3⟩ := hb
      unfold okL at b1 b2 b3
      simp only [Bool.and_eq_true, decide_eq_true_eq] at b1 b2 b3
      exact ⟨a, e, ia, la, b1.1, b1.2, b2.1, b2.2, b3.1, b3.2⟩
    · omega
  · rw [if_neg hc] at h; exact absurd h hc
theorem sh_part {p q : Int} (hp : 0 ≤ p) (hp1 : p ≤ 100000000) (hq : 0 < q) (hq1 : q ≤ 100000000) : Sh 9 (Rat.divInt p q) :=
  Sh.divInt (by omega) ((nDigits_le_iff _ 9 (by omega)).2 (by omega)) ((nDigits_le_iff _ 9 (by omega)).2 (by omega))
def atE (s : ByteArray) (x st ti t : Int) : ByteArray × Int := if glE s x st ti = 0 then (RT (ofG (rv s) x st ti t), 0) else (⟨#[]⟩, glE s x st ti)
end
end Go.Proofs.YtlbnibicehpobaaGreatDoor
