/- Law 11: the program's palettes. -/
import Derived.Test.YtipfofdjngnkpaaRows
import Derived.Test.YtipfofdjngnkpaaCoM
import Derived.WalkKit
import Derived.WalkSpells
import Derived.WalkLawsBesides
import Derived.Lib.Hide
import Derived.Outline
import Derived.Below
import Derived.LoopN
set_option linter.unusedVariables false
set_option linter.unusedSimpArgs false
namespace Go.Proofs.Ytipfofdjngnkpaa
open Go.RowKit
open Z

/-- the world has grown: what was there is as it was -/
def Gr (w w' : World) : Prop := Below w.heap.size w w'
theorem Gr.refl (w : World) : Gr w w := Below.refl _ _
theorem Gr.trans {a b c : World} (h : Gr a b) (k : Gr b c) : Gr a c := Below.trans h (Below.mono k h.size)
theorem Gr.drew {a w : World} (h : Gr a w) : Gr a w.drew := Below.drew h
theorem Gr.alloc {a w : World} (h : Gr a w) (o : Obj) : Gr a (w.alloc o) := Below.alloc h h.size o
theorem ret_int {k : IntKind} {a b : Int} (h : a = b) : Ending.returned (.int k a) = Ending.returned (.int k b) := by rw [h]
theorem ret_bool {a b : Bool} (h : a = b) : Ending.returned (.bool a) = Ending.returned (.bool b) := by rw [h]

/-- the cells of a palette -/
def palA (b : Nat → Bool) : Array Value := #[.bool (b 0), .bool (b 1), .bool (b 2), .bool (b 3), .bool (b 4), .bool (b 5), .bool (b 6), .bool (b 7), .bool (b 8), .bool (b 9), .bool (b 10), .bool (b 11), .bool (b 12), .bool (b 13), .bool (b 14)]
def inB (l : List Int) (k : Nat) : Bool := l.contains (k : Int)
theorem palA_get {b : Nat → Bool} {k : Nat} (h : k < 15) : (palA b)[k]? = some (.bool (b k)) := by
  have : k = 0 ∨ k = 1 ∨ k = 2 ∨ k = 3 ∨ k = 4 ∨ k = 5 ∨ k = 6 ∨ k = 7 ∨ k = 8 ∨ k = 9 ∨ k = 10 ∨ k = 11 ∨ k = 12 ∨ k = 13 ∨ k = 14 := by omega
  rcases this with rfl | rfl | rfl | rfl | rfl | rfl | rfl | rfl | rfl | rfl | rfl | rfl | rfl | rfl | rfl <;> rfl

theorem idx3 (x y z : Value) : (∀ w, (Instr.index 23 (.agg #[x, y, z]) (.int .i64 0)).run Try.prog w = .ok x w) ∧ (∀ w, (Instr.index 23 (.agg #[x, y, z]) (.int .i64 1)).run Try.prog w = .ok y w) ∧ (∀ w, (Instr.index 23 (.agg #[x, y, z]) (.int .i64 2)).run Try.prog w = .ok z w) := by
  refine ⟨fun w => ?_, fun w => ?_, fun w => ?_⟩ <;> simp [Instr.index, run_underlying Try.underlying23, asIntOf, go_sem]
set_option maxRecDepth 100000 in
set_option maxHeartbeats 1000000 in
theorem co_lights (w : World) : Calls Try.prog 55 #[] w fun e w' => e = .returned (.agg #[.int .i64 3, .int .i64 4, .int .i64 5]) ∧ Gr w w' := by
  go_enter Try.func55, Try.ntmps55
  go_wp2
  refine bodyPost_ret (v := .agg #[.int .i64 3, .int .i64 4, .int .i64 5]) ?_ rfl ⟨rfl, (Gr.refl w).alloc _⟩
  simp [results, Try.results55, go_sem]
set_option maxRecDepth 100000 in
set_option maxHeartbeats 1000000 in
theorem co_dyes (w : World) : Calls Try.prog 52 #[] w fun e w' => e = .returned (.agg #[.int .i64 8, .int .i64 9, .int .i64 10]) ∧ Gr w w' := by
  go_enter Try.func52, Try.ntmps52
  go_wp2
  refine bodyPost_ret (v := .agg #[.int .i64 8, .int .i64 9, .int .i64 10]) ?_ rfl ⟨rfl, (Gr.refl w).alloc _⟩
  simp [results, Try.results52, go_sem]
set_option maxRecDepth 100000 in
set_option maxHeartbeats 2000000 in
theorem co_has_lights (b : Nat → Bool) (w : World) : Calls Try.prog 51 #[.agg (palA b), .agg #[.int .i64 3, .int .i64 4, .int .i64 5]] w fun e w' => e = .returned (.bool (b 3 && (b 4 && b 5))) ∧ Gr w w' := by
  have hg := Lib.hid (((Gr.refl w).alloc (.cells (palA b) 60)).alloc (.cells #[.int .i64 3, .int .i64 4, .int .i64 5] 23))
  obtain ⟨hi0, hi1, hi2⟩ := idx3 (.int .i64 3) (.int .i64 4) (.int .i64 5)
  unfold palA at hg ⊢
  cases h1 : b 3
  · rw [h1] at hg
    go_enter Try.func51, Try.ntmps51
    go_wp2_with fail
    refine wp_loop_rounds 1 ?_
    rw [rounds_succ]
    go_wp2
    go_ret
    exact ⟨rfl, hg.out⟩
  · cases h2 : b 4
    · rw [h1, h2] at hg
      go_enter Try.func51, Try.ntmps51
      go_wp2_with fail
      refine wp_loop_rounds 2 ?_
      rw [rounds_succ]
      go_wp2
      rw [rounds_succ]
      go_wp2
      go_ret
      exact ⟨rfl, hg.out⟩
    · cases h3 : b 5
      · rw [h1, h2, h3] at hg
        go_enter Try.func51, Try.ntmps51
        go_wp2_with fail
        refine wp_loop_rounds 3 ?_
        rw [rounds_succ]
        go_wp2
        rw [rounds_succ]
        go_wp2
        rw [rounds_succ]
        go_wp2
        go_ret
        exact ⟨rfl, hg.out⟩
      · rw [h1, h2, h3] at hg
        go_enter Try.func51, Try.ntmps51
        go_wp2_with fail
        refine wp_loop_rounds 4 ?_
        rw [rounds_succ]
        go_wp2
        rw [rounds_succ]
        go_wp2
        rw [rounds_succ]
        go_wp2
        rw [rounds_succ]
        go_wp2
        go_ret
        exact ⟨rfl, hg.out⟩
set_option maxRecDepth 100000 in
set_option maxHeartbeats 2000000 in
theorem co_has_dyes (b : Nat → Bool) (w : World) : Calls Try.prog 51 #[.agg (palA b), .agg #[.int .i64 8, .int .i64 9, .int .i64 10]] w fun e w' => e = .returned (.bool (b 8 && (b 9 && b 10))) ∧ Gr w w' := by
  have hg := Lib.hid (((Gr.refl w).alloc (.cells (palA b) 60)).alloc (.cells #[.int .i64 8, .int .i64 9, .int .i64 10] 23))
  obtain ⟨hi0, hi1, hi2⟩ := idx3 (.int .i64 8) (.int .i64 9) (.int .i64 10)
  unfold palA at hg ⊢
  cases h1 : b 8
  · rw [h1] at hg
    go_enter Try.func51, Try.ntmps51
    go_wp2_with fail
    refine wp_loop_rounds 1 ?_
    rw [rounds_succ]
    go_wp2
    go_ret
    exact ⟨rfl, hg.out⟩
  · cases h2 : b 9
    · rw [h1, h2] at hg
      go_enter Try.func51, Try.ntmps51
      go_wp2_with fail
      refine wp_loop_rounds 2 ?_
      rw [rounds_succ]
      go_wp2
      rw [rounds_succ]
      go_wp2
      go_ret
      exact ⟨rfl, hg.out⟩
    · cases h3 : b 10
      · rw [h1, h2, h3] at hg
        go_enter Try.func51, Try.ntmps51
        go_wp2_with fail
        refine wp_loop_rounds 3 ?_
        rw [rounds_succ]
        go_wp2
        rw [rounds_succ]
        go_wp2
        rw [rounds_succ]
        go_wp2
        go_ret
        exact ⟨rfl, hg.out⟩
      · rw [h1, h2, h3] at hg
        go_enter Try.func51, Try.ntmps51
        go_wp2_with fail
        refine wp_loop_rounds 4 ?_
        rw [rounds_succ]
        go_wp2
        rw [rounds_succ]
        go_wp2
        rw [rounds_succ]
        go_wp2
        rw [rounds_succ]
        go_wp2
        go_ret
        exact ⟨rfl, hg.out⟩
end Go.Proofs.Ytipfofdjngnkpaa
