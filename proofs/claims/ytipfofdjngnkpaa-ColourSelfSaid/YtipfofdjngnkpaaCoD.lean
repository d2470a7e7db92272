/- Law 11: the program's checks of levels, the least and the greatest level. -/
import Derived.Test.YtipfofdjngnkpaaCoC
set_option linter.unusedVariables false
set_option linter.unusedSimpArgs false
namespace Go.Proofs.Ytipfofdjngnkpaa
open Go.RowKit
open Z
set_option maxRecDepth 100000 in
set_option maxHeartbeats 1000000 in
theorem co_levelCheck (v : Int) (w : World) : Calls Try.prog 53 #[.int .i64 v] w fun e w' => e = .returned (.int .i64 (if isL v = true then 0 else 2)) ∧ w' = w := by
  unfold isL
  by_cases h0 : 0 ≤ v
  · by_cases h1 : v ≤ 65535
    · have d1 : decide (v < 0) = false := decide_eq_false (by omega)
      have d2 : decide (65535 < v) = false := decide_eq_false (by omega)
      rw [if_pos (by simp [h0, h1])]
      go_enter Try.func53, Try.ntmps53
      go_wp2
      go_ret
      exact ⟨rfl, rfl⟩
    · have d1 : decide (v < 0) = false := decide_eq_false (by omega)
      have d2 : decide (65535 < v) = true := decide_eq_true (by omega)
      rw [if_neg (by simp [h1])]
      go_enter Try.func53, Try.ntmps53
      go_wp2
      go_ret
      exact ⟨rfl, rfl⟩
  · have d1 : decide (v < 0) = true := decide_eq_true (by omega)
    rw [if_neg (by simp [h0])]
    go_enter Try.func53, Try.ntmps53
    go_wp2
    go_ret
    exact ⟨rfl, rfl⟩
set_option maxRecDepth 100000 in
set_option maxHeartbeats 2000000 in
theorem co_checkLevels {a : Option Addr} {l : List Int} {cap : Nat} (w : World) (hr : RdI w a l) (hlen : l.length ≤ maxLen) :
    Calls Try.prog 31 #[.slice a l.length cap] w fun e w' => e = .returned (.int .i64 (if l.all isL = true then 0 else 2)) ∧ w' = w := by
  obtain ⟨E, hE⟩ : ∃ E : Int, (if l.all isL = true then 0 else 2) = E := ⟨_, rfl⟩
  rw [hE]
  have HY : Hid ((∀ j (hj : j < l.length), isL l[j] = true) → E = 0) := Lib.hid fun h => by
    rw [← hE, if_pos]; rw [List.all_eq_true]; intro x hx; obtain ⟨j, hj, rfl⟩ := List.getElem_of_mem hx; exact h j hj
  have HX : Hid (∀ j (hj : j < l.length), isL l[j] = false → E = 2) := Lib.hid fun j hj h => by
    rw [← hE, if_neg]; intro h2; rw [List.all_eq_true] at h2; rw [h2 _ (List.getElem_mem hj)] at h; cases h
  have HC := Lib.hid (fun v => co_levelCheck v w)
  obtain ⟨n, hn⟩ : ∃ n, n = l.length := ⟨_, rfl⟩
  have HN := Lib.hid hn
  have HR := Lib.hid hr
  rw [← hn] at hlen ⊢
  clear hn hr hE
  have hl2 : n ≤ 9223372036854775807 := hlen
  clear hlen
  go_enter Try.func31, Try.ntmps31
  go_wp2
  go_loopw [4, 5, 8] (fun _ _ i wr => ∃ k : Nat, i = .int .i64 k ∧ k ≤ n ∧ Hid (w = wr) ∧ Hid (∀ j (hj : j < l.length), j < k → isL l[j] = true)) (fun _ _ i _ => n - (intOf i).toNat)
  case atStart => exact ⟨0, rfl, Nat.zero_le _, rfl, fun j hj h => absurd h (by omega)⟩
  case round =>
    obtain ⟨k, rfl, hk, HW, HK⟩ := hrel
    by_cases hlt : k < n
    · have hkl : k < l.length := by rw [← HN.out]; exact hlt
      have hwr := HW.out
      subst hwr
      obtain ⟨b, o, rfl, hc⟩ := HR.out k hkl
      have HX1 := Lib.hid (HX.out k hkl)
      have HQ : Hid (isL l[k] = true → ∀ j (hj : j < l.length), j < k + 1 → isL l[j] = true) := Lib.hid fun e j hj h => by
        by_cases hjk : j = k
        · subst hjk; exact e
        · exact HK.out j hj (by omega)
      generalize l[k] = x at *
      have HC1 := Lib.hid (HC.out x)
      clear HK HC
      cases hx : isL x
      · rw [hx] at HX1 HC1
        have hv := HX1.out rfl
        subst hv
        rw [if_neg (by simp)] at HC1
        go_wp2_with fail
        refine HC1.out.mono ?_; rintro e w1 ⟨rfl, rfl⟩
        go_wp2
        go_ret
        exact ⟨rfl, rfl⟩
      · rw [hx] at HX1 HC1 HQ
        rw [if_pos rfl] at HC1
        have HQ1 := Lib.hid (HQ.out rfl)
        go_wp2_with fail
        refine HC1.out.mono ?_; rintro e w1 ⟨rfl, hw1⟩
        subst hw1
        go_wp2
        go_roundw
        case rel => exact ⟨k + 1, by go_num, by omega, trivial, HQ1.out⟩
        case measure => simp [intOf]; omega
    · have hv := HY.out fun j hj => HK.out j hj (by have := HN.out; omega)
      have hwr := HW.out
      subst hwr
      subst hv
      go_wp2
      go_ret
      exact ⟨rfl, rfl⟩
def vC (c : C3) : Value := .agg #[.int .i64 c.1, .int .i64 c.2.1, .int .i64 c.2.2]
set_option maxRecDepth 100000 in
set_option maxHeartbeats 1000000 in
theorem co_least (c : C3) (w : World) : Calls Try.prog 54 #[vC c] w fun e w' => e = .returned (.int .i64 (min3 c)) ∧ Gr w w' := by
  obtain ⟨x, y, z⟩ := c
  have HG := Lib.hid ((Gr.refl w).alloc (.cells #[.int .i64 x, .int .i64 y, .int .i64 z] 23))
  unfold vC
  go_enter Try.func54, Try.ntmps54
  go_wp2_with fail
  all_goals
    go_ret
    refine ⟨ret_int ?_, HG.out⟩
    simp only [min3]
    repeat' split at *
    all_goals omega
set_option maxRecDepth 100000 in
set_option maxHeartbeats 1000000 in
theorem co_greatest (c : C3) (w : World) : Calls Try.prog 43 #[vC c] w fun e w' => e = .returned (.int .i64 (max3 c)) ∧ Gr w w' := by
  obtain ⟨x, y, z⟩ := c
  have HG := Lib.hid ((Gr.refl w).alloc (.cells #[.int .i64 x, .int .i64 y, .int .i64 z] 23))
  unfold vC
  go_enter Try.func43, Try.ntmps43
  go_wp2_with fail
  all_goals
    go_ret
    refine ⟨ret_int ?_, HG.out⟩
    simp only [max3]
    repeat' split at *
    all_goals omega
/-- the cells of levels -/
def outA (f : Nat → Int) : Array Value := #[.int .i64 (f 0), .int .i64 (f 1), .int .i64 (f 2), .int .i64 (f 3), .int .i64 (f 4), .int .i64 (f 5), .int .i64 (f 6), .int .i64 (f 7), .int .i64 (f 8), .int .i64 (f 9), .int .i64 (f 10), .int .i64 (f 11), .int .i64 (f 12), .int .i64 (f 13), .int .i64 (f 14)]
theorem outA_get {f : Nat → Int} {k : Nat} (h : k < 15) : (outA f)[k]? = some (.int .i64 (f k)) := by
  have : k = 0 ∨ k = 1 ∨ k = 2 ∨ k = 3 ∨ k = 4 ∨ k = 5 ∨ k = 6 ∨ k = 7 ∨ k = 8 ∨ k = 9 ∨ k = 10 ∨ k = 11 ∨ k = 12 ∨ k = 13 ∨ k = 14 := by omega
  rcases this with rfl | rfl | rfl | rfl | rfl | rfl | rfl | rfl | rfl | rfl | rfl | rfl | rfl | rfl | rfl <;> rfl
theorem outA_set (f : Nat → Int) (m : Nat) (v : Int) (h : m < 15) : (outA f).setIfInBounds m (.int .i64 v) = outA fun k => if k = m then v else f k := by
  have : m = 0 ∨ m = 1 ∨ m = 2 ∨ m = 3 ∨ m = 4 ∨ m = 5 ∨ m = 6 ∨ m = 7 ∨ m = 8 ∨ m = 9 ∨ m = 10 ∨ m = 11 ∨ m = 12 ∨ m = 13 ∨ m = 14 := by omega
  rcases this with rfl | rfl | rfl | rfl | rfl | rfl | rfl | rfl | rfl | rfl | rfl | rfl | rfl | rfl | rfl <;> rfl
theorem outA_congr {f g : Nat → Int} (h : ∀ k, k < 15 → f k = g k) : outA f = outA g := by
  unfold outA
  simp only [h 0 (by decide), h 1 (by decide), h 2 (by decide), h 3 (by decide), h 4 (by decide), h 5 (by decide), h 6 (by decide), h 7 (by decide), h 8 (by decide), h 9 (by decide), h 10 (by decide), h 11 (by decide), h 12 (by decide), h 13 (by decide), h 14 (by decide)]
theorem outA_one (f : Nat → Int) : (outA f).all (·.oneCell') = true := by simp [outA, Value.oneCell']
theorem Try.infoOut : (Try.prog.info? 64).map (fun i => (i.zero, i.size)) = some (some (.agg (outA fun _ => 0)), 15) := by kernel_rfl
def OutAt (w : World) (g : Nat) (f : Nat → Int) : Prop := w.heap[g]? = some (.cells (outA f) 64 (0, 0))
theorem OutAt.gr {w w' : World} {g : Nat} {b : Nat → Int} (h : OutAt w g b) (hg : Gr w w') : OutAt w' g b := (hg.block g (Array.getElem?_eq_some_iff.1 h).1).trans h
theorem OutAt.drew {w : World} {g : Nat} {b : Nat → Int} (h : OutAt w g b) : OutAt w.drew g b := h
theorem OutAt.new (w : World) (b : Nat → Int) : OutAt (w.alloc (.cells (outA b) 64)) w.heap.size b := heap_alloc_last w _
theorem OutAt.cell {w : World} {g : Nat} {f : Nat → Int} (H : OutAt w g f) {k : Nat} (hk : k < 15) : w.cell? ⟨g, k, none⟩ = some (.int .i64 (f k)) := by
  rw [cell_of_row _ _ _ _ _ _ H]; exact outA_get hk
theorem OutAt.set {w : World} {g : Nat} {f : Nat → Int} (H : OutAt w g f) {m : Nat} (hm : m < 15) (v : Int) : OutAt (w.setCell ⟨g, m, none⟩ (.int .i64 v)) g fun k => if k = m then v else f k := by
  unfold OutAt at *
  rw [← outA_set f m v hm]
  exact heap_setCell_same w g m _ _ _ H
theorem OutAt.other {w : World} {g : Nat} {f : Nat → Int} (H : OutAt w g f) {b o : Nat} {v : Value} (hb : g ≠ b) : OutAt (w.setCell ⟨b, o, none⟩ v) g f := by
  unfold OutAt at *
  rw [← H]; exact Below.heap_setCell w _ v g hb
theorem OutAt.row {w : World} {g : Nat} {f : Nat → Int} (H : OutAt w g f) (h : Nat → Int) : OutAt (w.setRow g (outA h)) g h := setRow_heap w g _ _ _ _ H
theorem OutAt.fz {w : World} {g : Nat} {f : Nat → Int} (H : OutAt w g f) (k : Nat) : w.frozen? ⟨g, k, none⟩ = false := by
  unfold OutAt at H
  simp [World.frozen?, H]
theorem OutAt.congr {w : World} {g : Nat} {f h : Nat → Int} (H : OutAt w g f) (e : ∀ k, k < 15 → f k = h k) : OutAt w g h := by unfold OutAt at *; rw [← outA_congr e]; exact H
theorem run_loadO {w : World} {g : Nat} {b : Nat → Int} (hg : OutAt w g b) : (loadVar 64 ⟨g, 0, none⟩).run Try.prog w = .ok (.agg (outA b)) w :=
  run_loadVar_row w g _ _ _ (0, 0) _ hg Try.underlying64 rfl (by rw [(zero_of_info Try.infoOut).2]; rfl)
theorem exec_loadO {w : World} {g : Nat} {b : Nat → Int} {ev : Operand → Value} (o : Oper) {x : Operand} (ho : o.op = .load 64 x) (hx : ev x = .pointer (some ⟨g, 0, none⟩)) (hg : OutAt w g b) : (execOp ev o).run Try.prog w = .ok (.value (.agg (outA b))) w := by
  unfold execOp
  rw [ho]
  simp only [hx, Instr.loadAt, Instr.sureAddr, Sem.run_bind, Sem.run_pure, Result.andThen, run_loadO hg]
theorem wpl_loadO {ops : Array Oper} {rest : List Oper} {o : Oper} {a : Act} {Q : Exit → Act → World → Prop} {w : World} {x : Operand} {g : Nat} {f : Nat → Int} (hg : o.guard = none) (ho : o.op = .load 64 x) (hx : a.eval x = .pointer (some ⟨g, 0, none⟩)) (hP : OutAt w g f)
    (hK : wpList Try.prog ops Q rest (a.put o.dst (.agg (outA f))) w) : wpList Try.prog ops Q (o :: rest) a w :=
  wpList_plain hg fun K hK' => by
    unfold Oper.wp
    rw [exec_loadO o ho hx hP]; exact hK' _ _ hK
theorem wpl_storeO {ops : Array Oper} {rest : List Oper} {o : Oper} {a : Act} {Q : Exit → Act → World → Prop} {w : World} {x y : Operand} {g : Nat} {f f0 : Nat → Int} (hg : o.guard = none) (ho : o.op = .store 64 x y) (hx : a.eval x = .pointer (some ⟨g, 0, none⟩)) (hy : a.eval y = .agg (outA f)) (hP : OutAt w g f0)
    (hK : wpList Try.prog ops Q rest (a.put o.dst undef) (w.setRow g (outA f))) : wpList Try.prog ops Q (o :: rest) a w := by
  refine wpList_plain hg fun K hK' => ?_
  have hz := (zero_of_info Try.infoOut).2
  have h1 : (storeVar 64 ⟨g, 0, none⟩ (.agg (outA f))).run Try.prog w = .ok () (w.setRow g (outA f)) :=
    run_storeVar_row w g _ _ _ _ hP (by rw [hz]; rfl) rfl (outA_one f)
  unfold Oper.wp execOp
  rw [ho]
  simp only [hx, hy, Instr.storeAt, Instr.sureAddr, Sem.run_bind, Sem.run_pure, Result.andThen, h1]
  rw [Oper.upon_skip]
  exact hK' _ _ hK
end Go.Proofs.Ytipfofdjngnkpaa
