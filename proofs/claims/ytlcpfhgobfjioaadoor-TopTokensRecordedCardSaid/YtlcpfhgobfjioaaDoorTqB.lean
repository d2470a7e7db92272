/- T4: whether records are right and few (playEntries). -/
import Derived.Test.YtlcpfhgobfjioaaDoorTqA
import Derived.Test.YtlcpfhgobfjioaaDoorRcU
import Derived.Test.YtlcpfhgobfjioaaDoorRcQ
set_option linter.unusedVariables false
set_option linter.unusedSimpArgs false
namespace Go.Proofs.YtlcpfhgobfjioaaDoor
open Go.RowKit Go.Shelf
open Z Rc
set_option maxHeartbeats 1000000 in
set_option maxRecDepth 100000 in
theorem top_small1 (x : E) (w : World) (hx : x.2.size ≤ maxLen) :
    Calls Tryd.prog 53 #[vE x] w fun e w' => e = .returned (.bool (badE x)) ∧ Gr w w' := by
  obtain ⟨k, d⟩ := x
  unfold badE vE
  unfold maxLen at hx
  simp only [] at hx ⊢
  have k0 : (w.alloc (.cells #[.int .i64 k, .string d] 54)).cell? ⟨w.heap.size, 0, none⟩ = some (.int .i64 k) := by simp
  have k1 : (w.alloc (.cells #[.int .i64 k, .string d] 54)).cell? ⟨w.heap.size, 1, none⟩ = some (.string d) := by simp
  have HG : Hid (Gr w (w.alloc (.cells #[.int .i64 k, .string d] 54))) := (Gr.refl w).alloc _
  by_cases h1 : k < 0
  · go_enter Tryd.func53, Tryd.ntmps53
    go_wp2
    go_ret
    exact ⟨ret_bool (by rw [decide_eq_true h1]; rfl), HG.out⟩
  · by_cases h2 : 255 < k
    · go_enter Tryd.func53, Tryd.ntmps53
      go_wp2
      go_ret
      exact ⟨ret_bool (by first | rfl | (rw [decide_eq_true (show 255 < k by omega)]; simp)), HG.out⟩
    · go_enter Tryd.func53, Tryd.ntmps53
      go_wp2
      go_ret
      exact ⟨ret_bool (by rw [decide_eq_false (show ¬ k < 0 by omega), decide_eq_false (show ¬ 255 < k by omega)]; simp only [Bool.false_or]; exact decide_eq_decide.2 (by omega)), HG.out⟩
set_option maxHeartbeats 2000000 in
set_option maxRecDepth 100000 in
theorem tq_IndexFunc (a : Option Addr) (l : List E) (cap : Nat) (w : World) (hr : RdE w a l) (hl : l.length ≤ cap) (hc : cap ≤ maxLen) (hz : ∀ x ∈ l, x.2.size ≤ maxLen) :
    Calls Tryd.prog 73 #[.slice a l.length cap, .func (.func 53) #[] #[]] w fun e w' => (∃ i : Int, e = .returned (.int .i64 i) ∧ ((0 ≤ i ∧ l.all (fun x => !badE x) = false) ∨ (i = -1 ∧ l.all (fun x => !badE x) = true))) ∧ Gr w w' := by
  have HR := Lib.hid hr; clear hr
  unfold maxLen at hc
  go_enter Tryd.func73, Tryd.ntmps73
  go_wp2
  go_loopw [8] (fun i wr => ∃ k : Nat, i = .int .i64 k ∧ k ≤ l.length ∧ Hid (Gr w wr) ∧ Hid (∀ j (hj : j < l.length), j < k → badE l[j] = false)) (fun i _ => l.length - (intOf i).toNat)
  case atStart => exact ⟨0, rfl, by omega, Gr.refl _, fun j hj h => absurd h (by omega)⟩
  case round =>
    obtain ⟨k, rfl, hk, HG, HF⟩ := hrel
    by_cases hlt : k < l.length
    · obtain ⟨b, o, rfl, c0, c1⟩ := (HR.out.gr HG.out) k hlt
      obtain ⟨x, HX⟩ : ∃ x, Hid (x = l[k]) := ⟨_, Lib.hid rfl⟩
      rw [← HX.out] at c0 c1
      have C := Lib.hid (fun w => top_small1 x w (by rw [HX.out]; exact hz _ (List.getElem_mem _)))
      unfold vE at C
      cases hbad : badE x
      · rw [hbad] at C
        have HF' : Hid (∀ j (hj : j < l.length), j < k + 1 → badE l[j] = false) := fun j hj h => by
          by_cases hjk : j = k
          · subst hjk; rw [← HX.out]; exact hbad
          · exact HF.out j hj (by omega)
        clear HF hbad
        go_wp2_with fail
        refine (C.out _).mono ?_; rintro e w1 ⟨rfl, hg1⟩
        have HG1 := Lib.hid (Gr.trans HG.out hg1); clear hg1 c0 c1
        go_wp2
        go_roundw
        case rel => exact ⟨k + 1, by go_num, by omega, HG1.out, HF'⟩
        case measure => simp [intOf]; omega
      · rw [hbad] at C
        have HN : Hid (l.all (fun x => !badE x) = false) := by
          show _ = false
          rw [Bool.eq_false_iff]
          intro h
          have := List.all_eq_true.1 h _ (List.getElem_mem hlt)
          rw [← HX.out, hbad] at this
          exact absurd this (by decide)
        clear HF hbad
        go_wp2_with fail
        refine (C.out _).mono ?_; rintro e w1 ⟨rfl, hg1⟩
        have HG1 := Lib.hid (Gr.trans HG.out hg1); clear hg1 c0 c1
        go_wp2
        go_ret
        exact ⟨⟨k, rfl, .inl ⟨by omega, HN.out⟩⟩, HG1.out⟩
    · have HY : Hid (l.all (fun x => !badE x) = true) := by
        show _ = true
        rw [List.all_eq_true]
        intro x hx
        obtain ⟨j, hj, rfl⟩ := List.getElem_of_mem hx
        rw [HF.out j hj (by omega)]; rfl
      clear HF
      go_wp2
      go_ret
      exact ⟨⟨-1, rfl, .inr ⟨rfl, HY.out⟩⟩, HG.out⟩
set_option maxHeartbeats 2000000 in
set_option maxRecDepth 100000 in
theorem tq_ContainsFunc (a : Option Addr) (l : List E) (cap : Nat) (w : World) (hr : RdE w a l) (hl : l.length ≤ cap) (hc : cap ≤ maxLen) (hz : ∀ x ∈ l, x.2.size ≤ maxLen) :
    Calls Tryd.prog 52 #[.slice a l.length cap, .func (.func 53) #[] #[]] w fun e w' => e = .returned (.bool (!l.all (fun x => !badE x))) ∧ Gr w w' := by
  have C := Lib.hid (tq_IndexFunc a l cap w hr hl hc hz)
  generalize l.all (fun x => !badE x) = B at *
  generalize l.length = n at *
  unfold maxLen at hc
  clear hr hz
  go_enter Tryd.func52, Tryd.ntmps52
  go_wp2_with fail
  refine C.out.mono ?_
  rintro e w1 ⟨⟨i, rfl, hi⟩, hg1⟩
  have HG := Lib.hid hg1; clear hg1
  rcases hi with ⟨h0, rfl⟩ | ⟨rfl, rfl⟩
  · go_wp2
    go_ret
    exact ⟨ret_bool (by first | rfl | exact decide_eq_true h0), HG.out⟩
  · go_wp2
    go_ret
    exact ⟨rfl, HG.out⟩
set_option maxHeartbeats 2000000 in
set_option maxRecDepth 100000 in
theorem top_playEntries (a : Option Addr) (l : List E) (cap : Nat) (w : World) (hr : RdE w a l) (hl : l.length ≤ cap) (hc : cap ≤ maxLen) (hz : ∀ x ∈ l, x.2.size ≤ maxLen) :
    Calls Tryd.prog 26 #[.slice a l.length cap] w fun e w' => e = .returned (.bool (smallB l)) ∧ Gr w w' := by
  have C := Lib.hid (fun w (hr : RdE w a l) => tq_ContainsFunc a l cap w hr hl hc hz)
  have HR := Lib.hid hr
  unfold maxLen at hc
  unfold smallB
  clear hr hz
  by_cases h : l.length ≤ 20
  · rw [decide_eq_true h, Bool.true_and]
    generalize l.all (fun x => !badE x) = B at *
    generalize hn : l.length = n at *
    go_enter Tryd.func26, Tryd.ntmps26
    go_wp2_with fail
    refine (C.out _ HR.out).mono ?_
    rintro e w1 ⟨rfl, hg1⟩
    have HG := Lib.hid hg1; clear hg1
    go_wp2
    go_ret
    exact ⟨ret_bool (by simp), HG.out⟩
  · rw [decide_eq_false h, Bool.false_and]
    go_enter Tryd.func26, Tryd.ntmps26
    go_wp2
    go_ret
    exact ⟨rfl, Gr.refl _⟩
end Go.Proofs.YtlcpfhgobfjioaaDoor
