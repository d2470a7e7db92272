/- T4: lists of texts that come in; whether one is long. -/
import Derived.Test.YtlcpfhgobfjioaaDoorTqG
set_option linter.unusedVariables false
set_option linter.unusedSimpArgs false
namespace Go.Proofs.YtlcpfhgobfjioaaDoor
open Go.RowKit Go.Shelf
open Z Rc
def badS (s : ByteArray) : Bool := decide (200 < s.size)
set_option maxHeartbeats 1000000 in
set_option maxRecDepth 100000 in
theorem top_long1 (s : ByteArray) (w : World) : Calls Tryd.prog 20 #[.string s] w fun e w' => e = .returned (.bool (badS s)) ∧ Gr w w' := by
  unfold badS
  go_enter Tryd.func20, Tryd.ntmps20
  go_wp2
  go_ret
  exact ⟨ret_bool (by first | rfl | exact decide_eq_decide.2 (by omega)), Gr.refl _⟩
set_option maxHeartbeats 2000000 in
set_option maxRecDepth 100000 in
theorem tq_IndexS (a : Option Addr) (l : List ByteArray) (cap : Nat) (w : World) (hr : RdS w a l) (hl : l.length ≤ cap) (hc : cap ≤ maxLen) :
    Calls Tryd.prog 45 #[.slice a l.length cap, .func (.func 20) #[] #[]] w fun e w' => (∃ i : Int, e = .returned (.int .i64 i) ∧ ((0 ≤ i ∧ l.all (fun x => !badS x) = false) ∨ (i = -1 ∧ l.all (fun x => !badS x) = true))) ∧ Gr w w' := by
  have HR := Lib.hid hr; clear hr
  unfold maxLen at hc
  go_enter Tryd.func45, Tryd.ntmps45
  go_wp2
  go_loopw [8] (fun i wr => ∃ k : Nat, i = .int .i64 k ∧ k ≤ l.length ∧ Hid (Gr w wr) ∧ Hid (∀ j (hj : j < l.length), j < k → badS l[j] = false)) (fun i _ => l.length - (intOf i).toNat)
  case atStart => exact ⟨0, rfl, by omega, Gr.refl _, fun j hj h => absurd h (by omega)⟩
  case round =>
    obtain ⟨k, rfl, hk, HG, HF⟩ := hrel
    by_cases hlt : k < l.length
    · obtain ⟨b, o, rfl, c0⟩ := (HR.out.gr HG.out) k hlt
      obtain ⟨x, HX⟩ : ∃ x, Hid (x = l[k]) := ⟨_, Lib.hid rfl⟩
      rw [← HX.out] at c0
      have C := Lib.hid (fun w => top_long1 x w)
      cases hbad : badS x
      · rw [hbad] at C
        have HF' : Hid (∀ j (hj : j < l.length), j < k + 1 → badS l[j] = false) := fun j hj h => by
          by_cases hjk : j = k
          · subst hjk; rw [← HX.out]; exact hbad
          · exact HF.out j hj (by omega)
        clear HF hbad
        go_wp2_with fail
        refine (C.out _).mono ?_; rintro e w1 ⟨rfl, hg1⟩
        have HG1 := Lib.hid (Gr.trans HG.out hg1); clear hg1 c0
        go_wp2
        go_roundw
        case rel => exact ⟨k + 1, by go_num, by omega, HG1.out, HF'⟩
        case measure => simp [intOf]; omega
      · rw [hbad] at C
        have HN : Hid (l.all (fun x => !badS x) = false) := by
          show _ = false
          rw [Bool.eq_false_iff]
          intro h
          have := List.all_eq_true.1 h _ (List.getElem_mem hlt)
          rw [← HX.out, hbad] at this
          exact absurd this (by decide)
        clear HF hbad
        go_wp2_with fail
        refine (C.out _).mono ?_; rintro e w1 ⟨rfl, hg1⟩
        have HG1 := Lib.hid (Gr.trans HG.out hg1); clear hg1 c0
        go_wp2
        go_ret
        exact ⟨⟨k, rfl, .inl ⟨by omega, HN.out⟩⟩, HG1.out⟩
    · have HY : Hid (l.all (fun x => !badS x) = true) := by
        show _ = true
        rw [List.all_eq_true]
        intro x hx
        obtain ⟨j, hj, rfl⟩ := List.getElem_of_mem hx
        rw [HF.out j hj (by omega)]; rfl
      clear HF
      go_wp2
      go_ret
      exact ⟨⟨-1, rfl, .inr ⟨rfl, HY.out⟩⟩, HG.out⟩
set_option maxHeartbeats 2000000 in
set_option maxRecDepth 100000 in
theorem tq_ContainsS (a : Option Addr) (l : List ByteArray) (cap : Nat) (w : World) (hr : RdS w a l) (hl : l.length ≤ cap) (hc : cap ≤ maxLen) :
    Calls Tryd.prog 19 #[.slice a l.length cap, .func (.func 20) #[] #[]] w fun e w' => e = .returned (.bool (!l.all (fun x => !badS x))) ∧ Gr w w' := by
  have C := Lib.hid (tq_IndexS a l cap w hr hl hc)
  generalize l.all (fun x => !badS x) = B at *
  generalize l.length = n at *
  unfold maxLen at hc
  clear hr
  go_enter Tryd.func19, Tryd.ntmps19
  go_wp2_with fail
  refine C.out.mono ?_
  rintro e w1 ⟨⟨i, rfl, hi⟩, hg1⟩
  have HG := Lib.hid hg1; clear hg1
  rcases hi with ⟨h0, rfl⟩ | ⟨rfl, rfl⟩
  · go_wp2
    go_ret
    exact ⟨ret_bool (by first | rfl | exact decide_eq_true h0), HG.out⟩
  · go_wp2
    go_ret
    exact ⟨rfl, HG.out⟩
end Go.Proofs.YtlcpfhgobfjioaaDoor
