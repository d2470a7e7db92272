/- Law 7: LexerJoins. -/
import Derived.Test.YtfneikldnccepaaDoorLyD
set_option linter.unusedVariables false
set_option linter.unusedSimpArgs false
namespace Go.Proofs.YtfneikldnccepaaDoor
open Go.RowKit Go.Shelf
open Z
theorem sumT_mem {L : List Tk} {t : Tk} (h : t ∈ L) : t.2.1.length ≤ sumT L := by
  induction L with
  | nil => cases h
  | cons x L ih =>
    have e : sumT (x :: L) = x.2.1.length + sumT L := by unfold sumT; simp
    rcases List.mem_cons.1 h with rfl | h
    · omega
    · have := ih h; omega
theorem few_facts {L : List Tk} (h : fewR L = true) : L.length ≤ 400 ∧ sumT L ≤ 6000 ∧ ∀ j (h : j < L.length), L[j].2.1.length ≤ 6000 := by
  unfold fewR at h
  simp only [Bool.and_eq_true, decide_eq_true_eq] at h
  exact ⟨h.1, h.2, fun j hj => by have := sumT_mem (List.getElem_mem hj); omega⟩
set_option maxRecDepth 100000 in
set_option maxHeartbeats 2000000 in
theorem l7_LexerJoins {a : Option Addr} {L : List Tk} {c : Nat} (w : World) (hL : TksAt w a L) (hl : L.length ≤ 10000000000000) (hb : ∀ j (h : j < L.length), L[j].2.1.length ≤ 140737488355328) :
    Calls Tryd.prog 6 #[.slice a L.length c] w fun e w' => e = .returned (.bool true) ∧ Gr w w' := by
  have AW := Lib.hid (fun w => l7_awake w)
  have HL := Lib.hid hL
  have F := Lib.hid (r7_Few (c := c) w hL hl hb)
  have FF := Lib.hid (few_facts (L := L))
  have A : Hid (fewR L = true → ∀ w', Gr w w' → Calls Tryd.prog 26 #[.slice a L.length c] w' fun e w'' => e = .returned (.tuple #[.string (str (joinR L).1), .int .i64 (joinR L).2]) ∧ Gr w' w'') := Lib.hid fun h w' hg => by
    obtain ⟨h1, h2, h3⟩ := few_facts h
    exact lx_Join w' (hL.gr hg) h1 h2 h3
  have B : Hid (fewR L = true → ∀ w', Gr w w' → Calls Tryd.prog 27 #[.slice a L.length c] w' fun e w'' => e = .returned (.tuple #[.string (str (joinR L).1), .int .i64 (joinR L).2]) ∧ Gr w' w'') := Lib.hid fun h w' hg => by
    obtain ⟨h1, h2, h3⟩ := few_facts h
    exact r7_Join w' (hL.gr hg) h1 h2 h3
  clear hL hb FF
  generalize joinR L = V at *
  obtain ⟨x1, x2⟩ := V
  simp only at A B
  generalize str x1 = x at *
  have q1 : (x2 == x2) = true := by simp
  have q3 : (x.toList == x.toList) = true := by simp
  generalize L.length = n at *
  cases hf : fewR L
  · rw [hf] at F
    clear A B hf
    go_enter Tryd.func6, Tryd.ntmps6
    go_wp2_with fail
    refine F.out.mono ?_; rintro e w1 ⟨rfl, rfl⟩
    go_wp2_with fail
    refine (AW.out _).mono ?_; rintro e w2 ⟨rfl, hg⟩
    have HG := Lib.hid hg
    clear hg
    go_wp2
    go_ret
    exact ⟨rfl, HG.out⟩
  · rw [hf] at F
    have A := Lib.hid (A.out hf)
    have B := Lib.hid (B.out hf)
    clear hf
    go_enter Tryd.func6, Tryd.ntmps6
    go_wp2_with fail
    refine F.out.mono ?_; rintro e w1 ⟨rfl, rfl⟩
    go_wp2_with fail
    refine (A.out _ (Gr.refl _)).mono ?_; rintro e w2 ⟨rfl, hg⟩
    have HG := Lib.hid hg
    clear hg
    go_wp2_with fail
    refine (B.out _ HG.out).mono ?_; rintro e w3 ⟨rfl, hg⟩
    have HG2 := Lib.hid (Gr.trans HG.out hg)
    clear hg HG
    go_wp2_with fail
    refine (AW.out _).mono ?_; rintro e w4 ⟨rfl, hg⟩
    have HG3 := Lib.hid (Gr.trans HG2.out hg)
    clear hg HG2
    go_wp2
    go_ret
    exact ⟨rfl, HG3.out⟩
end Go.Proofs.YtfneikldnccepaaDoor
