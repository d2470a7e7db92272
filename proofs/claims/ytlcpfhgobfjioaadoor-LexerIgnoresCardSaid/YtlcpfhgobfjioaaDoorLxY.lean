/- Law 7: one token of Join, both sides; Few. -/
import Derived.Test.YtlcpfhgobfjioaaDoorLxX
set_option linter.unusedVariables false
set_option linter.unusedSimpArgs false
namespace Go.Proofs.YtlcpfhgobfjioaaDoor
open Go.RowKit Go.Shelf
open Z
/-- the error of a token in a list -/
def chkR (kd : Int) (l : List UInt8) : Int := if kd < 0 ∨ 3 < kd then 1 else if isTok l kd = true then 0 else 3
def TokOk (l : List UInt8) (kd : Int) : Prop := l ≠ [] ∧ l[0]? ≠ some 32 ∧ (rtok l 0).2 = l.length ∧ (rtok l 0).1.1 = kd ∧ (rtok l 0).1.2.1 = l
theorem tokOk_iff {l : List UInt8} {kd : Int} (h3 : kd ≠ 3) : isTok l kd = true ↔ TokOk l kd := by
  rw [isTok_iff]
  unfold TokOk rtok
  constructor
  · rintro ⟨h0, h1, h2, h4, h5⟩
    rw [if_neg (by simpa using h2), h1, h4, cut_all]
    refine ⟨?_, ?_, rfl, rfl, h5⟩
    · rintro rfl
      rw [kindR_nil] at h1
      exact h3 h1.symm
    · intro h
      cases l with
      | nil => simp at h
      | cons c t =>
        simp at h
        subst h
        have hb : skipB (32 :: t) 0 = skipB (32 :: t) 1 := skipB_blank (l := 32 :: t) (k := 0) (by simp) rfl
        have := (skipB_le (l := 32 :: t) (k := 1) (by simp)).1
        omega
  · rintro ⟨g1, g2, g3, g4, g5⟩
    by_cases he : (kindR l 0).2.1 ≠ 0
    · rw [if_pos he] at g3; simp only at g3; omega
    · rw [if_neg he] at g3 g4 g5
      simp only at g3 g4 g5
      have hend : (kindR l 0).2.2 = l.length := by omega
      rw [hend, cut_all, g4] at g5
      refine ⟨skipB_stop fun hk e => g2 (by rw [List.getElem?_eq_getElem hk, e]), g4, by simpa using he, hend, g5⟩
set_option maxRecDepth 100000 in
set_option maxHeartbeats 1000000 in
theorem lx_check (kd : Int) (s : ByteArray) (a : Int) (w : World) (hs : s.size ≤ 100000) : Calls Tryd.prog 33 #[.agg #[.int .i64 kd, .string s, .int .i64 a]] w fun e w' => e = .returned (.int .i64 (chkR kd s.data.toList)) ∧ Gr w w' := by
  have HX := TB.new w kd s a 32
  have HG := Lib.hid ((Gr.refl w).alloc (.cells #[.int .i64 kd, .string s, .int .i64 a] 32))
  obtain ⟨k0, k1, k2, -, -, -⟩ := id HX
  have HT := Lib.hid (fun w => lx_isToken s kd w hs)
  unfold chkR
  by_cases h1 : kd < 0
  · rw [if_pos (.inl h1)]
    clear HT HX
    go_enter Tryd.func33, Tryd.ntmps33
    go_wp2
    go_ret
    exact ⟨rfl, HG.out⟩
  · have h1b : 0 ≤ kd := by omega
    by_cases h2 : 3 < kd
    · rw [if_pos (.inr h2)]
      clear HT HX h1
      go_enter Tryd.func33, Tryd.ntmps33
      go_wp2
      go_ret
      exact ⟨rfl, HG.out⟩
    · have h2b : kd ≤ 3 := by omega
      rw [if_neg (by omega)]
      clear h1 h2 HX
      generalize isTok s.data.toList kd = t at *
      cases t
      all_goals
        go_enter Tryd.func33, Tryd.ntmps33
        go_wp2_with fail
        refine (HT.out _).mono ?_; rintro e w2 ⟨rfl, hg⟩
        have HG2 := Lib.hid (Gr.trans HG.out hg)
        clear hg
        go_wp2
        go_ret
        exact ⟨rfl, HG2.out⟩
end Go.Proofs.YtlcpfhgobfjioaaDoor
