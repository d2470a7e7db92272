/- LxKM: LxK, LxL, LxM, joined. -/
import Derived.Test.YtlcpfhgobfjioaaDoorLxJ
set_option linter.unusedVariables false
set_option linter.unusedSimpArgs false

/- Law 7: the program's isToken, Word, Number, Quote, Unquote. -/
namespace Go.Proofs.YtlcpfhgobfjioaaDoor.Z
open Go
/-- whether a text is, as a whole, a token of a kind -/
def isTok (l : List UInt8) (kd : Int) : Bool := decide ((tokR l 0).2.1 = 0) && (decide ((tokR l 0).1.1 = kd) && decide ((tokR l 0).1.2.1 = l))
end Go.Proofs.YtlcpfhgobfjioaaDoor.Z
namespace Go.Proofs.YtlcpfhgobfjioaaDoor
open Go.RowKit Go.Shelf
open Z
theorem str_beq (l : List UInt8) (s : ByteArray) : ((str l).toList == s.toList) = decide (l = s.data.toList) := by
  rw [ByteArray.toList_eq, ByteArray.toList_eq]
  show (l == s.data.toList) = _
  rw [Bool.eq_iff_iff]; simp
set_option maxRecDepth 100000 in
set_option maxHeartbeats 2000000 in
theorem lx_isToken (s : ByteArray) (kd : Int) (w : World) (hs : s.size ≤ 100000) : Calls Tryd.prog 55 #[.string s, .int .i64 kd] w fun e w' => e = .returned (.bool (isTok s.data.toList kd)) ∧ Gr w w' := by
  have HR0 := Lib.hid (RdrAt.new w s)
  have HG0 := Lib.hid ((Gr.refl w).alloc (.cells #[.string s, .int .i64 0] 76))
  obtain ⟨V, hV⟩ : ∃ V, isTok s.data.toList kd = V := ⟨_, rfl⟩
  have HV := Lib.hid hV
  rw [hV]
  unfold isTok at HV
  clear hV
  have HT := Lib.hid (lx_token w.heap.size s 0 _ HR0.out hs (by omega))
  generalize tokR s.data.toList 0 = T at *
  obtain ⟨⟨k1, tx, ta⟩, er, e1⟩ := T
  simp only at HT HV
  go_enter Tryd.func55, Tryd.ntmps55
  go_wp2_with fail
  refine HT.out.mono ?_; rintro e w2 ⟨rfl, hr2, hu2⟩
  have HG2 := Lib.hid (hu2.1 w HG0.out (Nat.le_refl _))
  have HT3 := Lib.hid (TB.new w2 k1 (str tx) ta 32)
  have HG3 := Lib.hid (HG2.out.alloc (.cells #[.int .i64 k1, .string (str tx), .int .i64 ta] 32))
  obtain ⟨t0, t1, t2, g0, g1, g2⟩ := id HT3.out
  clear hr2 hu2 HT HR0 HG0
  have hq := str_beq tx s
  by_cases he : er = 0
  · have z1 : (er == 0) = true := by simp [he]
    rw [decide_eq_true he, Bool.true_and] at HV
    by_cases hk : k1 = kd
    · rw [decide_eq_true hk, Bool.true_and] at HV
      have z2 : (k1 == kd) = true := by simp [hk]
      have hv := HV.out
      rw [← hq] at hv
      have HW := Lib.hid hv
      clear HV hq he hk hv
      go_wp2
      go_ret
      exact ⟨by rw [← HW.out]; rfl, HG3.out⟩
    · rw [decide_eq_false hk, Bool.false_and] at HV
      have z2 : (k1 == kd) = false := by rw [beq_eq_false_iff_ne]; exact hk
      have hv := HV.out
      subst hv
      clear HV hq he hk
      go_wp2
      go_ret
      exact ⟨rfl, HG3.out⟩
  · rw [decide_eq_false he, Bool.false_and] at HV
    have z1 : (er == 0) = false := by rw [beq_eq_false_iff_ne]; exact he
    have hv := HV.out
    subst hv
    clear HV hq he
    go_wp2
    go_ret
    exact ⟨rfl, HG3.out⟩
end Go.Proofs.YtlcpfhgobfjioaaDoor

/- Law 7: equal lists of tokens; the examples of the chapter. -/
namespace Go.Proofs.YtlcpfhgobfjioaaDoor.Z
open Go
end Go.Proofs.YtlcpfhgobfjioaaDoor.Z
namespace Go.Proofs.YtlcpfhgobfjioaaDoor
open Go.RowKit Go.Shelf
open Z
end Go.Proofs.YtlcpfhgobfjioaaDoor

/- Law 7: the examples of the chapter. -/
namespace Go.Proofs.YtlcpfhgobfjioaaDoor
open Go.RowKit Go.Shelf
open Z
end Go.Proofs.YtlcpfhgobfjioaaDoor
