/- LxXZ: LxX, LxY, LxZ, joined. -/
import Derived.Test.YtlcpfhgobfjioaaDoorLxSW
set_option linter.unusedVariables false
set_option linter.unusedSimpArgs false

/- Law 7: LexerPlaces. -/
namespace Go.Proofs.YtlcpfhgobfjioaaDoor
open Go.RowKit Go.Shelf
open Z
end Go.Proofs.YtlcpfhgobfjioaaDoor

/- Law 7: one token of Join, both sides; Few. -/
namespace Go.Proofs.YtlcpfhgobfjioaaDoor
open Go.RowKit Go.Shelf
open Z
/-- the error of a token in a list -/
def chkR (kd : Int) (l : List UInt8) : Int := if kd < 0 ∨ 3 < kd then 1 else if isTok l kd = true then 0 else 3
set_option maxRecDepth 100000 in
set_option maxHeartbeats 1000000 in
theorem lx_check (kd : Int) (s : ByteArray) (a : Int) (w : World) (hs : s.size ≤ 100000) : Calls Tryd.prog 33 #[.agg #[.int .i64 kd, .string s, .int .i64 a]] w fun e w' => e = .returned (.int .i64 (chkR kd s.data.toList)) ∧ Gr w w' := by
  have HX := TB.new w kd s a 32
  have HG := Lib.hid ((Gr.refl w).alloc (.cells #[.int .i64 kd, .string s, .int .i64 a] 32))
  obtain ⟨k0, k1, k2, -, -, -⟩ := id HX
  have HT := Lib.hid (fun w => lx_isToken s kd w hs)
  unfold chkR
  by_cases h1 : kd < 0
  · rw [if_pos (.inl h1)]
    clear HT HX
    go_enter Tryd.func33, Tryd.ntmps33
    go_wp2
    go_ret
    exact ⟨rfl, HG.out⟩
  · have h1b : 0 ≤ kd := by omega
    by_cases h2 : 3 < kd
    · rw [if_pos (.inr h2)]
      clear HT HX h1
      go_enter Tryd.func33, Tryd.ntmps33
      go_wp2
      go_ret
      exact ⟨rfl, HG.out⟩
    · have h2b : kd ≤ 3 := by omega
      rw [if_neg (by omega)]
      clear h1 h2 HX
      generalize isTok s.data.toList kd = t at *
      cases t
      all_goals
        go_enter Tryd.func33, Tryd.ntmps33
        go_wp2_with fail
        refine (HT.out _).mono ?_; rintro e w2 ⟨rfl, hg⟩
        have HG2 := Lib.hid (Gr.trans HG.out hg)
        clear hg
        go_wp2
        go_ret
        exact ⟨rfl, HG2.out⟩
end Go.Proofs.YtlcpfhgobfjioaaDoor

/- Law 7: Few and the reference's Join. -/
namespace Go.Proofs.YtlcpfhgobfjioaaDoor
open Go.RowKit Go.Shelf
open Z
/-- the bytes of some tokens -/
def sumT (L : List Tk) : Nat := (L.map fun t => t.2.1.length).sum
theorem sumT_snoc {L : List Tk} {j : Nat} (h : j < L.length) : sumT (L.take (j + 1)) = sumT (L.take j) + L[j].2.1.length := by
  unfold sumT
  rw [List.take_succ_eq_append_getElem h, List.map_append, List.sum_append]; simp
end Go.Proofs.YtlcpfhgobfjioaaDoor
