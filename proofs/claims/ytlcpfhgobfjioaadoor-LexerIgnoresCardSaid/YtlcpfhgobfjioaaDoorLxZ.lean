/- Law 7: Few and the reference's Join. -/
import Derived.Test.YtlcpfhgobfjioaaDoorLxY
set_option linter.unusedVariables false
set_option linter.unusedSimpArgs false
namespace Go.Proofs.YtlcpfhgobfjioaaDoor
open Go.RowKit Go.Shelf
open Z
/-- the bytes of some tokens -/
def sumT (L : List Tk) : Nat := (L.map fun t => t.2.1.length).sum
theorem sumT_snoc {L : List Tk} {j : Nat} (h : j < L.length) : sumT (L.take (j + 1)) = sumT (L.take j) + L[j].2.1.length := by
  unfold sumT
  rw [List.take_succ_eq_append_getElem h, List.map_append, List.sum_append]; simp
def fewR (L : List Tk) : Bool := decide (L.length ≤ 400) && decide (sumT L ≤ 6000)
theorem sumT_le {L : List Tk} (hb : ∀ j (h : j < L.length), L[j].2.1.length ≤ 140737488355328) : ∀ j, j ≤ L.length → sumT (L.take j) ≤ j * 140737488355328
  | 0, _ => by simp [sumT]
  | j + 1, h => by
    have := sumT_le hb j (by omega)
    rw [sumT_snoc (by omega)]
    have := hb j (by omega)
    omega
set_option maxRecDepth 100000 in
set_option maxHeartbeats 2000000 in
theorem r7_Few {a : Option Addr} {L : List Tk} {c : Nat} (w : World) (hL : TksAt w a L) (hl : L.length ≤ 10000000000000) (hb : ∀ j (h : j < L.length), L[j].2.1.length ≤ 140737488355328) :
    Calls Tryd.prog 8 #[.slice a L.length c] w fun e w' => e = .returned (.bool (fewR L)) ∧ w' = w := by
  have HL := Lib.hid hL
  have HBB := Lib.hid hb
  have HSU := Lib.hid (sumT_le hb)
  unfold fewR
  have HTK := Lib.hid (show L.take L.length = L from List.take_length)
  obtain ⟨n, hn⟩ : ∃ n, L.length = n := ⟨_, rfl⟩
  have HN := Lib.hid hn
  rw [hn] at hl HSU HTK ⊢
  clear hL hn hb
  by_cases h4 : 400 < n
  · rw [show decide (n ≤ 400) = false from decide_eq_false (by omega), Bool.false_and]
    go_enter Tryd.func8, Tryd.ntmps8
    go_wp2
    go_ret
    exact ⟨rfl, rfl⟩
  · have h4b : n ≤ 400 := by omega
    rw [show decide (n ≤ 400) = true from decide_eq_true h4b, Bool.true_and]
    clear h4
    go_enter Tryd.func8, Tryd.ntmps8
    go_wp2
    go_loop [3, 4] (fun x i => ∃ j : Nat, j ≤ n ∧ i = .int .i64 (j : Nat) ∧ x = .int .i64 (sumT (L.take j) : Nat)) (fun _ i => n - (intOf i).toNat)
    case atStart => exact ⟨0, by omega, rfl, rfl⟩
    case round =>
      obtain ⟨j, hj, rfl, rfl⟩ := hrel
      have hsu := HSU.out j hj
      have hsu2 : sumT (L.take j) ≤ 56294995342131200 := by omega
      by_cases hlt : j < n
      · have j1 : j < L.length := by rw [HN.out]; exact hlt
        obtain ⟨p, o, rfl, c0, c1, c2⟩ := HL.out.at j1
        have hb := HBB.out j j1
        have HS := Lib.hid (sumT_snoc j1)
        have hts : (str L[j].2.1).size = L[j].2.1.length := str_size _
        generalize L[j] = x at *
        obtain ⟨kd, tx, ta⟩ := x
        simp only at c0 c1 c2 hb HS hts
        generalize str tx = ts at *
        generalize tx.length = tl at *
        generalize sumT (L.take j) = su at *
        clear hsu
        go_wp2
        go_round
        case rel => exact ⟨j + 1, by omega, by go_num, by rw [HS.out]; go_num⟩
        case measure => simp [intOf]; omega
      · have hjn : j = n := by omega
        have HE : Hid (sumT (L.take j) = sumT L) := Lib.hid (by rw [hjn, HTK.out])
        generalize sumT (L.take j) = su at *
        clear hsu
        go_wp2
        go_ret
        exact ⟨ret_bool (by rw [← HE.out]; rw [Bool.eq_iff_iff]; simp; omega), rfl⟩
end Go.Proofs.YtlcpfhgobfjioaaDoor
