/- Law 7: the examples of the chapter. -/
import Derived.Test.YtlcpfhgobfjioaaDoorLxL
set_option linter.unusedVariables false
set_option linter.unusedSimpArgs false
namespace Go.Proofs.YtlcpfhgobfjioaaDoor
open Go.RowKit Go.Shelf
open Z
theorem tks_five (W : World) (ty : TypeId) : TksAt (W.alloc (.cells #[.int .i64 0, .string ⟨#[99, 104, 97, 110]⟩, .int .i64 0, .int .i64 1, .string ⟨#[53, 46, 49]⟩, .int .i64 5, .int .i64 2, .string ⟨#[64]⟩, .int .i64 9, .int .i64 1, .string ⟨#[51, 55, 46, 53]⟩, .int .i64 10, .int .i64 3, .string ⟨#[]⟩, .int .i64 14] ty)) (some ⟨W.heap.size, 0, none⟩)
    [(0, [99, 104, 97, 110], 0), (1, [53, 46, 49], 5), (2, [64], 9), (1, [51, 55, 46, 53], 10), (3, [], 14)] := .inr ⟨_, 0, rfl, fun j hj => by
  match j, hj with
  | 0, _ => exact ⟨by simp, by simp [str], by simp⟩
  | 1, _ => exact ⟨by simp, by simp [str], by simp⟩
  | 2, _ => exact ⟨by simp, by simp [str], by simp⟩
  | 3, _ => exact ⟨by simp, by simp [str], by simp⟩
  | 4, _ => exact ⟨by simp, by simp [str], by simp⟩
  | j + 5, hj => exfalso; simp at hj; omega⟩
theorem own_eqT {v : Value} {B1 : Nat} {w1 : World} {L : List Tk} {n : Nat} (h1 : OwnTk B1 w1 v L) (hn : L.length = n) (hl : n ≤ 1000000) : ∃ a c, v = .slice a n c ∧ ∀ w2 g, Gr w1 w2 → TksAt w2 (some ⟨g, 0, none⟩) L →
    Calls Tryd.prog 12 #[.slice a n c, .slice (some ⟨g, 0, none⟩) n n] w2 fun e w' => e = .returned (.bool true) ∧ Gr w2 w' := by
  subst hn
  obtain ⟨a, c, rfl, ht, -⟩ := h1.shape
  exact ⟨a, c, rfl, fun w2 g hg h2 => sl_SameTk (ht.gr hg) h2 (by omega)⟩
theorem own_atT {v : Value} {B1 : Nat} {w1 : World} {L : List Tk} {n : Nat} (h1 : OwnTk B1 w1 v L) (hn : L.length = n) (h0 : 0 < n) : ∃ g o c, v = .slice (some ⟨g, o, none⟩) n c ∧ ∀ j (h : j < L.length), w1.cell? ⟨g, o + j * 3, none⟩ = some (.int .i64 L[j].1) ∧ w1.cell? ⟨g, o + j * 3 + 1, none⟩ = some (.string (str L[j].2.1)) := by
  subst hn
  obtain ⟨a, c, rfl, ht, -⟩ := h1.shape
  rcases ht with ⟨-, h⟩ | ⟨g, o, rfl, hc⟩
  · rw [h] at h0; simp at h0
  · exact ⟨g, o, c, rfl, fun j hj => ⟨(hc j hj).1, (hc j hj).2.1⟩⟩
set_option maxRecDepth 100000 in
set_option maxHeartbeats 2000000 in
theorem l7_awake (w : World) : Calls Tryd.prog 9 #[] w fun e w' => e = .returned (.bool true) ∧ Gr w w' := by
  have A := Lib.hid (fun w => lx_Scan ⟨#[67, 104, 97, 110, 32, 53, 46, 49, 32, 64, 51, 55, 46, 53]⟩ w)
  have B := Lib.hid (fun w => lx_Scan ⟨#[49, 46, 120, 32, 34, 97, 32, 98, 34]⟩ w)
  have C := Lib.hid (fun w => lx_Scan ⟨#[51, 32, 35, 32, 52]⟩ w)
  simp only [Array.toList] at A B C
  rw [aw_scan1] at A
  rw [aw_scan2] at B
  rw [aw_scan3] at C
  simp only at A B C
  obtain ⟨LA, hLA⟩ : ∃ LA : List Tk, LA = [(0, [99, 104, 97, 110], 0), (1, [53, 46, 49], 5), (2, [64], 9), (1, [51, 55, 46, 53], 10), (3, [], 14)] := ⟨_, rfl⟩
  obtain ⟨LB, hLB⟩ : ∃ LB : List Tk, LB = [(1, [49], 0), (2, [46], 1), (0, [120], 2), (0, [34, 97, 32, 98, 34], 4), (3, [], 9)] := ⟨_, rfl⟩
  rw [← hLA] at A
  rw [← hLB] at B
  have HLA := Lib.hid hLA
  have nA : LA.length = 5 := by rw [hLA]; rfl
  have nB : LB.length = 5 := by rw [hLB]; rfl
  have EQ := Lib.hid (fun (v : Value) (B1 : Nat) (w1 : World) (h1 : OwnTk B1 w1 v LA) => own_eqT h1 nA (by omega))
  have BS := Lib.hid (fun (v : Value) (B1 : Nat) (w1 : World) (h1 : OwnTk B1 w1 v LB) => show ∃ g o c, v = .slice (some ⟨g, o, none⟩) 5 c ∧ w1.cell? ⟨g, o + 1, none⟩ = some (.string ⟨#[49]⟩) ∧ w1.cell? ⟨g, o + 1 * 3 + 1, none⟩ = some (.string ⟨#[46]⟩) ∧ w1.cell? ⟨g, o + 2 * 3 + 1, none⟩ = some (.string ⟨#[120]⟩) ∧ w1.cell? ⟨g, o + 3 * 3 + 1, none⟩ = some (.string ⟨#[34, 97, 32, 98, 34]⟩) ∧ w1.cell? ⟨g, o + 3 * 3, none⟩ = some (.int .i64 0) from by
    obtain ⟨g, o, c, rfl, hc⟩ := own_atT h1 nB (by omega)
    have h0 := (hc 0 (by omega)).2
    have h1 := (hc 1 (by omega)).2
    have h2 := (hc 2 (by omega)).2
    have h3 := hc 3 (by omega)
    subst hLB
    exact ⟨g, o, c, rfl, by (have h := h0); (simp only [Nat.zero_mul, Nat.add_zero] at h); exact h, h1, h2, h3.2, h3.1⟩)
  clear hLA hLB nA nB
  go_enter Tryd.func9, Tryd.ntmps9
  go_wp2_with fail
  refine (A.out _).mono ?_; rintro e w1 ⟨va, rfl, ha, hg1⟩
  have HG1 := Lib.hid hg1
  have HA := Lib.hid ha
  clear ha hg1 A
  go_wp2_with fail
  refine (B.out _).mono ?_; rintro e w2 ⟨vb, rfl, hb, hg2⟩
  have HG2 := Lib.hid (Gr.trans HG1.out hg2)
  have HA2 := Lib.hid (HA.out.gr hg2)
  have HB := Lib.hid hb
  clear hb hg2 B HG1 HA
  go_wp2_with fail
  refine (C.out _).mono ?_; rintro e w3 ⟨vc, rfl, -, hg3⟩
  have HG3 := Lib.hid (Gr.trans HG2.out hg3)
  obtain ⟨a, c, rfl, hEQ⟩ := EQ.out _ _ _ (HA2.out.gr hg3)
  obtain ⟨g, o, cb, rfl, b1, b2, b3, b4, b5⟩ := BS.out _ _ _ (HB.out.gr hg3)
  have hT := tks_five w3 32
  rw [← HLA.out] at hT
  have HT := Lib.hid hT
  clear hT
  have HE := Lib.hid (hEQ _ w3.heap.size ((Gr.refl w3).alloc _) HT.out)
  have HG4 := Lib.hid (HG3.out.alloc (.cells #[.int .i64 0, .string ⟨#[99, 104, 97, 110]⟩, .int .i64 0, .int .i64 1, .string ⟨#[53, 46, 49]⟩, .int .i64 5, .int .i64 2, .string ⟨#[64]⟩, .int .i64 9, .int .i64 1, .string ⟨#[51, 55, 46, 53]⟩, .int .i64 10, .int .i64 3, .string ⟨#[]⟩, .int .i64 14] 32))
  have KB := Lib.hid (fun w' (hg : Gr (w3.alloc (.cells #[.int .i64 0, .string ⟨#[99, 104, 97, 110]⟩, .int .i64 0, .int .i64 1, .string ⟨#[53, 46, 49]⟩, .int .i64 5, .int .i64 2, .string ⟨#[64]⟩, .int .i64 9, .int .i64 1, .string ⟨#[51, 55, 46, 53]⟩, .int .i64 10, .int .i64 3, .string ⟨#[]⟩, .int .i64 14] 32)) w') => show (w'.cell? ⟨g, o + 1, none⟩ = some (.string ⟨#[49]⟩) ∧ w'.cell? ⟨g, o + 1 * 3 + 1, none⟩ = some (.string ⟨#[46]⟩) ∧ w'.cell? ⟨g, o + 2 * 3 + 1, none⟩ = some (.string ⟨#[120]⟩) ∧ w'.cell? ⟨g, o + 3 * 3 + 1, none⟩ = some (.string ⟨#[34, 97, 32, 98, 34]⟩) ∧ w'.cell? ⟨g, o + 3 * 3, none⟩ = some (.int .i64 0)) from
    have hh : Gr w3 w' := Gr.trans ((Gr.refl w3).alloc _) hg
    ⟨cell_gr hh b1, cell_gr hh b2, cell_gr hh b3, cell_gr hh b4, cell_gr hh b5⟩)
  clear hEQ HT HG3 hg3 HG2 HA2 HB EQ BS C b1 b2 b3 b4 b5
  go_wp2_with fail
  refine HE.out.mono ?_; rintro e w5 ⟨rfl, hg5⟩
  obtain ⟨k1, k2, k3, k4, k5⟩ := KB.out w5 hg5
  have HG5 := Lib.hid (Gr.trans HG4.out hg5)
  clear hg5 HE HG4 KB
  go_wp2
  go_ret
  exact ⟨by first | rfl | simp, HG5.out⟩
end Go.Proofs.YtlcpfhgobfjioaaDoor
