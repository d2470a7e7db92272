/- CvHJ: CvH, CvI, CvJ, joined. -/
import Derived.Test.YtlbnibicehpobaaGreatDoorCvG
set_option linter.unusedVariables false
set_option linter.unusedSimpArgs false

/- Curves: change of the program: new points, stores into them. -/
namespace Go.Proofs.YtlbnibicehpobaaGreatDoor.Z
open Go
theorem pv_cons (r : Int × Int) (l : Pts) : pv (r :: l) = .int .i64 r.1 :: .int .i64 r.2 :: pv l := rfl
theorem pv_set (x y : Int) : ∀ (l : Pts) (j : Nat), j < l.length → pv (l.set j (x, y)) = ((pv l).set (j * 2) (.int .i64 x)).set (j * 2 + 1) (.int .i64 y)
  | [], j, h => by simp at h
  | r :: l, 0, _ => rfl
  | r :: l, j + 1, h => by
    rw [List.set_cons_succ, pv_cons, pv_cons, pv_set x y l j (by simpa using h), show (j + 1) * 2 = j * 2 + 1 + 1 by omega, List.set_cons_succ, List.set_cons_succ, List.set_cons_succ, List.set_cons_succ]
theorem pv_zeros (n : Nat) : pv (List.replicate n (0, 0)) = List.replicate (n * 2) (.int .i64 0) := by
  induction n with
  | zero => rfl
  | succ n ih => rw [List.replicate_succ, pv_cons, ih, show (n + 1) * 2 = n * 2 + 1 + 1 by omega, List.replicate_succ, List.replicate_succ]
theorem made_pts (n : Nat) : (madeCells #[Value.int .i64 0, .int .i64 0] (n * 2)).toList = pv (List.replicate n (0, 0)) := by
  rw [pv_zeros, List.eq_replicate_iff]
  refine ⟨by simp [madeCells], fun x hx => ?_⟩
  simp [madeCells] at hx
  obtain ⟨k, hk, rfl⟩ := hx
  have h : k % 2 = 0 ∨ k % 2 = 1 := by omega
  rcases h with h | h <;> rw [h] <;> rfl
/-- the points that are made so far -/
def madeC (h : Int × Int → Int × Int) (l : Pts) (j : Nat) : Pts := (l.take j).map h ++ List.replicate (l.length - j) (0, 0)
theorem madeC_len (h : Int × Int → Int × Int) (l : Pts) (j : Nat) (hj : j ≤ l.length) : (madeC h l j).length = l.length := by
  unfold madeC; simp; omega
theorem madeC_succ (h : Int × Int → Int × Int) (l : Pts) (j : Nat) (hj : j < l.length) : madeC h l (j + 1) = (madeC h l j).set j (h l[j]) := by
  unfold madeC
  rw [List.take_succ_eq_append_getElem hj, List.map_append, show l.length - j = (l.length - (j + 1)) + 1 by omega, List.replicate_succ]
  rw [List.set_append_right _ _ (by simp; omega)]
  simp [Nat.min_eq_left (Nat.le_of_lt hj)]
end Go.Proofs.YtlbnibicehpobaaGreatDoor.Z
namespace Go.Proofs.YtlbnibicehpobaaGreatDoor
open Go.RowKit Go.Shelf
open Z
theorem OwnC.set {B : Nat} {w0 w : World} {g n : Nat} {l : Pts} (h : OwnC B w (.slice (some ⟨g, 0, none⟩) n n) l) (hg : Gr w0 w) (hB : w0.heap.size ≤ B) (hn : l.length = n) {j : Nat} (hj : j < l.length) (x y : Int) :
    w.cell? ⟨g, j * 2, none⟩ = some (.int .i64 l[j].1) ∧ w.cell? ⟨g, j * 2 + 1, none⟩ = some (.int .i64 l[j].2) ∧ w.frozen? ⟨g, j * 2, none⟩ = false ∧ w.frozen? ⟨g, j * 2 + 1, none⟩ = false ∧
      OwnC B ((w.setCell ⟨g, j * 2, none⟩ (.int .i64 x)).setCell ⟨g, j * 2 + 1, none⟩ (.int .i64 y)) (.slice (some ⟨g, 0, none⟩) n n) (l.set j (x, y)) ∧ Gr w0 ((w.setCell ⟨g, j * 2, none⟩ (.int .i64 x)).setCell ⟨g, j * 2 + 1, none⟩ (.int .i64 y)) := by
  have h0 := h
  unfold OwnC at h
  rw [hn] at h
  have hb : B ≤ g := (World.ownsRow.lt h g rfl).1
  have c0 := World.ownsRow.cells h (g := g) rfl (j * 2) _ (pv_get l j hj).1
  have c1 := World.ownsRow.cells h (g := g) rfl (j * 2 + 1) _ (pv_get l j hj).2
  rw [WideShapes.add_plain, Nat.zero_add] at c0 c1
  have s1 := World.ownsRow.stored h (j * 2) (.int .i64 x)
  have s2 := World.ownsRow.stored s1.1 (j * 2 + 1) (.int .i64 y)
  refine ⟨c0, c1, World.ownsRow.frozenAt h _, World.ownsRow.frozenAt h _, ?_, Below.setCell (Below.setCell hg (by show _ ≤ g; omega) _) (by show _ ≤ g; omega) _⟩
  unfold OwnC
  rw [pv_set _ _ _ _ hj, List.length_set, hn]
  exact s2.1
end Go.Proofs.YtlbnibicehpobaaGreatDoor

/- Curves: change, over the closures of Flip and Inverse. -/
namespace Go.Proofs.YtlbnibicehpobaaGreatDoor
open Go.RowKit Go.Shelf
open Z
set_option maxRecDepth 100000 in
set_option maxHeartbeats 4000000 in
theorem cv_change_inv (a : Option Addr) (R : Pts) (cap : Nat) (w : World) (hR : PtAt w a R) (h1 : 1 ≤ R.length) (h2 : R.length ≤ 16) :
    Calls Tryz.prog 47 #[.slice a R.length cap, .func (.func 48) #[] #[]] w fun e w' => ∃ v, e = .returned v ∧ OwnC w.heap.size w' v (R.map (fun p => (p.2, p.1))) ∧ Gr w w' := by
  obtain ⟨i0, hi, hz0, hz1, hz2⟩ := info_parts Tryz.infoPt
  obtain ⟨b, off, rfl, hc⟩ := hR.block h1
  have HC := Lib.hid hc
  have HF := Lib.hid (fun p (hp : p ∈ R) w => cv_inv1 p.1 p.2 w)
  obtain ⟨n, hn⟩ : ∃ n, R.length = n := ⟨_, rfl⟩
  have HN := Lib.hid hn
  rw [hn] at h1 h2 ⊢
  clear hR hc hn
  go_enter Tryz.func47, Tryz.ntmps47
  go_wp2_with (at_make; refine wpList_make_full w rfl _ _ 22 rfl w.heap.size 52 i0 (.agg #[.int .i64 0, .int .i64 0]) 2 Tryz.underlying22 hi hz0 hz1 .i64 .i64 _ _ n rfl rfl (by omega) (by omega) (by rw [hz2]; omega) (by unfold maxLen; omega) (Nat.le_refl _) ?_)
  intro w1 hown0 hgr0
  have hg1 : Gr w w1 := Below.grown (Below.refl _ _) hgr0 (Nat.le_refl _) (fun k hk => by simp at hk)
  have HO0 : Hid (OwnC w.heap.size w1 (.slice (some ⟨w.heap.size, 0, none⟩) n n) (madeC (fun p => (p.2, p.1)) R 0)) := Lib.hid (by
    have e := made_pts n
    unfold OwnC
    rw [madeC_len _ _ _ (Nat.zero_le _), HN.out]
    have e2 : madeC (fun p => (p.2, p.1)) R 0 = List.replicate n (0, 0) := by unfold madeC; rw [HN.out]; simp
    rw [e2, ← e]
    exact hown0)
  have HG1 := Lib.hid hg1
  obtain ⟨g, hg⟩ : ∃ g, w.heap.size = g := ⟨_, rfl⟩
  have HGS := Lib.hid hg
  rw [hg]
  rw [hg] at HO0
  clear hown0 hgr0 hg1 hg
  go_wp2
  go_loopw [13] (fun i wr => ∃ j : Nat, i = .int .i64 j ∧ j ≤ n ∧ Hid (OwnC g wr (.slice (some ⟨g, 0, none⟩) n n) (madeC (fun p => (p.2, p.1)) R j)) ∧ Hid (Gr w wr)) (fun i _ => n - (intOf i).toNat)
  case atStart => exact ⟨0, rfl, Nat.zero_le _, HO0, HG1⟩
  case round =>
    obtain ⟨j, rfl, hj, HO, HG⟩ := hrel
    by_cases hlt : j < n
    · have l0 : j < R.length := by rw [HN.out]; exact hlt
      obtain ⟨d0, d1⟩ := HC.out j l0
      replace d0 := cv_cell HG.out d0
      replace d1 := cv_cell HG.out d1
      have HFj := Lib.hid (HF.out _ (List.getElem_mem l0))
      have HS := Lib.hid (madeC_succ (fun p => (p.2, p.1)) R j l0)
      have hml : j < (madeC (fun p => (p.2, p.1)) R j).length := by rw [madeC_len _ _ _ (by omega)]; exact l0
      have hmn : (madeC (fun p => (p.2, p.1)) R j).length = n := by rw [madeC_len _ _ _ (by omega)]; exact HN.out
      have HML := Lib.hid (And.intro hml hmn)
      generalize R[j] = x at *
      obtain ⟨f, t⟩ := x
      simp only at d0 d1 HFj HS
      obtain ⟨k0, k1⟩ := id (P2.new wr f t 52)
      have HGX := Lib.hid ((Gr.refl wr).alloc (.cells #[.int .i64 f, .int .i64 t] 52))
      clear l0 hml hmn
      go_wp2_with fail
      refine (HFj.out _).mono ?_; rintro e w5 ⟨rfl, hg⟩
      have HG5 := Lib.hid (Gr.trans (Gr.trans HG.out HGX.out) hg)
      have ho5 := HO.out.gr (Gr.trans HGX.out hg)
      obtain ⟨c0, c1, f0, f1, ho6, hg6⟩ := OwnC.set ho5 HG5.out (by rw [HGS.out]; exact Nat.le_refl _) HML.out.2 HML.out.1 ((fun p => (p.2, p.1)) (f, t)).1 ((fun p => (p.2, p.1)) (f, t)).2
      rw [← HS.out] at ho6
      have HO6 := Lib.hid ho6
      have HG6 := Lib.hid hg6
      simp only at HO6 HG6
      clear hg ho5 ho6 hg6 d0 d1 k0 k1
      go_wp2
      go_roundw
      case rel => exact ⟨j + 1, by go_num, by omega, HO6, HG6⟩
      case measure => simp [intOf]; omega
    · obtain rfl : j = n := by omega
      have ho := HO.out
      rw [show madeC (fun p => (p.2, p.1)) R j = R.map (fun p => (p.2, p.1)) by unfold madeC; rw [List.take_of_length_le (by rw [HN.out]; exact Nat.le_refl _), HN.out]; simp] at ho
      have HO3 := Lib.hid ho
      clear ho HO HO0
      go_wp2
      go_ret
      exact ⟨_, rfl, (by rw [HGS.out]; exact HO3.out), HG.out⟩
set_option maxRecDepth 100000 in
set_option maxHeartbeats 4000000 in
theorem cv_change_flip (a : Option Addr) (R : Pts) (cap : Nat) (w : World) (hR : PtAt w a R) (h1 : 1 ≤ R.length) (h2 : R.length ≤ 16) (hL : ∀ p ∈ R, 0 ≤ p.2 ∧ p.2 ≤ 65535) :
    Calls Tryz.prog 47 #[.slice a R.length cap, .func (.func 50) #[] #[]] w fun e w' => ∃ v, e = .returned v ∧ OwnC w.heap.size w' v (R.map (fun p => (p.1, 65535 - p.2))) ∧ Gr w w' := by
  obtain ⟨i0, hi, hz0, hz1, hz2⟩ := info_parts Tryz.infoPt
  obtain ⟨b, off, rfl, hc⟩ := hR.block h1
  have HC := Lib.hid hc
  have HF := Lib.hid (fun p (hp : p ∈ R) w => cv_flip1 p.1 p.2 w (hL p hp))
  obtain ⟨n, hn⟩ : ∃ n, R.length = n := ⟨_, rfl⟩
  have HN := Lib.hid hn
  rw [hn] at h1 h2 ⊢
  clear hR hc hn hL
  go_enter Tryz.func47, Tryz.ntmps47
  go_wp2_with (at_make; refine wpList_make_full w rfl _ _ 22 rfl w.heap.size 52 i0 (.agg #[.int .i64 0, .int .i64 0]) 2 Tryz.underlying22 hi hz0 hz1 .i64 .i64 _ _ n rfl rfl (by omega) (by omega) (by rw [hz2]; omega) (by unfold maxLen; omega) (Nat.le_refl _) ?_)
  intro w1 hown0 hgr0
  have hg1 : Gr w w1 := Below.grown (Below.refl _ _) hgr0 (Nat.le_refl _) (fun k hk => by simp at hk)
  have HO0 : Hid (OwnC w.heap.size w1 (.slice (some ⟨w.heap.size, 0, none⟩) n n) (madeC (fun p => (p.1, 65535 - p.2)) R 0)) := Lib.hid (by
    have e := made_pts n
    unfold OwnC
    rw [madeC_len _ _ _ (Nat.zero_le _), HN.out]
    have e2 : madeC (fun p => (p.1, 65535 - p.2)) R 0 = List.replicate n (0, 0) := by unfold madeC; rw [HN.out]; simp
    rw [e2, ← e]
    exact hown0)
  have HG1 := Lib.hid hg1
  obtain ⟨g, hg⟩ : ∃ g, w.heap.size = g := ⟨_, rfl⟩
  have HGS := Lib.hid hg
  rw [hg]
  rw [hg] at HO0
  clear hown0 hgr0 hg1 hg
  go_wp2
  go_loopw [13] (fun i wr => ∃ j : Nat, i = .int .i64 j ∧ j ≤ n ∧ Hid (OwnC g wr (.slice (some ⟨g, 0, none⟩) n n) (madeC (fun p => (p.1, 65535 - p.2)) R j)) ∧ Hid (Gr w wr)) (fun i _ => n - (intOf i).toNat)
  case atStart => exact ⟨0, rfl, Nat.zero_le _, HO0, HG1⟩
  case round =>
    obtain ⟨j, rfl, hj, HO, HG⟩ := hrel
    by_cases hlt : j < n
    · have l0 : j < R.length := by rw [HN.out]; exact hlt
      obtain ⟨d0, d1⟩ := HC.out j l0
      replace d0 := cv_cell HG.out d0
      replace d1 := cv_cell HG.out d1
      have HFj := Lib.hid (HF.out _ (List.getElem_mem l0))
      have HS := Lib.hid (madeC_succ (fun p => (p.1, 65535 - p.2)) R j l0)
      have hml : j < (madeC (fun p => (p.1, 65535 - p.2)) R j).length := by rw [madeC_len _ _ _ (by omega)]; exact l0
      have hmn : (madeC (fun p => (p.1, 65535 - p.2)) R j).length = n := by rw [madeC_len _ _ _ (by omega)]; exact HN.out
      have HML := Lib.hid (And.intro hml hmn)
      generalize R[j] = x at *
      obtain ⟨f, t⟩ := x
      simp only at d0 d1 HFj HS
      obtain ⟨k0, k1⟩ := id (P2.new wr f t 52)
      have HGX := Lib.hid ((Gr.refl wr).alloc (.cells #[.int .i64 f, .int .i64 t] 52))
      clear l0 hml hmn
      go_wp2_with fail
      refine (HFj.out _).mono ?_; rintro e w5 ⟨rfl, hg⟩
      have HG5 := Lib.hid (Gr.trans (Gr.trans HG.out HGX.out) hg)
      have ho5 := HO.out.gr (Gr.trans HGX.out hg)
      obtain ⟨c0, c1, f0, f1, ho6, hg6⟩ := OwnC.set ho5 HG5.out (by rw [HGS.out]; exact Nat.le_refl _) HML.out.2 HML.out.1 ((fun p => (p.1, 65535 - p.2)) (f, t)).1 ((fun p => (p.1, 65535 - p.2)) (f, t)).2
      rw [← HS.out] at ho6
      have HO6 := Lib.hid ho6
      have HG6 := Lib.hid hg6
      simp only at HO6 HG6
      clear hg ho5 ho6 hg6 d0 d1 k0 k1
      go_wp2
      go_roundw
      case rel => exact ⟨j + 1, by go_num, by omega, HO6, HG6⟩
      case measure => simp [intOf]; omega
    · obtain rfl : j = n := by omega
      have ho := HO.out
      rw [show madeC (fun p => (p.1, 65535 - p.2)) R j = R.map (fun p => (p.1, 65535 - p.2)) by unfold madeC; rw [List.take_of_length_le (by rw [HN.out]; exact Nat.le_refl _), HN.out]; simp] at ho
      have HO3 := Lib.hid ho
      clear ho HO HO0
      go_wp2
      go_ret
      exact ⟨_, rfl, (by rw [HGS.out]; exact HO3.out), HG.out⟩
end Go.Proofs.YtlbnibicehpobaaGreatDoor

/- Curves: Flip of the program. -/
namespace Go.Proofs.YtlbnibicehpobaaGreatDoor
open Go.RowKit Go.Shelf
open Z
theorem OwnC.low {B B' : Nat} {w : World} {v : Value} {l : Pts} (h : OwnC B w v l) (hB : B' ≤ B) : OwnC B' w v l := by
  refine ⟨h.1, ?_⟩
  rcases h.2 with h2 | ⟨g, cap, cur, h1, hb, h3⟩
  · exact .inl h2
  · exact .inr ⟨g, cap, cur, h1, Nat.le_trans hB hb, h3⟩
set_option maxRecDepth 100000 in
set_option maxHeartbeats 2000000 in
theorem cv_Flip (a : Option Addr) (R : Pts) (cap : Nat) (w : World) (hR : PtAt w a R) (hJ : ∀ p ∈ R, isJ p.1 ∧ isJ p.2) (hlen : R.length ≤ 10000000000000) :
    Calls Tryz.prog 27 #[.slice a R.length cap] w fun e w' => ∃ v, e = .returned (.tuple #[v, .int .i64 (flipC R).2]) ∧ OwnC w.heap.size w' v (flipC R).1 ∧ Gr w w' := by
  have C := Lib.hid (cv_Check a R cap w hR hJ hlen)
  unfold flipC
  by_cases h : cvC R = 0
  · rw [if_neg (by simp [h])]
    rw [h] at C
    have h2 := cvC_len h
    have D := Lib.hid (fun w' (hg : Gr w w') => cv_change_flip a R cap w' (hR.gr hg) (by omega) h2.2 (fun p hp => (cvL_lvl h p hp).2))
    have e : (R.map fun p => (p.1, 65535 - p.2)) = flipP R := rfl
    rw [e] at D
    generalize flipP R = T at *
    generalize R.length = n at *
    clear hR hJ h h2 e
    go_enter Tryz.func27, Tryz.ntmps27
    go_wp2_with fail
    refine C.out.mono ?_; rintro e w1 ⟨rfl, hg⟩
    have HG1 := Lib.hid hg
    clear hg C
    go_wp2_with fail
    refine (D.out _ HG1.out).mono ?_; rintro e w2 ⟨v, rfl, ho, hg⟩
    have HG2 := Lib.hid (Gr.trans HG1.out hg)
    have HO := Lib.hid (OwnC.low ho HG1.out.size)
    clear hg ho D
    go_wp2
    go_ret2
    exact ⟨_, rfl, HO.out, HG2.out⟩
  · rw [if_pos h]
    generalize cvC R = K at *
    generalize R.length = n at *
    have hk : (K == 0) = false := by rw [beq_eq_false_iff_ne]; exact h
    clear hR hJ
    go_enter Tryz.func27, Tryz.ntmps27
    go_wp2_with fail
    refine C.out.mono ?_; rintro e w1 ⟨rfl, hg⟩
    have HG1 := Lib.hid hg
    clear hg
    go_wp2
    go_ret2
    exact ⟨_, rfl, OwnC.nil _ _, HG1.out⟩
end Go.Proofs.YtlbnibicehpobaaGreatDoor
