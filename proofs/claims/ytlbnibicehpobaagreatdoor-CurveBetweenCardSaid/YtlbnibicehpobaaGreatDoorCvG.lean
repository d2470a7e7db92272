/- Curves: Inverse of the reference. -/
import Derived.Test.YtlbnibicehpobaaGreatDoorCvE
set_option linter.unusedVariables false
set_option linter.unusedSimpArgs false
namespace Go.Proofs.YtlbnibicehpobaaGreatDoor.Z
open Go
def wholeC (l : Pts) : Bool := (yAt l 0 == 0 && yAt l (l.length - 1) == 65535) || (yAt l 0 == 65535 && yAt l (l.length - 1) == 0)
def swapP (l : Pts) : Pts := l.map fun p => (p.2, p.1)
def invC (l : Pts) : Pts × Int := if cvC l ≠ 0 then ([], cvC l) else if steepC l = 0 ∨ wholeC l = false then ([], 16) else (swapP (if steepC l < 0 then l.reverse else l), 0)
theorem steepC_is (l : Pts) : steepC l = 0 ∨ steepC l = 1 ∨ steepC l = -1 := by
  unfold steepC; split
  · exact .inr (.inl rfl)
  · split
    · exact .inr (.inr rfl)
    · exact .inl rfl
end Go.Proofs.YtlbnibicehpobaaGreatDoor.Z
namespace Go.Proofs.YtlbnibicehpobaaGreatDoor
open Go.RowKit Go.Shelf
open Z
theorem push_c {i : TypeInfo} (hi : Tryz.prog.info? 52 = some i) (hz0 : i.zero = some (.agg #[.int .i64 0, .int .i64 0])) (hz1 : i.size = 2) (hz2 : i.bytes = 16)
    {ops : Array Oper} {rest : List Oper} {o : Oper} {a : Act} {Q : Exit → Act → World → Prop} {w0 w : World} (hgd : o.guard = none) (s x : Operand)
    (ho : o.op = .call { callee := .builtin .append, args := #[s, x], argTypes := #[22, 22] }) (v : Value) (xs : Pts) (hs : a.eval s = v) (hown : OwnC w0.heap.size w v xs) (hg : Gr w0 w)
    (f t : Int) (N : Nat) (hN : N = w.heap.size) (hx : a.eval x = .slice (some ⟨N, 0, none⟩) 1 1) (hlen : xs.length + 1 ≤ 1000000)
    (h : ∀ v' w', Hid (OwnC w0.heap.size w' v' (xs ++ [(f, t)])) → Gr w0 w' → wpList Tryz.prog ops Q rest (a.put o.dst v') w') :
    wpList Tryz.prog ops Q (o :: rest) a (w.alloc (.cells #[.int .i64 f, .int .i64 t] 52)) := by
  have hgs := hg.size
  subst hN
  refine wpList_append_own _ hgd s x _ ho w0.heap.size 52 i (.agg #[.int .i64 0, .int .i64 0]) 2 16 Tryz.underlying22 hi hz0 hz1 hz2 rfl (by decide) v xs.length (pv xs) hs (World.ownsRow.alloc hown _) ⟨w.heap.size, 0, none⟩ 1 1 [.int .i64 f, .int .i64 t] hx rfl
    (fun j u hj => ?_) pt_one (by unfold maxLen; omega) (by omega) (by simp; omega) (fun v' w' hown' hgrow _ => h v' w' ?_ (Below.grown (hg.alloc _) hgrow (by simp; omega) (fun k hk => (World.ownsRow.lt hown k hk).1)))
  · rw [WideShapes.add_plain]
    match j, hj with
    | 0, hj => simp only [List.getElem?_cons_zero, Option.some.injEq] at hj; subst hj; rw [World.cell?_alloc_at _ _ _ _ rfl]; rfl
    | 1, hj => simp only [List.getElem?_cons_succ, List.getElem?_cons_zero, Option.some.injEq] at hj; subst hj; rw [World.cell?_alloc_at _ _ _ _ rfl]; rfl
    | j + 2, hj => simp at hj
  · show World.ownsRow _ _ _ _ _ _ _
    rw [pv_snoc, List.length_append]; exact hown'
theorem PF.new (w : World) (f t : Int) (ty : TypeId) : PF (w.alloc (.cells #[.int .i64 f, .int .i64 t] ty)) w.heap.size f t :=
  ⟨by rw [World.cell?_alloc_at _ _ _ _ rfl]; rfl, by rw [World.cell?_alloc_at _ _ _ _ rfl]; rfl, World.frozen?_alloc_at _ _ _ _ rfl, World.frozen?_alloc_at _ _ _ _ rfl⟩
set_option maxRecDepth 100000 in
set_option maxHeartbeats 8000000 in
theorem r9_Inverse (a : Option Addr) (R : Pts) (cap : Nat) (w : World) (hR : PtAt w a R) (hJ : ∀ p ∈ R, isJ p.1 ∧ isJ p.2) (hlen : R.length ≤ 10000000000000) :
    Calls Tryz.prog 26 #[.slice a R.length cap] w fun e w' => ∃ v, e = .returned (.tuple #[v, .int .i64 (invC R).2]) ∧ OwnC w.heap.size w' v (invC R).1 ∧ Gr w w' := by
  obtain ⟨i0, hi, hz0, hz1, hz2⟩ := info_parts Tryz.infoPt
  have C := Lib.hid (r9_Check a R cap w hR hJ hlen)
  unfold invC
  by_cases h : cvC R = 0
  · rw [if_neg (by simp [h])]
    rw [h] at C
    have h2 := cvC_len h
    have D := Lib.hid (fun w' (hg : Gr w w') => r9_Steep a R cap w' (hR.gr hg) (by omega) hlen)
    obtain ⟨b, off, rfl, hc⟩ := hR.block (by omega)
    have HC := Lib.hid hc
    obtain ⟨m, hm⟩ : ∃ m, R.length = m + 1 := ⟨R.length - 1, by omega⟩
    have HN := Lib.hid hm
    have hm16 : m ≤ 16 := by omega
    have hm1 : 1 ≤ m := by omega
    have l0 : 0 < R.length := by omega
    have l1 : m < R.length := by omega
    have hW : wholeC R = ((R[0].2 == 0 && R[m].2 == 65535) || (R[0].2 == 65535 && R[m].2 == 0)) := by unfold wholeC; rw [hm, Nat.add_sub_cancel, yAt_eq l0, yAt_eq l1]
    have Y0 := (hc 0 l0).2
    have Y1 := (hc m l1).2
    simp only [Nat.zero_mul, Nat.add_zero] at Y0
    have hS := steepC_is R
    generalize steepC R = S at *
    generalize wholeC R = W at *
    generalize R[0].2 = y0 at *
    generalize R[m].2 = y1 at *
    rw [hm] at hlen C D ⊢
    have HY := Lib.hid (And.intro Y0 Y1)
    have hkm : ((m + 1 : Nat) : Int) = (m : Int) + 1 := by omega
    have hwm : IntKind.i64.wrap ((m : Int) + 1 - 1) = (m : Int) := by rw [show (m : Int) + 1 - 1 = (m : Int) by omega]; exact IntWalk.i64_in _ (by omega)
    have hcase : (S = 0 ∨ W = false) ∨ (S = 1 ∧ W = true) ∨ (S = -1 ∧ W = true) := by
      cases W
      · exact .inl (.inr rfl)
      · rcases hS with h | h | h
        · exact .inl (.inl h)
        · exact .inr (.inl ⟨h, rfl⟩)
        · exact .inr (.inr ⟨h, rfl⟩)
    have hy : (y0 = 0 ∧ y1 = 65535) ∨ (y0 = 0 ∧ ¬ y1 = 65535) ∨ (y0 = 65535 ∧ y1 = 0) ∨ (y0 = 65535 ∧ ¬ y1 = 0) ∨ (¬ y0 = 0 ∧ ¬ y0 = 65535) := by omega
    clear hR hJ h h2 hc hm Y0 Y1 l0 l1
    rcases hcase with hno | ⟨hS1, hW1⟩ | ⟨hS1, hW1⟩
    · rw [if_pos hno]
      rcases hy with ⟨e0, e1⟩ | ⟨e0, e1⟩ | ⟨e0, e1⟩ | ⟨e0, e1⟩ | ⟨e0, e1⟩
      · subst e0; subst e1
        obtain rfl : W = true := by rw [hW]; rfl
        obtain rfl : S = 0 := by simpa using hno
        clear hno hS hW
        go_enter Tryz.func26, Tryz.ntmps26
        go_wp2_with fail
        refine C.out.mono ?_; rintro e w1 ⟨rfl, hg⟩
        have HG1 := Lib.hid hg
        clear hg C
        go_wp2_with fail
        refine (D.out _ HG1.out).mono ?_; rintro e w2 ⟨rfl, hg⟩
        have HG2 := Lib.hid (Gr.trans HG1.out hg)
        clear hg HG1 D
        obtain ⟨Y0, Y1⟩ := id HY.out
        replace Y0 := cv_cell HG2.out Y0
        replace Y1 := cv_cell HG2.out Y1
        go_wp2
        go_ret2
        exact ⟨_, rfl, OwnC.nil _ _, HG2.out⟩
      · subst e0
        obtain rfl : W = false := by rw [hW]; simp [e1]
        have e2 : (y1 == 65535) = false := by rw [beq_eq_false_iff_ne]; exact e1
        clear hno hW
        rcases hS with rfl | rfl | rfl
        all_goals
          go_enter Tryz.func26, Tryz.ntmps26
          go_wp2_with fail
          refine C.out.mono ?_; rintro e w1 ⟨rfl, hg⟩
          have HG1 := Lib.hid hg
          clear hg C
          go_wp2_with fail
          refine (D.out _ HG1.out).mono ?_; rintro e w2 ⟨rfl, hg⟩
          have HG2 := Lib.hid (Gr.trans HG1.out hg)
          clear hg HG1 D
          obtain ⟨Y0, Y1⟩ := id HY.out
          replace Y0 := cv_cell HG2.out Y0
          replace Y1 := cv_cell HG2.out Y1
          go_wp2
          go_ret2
          exact ⟨_, rfl, OwnC.nil _ _, HG2.out⟩
      · subst e0; subst e1
        obtain rfl : W = true := by rw [hW]; rfl
        obtain rfl : S = 0 := by simpa using hno
        clear hno hS hW
        go_enter Tryz.func26, Tryz.ntmps26
        go_wp2_with fail
        refine C.out.mono ?_; rintro e w1 ⟨rfl, hg⟩
        have HG1 := Lib.hid hg
        clear hg C
        go_wp2_with fail
        refine (D.out _ HG1.out).mono ?_; rintro e w2 ⟨rfl, hg⟩
        have HG2 := Lib.hid (Gr.trans HG1.out hg)
        clear hg HG1 D
        obtain ⟨Y0, Y1⟩ := id HY.out
        replace Y0 := cv_cell HG2.out Y0
        replace Y1 := cv_cell HG2.out Y1
        go_wp2
        go_ret2
        exact ⟨_, rfl, OwnC.nil _ _, HG2.out⟩
      · subst e0
        obtain rfl : W = false := by rw [hW]; simp [e1]
        have e2 : (y1 == 0) = false := by rw [beq_eq_false_iff_ne]; exact e1
        clear hno hW
        rcases hS with rfl | rfl | rfl
        all_goals
          go_enter Tryz.func26, Tryz.ntmps26
          go_wp2_with fail
          refine C.out.mono ?_; rintro e w1 ⟨rfl, hg⟩
          have HG1 := Lib.hid hg
          clear hg C
          go_wp2_with fail
          refine (D.out _ HG1.out).mono ?_; rintro e w2 ⟨rfl, hg⟩
          have HG2 := Lib.hid (Gr.trans HG1.out hg)
          clear hg HG1 D
          obtain ⟨Y0, Y1⟩ := id HY.out
          replace Y0 := cv_cell HG2.out Y0
          replace Y1 := cv_cell HG2.out Y1
          go_wp2
          go_ret2
          exact ⟨_, rfl, OwnC.nil _ _, HG2.out⟩
      · obtain rfl : W = false := by rw [hW]; simp [e0, e1]
        have e2 : (y0 == 0) = false := by rw [beq_eq_false_iff_ne]; exact e0
        have e3 : (y0 == 65535) = false := by rw [beq_eq_false_iff_ne]; exact e1
        clear hno hW
        rcases hS with rfl | rfl | rfl
        all_goals
          go_enter Tryz.func26, Tryz.ntmps26
          go_wp2_with fail
          refine C.out.mono ?_; rintro e w1 ⟨rfl, hg⟩
          have HG1 := Lib.hid hg
          clear hg C
          go_wp2_with fail
          refine (D.out _ HG1.out).mono ?_; rintro e w2 ⟨rfl, hg⟩
          have HG2 := Lib.hid (Gr.trans HG1.out hg)
          clear hg HG1 D
          obtain ⟨Y0, Y1⟩ := id HY.out
          replace Y0 := cv_cell HG2.out Y0
          replace Y1 := cv_cell HG2.out Y1
          go_wp2
          go_ret2
          exact ⟨_, rfl, OwnC.nil _ _, HG2.out⟩
    · subst hS1
      rw [if_neg (by rw [hW1]; simp)]
      rw [if_neg (by decide)]
      have HL : Hid ((R).length = m + 1) := Lib.hid (by exact HN.out)
      have HE : Hid (∀ j (h : j < (R).length), w.cell? ⟨b, off + j * 2, none⟩ = some (.int .i64 (R)[j].1) ∧ w.cell? ⟨b, off + j * 2 + 1, none⟩ = some (.int .i64 (R)[j].2)) := Lib.hid fun j h => by
        exact HC.out j h
      have HY2 : (y0 = 0 ∧ y1 = 65535) ∨ (y0 = 65535 ∧ y1 = 0) := by
        rcases hy with h | h | h | h | h
        · exact .inl h
        · exfalso; rw [hW1] at hW; simp [h.1, h.2] at hW
        · exact .inr h
        · exfalso; rw [hW1] at hW; simp [h.1, h.2] at hW
        · exfalso; rw [hW1] at hW; simp [h.1, h.2] at hW
      clear hy hW hS hW1
      generalize R = T at *
      rcases HY2 with ⟨rfl, rfl⟩ | ⟨rfl, rfl⟩
      all_goals
        go_enter Tryz.func26, Tryz.ntmps26
        go_wp2_with fail
        refine C.out.mono ?_; rintro e w1 ⟨rfl, hg⟩
        have HG1 := Lib.hid hg
        clear hg C
        go_wp2_with fail
        refine (D.out _ HG1.out).mono ?_; rintro e w2 ⟨rfl, hg⟩
        have HG2 := Lib.hid (Gr.trans HG1.out hg)
        clear hg HG1 D
        obtain ⟨Y0, Y1⟩ := id HY.out
        replace Y0 := cv_cell HG2.out Y0
        replace Y1 := cv_cell HG2.out Y1
        go_wp2
        clear Y0 Y1
        go_loopw [8, 9] (fun v i wr => ∃ j : Nat, i = .int .i64 j ∧ j ≤ m + 1 ∧ Hid (OwnC w.heap.size wr v (swapP (T.take j))) ∧ Hid (Gr w wr)) (fun _ i _ => m + 1 - (intOf i).toNat)
        case atStart => exact ⟨0, rfl, Nat.zero_le _, Lib.hid (OwnC.nil _ _), HG2⟩
        case round =>
          obtain ⟨j, rfl, hj, HO, HG⟩ := hrel
          by_cases hlt : j < m + 1
          · have l0 : j < T.length := by rw [HL.out]; exact hlt
            obtain ⟨d0, d1⟩ := HE.out j l0
            replace d0 := cv_cell HG.out d0
            replace d1 := cv_cell HG.out d1
            have HS : Hid (swapP (T.take (j + 1)) = swapP (T.take j) ++ [(T[j].2, T[j].1)]) := Lib.hid (by unfold swapP; rw [List.take_succ_eq_append_getElem l0, List.map_append]; rfl)
            have hxl : (swapP (T.take j)).length + 1 ≤ 1000000 := by simp [swapP]; omega
            generalize swapP (T.take j) = xs at *
            generalize T[j] = x at *
            obtain ⟨f, t⟩ := x
            simp only at d0 d1 HS
            obtain ⟨k0, k1⟩ := id (P2.new wr f t 52)
            have HO2 := Lib.hid (HO.out.gr ((Gr.refl wr).alloc (.cells #[.int .i64 f, .int .i64 t] 52)))
            have HG3 := Lib.hid (HG.out.alloc (.cells #[.int .i64 f, .int .i64 t] 52))
            clear l0 HO
            go_wp2_with (at_builtin; refine push_c hi hz0 hz1 hz2 rfl _ _ rfl _ xs rfl HO2.out HG3.out t f (wr.heap.size + 1) (by simp) rfl (by omega) ?_; rintro v5 w5 HO5 hg5; have HG5 := Lib.hid hg5; clear hg5)
            go_roundw
            case rel => exact ⟨j + 1, by go_num, by omega, by rw [HS.out]; exact HO5, HG5⟩
            case measure => simp [intOf]; omega
          · obtain rfl : j = m + 1 := by omega
            have ho := HO.out
            rw [show T.take (m + 1) = T by rw [List.take_of_length_le (by rw [HL.out]; exact Nat.le_refl _)]] at ho
            have HO3 := Lib.hid ho
            clear ho HO
            go_wp2
            go_ret2
            exact ⟨_, rfl, HO3.out, HG.out⟩
    · subst hS1
      rw [if_neg (by rw [hW1]; simp)]
      rw [if_pos (by decide)]
      have HL : Hid ((R.reverse).length = m + 1) := Lib.hid (by rw [List.length_reverse]; exact HN.out)
      have HE : Hid (∀ j (h : j < (R.reverse).length), w.cell? ⟨b, off + (m - j) * 2, none⟩ = some (.int .i64 (R.reverse)[j].1) ∧ w.cell? ⟨b, off + (m - j) * 2 + 1, none⟩ = some (.int .i64 (R.reverse)[j].2)) := Lib.hid fun j h => by
        have hm := HN.out
        have e : (R.reverse)[j] = R[m - j]'(by omega) := by rw [List.getElem_reverse]; congr 1; omega
        rw [e]
        exact HC.out (m - j) (by omega)
      have HY2 : (y0 = 0 ∧ y1 = 65535) ∨ (y0 = 65535 ∧ y1 = 0) := by
        rcases hy with h | h | h | h | h
        · exact .inl h
        · exfalso; rw [hW1] at hW; simp [h.1, h.2] at hW
        · exact .inr h
        · exfalso; rw [hW1] at hW; simp [h.1, h.2] at hW
        · exfalso; rw [hW1] at hW; simp [h.1, h.2] at hW
      clear hy hW hS hW1
      generalize R.reverse = T at *
      rcases HY2 with ⟨rfl, rfl⟩ | ⟨rfl, rfl⟩
      all_goals
        go_enter Tryz.func26, Tryz.ntmps26
        go_wp2_with fail
        refine C.out.mono ?_; rintro e w1 ⟨rfl, hg⟩
        have HG1 := Lib.hid hg
        clear hg C
        go_wp2_with fail
        refine (D.out _ HG1.out).mono ?_; rintro e w2 ⟨rfl, hg⟩
        have HG2 := Lib.hid (Gr.trans HG1.out hg)
        clear hg HG1 D
        obtain ⟨Y0, Y1⟩ := id HY.out
        replace Y0 := cv_cell HG2.out Y0
        replace Y1 := cv_cell HG2.out Y1
        go_wp2
        clear Y0 Y1
        go_loopw [8, 9] (fun v i wr => ∃ j : Nat, i = .int .i64 j ∧ j ≤ m + 1 ∧ Hid (OwnC w.heap.size wr v (swapP (T.take j))) ∧ Hid (Gr w wr)) (fun _ i _ => m + 1 - (intOf i).toNat)
        case atStart => exact ⟨0, rfl, Nat.zero_le _, Lib.hid (OwnC.nil _ _), HG2⟩
        case round =>
          obtain ⟨j, rfl, hj, HO, HG⟩ := hrel
          by_cases hlt : j < m + 1
          · have l0 : j < T.length := by rw [HL.out]; exact hlt
            obtain ⟨d0, d1⟩ := HE.out j l0
            replace d0 := cv_cell HG.out d0
            replace d1 := cv_cell HG.out d1
            obtain ⟨c0, c1⟩ := HC.out j (by rw [HN.out]; exact hlt)
            replace c0 := cv_cell HG.out c0
            replace c1 := cv_cell HG.out c1
            generalize hq : R[j]'(by rw [HN.out]; exact hlt) = q at *
            obtain ⟨q0, q1⟩ := q
            simp only at c0 c1
            clear hq
            have hwk : IntKind.i64.wrap ((m : Int) - (j : Int)) = ((m - j : Nat) : Int) := by rw [show (m : Int) - (j : Int) = ((m - j : Nat) : Int) by omega]; exact IntWalk.i64_in _ (by omega)
            have hkk : m - j < m + 1 := by omega
            generalize m - j = k at *
            have HS : Hid (swapP (T.take (j + 1)) = swapP (T.take j) ++ [(T[j].2, T[j].1)]) := Lib.hid (by unfold swapP; rw [List.take_succ_eq_append_getElem l0, List.map_append]; rfl)
            have hxl : (swapP (T.take j)).length + 1 ≤ 1000000 := by simp [swapP]; omega
            generalize swapP (T.take j) = xs at *
            generalize T[j] = x at *
            obtain ⟨f, t⟩ := x
            simp only at d0 d1 HS
            obtain ⟨p0, p1, z0, z1⟩ := id (PF.new wr q0 q1 52)
            have e0 := cv_cell ((Gr.refl wr).alloc (.cells #[.int .i64 q0, .int .i64 q1] 52)) d0
            have e1 := cv_cell ((Gr.refl wr).alloc (.cells #[.int .i64 q0, .int .i64 q1] 52)) d1
            obtain ⟨k0, k1⟩ := id (P2.new wr f t 52)
            have HO2 := Lib.hid (HO.out.gr ((Gr.refl wr).alloc (.cells #[.int .i64 f, .int .i64 t] 52)))
            have HG3 := Lib.hid (HG.out.alloc (.cells #[.int .i64 f, .int .i64 t] 52))
            clear l0 HO
            go_wp2_with (at_builtin; refine push_c hi hz0 hz1 hz2 rfl _ _ rfl _ xs rfl HO2.out HG3.out t f (wr.heap.size + 1) (by simp) rfl (by omega) ?_; rintro v5 w5 HO5 hg5; have HG5 := Lib.hid hg5; clear hg5)
            go_roundw
            case rel => exact ⟨j + 1, by go_num, by omega, by rw [HS.out]; exact HO5, HG5⟩
            case measure => simp [intOf]; omega
          · obtain rfl : j = m + 1 := by omega
            have ho := HO.out
            rw [show T.take (m + 1) = T by rw [List.take_of_length_le (by rw [HL.out]; exact Nat.le_refl _)]] at ho
            have HO3 := Lib.hid ho
            clear ho HO
            go_wp2
            go_ret2
            exact ⟨_, rfl, HO3.out, HG.out⟩
  · rw [if_pos h]
    generalize cvC R = K at *
    generalize R.length = n at *
    have hk : (K == 0) = false := by rw [beq_eq_false_iff_ne]; exact h
    clear hR hJ
    go_enter Tryz.func26, Tryz.ntmps26
    go_wp2_with fail
    refine C.out.mono ?_; rintro e w1 ⟨rfl, hg⟩
    have HG1 := Lib.hid hg
    clear hg
    go_wp2
    go_ret2
    exact ⟨_, rfl, OwnC.nil _ _, HG1.out⟩
end Go.Proofs.YtlbnibicehpobaaGreatDoor
