/- RbHJ: RbH, RbI, RbJ, joined. -/
import Derived.Test.YtjideokeokmbaaaGreatDoorRbBG
import Derived.Deep.OwnRows
set_option linter.unusedVariables false
set_option linter.unusedSimpArgs false

/- Law 6: the reference's Check, In, Holds. -/
namespace Go.Proofs.YtjideokeokmbaaaGreatDoor
open Go.RowKit Go.Shelf
open Z
set_option maxRecDepth 100000 in
set_option maxHeartbeats 2000000 in
theorem r6_Check (a : Option Addr) (R : List (Int × Int)) (cap : Nat) (w : World) (hR : RngAt w a R) (hlen : R.length ≤ 10000000000000) : Calls Tryz.prog 15 #[.slice a R.length cap] w fun e w' => e = .returned (.int .i64 (checkR R)) ∧ Gr w w' := by
  have HR := Lib.hid hR
  obtain ⟨len, hl⟩ : ∃ len, R.length = len := ⟨_, rfl⟩
  have HE := Lib.hid hl
  rw [hl] at hlen ⊢
  obtain ⟨V, hV⟩ : ∃ V, checkR R = V := ⟨_, rfl⟩
  rw [hV]
  have HV := Lib.hid (show checkL (R.drop 0) (prevE R 0) = V from hV)
  clear hV hR hl
  go_enter Tryz.func15, Tryz.ntmps15
  go_wp2
  go_loopw [3] (fun i wr => ∃ j : Nat, i = .int .i64 j ∧ j ≤ len ∧ Hid (checkL (R.drop j) (prevE R j) = V) ∧ Hid (∀ k (h : k < R.length), k < j → isRg R[k] = true) ∧ Hid (Gr w wr)) (fun i _ => len - (intOf i).toNat)
  case atStart => exact ⟨0, rfl, Nat.zero_le _, HV, Lib.hid (fun k _ h => absurd h (by omega)), Lib.hid (Gr.refl w)⟩
  case round =>
    obtain ⟨j, rfl, hj, HVj, HP, HG⟩ := hrel
    by_cases hlt : j < len
    · have hltR : j < R.length := by rw [HE.out]; exact hlt
      obtain ⟨b, off, rfl, hc⟩ : ∃ b off, a = some ⟨b, off, none⟩ ∧ ∀ j (h : j < R.length), w.cell? ⟨b, off + j * 2, none⟩ = some (.int .i64 R[j].1) ∧ w.cell? ⟨b, off + j * 2 + 1, none⟩ = some (.int .i64 R[j].2) := by
        rcases HR.out with ⟨-, h⟩ | h
        · rw [h] at hltR; simp at hltR
        · exact h
      have d0 := cell_gr HG.out (hc j hltR).1
      have d1 := cell_gr HG.out (hc j hltR).2
      have hv := HVj.out
      rw [List.drop_eq_getElem_cons hltR] at hv
      unfold checkL at hv
      have HP2 : Hid (isRg R[j] = true → ∀ k (h : k < R.length), k < j + 1 → isRg R[k] = true) := Lib.hid fun h k hk hkj => by
        by_cases e : k = j
        · subst e; exact h
        · exact HP.out k hk (by omega)
      have hps := prevE_succ hltR
      have HIS := Lib.hid (fun w => r6_right R[j].1 R[j].2 w)
      rw [← hps] at hv
      have hprev : ∀ i (h : i < R.length), i + 1 = j → isRg R[i] = true ∧ prevE R j = some R[i].2 ∧ wr.cell? ⟨b, off + i * 2 + 1, none⟩ = some (.int .i64 R[i].2) := fun i h e => by
        subst e; exact ⟨HP.out i h (by omega), prevE_succ h, cell_gr HG.out (hc i h).2⟩
      generalize hx : R[j] = x at *
      obtain ⟨f, t⟩ := x
      simp only at d0 d1 HIS
      cases hi : isRg (f, t)
      · rw [hi, if_pos rfl] at hv
        subst hv
        rw [hi] at HIS
        clear hprev HP2 HP hx hps hc HVj
        go_wp2_with fail
        refine (HIS.out _).mono ?_; rintro e w2 ⟨rfl, hg2⟩
        have HG2 := Lib.hid (Gr.trans HG.out hg2)
        clear hg2
        go_wp2
        go_ret
        exact ⟨rfl, HG2.out⟩
      · rw [hi] at HIS
        rw [if_neg (by rw [hi]; simp)] at hv
        have HP3 := Lib.hid (HP2.out hi)
        clear HP2 HP
        cases j with
        | zero =>
          rw [if_neg (by simp [prevE])] at hv
          have HV2 := Lib.hid hv
          simp only [Nat.zero_mul, Nat.add_zero] at d0 d1
          clear hv hprev hx hps hc HVj
          go_wp2_with fail
          refine (HIS.out _).mono ?_; rintro e w2 ⟨rfl, hg2⟩
          have HG2 := Lib.hid (Gr.trans HG.out hg2)
          clear hg2
          go_wp2_with fail
          go_quiet (fail)
          rename_i nq
          have HG3 := Lib.hid (below_drewN HG2.out nq)
          go_wp2
          go_roundw
          case rel => exact ⟨0 + 1, by go_num, by omega, HV2, HP3, HG3⟩
          case measure => simp [intOf]; omega
        | succ i =>
          obtain ⟨hir, hpe, m1⟩ := hprev i (by omega) rfl
          have hq := ((isRg_iff _).1 hir).2.2
          have hq0 := ((isRg_iff _).1 hir).1
          have hq1 := ((isRg_iff _).1 hir).2.1
          rw [hpe] at hv
          generalize R[i].2 = q at *
          simp only at hv
          have hf := ((isRg_iff _).1 hi)
          simp only at hf
          clear hprev hx hpe hir hc HVj
          have hkc : ((i + 1 : Nat) : Int) = (i : Int) + 1 := by omega
          rw [hkc]
          clear hkc
          by_cases hlt2 : f < q + 2
          · rw [if_pos (by simpa using hlt2)] at hv
            subst hv
            go_wp2_with fail
            refine (HIS.out _).mono ?_; rintro e w2 ⟨rfl, hg2⟩
            have HG2 := Lib.hid (Gr.trans HG.out hg2)
            have m2 := cell_gr hg2 m1
            have m3 := cell_gr hg2 d0
            clear hg2
            go_wp2_with fail
            go_quiet (fail)
            rename_i nq
            have HG3 := Lib.hid (below_drewN HG2.out nq)
            go_wp2
            go_ret
            exact ⟨rfl, HG3.out⟩
          · rw [if_neg (by simpa using hlt2)] at hv
            have HV2 := Lib.hid hv
            clear hv
            have hge : q + 2 ≤ f := by omega
            clear hlt2
            go_wp2_with fail
            refine (HIS.out _).mono ?_; rintro e w2 ⟨rfl, hg2⟩
            have HG2 := Lib.hid (Gr.trans HG.out hg2)
            have m2 := cell_gr hg2 m1
            have m3 := cell_gr hg2 d0
            clear hg2
            go_wp2_with fail
            go_quiet (fail)
            rename_i nq
            have HG3 := Lib.hid (below_drewN HG2.out nq)
            go_wp2
            go_roundw
            case rel => exact ⟨i + 1 + 1, by go_num, by omega, HV2, HP3, HG3⟩
            case measure => simp [intOf]; omega
    · have hjl : j = len := by omega
      subst hjl
      have hv := HVj.out
      rw [List.drop_of_length_le (by rw [HE.out]; exact Nat.le_refl _)] at hv
      unfold checkL at hv
      subst hv
      clear HVj
      go_wp2
      go_ret
      exact ⟨rfl, HG.out⟩
theorem any_take {R : List (Int × Int)} {j : Nat} (h : j < R.length) (c : Int) : (R.take (j + 1)).any (hasR c) = ((R.take j).any (hasR c) || hasR c R[j]) := by
  rw [List.take_succ_eq_append_getElem h, List.any_append]; simp
theorem any_at {R : List (Int × Int)} {j : Nat} (h : j < R.length) {c : Int} (hc : hasR c R[j] = true) : R.any (hasR c) = true := List.any_eq_true.2 ⟨_, List.getElem_mem h, hc⟩
end Go.Proofs.YtjideokeokmbaaaGreatDoor

/- Law 6: the reference's Listed, List, Count. -/
namespace Go.Proofs.YtjideokeokmbaaaGreatDoor.Z
open Go
theorem runL_all {f t : Int} {m : Nat} (h1 : f ≤ t) (h : f + m = t + 1) : runP f m = runL (f, t) := by
  unfold runL; simp only; rw [show (t + 1 - f).toNat = m by omega]
end Go.Proofs.YtjideokeokmbaaaGreatDoor.Z
namespace Go.Proofs.YtjideokeokmbaaaGreatDoor
open Go.RowKit Go.Shelf
open Z
end Go.Proofs.YtjideokeokmbaaaGreatDoor

/- Law 6: the reference's Ranges, Members, Set, Make, Of. -/
namespace Go.Proofs.YtjideokeokmbaaaGreatDoor
open Go.RowKit Go.Shelf
open Z
/-- a row of truths -/
def TruAt (w : World) (b : Nat) (g : Nat → Bool) : Prop := ∀ k, k < 1001 → w.cell? ⟨b, k, none⟩ = some (.bool (g k)) ∧ w.frozen? ⟨b, k, none⟩ = false
theorem TruAt.gr {w w' : World} {b : Nat} {g : Nat → Bool} (h : TruAt w b g) (hg : Gr w w') : TruAt w' b g :=
  fun k hk => ⟨cell_gr hg (h k hk).1, (Below.frozen hg (p := ⟨b, k, none⟩) (cellLt (h k hk).1)).trans (h k hk).2⟩
theorem TruAt.set {w : World} {b : Nat} {g : Nat → Bool} (h : TruAt w b g) {c : Nat} (hc : c < 1001) (v : Bool) : TruAt (w.setCell ⟨b, c, none⟩ (.bool v)) b (fun k => if k = c then v else g k) := fun k hk => by
  refine ⟨?_, by rw [World.frozen?_setCell]; exact (h k hk).2⟩
  by_cases e : k = c
  · subst e
    simp only [if_true]
    exact World.cell?_setCell_same _ _ _ (h k hk).1
  · simp only [if_neg e]
    exact (World.cell?_setCell_other _ _ _ _ (by simp [e])).trans (h k hk).1
theorem TruAt.congr {w : World} {b : Nat} {g g' : Nat → Bool} (h : TruAt w b g) (e : ∀ k, g' k = g k) : TruAt w b g' := fun k hk => by rw [e k]; exact h k hk
theorem TruAt.lt {w : World} {b : Nat} {g : Nat → Bool} (h : TruAt w b g) : b < w.heap.size := cellLt (h 0 (by omega)).1
theorem TruAt.new (w : World) : TruAt (w.alloc (.cells (madeCells #[.bool false] 1001) 4)) w.heap.size (fun _ => false) := fun k hk => by
  refine ⟨?_, World.frozen?_alloc_at _ _ _ _ rfl⟩
  rw [World.cell?_alloc_at _ _ _ _ rfl]
  unfold madeCells
  simp [hk, Nat.mod_one]
theorem OwnF.bump {w0 w : World} {v : Value} {i : List (Int × Int)} {r : Int × Int} (h : OwnF w0.heap.size w v (i ++ [r])) (hg : Gr w0 w) (c : Int) :
    ∃ b cap, v = .slice (some ⟨b, 0, none⟩) (i.length + 1) cap ∧ w.cell? ⟨b, i.length * 2 + 1, none⟩ = some (.int .i64 r.2) ∧ w.frozen? ⟨b, i.length * 2 + 1, none⟩ = false ∧
      OwnF w0.heap.size (w.setCell ⟨b, i.length * 2 + 1, none⟩ (.int .i64 c)) v (bumpL (i ++ [r]) c) ∧ Gr w0 (w.setCell ⟨b, i.length * 2 + 1, none⟩ (.int .i64 c)) ∧ w0.heap.size ≤ b := by
  rcases id h.2 with ⟨rfl, h0⟩ | ⟨b, cap, cur, rfl, _, _, h3, h4, _⟩
  · simp at h0
  · have hb : w0.heap.size ≤ b := (World.ownsRow.lt h b rfl).1
    have hl : (i ++ [r]).length = i.length + 1 := by simp
    have hc := World.ownsRow.cells h (g := b) rfl (i.length * 2 + 1) _ (rv_get (i ++ [r]) i.length (by simp)).2
    rw [WideShapes.add_plain, Nat.zero_add] at hc
    have hst := World.ownsRow.stored h (i.length * 2 + 1) (.int .i64 c)
    refine ⟨b, cap, by rw [hl], by simpa using hc, World.ownsRow.frozenAt h _, ?_, Below.grown hg hst.2 hg.size (fun k e => by cases e; exact hb), hb⟩
    unfold OwnF
    rw [rv_bump, bumpL_len (by simp)]
    exact hst.1
theorem OwnF.low {B B' : Nat} {w : World} {v : Value} {l : List (Int × Int)} (h : OwnF B w v l) (hB : B' ≤ B) : OwnF B' w v l := by
  refine ⟨h.1, ?_⟩
  rcases h.2 with h2 | ⟨g, cap, cur, h1, hb, h3⟩
  · exact .inl h2
  · exact .inr ⟨g, cap, cur, h1, Nat.le_trans hB hb, h3⟩
end Go.Proofs.YtjideokeokmbaaaGreatDoor
