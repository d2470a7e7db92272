/- Law 11: the program's paletteOf. -/
import Derived.Test.YtipfofdjngnkpaaCoB
set_option linter.unusedVariables false
set_option linter.unusedSimpArgs false
namespace Go.Proofs.Ytipfofdjngnkpaa
open Go.RowKit
open Z
theorem gr_cell {w w' : World} (h : Gr w w') {b o : Nat} {v : Value} (hc : w.cell? ⟨b, o, none⟩ = some v) : w'.cell? ⟨b, o, none⟩ = some v := by
  have hb : b < w.heap.size := by
    by_cases hb : b < w.heap.size
    · exact hb
    · exfalso
      have : w.heap[b]? = none := Array.getElem?_eq_none (by omega)
      simp [World.cell?, this] at hc
  exact (Below.cell h (p := ⟨b, o, none⟩) hb).trans hc
/-- a list of ints lies behind an address -/
def RdI (w : World) (a : Option Addr) (l : List Int) : Prop := ∀ k (h : k < l.length), ∃ b o, a = some ⟨b, o, none⟩ ∧ w.cell? ⟨b, o + k, none⟩ = some (.int .i64 l[k])
theorem RdI.gr {w w' : World} {a : Option Addr} {l : List Int} (h : RdI w a l) (hg : Gr w w') : RdI w' a l := fun k hk => by
  obtain ⟨b, o, h1, h2⟩ := h k hk
  exact ⟨b, o, h1, gr_cell hg h2⟩
theorem palA_congr {f g : Nat → Bool} (h : ∀ k, k < 15 → f k = g k) : palA f = palA g := by
  unfold palA
  simp only [h 0 (by decide), h 1 (by decide), h 2 (by decide), h 3 (by decide), h 4 (by decide), h 5 (by decide), h 6 (by decide), h 7 (by decide), h 8 (by decide), h 9 (by decide), h 10 (by decide), h 11 (by decide), h 12 (by decide), h 13 (by decide), h 14 (by decide)]
theorem PalAt.congr {w : World} {g : Nat} {f h : Nat → Bool} (H : PalAt w g f) (e : ∀ k, k < 15 → f k = h k) : PalAt w g h := by unfold PalAt at *; rw [← palA_congr e]; exact H
theorem PalAt.cell {w : World} {g : Nat} {f : Nat → Bool} (H : PalAt w g f) {k : Nat} (hk : k < 15) : w.cell? ⟨g, k, none⟩ = some (.bool (f k)) := by
  rw [cell_of_row _ _ _ _ _ _ H]; exact palA_get hk
theorem inB_snoc (l : List Int) (m k : Nat) : inB (l ++ [(m : Int)]) k = (decide (k = m) || inB l k) := by
  unfold inB
  rw [Bool.eq_iff_iff]
  simp only [List.contains_append, List.contains_cons, List.contains_nil, Bool.or_false, Bool.or_eq_true, beq_iff_eq, decide_eq_true_eq]
  rw [or_comm]
  refine or_congr_left ?_
  omega
theorem palA_set (f : Nat → Bool) (m : Nat) (h : m < 15) : (palA f).setIfInBounds m (.bool true) = palA fun k => decide (k = m) || f k := by
  have : m = 0 ∨ m = 1 ∨ m = 2 ∨ m = 3 ∨ m = 4 ∨ m = 5 ∨ m = 6 ∨ m = 7 ∨ m = 8 ∨ m = 9 ∨ m = 10 ∨ m = 11 ∨ m = 12 ∨ m = 13 ∨ m = 14 := by omega
  rcases this with rfl | rfl | rfl | rfl | rfl | rfl | rfl | rfl | rfl | rfl | rfl | rfl | rfl | rfl | rfl <;> rfl
theorem PalAt.set {w : World} {g : Nat} {f : Nat → Bool} (H : PalAt w g f) {m : Nat} (hm : m < 15) : PalAt (w.setCell ⟨g, m, none⟩ (.bool true)) g fun k => decide (k = m) || f k := by
  unfold PalAt at *
  rw [← palA_set f m hm]
  exact heap_setCell_same w g m _ _ _ H
theorem PalAt.other {w : World} {g : Nat} {f : Nat → Bool} (H : PalAt w g f) {b o : Nat} {v : Value} (hb : g ≠ b) : PalAt (w.setCell ⟨b, o, none⟩ v) g f := by
  unfold PalAt at *
  rw [← H]; exact Below.heap_setCell w _ v g hb
theorem palA_one (f : Nat → Bool) : (palA f).all (·.oneCell') = true := by simp [palA, Value.oneCell']
theorem Gr.row {w w' : World} (h : Gr w w') {g : Nat} (hb : w.heap.size ≤ g) (c : Array Value) : Gr w (w'.setRow g c) := by
  have ho : ∀ k, k ≠ g → (w'.setRow g c).heap[k]? = w'.heap[k]? := fun k hk => by
    simp only [World.setRow, Array.getElem?_modify]
    rw [if_neg (fun e => hk e.symm)]
  have hs : (w'.setRow g c).heap.size = w'.heap.size := by simp [World.setRow]
  exact ⟨h.os, h.tape, h.output, by rw [hs]; exact h.size, fun k hk => (ho k (by omega)).trans (h.block k hk)⟩
theorem Gr.set {w w' : World} (h : Gr w w') {g o : Nat} (hb : w.heap.size ≤ g) (v : Value) : Gr w (w'.setCell ⟨g, o, none⟩ v) := Below.setCell h hb _
theorem PalAt.row {w : World} {g : Nat} {f : Nat → Bool} (H : PalAt w g f) (h : Nat → Bool) : PalAt (w.setRow g (palA h)) g h := setRow_heap w g _ _ _ _ H
theorem wpl_storeP {ops : Array Oper} {rest : List Oper} {o : Oper} {a : Act} {Q : Exit → Act → World → Prop} {w : World} {x y : Operand} {g : Nat} {f f0 : Nat → Bool} (hg : o.guard = none) (ho : o.op = .store 60 x y) (hx : a.eval x = .pointer (some ⟨g, 0, none⟩)) (hy : a.eval y = .agg (palA f)) (hP : PalAt w g f0)
    (hK : wpList Try.prog ops Q rest (a.put o.dst undef) (w.setRow g (palA f))) : wpList Try.prog ops Q (o :: rest) a w := by
  refine wpList_plain hg fun K hK' => ?_
  have hz := (zero_of_info Try.infoPal).2
  have h1 : (storeVar 60 ⟨g, 0, none⟩ (.agg (palA f))).run Try.prog w = .ok () (w.setRow g (palA f)) :=
    run_storeVar_row w g _ _ _ _ hP (by rw [hz]; rfl) rfl (palA_one f)
  unfold Oper.wp execOp
  rw [ho]
  simp only [hx, hy, Instr.storeAt, Instr.sureAddr, Sem.run_bind, Sem.run_pure, Result.andThen, h1]
  rw [Oper.upon_skip]
  exact hK' _ _ hK
theorem wpl_loadP {ops : Array Oper} {rest : List Oper} {o : Oper} {a : Act} {Q : Exit → Act → World → Prop} {w : World} {x : Operand} {g : Nat} {f : Nat → Bool} (hg : o.guard = none) (ho : o.op = .load 60 x) (hx : a.eval x = .pointer (some ⟨g, 0, none⟩)) (hP : PalAt w g f)
    (hK : wpList Try.prog ops Q rest (a.put o.dst (.agg (palA f))) w) : wpList Try.prog ops Q (o :: rest) a w :=
  wpList_plain hg fun K hK' => wp_loadP x ho hx hP (hK' _ _ hK)
theorem PalAt.fz {w : World} {g : Nat} {f : Nat → Bool} (H : PalAt w g f) (k : Nat) : w.frozen? ⟨g, k, none⟩ = false := by
  unfold PalAt at H
  simp [World.frozen?, H]
set_option maxRecDepth 100000 in
set_option maxHeartbeats 4000000 in
theorem co_paletteOf {a : Option Addr} {l : List Int} {cap : Nat} (w : World) (hr : RdI w a l) (hlen : l.length ≤ maxLen) :
    Calls Try.prog 30 #[.slice a l.length cap] w fun e w' => e = .returned (.tuple #[.agg (palA fun k => decide (palR l = 0) && inB l k), .int .i64 (palR l)]) ∧ Gr w w' := by
  have HR := Lib.hid hr
  obtain ⟨E, hE⟩ : ∃ E, palR l = E := ⟨_, rfl⟩
  rw [hE]
  unfold palR at hE
  by_cases h15 : 15 < l.length
  · rw [if_pos h15] at hE
    subst hE
    have hd : decide ((15 : Int) < (l.length : Int)) = true := decide_eq_true (by omega)
    generalize l.length = n at *
    unfold maxLen at hlen
    go_enter Try.func30, Try.ntmps30
    go_wp2
    refine bodyPost_ret (v := .tuple #[.agg (palA fun _ => false), .int .i64 5]) ?_ rfl ⟨by simp [palA], (Gr.refl w).alloc _⟩
    rw [results_cell_tmp rfl]
    simp [asAddr, Result.andThen, go_sem, palA]
  · rw [if_neg h15] at hE
    have HE := Lib.hid hE
    clear hE
    obtain ⟨n, hn⟩ : ∃ n, n = l.length := ⟨_, rfl⟩
    have HN := Lib.hid hn
    rw [← hn] at hlen h15 ⊢
    clear hn hr
    go_enter Try.func30, Try.ntmps30
    go_wp2
    go_loopw [6, 13] (fun _ i wr => ∃ k : Nat, i = .int .i64 k ∧ k ≤ n ∧ Hid (Gr w wr) ∧ Hid (PalAt wr w.heap.size fun _ => false) ∧ Hid (PalAt wr (w.heap.size + 1) (inB (l.take k))) ∧ Hid (palF (l.take k) (l.drop k) = E)) (fun _ i _ => n - (intOf i).toNat)
    case atStart => exact ⟨0, rfl, Nat.zero_le _, ((Gr.refl w).alloc _).alloc _, (PalAt.new w _).gr ((Gr.refl _).alloc _), by have := PalAt.new (w.alloc (.cells (palA fun _ => false) 60)) (fun _ => false); rw [World.size_alloc] at this; exact this, HE.out⟩
    case round =>
      obtain ⟨k, rfl, hk, HG, HP0, HP, HK⟩ := hrel
      by_cases hlt : k < n
      · have hkl : k < l.length := by rw [← HN.out]; exact hlt
        obtain ⟨b, o, rfl, hc⟩ := (HR.out.gr HG.out) k hkl
        have HK1 := Lib.hid ((palF_step hkl).symm.trans HK.out)
        generalize hx : l[k] = x at *
        have HX := Lib.hid hx
        clear hx
        by_cases h3 : 3 ≤ x
        · by_cases h10 : x ≤ 10
          · obtain ⟨m, rfl⟩ : ∃ m : Nat, x = (m : Int) := ⟨x.toNat, by omega⟩
            have d1 : decide ((m : Int) < 3) = false := decide_eq_false (by omega)
            have d2 : decide (10 < (m : Int)) = false := decide_eq_false (by omega)
            have hm : m < 15 := by omega
            have hm' : (m : Int) < 15 := by omega
            have cp := HP.out.cell hm
            have HV : Hid ((if inB (l.take k) m = true then 7 else palF (l.take (k + 1)) (l.drop (k + 1))) = E) := Lib.hid (by have h := HK1.out; rwa [if_pos ⟨h3, h10⟩] at h)
            have HQ : Hid (inB (l.take (k + 1)) = fun j => decide (j = m) || inB (l.take k) j) := Lib.hid (by funext j; rw [List.take_succ_eq_append_getElem hkl, HX.out]; exact inB_snoc _ _ _)
            clear HK HK1
            generalize inB (l.take k) m = y at *
            cases y
            · have hv := HV.out
              rw [if_neg (by simp)] at hv
              have HV2 := Lib.hid hv
              have HPs := Lib.hid (HP.out.set hm)
              have HP0s := Lib.hid (HP0.out.other (b := w.heap.size + 1) (o := m) (v := .bool true) (by omega))
              have HGs := Lib.hid (HG.out.set (g := w.heap.size + 1) (o := m) (by omega) (.bool true))
              have hfz : wr.frozen? ⟨w.heap.size + 1, m, none⟩ = false := HP.out.fz m
              clear hv HV HP HP0 HG
              go_wp2
              go_roundw
              case rel => exact ⟨k + 1, by go_num, by omega, HGs.out, HP0s.out, by rw [HQ.out]; exact HPs.out, HV2.out⟩
              case measure => simp [intOf]; omega
            · have hv := HV.out
              rw [if_pos rfl] at hv
              subst hv
              clear HV HQ
              go_wp2_with (refine wpl_storeP (f := fun _ => false) rfl rfl rfl rfl HP0.out ?_)
              refine bodyPost_ret (v := .tuple #[.agg (palA fun _ => false), .int .i64 7]) ?_ rfl ⟨by first | rfl | simp, HG.out.row (Nat.le_refl _) _⟩
              rw [results_cell_tmp rfl]
              simp [asAddr, Result.andThen]
              rw [run_loadP (show PalAt _ _ _ from (HP0.out.row (fun _ => false)))]
          · have hv := HK1.out
            rw [if_neg (by omega)] at hv
            subst hv
            have d1 : decide (x < 3) = false := decide_eq_false (by omega)
            have d2 : decide (10 < x) = true := decide_eq_true (by omega)
            clear HK HK1
            go_wp2_with (refine wpl_storeP (f := fun _ => false) rfl rfl rfl rfl HP0.out ?_)
            refine bodyPost_ret (v := .tuple #[.agg (palA fun _ => false), .int .i64 1]) ?_ rfl ⟨by first | rfl | simp, HG.out.row (Nat.le_refl _) _⟩
            rw [results_cell_tmp rfl]
            simp [asAddr, Result.andThen]
            rw [run_loadP (show PalAt _ _ _ from (HP0.out.row (fun _ => false)))]
        · have hv := HK1.out
          rw [if_neg (by omega)] at hv
          subst hv
          have d1 : decide (x < 3) = true := decide_eq_true (by omega)
          clear HK HK1
          go_wp2_with (refine wpl_storeP (f := fun _ => false) rfl rfl rfl rfl HP0.out ?_)
          refine bodyPost_ret (v := .tuple #[.agg (palA fun _ => false), .int .i64 1]) ?_ rfl ⟨by first | rfl | simp, HG.out.row (Nat.le_refl _) _⟩
          rw [results_cell_tmp rfl]
          simp [asAddr, Result.andThen]
          rw [run_loadP (show PalAt _ _ _ from (HP0.out.row (fun _ => false)))]
      · have hkn : k = l.length := by have := HN.out; omega
        have hv := HK.out
        rw [hkn, palF_end] at hv
        have HP2 : Hid (PalAt wr (w.heap.size + 1) (inB l)) := Lib.hid (by have h := HP.out; rwa [hkn, List.take_length] at h)
        clear HP hkn HK
        have HP := HP2
        clear HP2
        have HA := Lib.hid (fun w => co_isAdditive (inB l) w)
        have HD := Lib.hid (fun w => co_dyes w)
        have HB := Lib.hid (fun w => co_has_dyes (inB l) w)
        have hav : (inB l 3 && (inB l 4 && inB l 5)) = addi l := rfl
        have hsv : (inB l 8 && (inB l 9 && inB l 10)) = subt l := rfl
        rw [hav] at HA
        rw [hsv] at HB
        clear hav hsv
        generalize addi l = ad at *
        generalize subt l = sb at *
        cases ad
        · cases sb
          · rw [if_neg (by simp)] at hv
            subst hv
            go_wp2_with fail
            have hS0 : (fun w' : World => PalAt w' (w.heap.size + 1) (inB l) ∧ PalAt w' w.heap.size (fun _ => false) ∧ Gr w w') wr.drew := ⟨HP.out.drew, HP0.out.drew, HG.out.drew⟩
            refine wp_region_held (S := fun w' : World => PalAt w' (w.heap.size + 1) (inB l) ∧ PalAt w' w.heap.size (fun _ => false) ∧ Gr w w') (by kernel_rfl) ?_
            refine wpAnyH_take (i := 0) (v := .agg (palA (inB l))) rfl (by kernel_rfl) (by kernel_rfl) (by kernel_rfl) (fun _ _ _ h => h) (Or.inl ⟨by rfl, ?_⟩) hS0 ?_
            · intro w hSw; exact exec_loadP _ rfl rfl hSw.1
            try simp only [Act.put, List.getElem_toArray, List.getElem_cons_succ, List.getElem_cons_zero, List.setIfInBounds_toArray, List.set_cons_zero, List.set_cons_succ]
            refine wpAnyH_ready (rs := [1]) (by kernel_rfl) (by simp) (AllReadyH.cons rfl (fun K' hK' => ?_) AllReadyH.nil)
            go_simp
            refine (HA.out _).mono ?_; rintro e w6 ⟨rfl, hg6⟩
            refine hK'.out _ _ ⟨hS0.1.gr hg6, hS0.2.1.gr hg6, hS0.2.2.trans hg6⟩ (fun hS1 => ?_)
            clear hK' K'
            try simp only [Act.put, List.getElem_toArray, List.getElem_cons_succ, List.getElem_cons_zero, List.setIfInBounds_toArray, List.set_cons_zero, List.set_cons_succ]
            refine wpAnyH_take (i := 2) (v := .bool true) rfl (by kernel_rfl) (by kernel_rfl) (by kernel_rfl) (fun _ _ _ h => h) (Or.inl ⟨by rfl, ?_⟩) hS1 ?_
            · intro w hSw; go_simp
            try simp only [Act.put, List.getElem_toArray, List.getElem_cons_succ, List.getElem_cons_zero, List.setIfInBounds_toArray, List.set_cons_zero, List.set_cons_succ]
            refine wpAnyH_take (i := 3) (v := .bool true) rfl (by kernel_rfl) (by kernel_rfl) (by kernel_rfl) (fun _ _ _ h => h) (Or.inl ⟨by rfl, ?_⟩) hS1 ?_
            · intro w hSw; go_simp
            try simp only [Act.put, List.getElem_toArray, List.getElem_cons_succ, List.getElem_cons_zero, List.setIfInBounds_toArray, List.set_cons_zero, List.set_cons_succ]
            refine wpAnyH_take (i := 4) (v := .agg (palA (inB l))) rfl (by kernel_rfl) (by kernel_rfl) (by kernel_rfl) (fun _ _ _ h => h) (Or.inl ⟨by rfl, ?_⟩) hS1 ?_
            · intro w hSw; exact exec_loadP _ rfl rfl hSw.1
            try simp only [Act.put, List.getElem_toArray, List.getElem_cons_succ, List.getElem_cons_zero, List.setIfInBounds_toArray, List.set_cons_zero, List.set_cons_succ]
            refine wpAnyH_ready (rs := [5]) (by kernel_rfl) (by simp) (AllReadyH.cons rfl (fun K' hK' => ?_) AllReadyH.nil)
            go_simp
            refine (HD.out _).mono ?_; rintro e w7 ⟨rfl, hg7⟩
            refine hK'.out _ _ ⟨hS1.1.gr hg7, hS1.2.1.gr hg7, hS1.2.2.trans hg7⟩ (fun hS2 => ?_)
            clear hK' K'
            try simp only [Act.put, List.getElem_toArray, List.getElem_cons_succ, List.getElem_cons_zero, List.setIfInBounds_toArray, List.set_cons_zero, List.set_cons_succ]
            refine wpAnyH_ready (rs := [6]) (by kernel_rfl) (by simp) (AllReadyH.cons rfl (fun K' hK' => ?_) AllReadyH.nil)
            go_simp
            refine (HB.out _).mono ?_; rintro e w8 ⟨rfl, hg8⟩
            refine hK'.out _ _ ⟨hS2.1.gr hg8, hS2.2.1.gr hg8, hS2.2.2.trans hg8⟩ (fun hS3 => ?_)
            clear hK' K'
            try simp only [Act.put, List.getElem_toArray, List.getElem_cons_succ, List.getElem_cons_zero, List.setIfInBounds_toArray, List.set_cons_zero, List.set_cons_succ]
            refine wpAnyH_take (i := 7) (v := .bool true) rfl (by kernel_rfl) (by kernel_rfl) (by kernel_rfl) (fun _ _ _ h => h) (Or.inl ⟨by rfl, ?_⟩) hS3 ?_
            · intro w hSw; go_simp
            try simp only [Act.put, List.getElem_toArray, List.getElem_cons_succ, List.getElem_cons_zero, List.setIfInBounds_toArray, List.set_cons_zero, List.set_cons_succ]
            refine wpAnyH_take (i := 8) (v := .bool true) rfl (by kernel_rfl) (by kernel_rfl) (by kernel_rfl) (fun _ _ _ h => h) (Or.inl ⟨by rfl, ?_⟩) hS3 ?_
            · intro w hSw; go_simp
            try simp only [Act.put, List.getElem_toArray, List.getElem_cons_succ, List.getElem_cons_zero, List.setIfInBounds_toArray, List.set_cons_zero, List.set_cons_succ]
            refine wpAnyH_done (by kernel_rfl) ?_ _
            have HP0n := Lib.hid hS3.2.1
            have HGn := Lib.hid hS3.2.2
            go_wp2_with (refine wpl_storeP (f := fun _ => false) rfl rfl rfl rfl HP0n.out ?_)
            refine bodyPost_ret (v := .tuple #[.agg (palA fun _ => false), .int .i64 6]) ?_ rfl ⟨by first | rfl | simp, HGn.out.row (Nat.le_refl _) _⟩
            rw [results_cell_tmp rfl]
            simp [asAddr, Result.andThen]
            rw [run_loadP (show PalAt _ _ _ from (HP0n.out.row (fun _ => false)))]
          · rw [if_pos (by simp)] at hv
            subst hv
            go_wp2_with fail
            have hS0 : (fun w' : World => PalAt w' (w.heap.size + 1) (inB l) ∧ PalAt w' w.heap.size (fun _ => false) ∧ Gr w w') wr.drew := ⟨HP.out.drew, HP0.out.drew, HG.out.drew⟩
            refine wp_region_held (S := fun w' : World => PalAt w' (w.heap.size + 1) (inB l) ∧ PalAt w' w.heap.size (fun _ => false) ∧ Gr w w') (by kernel_rfl) ?_
            refine wpAnyH_take (i := 0) (v := .agg (palA (inB l))) rfl (by kernel_rfl) (by kernel_rfl) (by kernel_rfl) (fun _ _ _ h => h) (Or.inl ⟨by rfl, ?_⟩) hS0 ?_
            · intro w hSw; exact exec_loadP _ rfl rfl hSw.1
            try simp only [Act.put, List.getElem_toArray, List.getElem_cons_succ, List.getElem_cons_zero, List.setIfInBounds_toArray, List.set_cons_zero, List.set_cons_succ]
            refine wpAnyH_ready (rs := [1]) (by kernel_rfl) (by simp) (AllReadyH.cons rfl (fun K' hK' => ?_) AllReadyH.nil)
            go_simp
            refine (HA.out _).mono ?_; rintro e w6 ⟨rfl, hg6⟩
            refine hK'.out _ _ ⟨hS0.1.gr hg6, hS0.2.1.gr hg6, hS0.2.2.trans hg6⟩ (fun hS1 => ?_)
            clear hK' K'
            try simp only [Act.put, List.getElem_toArray, List.getElem_cons_succ, List.getElem_cons_zero, List.setIfInBounds_toArray, List.set_cons_zero, List.set_cons_succ]
            refine wpAnyH_take (i := 2) (v := .bool true) rfl (by kernel_rfl) (by kernel_rfl) (by kernel_rfl) (fun _ _ _ h => h) (Or.inl ⟨by rfl, ?_⟩) hS1 ?_
            · intro w hSw; go_simp
            try simp only [Act.put, List.getElem_toArray, List.getElem_cons_succ, List.getElem_cons_zero, List.setIfInBounds_toArray, List.set_cons_zero, List.set_cons_succ]
            refine wpAnyH_take (i := 3) (v := .bool true) rfl (by kernel_rfl) (by kernel_rfl) (by kernel_rfl) (fun _ _ _ h => h) (Or.inl ⟨by rfl, ?_⟩) hS1 ?_
            · intro w hSw; go_simp
            try simp only [Act.put, List.getElem_toArray, List.getElem_cons_succ, List.getElem_cons_zero, List.setIfInBounds_toArray, List.set_cons_zero, List.set_cons_succ]
            refine wpAnyH_take (i := 4) (v := .agg (palA (inB l))) rfl (by kernel_rfl) (by kernel_rfl) (by kernel_rfl) (fun _ _ _ h => h) (Or.inl ⟨by rfl, ?_⟩) hS1 ?_
            · intro w hSw; exact exec_loadP _ rfl rfl hSw.1
            try simp only [Act.put, List.getElem_toArray, List.getElem_cons_succ, List.getElem_cons_zero, List.setIfInBounds_toArray, List.set_cons_zero, List.set_cons_succ]
            refine wpAnyH_ready (rs := [5]) (by kernel_rfl) (by simp) (AllReadyH.cons rfl (fun K' hK' => ?_) AllReadyH.nil)
            go_simp
            refine (HD.out _).mono ?_; rintro e w7 ⟨rfl, hg7⟩
            refine hK'.out _ _ ⟨hS1.1.gr hg7, hS1.2.1.gr hg7, hS1.2.2.trans hg7⟩ (fun hS2 => ?_)
            clear hK' K'
            try simp only [Act.put, List.getElem_toArray, List.getElem_cons_succ, List.getElem_cons_zero, List.setIfInBounds_toArray, List.set_cons_zero, List.set_cons_succ]
            refine wpAnyH_ready (rs := [6]) (by kernel_rfl) (by simp) (AllReadyH.cons rfl (fun K' hK' => ?_) AllReadyH.nil)
            go_simp
            refine (HB.out _).mono ?_; rintro e w8 ⟨rfl, hg8⟩
            refine hK'.out _ _ ⟨hS2.1.gr hg8, hS2.2.1.gr hg8, hS2.2.2.trans hg8⟩ (fun hS3 => ?_)
            clear hK' K'
            try simp only [Act.put, List.getElem_toArray, List.getElem_cons_succ, List.getElem_cons_zero, List.setIfInBounds_toArray, List.set_cons_zero, List.set_cons_succ]
            refine wpAnyH_take (i := 7) (v := .bool false) rfl (by kernel_rfl) (by kernel_rfl) (by kernel_rfl) (fun _ _ _ h => h) (Or.inl ⟨by rfl, ?_⟩) hS3 ?_
            · intro w hSw; go_simp
            try simp only [Act.put, List.getElem_toArray, List.getElem_cons_succ, List.getElem_cons_zero, List.setIfInBounds_toArray, List.set_cons_zero, List.set_cons_succ]
            refine wpAnyH_take (i := 8) (v := .bool false) rfl (by kernel_rfl) (by kernel_rfl) (by kernel_rfl) (fun _ _ _ h => h) (Or.inl ⟨by rfl, ?_⟩) hS3 ?_
            · intro w hSw; go_simp
            try simp only [Act.put, List.getElem_toArray, List.getElem_cons_succ, List.getElem_cons_zero, List.setIfInBounds_toArray, List.set_cons_zero, List.set_cons_succ]
            refine wpAnyH_done (by kernel_rfl) ?_ _
            have HPn := Lib.hid hS3.1
            have HP0n := Lib.hid hS3.2.1
            have HGn := Lib.hid hS3.2.2
            go_wp2_with (first | (refine wpl_loadP (f := inB l) rfl rfl rfl HPn.out ?_) | (refine wpl_storeP (f := inB l) rfl rfl rfl rfl HP0n.out ?_))
            refine bodyPost_ret (v := .tuple #[.agg (palA (inB l)), .int .i64 0]) ?_ rfl ⟨by first | rfl | simp, HGn.out.row (Nat.le_refl _) _⟩
            rw [results_cell_tmp rfl]
            simp [asAddr, Result.andThen]
            rw [run_loadP (show PalAt _ _ _ from (HP0n.out.row (inB l)))]
        · rw [if_pos (by simp)] at hv
          subst hv
          go_wp2_with fail
          have hS0 : (fun w' : World => PalAt w' (w.heap.size + 1) (inB l) ∧ PalAt w' w.heap.size (fun _ => false) ∧ Gr w w') wr.drew := ⟨HP.out.drew, HP0.out.drew, HG.out.drew⟩
          refine wp_region_held (S := fun w' : World => PalAt w' (w.heap.size + 1) (inB l) ∧ PalAt w' w.heap.size (fun _ => false) ∧ Gr w w') (by kernel_rfl) ?_
          refine wpAnyH_take (i := 0) (v := .agg (palA (inB l))) rfl (by kernel_rfl) (by kernel_rfl) (by kernel_rfl) (fun _ _ _ h => h) (Or.inl ⟨by rfl, ?_⟩) hS0 ?_
          · intro w hSw; exact exec_loadP _ rfl rfl hSw.1
          try simp only [Act.put, List.getElem_toArray, List.getElem_cons_succ, List.getElem_cons_zero, List.setIfInBounds_toArray, List.set_cons_zero, List.set_cons_succ]
          refine wpAnyH_ready (rs := [1]) (by kernel_rfl) (by simp) (AllReadyH.cons rfl (fun K' hK' => ?_) AllReadyH.nil)
          go_simp
          refine (HA.out _).mono ?_; rintro e w6 ⟨rfl, hg6⟩
          refine hK'.out _ _ ⟨hS0.1.gr hg6, hS0.2.1.gr hg6, hS0.2.2.trans hg6⟩ (fun hS1 => ?_)
          clear hK' K'
          try simp only [Act.put, List.getElem_toArray, List.getElem_cons_succ, List.getElem_cons_zero, List.setIfInBounds_toArray, List.set_cons_zero, List.set_cons_succ]
          refine wpAnyH_take (i := 2) (v := .bool false) rfl (by kernel_rfl) (by kernel_rfl) (by kernel_rfl) (fun _ _ _ h => h) (Or.inl ⟨by rfl, ?_⟩) hS1 ?_
          · intro w hSw; go_simp
          try simp only [Act.put, List.getElem_toArray, List.getElem_cons_succ, List.getElem_cons_zero, List.setIfInBounds_toArray, List.set_cons_zero, List.set_cons_succ]
          refine wpAnyH_take (i := 3) (v := .bool false) rfl (by kernel_rfl) (by kernel_rfl) (by kernel_rfl) (fun _ _ _ h => h) (Or.inl ⟨by rfl, ?_⟩) hS1 ?_
          · intro w hSw; go_simp
          try simp only [Act.put, List.getElem_toArray, List.getElem_cons_succ, List.getElem_cons_zero, List.setIfInBounds_toArray, List.set_cons_zero, List.set_cons_succ]
          refine wpAnyH_take (i := 4) (v := undef) rfl (by kernel_rfl) (by kernel_rfl) (by kernel_rfl) (fun _ _ _ h => h) (Or.inr ⟨by kernel_rfl, rfl⟩) hS1 ?_
          try simp only [Act.put, List.getElem_toArray, List.getElem_cons_succ, List.getElem_cons_zero, List.setIfInBounds_toArray, List.set_cons_zero, List.set_cons_succ]
          refine wpAnyH_take (i := 5) (v := undef) rfl (by kernel_rfl) (by kernel_rfl) (by kernel_rfl) (fun _ _ _ h => h) (Or.inr ⟨by kernel_rfl, rfl⟩) hS1 ?_
          try simp only [Act.put, List.getElem_toArray, List.getElem_cons_succ, List.getElem_cons_zero, List.setIfInBounds_toArray, List.set_cons_zero, List.set_cons_succ]
          refine wpAnyH_take (i := 6) (v := undef) rfl (by kernel_rfl) (by kernel_rfl) (by kernel_rfl) (fun _ _ _ h => h) (Or.inr ⟨by kernel_rfl, rfl⟩) hS1 ?_
          try simp only [Act.put, List.getElem_toArray, List.getElem_cons_succ, List.getElem_cons_zero, List.setIfInBounds_toArray, List.set_cons_zero, List.set_cons_succ]
          refine wpAnyH_take (i := 7) (v := undef) rfl (by kernel_rfl) (by kernel_rfl) (by kernel_rfl) (fun _ _ _ h => h) (Or.inr ⟨by kernel_rfl, rfl⟩) hS1 ?_
          try simp only [Act.put, List.getElem_toArray, List.getElem_cons_succ, List.getElem_cons_zero, List.setIfInBounds_toArray, List.set_cons_zero, List.set_cons_succ]
          refine wpAnyH_take (i := 8) (v := .bool false) rfl (by kernel_rfl) (by kernel_rfl) (by kernel_rfl) (fun _ _ _ h => h) (Or.inl ⟨by rfl, ?_⟩) hS1 ?_
          · intro w hSw; go_simp
          try simp only [Act.put, List.getElem_toArray, List.getElem_cons_succ, List.getElem_cons_zero, List.setIfInBounds_toArray, List.set_cons_zero, List.set_cons_succ]
          refine wpAnyH_done (by kernel_rfl) ?_ _
          have HPn := Lib.hid hS1.1
          have HP0n := Lib.hid hS1.2.1
          have HGn := Lib.hid hS1.2.2
          go_wp2_with (first | (refine wpl_loadP (f := inB l) rfl rfl rfl HPn.out ?_) | (refine wpl_storeP (f := inB l) rfl rfl rfl rfl HP0n.out ?_))
          refine bodyPost_ret (v := .tuple #[.agg (palA (inB l)), .int .i64 0]) ?_ rfl ⟨by first | rfl | simp, HGn.out.row (Nat.le_refl _) _⟩
          rw [results_cell_tmp rfl]
          simp [asAddr, Result.andThen]
          rw [run_loadP (show PalAt _ _ _ from (HP0n.out.row (inB l)))]
end Go.Proofs.Ytipfofdjngnkpaa
