/- Law 15: Level of the program; Place, exact, Hue, Find, Told and Level of the reference. -/
import Derived.Test.YtgjlcmheipmmlaaPaI
import Derived.Test.YtgjlcmheipmmlaaPaF
set_option linter.unusedVariables false
set_option linter.unusedSimpArgs false
namespace Go.Proofs.Ytgjlcmheipmmlaa
open Go.RowKit
open Z
def or3 (x y z : Int) : Int := if x = 0 then (if y = 0 then z else y) else x
set_option maxRecDepth 100000 in
theorem cmp_Or3E (b o c : Nat) (x y z : Int) (w : World) (c0 : w.cell? ⟨b, o, none⟩ = some (.int .i64 x)) (c1 : w.cell? ⟨b, o + 1, none⟩ = some (.int .i64 y)) (c2 : w.cell? ⟨b, o + 2, none⟩ = some (.int .i64 z)) :
    Calls Try.prog 51 #[.slice (some ⟨b, o, none⟩) 3 c] w fun e w' => e = .returned (.int .i64 (or3 x y z)) ∧ w = w' := by
  unfold or3
  by_cases hx : x = 0
  · subst hx
    rw [if_pos rfl]
    by_cases hy : y = 0
    · subst hy
      rw [if_pos rfl]
      by_cases hz : z = 0
      · subst hz
        go_enter Try.func51, Try.ntmps51
        go_wp2
        refine wp_loop_rounds 4 ?_
        rw [rounds_succ]
        go_wp2
        rw [rounds_succ]
        go_wp2
        rw [rounds_succ]
        go_wp2
        rw [rounds_succ]
        go_wp2
        go_ret
        exact ⟨rfl, rfl⟩
      · have hzz : (z == 0) = false := by simp [hz]
        clear hz
        go_enter Try.func51, Try.ntmps51
        go_wp2
        refine wp_loop_rounds 4 ?_
        rw [rounds_succ]
        go_wp2
        rw [rounds_succ]
        go_wp2
        rw [rounds_succ]
        go_wp2
        go_ret
        exact ⟨rfl, rfl⟩
    · rw [if_neg hy]
      have hzz : (y == 0) = false := by simp [hy]
      clear hy
      go_enter Try.func51, Try.ntmps51
      go_wp2
      refine wp_loop_rounds 4 ?_
      rw [rounds_succ]
      go_wp2
      rw [rounds_succ]
      go_wp2
      go_ret
      exact ⟨rfl, rfl⟩
  · rw [if_neg hx]
    have hzz : (x == 0) = false := by simp [hx]
    clear hx
    go_enter Try.func51, Try.ntmps51
    go_wp2
    refine wp_loop_rounds 4 ?_
    rw [rounds_succ]
    go_wp2
    go_ret
    exact ⟨rfl, rfl⟩
theorem or3E_fresh (X Y Z : Int) (w : World) : Calls Try.prog 51 #[.slice (some ⟨w.heap.size, 0, none⟩) 3 3] (w.alloc (.cells #[.int .i64 X, .int .i64 Y, .int .i64 Z] 29)) fun e w' => e = .returned (.int .i64 (or3 X Y Z)) ∧ (w.alloc (.cells #[.int .i64 X, .int .i64 Y, .int .i64 Z] 29)) = w' :=
  cmp_Or3E w.heap.size 0 3 X Y Z _ (fresh w [.int .i64 X, .int .i64 Y, .int .i64 Z] 29 (k := 0) rfl) (fresh w [.int .i64 X, .int .i64 Y, .int .i64 Z] 29 (k := 1) rfl) (fresh w [.int .i64 X, .int .i64 Y, .int .i64 Z] 29 (k := 2) rfl)
def lev3 (l : List Pl) (x : En) : Int := or3 (palR l) (valR x.2.2.1 x.2.2.2) (parR x.1 x.2.1)
theorem levE_zero {l : List Pl} {x : En} {h : Int} : levE l x h = 0 ↔ lev3 l x = 0 ∧ 0 ≤ h ∧ h ≤ 65535 := by
  unfold levE lev3 or3
  have h1 : valR x.2.2.1 x.2.2.2 = 0 ∨ valR x.2.2.1 x.2.2.2 = 2 := by unfold valR; split <;> simp
  have h2 : parR x.1 x.2.1 = 0 ∨ parR x.1 x.2.1 = 2 := by unfold parR; split <;> simp
  split
  · split
    · split
      · split <;> simp_all
      · simp_all
    · simp_all
  · simp_all
theorem levE_bad {l : List Pl} {x : En} {h : Int} (hb : ¬ lev3 l x = 0) : levE l x h = lev3 l x := by
  unfold levE lev3 or3 at *
  have h1 : valR x.2.2.1 x.2.2.2 = 0 ∨ valR x.2.2.1 x.2.2.2 = 2 := by unfold valR; split <;> simp
  have h2 : parR x.1 x.2.1 = 0 ∨ parR x.1 x.2.1 = 2 := by unfold parR; split <;> simp
  split
  · rename_i h0
    rw [if_pos h0] at hb
    split
    · rename_i h3
      rw [if_pos h3] at hb
      split
      · rename_i h4; exact absurd h4 hb
      · omega
    · omega
  · rfl
def levV (l : List Pl) (x : En) (home : Int) : Int := if levE l x home = 0 then toldR l x home else 0
theorem lev3_zero {l : List Pl} {x : En} (h : lev3 l x = 0) : palR l = 0 ∧ valR x.2.2.1 x.2.2.2 = 0 ∧ parR x.1 x.2.1 = 0 := by
  unfold lev3 or3 at h
  split at h
  · split at h
    · exact ⟨‹_›, ‹_›, h⟩
    · exact absurd h ‹_›
  · exact absurd h ‹_›
theorem hueL_low {l : List Pl} {n c a : Int} (h : palR l = 0) (hn : n < 1) : hueL l n c a = none := by
  unfold hueL
  rw [show l.find? (fun g => decide (g.1 = n)) = none by
    rw [List.find?_eq_none]
    intro g hg
    have := ((palR_zero.1 h).2.1 g hg).1
    unfold numE at this
    split at this <;> simp_all <;> omega]
theorem told_flat {l : List Pl} {x : En} (home : Int) (h : lev3 l x = 0) : toldR l x home = if (flatE l x).2.2.1 = -1 then home else (flatE l x).2.2.2 := by
  obtain ⟨h1, h2, -⟩ := lev3_zero h
  unfold valR at h2
  unfold toldR flatE
  by_cases h0 : 0 < x.2.2.1
  · rw [if_pos h0, if_neg (by omega)]
    cases hueL l x.2.2.1 x.1 x.2.1 <;> simp
  · rw [if_neg h0]
    by_cases hz : x.2.2.1 = 0
    · rw [if_pos hz, if_neg (by omega)]
    · rw [if_neg hz, hueL_low h1 (by omega), if_pos (by split at h2 <;> omega)]; rfl
set_option maxRecDepth 100000 in
set_option maxHeartbeats 4000000 in
theorem pl_Level {al : Option Addr} {l : List Pl} {cap : Nat} (x : En) (home : Int) (w : World) (hr : RdP w al l) (hlen : l.length ≤ 9223372036854775807) (hin : ∀ g ∈ l, g.2.length ≤ 9223372036854775807) :
    Calls Try.prog 26 #[.slice al l.length cap, .agg #[.int .i64 x.2.2.1, .int .i64 x.2.2.2], .agg #[.int .i64 x.1, .int .i64 x.2.1], .int .i64 home] w fun e w' => e = .returned (.tuple #[.int .i64 (levV l x home), .int .i64 (levE l x home)]) ∧ Gr w w' := by
  have HCH := Lib.hid (fun W (hW : Gr w W) => pl_Check (cap := cap) W (hr.gr hW) hlen hin)
  have HVL := Lib.hid (fun W => pl_Value x.2.2.1 x.2.2.2 W)
  have HPR := Lib.hid (fun W => pm_Check x.1 x.2.1 W)
  have HO := Lib.hid (fun W => or3E_fresh (palR l) (valR x.2.2.1 x.2.2.2) (parR x.1 x.2.1) W)
  have HRS := Lib.hid (fun (h0 : lev3 l x = 0) W (hW : Gr w W) => pl_resolved (cap := cap) x W (hr.gr hW) (lev3_zero h0).1 (by have := (lev3_zero h0).2.1; unfold valR at this; split at this <;> omega))
  have HT := Lib.hid (fun h0 => told_flat (l := l) (x := x) home h0)
  have HI := Lib.hid (fun W => pl_isLevel home W)
  have HZ := Lib.hid (levE_zero (l := l) (x := x) (h := home))
  have HBD := Lib.hid (fun h => levE_bad (l := l) (x := x) (h := home) h)
  have HH2 := Lib.hid (show lev3 l x = 0 → ¬ (0 ≤ home ∧ home ≤ 65535) → levE l x home = 2 from fun h1 h2 => by obtain ⟨a, b, c⟩ := lev3_zero h1; unfold levE; rw [if_pos a, if_pos b, if_pos c, if_neg h2])
  have HLV := Lib.hid (show levV l x home = if levE l x home = 0 then toldR l x home else 0 from rfl)
  rw [show or3 (palR l) (valR x.2.2.1 x.2.2.2) (parR x.1 x.2.1) = lev3 l x from rfl] at HO
  clear hr hlen hin
  generalize l.length = m at *
  generalize lev3 l x = L3 at *
  generalize levV l x home = LV at *
  generalize levE l x home = LE at *
  generalize toldR l x home = T at *
  generalize palR l = P at *
  obtain ⟨c, a, q, v⟩ := x
  simp only at HVL HPR HO ⊢
  generalize valR q v = Y at *
  generalize parR c a = Z at *
  generalize flatE l (c, a, q, v) = F at *
  obtain ⟨w2, hw2⟩ : ∃ w2, w2 = (w.alloc (.cells #[.int .i64 q, .int .i64 v] 23)).alloc (.cells #[.int .i64 c, .int .i64 a] 55) := ⟨_, rfl⟩
  obtain ⟨p, hp⟩ : ∃ p, p = w.heap.size := ⟨_, rfl⟩
  have hG2 : Gr w w2 := by rw [hw2]; exact ((Gr.refl w).alloc _).alloc _
  have hc0 : w2.cell? ⟨p, 0, none⟩ = some (.int .i64 q) := by rw [hw2, hp]; exact gr_cell ((Gr.refl _).alloc _) (fresh w [.int .i64 q, .int .i64 v] _ (k := 0) rfl)
  have hc1 : w2.cell? ⟨p, 1, none⟩ = some (.int .i64 v) := by rw [hw2, hp]; exact gr_cell ((Gr.refl _).alloc _) (fresh w [.int .i64 q, .int .i64 v] _ (k := 1) rfl)
  have hd0 : w2.cell? ⟨p + 1, 0, none⟩ = some (.int .i64 c) := by
    have := fresh (w.alloc (.cells #[.int .i64 q, .int .i64 v] 23)) [.int .i64 c, .int .i64 a] 55 (k := 0) rfl
    rw [World.size_alloc] at this
    rw [hw2, hp]; exact this
  have hd1 : w2.cell? ⟨p + 1, 1, none⟩ = some (.int .i64 a) := by
    have := fresh (w.alloc (.cells #[.int .i64 q, .int .i64 v] 23)) [.int .i64 c, .int .i64 a] 55 (k := 1) rfl
    rw [World.size_alloc] at this
    rw [hw2, hp]; exact this
  have HG2 := Lib.hid hG2
  go_enter Try.func26, Try.ntmps26
  go_wp2_with fail
  rw [← hw2, ← hp]
  clear hw2 hp hG2
  have hS0 : (fun w' : World => Gr w2 w') w2.drew := (Gr.refl _).drew
  refine wp_region_held (S := fun w' : World => Gr w2 w') (by kernel_rfl) ?_
  change wpAnyH _ _ _ _ _ _ _ _ w2.drew
  refine wpAnyH_take (i := 0) (v := .slice al m cap) rfl (by kernel_rfl) (by kernel_rfl) (by kernel_rfl) (fun _ _ _ h => h) (Or.inl ⟨by rfl, ?_⟩) hS0 ?_
  · intro w hSw; go_simp
  try simp only [Act.put, List.getElem_toArray, List.getElem_cons_succ, List.getElem_cons_zero, List.setIfInBounds_toArray, List.set_cons_zero, List.set_cons_succ]
  refine wpAnyH_take (i := 2) (v := .agg #[.int .i64 q, .int .i64 v]) rfl (by kernel_rfl) (by kernel_rfl) (by kernel_rfl) (fun _ _ _ h => h) (Or.inl ⟨by rfl, ?_⟩) hS0 ?_
  · intro w hSw; have s0 := gr_cell hSw hc0; have s1 := gr_cell hSw hc1; go_simp
  try simp only [Act.put, List.getElem_toArray, List.getElem_cons_succ, List.getElem_cons_zero, List.setIfInBounds_toArray, List.set_cons_zero, List.set_cons_succ]
  refine wpAnyH_take (i := 4) (v := .agg #[.int .i64 c, .int .i64 a]) rfl (by kernel_rfl) (by kernel_rfl) (by kernel_rfl) (fun _ _ _ h => h) (Or.inl ⟨by rfl, ?_⟩) hS0 ?_
  · intro w hSw; have s0 := gr_cell hSw hd0; have s1 := gr_cell hSw hd1; go_simp
  try simp only [Act.put, List.getElem_toArray, List.getElem_cons_succ, List.getElem_cons_zero, List.setIfInBounds_toArray, List.set_cons_zero, List.set_cons_succ]
  refine wpAnyH_ready (rs := [1]) (by kernel_rfl) (by simp) (AllReadyH.cons rfl (fun K' hK' => ?_) AllReadyH.nil)
  go_simp
  refine (HCH.out _ (HG2.out.trans hS0)).mono ?_; rintro e w3 ⟨rfl, hg3⟩
  refine hK'.out _ _ (hS0.trans hg3) (fun hS1 => ?_)
  clear hK' K'
  try simp only [Act.put, List.getElem_toArray, List.getElem_cons_succ, List.getElem_cons_zero, List.setIfInBounds_toArray, List.set_cons_zero, List.set_cons_succ]
  refine wpAnyH_ready (rs := [3]) (by kernel_rfl) (by simp) (AllReadyH.cons rfl (fun K' hK' => ?_) AllReadyH.nil)
  go_simp
  refine (HVL.out _).mono ?_; rintro e w4 ⟨rfl, hg4⟩
  refine hK'.out _ _ (hS1.trans hg4) (fun hS2 => ?_)
  clear hK' K'
  try simp only [Act.put, List.getElem_toArray, List.getElem_cons_succ, List.getElem_cons_zero, List.setIfInBounds_toArray, List.set_cons_zero, List.set_cons_succ]
  refine wpAnyH_ready (rs := [5]) (by kernel_rfl) (by simp) (AllReadyH.cons rfl (fun K' hK' => ?_) AllReadyH.nil)
  go_simp
  refine (HPR.out _).mono ?_; rintro e w5 ⟨rfl, hg5⟩
  refine hK'.out _ _ (hS2.trans hg5) (fun hS3 => ?_)
  clear hK' K'
  try simp only [Act.put, List.getElem_toArray, List.getElem_cons_succ, List.getElem_cons_zero, List.setIfInBounds_toArray, List.set_cons_zero, List.set_cons_succ]
  refine wpAnyH_ready (rs := [6]) (by kernel_rfl) (by simp) (AllReadyH.cons rfl (fun K' hK' => ?_) AllReadyH.nil)
  go_simp
  refine hK'.out _ _ (hS3.alloc _) (fun hS4 => ?_)
  clear hK' K'
  try simp only [Act.put, List.getElem_toArray, List.getElem_cons_succ, List.getElem_cons_zero, List.setIfInBounds_toArray, List.set_cons_zero, List.set_cons_succ]
  refine wpAnyH_ready (rs := [7]) (by kernel_rfl) (by simp) (AllReadyH.cons rfl (fun K' hK' => ?_) AllReadyH.nil)
  go_simp
  refine (HO.out _).mono ?_; rintro e w6 ⟨rfl, hw6⟩
  refine hK'.out _ _ (hw6 ▸ hS4) (fun hS5 => ?_)
  clear hK' K'
  try simp only [Act.put, List.getElem_toArray, List.getElem_cons_succ, List.getElem_cons_zero, List.setIfInBounds_toArray, List.set_cons_zero, List.set_cons_succ]
  refine wpAnyH_take (i := 8) (v := .int .i64 L3) rfl (by kernel_rfl) (by kernel_rfl) (by kernel_rfl) (fun _ _ _ h => h) (Or.inl ⟨by rfl, ?_⟩) hS5 ?_
  · intro w hSw; go_simp
  try simp only [Act.put, List.getElem_toArray, List.getElem_cons_succ, List.getElem_cons_zero, List.setIfInBounds_toArray, List.set_cons_zero, List.set_cons_succ]
  refine wpAnyH_done (by kernel_rfl) ?_ _
  have HG6 := Lib.hid (HG2.out.trans hS5)
  have e0 := gr_cell hS5 hc0
  have e1 := gr_cell hS5 hc1
  have e2 := gr_cell hS5 hd0
  have e3 := gr_cell hS5 hd1
  clear hw6 hg3 hg4 hg5 hS5 HCH HVL HPR HO hS0 HG2 hc0 hc1 hd0 hd1
  by_cases h3 : L3 = 0
  · by_cases hh : 0 ≤ home ∧ home ≤ 65535
    · rw [decide_eq_true hh] at HI
      have hle : LE = 0 := HZ.out.2 ⟨h3, hh⟩
      have hlv : LV = T := by rw [HLV.out, if_pos hle]
      have hT := HT.out h3
      have HRS1 := Lib.hid (HRS.out h3 _ HG6.out)
      subst hle hlv h3
      clear HZ HBD HLV HT HRS hh
      obtain ⟨fc, fa, fq, fv⟩ := F
      simp only at hT
      go_wp2_with fail
      refine (HI.out _).mono ?_; rintro e w7 ⟨rfl, rfl⟩
      go_wp2_with fail
      refine HRS1.out.mono ?_; rintro e w8 ⟨rfl, hg8⟩
      have HG8 := Lib.hid (HG6.out.trans (hg8.alloc (.cells #[.int .i64 fc, .int .i64 fa, .int .i64 fq, .int .i64 fv] 57)))
      clear hg8 HRS1 HI e0 e1 e2 e3
      by_cases hq : fq = -1
      · have hl : LV = home := by rw [hT, if_pos hq]
        subst hl hq
        clear hT
        go_wp2
        go_ret2
        exact ⟨rfl, HG8.out⟩
      · have hl : LV = fv := by rw [hT, if_neg hq]
        have hqz : (fq == -1) = false := by simp [hq]
        subst hl
        clear hT hq
        go_wp2
        go_ret2
        exact ⟨rfl, HG8.out⟩
    · rw [decide_eq_false hh] at HI
      have hle : ¬ LE = 0 := fun h => hh (HZ.out.1 h).2
      have hlv : LV = 0 := by rw [HLV.out, if_neg hle]
      have hl2 : LE = 2 := HH2.out h3 hh
      subst hlv h3 hl2
      clear HZ HBD HLV HT HRS hh
      go_wp2_with fail
      refine (HI.out _).mono ?_; rintro e w7 ⟨rfl, rfl⟩
      go_wp2
      go_ret2
      exact ⟨rfl, HG6.out⟩
  · have hle : LE = L3 := HBD.out h3
    have hlv : LV = 0 := by rw [HLV.out, if_neg (by rw [hle]; exact h3)]
    have hz : (L3 == 0) = false := by simp [h3]
    subst hlv hle
    clear HZ HBD HLV HT HRS h3
    go_wp2
    go_ret2
    exact ⟨rfl, HG6.out⟩
end Go.Proofs.Ytgjlcmheipmmlaa
