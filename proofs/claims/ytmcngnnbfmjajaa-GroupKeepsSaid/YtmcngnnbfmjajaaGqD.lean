/- Law 14: Without, Find, Put, Drop and SameTable of the reference. -/
import Derived.Test.YtmcngnnbfmjajaaGqC
set_option linter.unusedVariables false
set_option linter.unusedSimpArgs false
namespace Go.Proofs.Ytmcngnnbfmjajaa
open Go.RowKit
open Z
set_option maxRecDepth 100000 in
set_option maxHeartbeats 4000000 in
theorem r14_Without {a : Option Addr} {l : List Gp} {cap : Nat} (x : Int) (w1 : World) (hr : RdG w1 a l) (hlen : l.length ≤ 1000) :
    Calls Try.prog 50 #[.slice a l.length cap, .int .i64 x] w1 fun e w' => (∃ u, e = .returned u ∧ TbV w' u (dropL l x)) ∧ Gr w1 w' := by
  obtain ⟨i0, hi, hz0, hz1, hz2⟩ := info_parts Try.infoGr
  obtain ⟨R, hR⟩ : ∃ R, dropL l x = R := ⟨_, rfl⟩
  rw [hR]
  have HRL := Lib.hid (show R.length ≤ 1001 by rw [← hR]; have := dropL_len (l := l) (n := x); omega)
  have HX0 := Lib.hid hR
  have HRE := Lib.hid hR
  obtain ⟨M, hM, hCh⟩ := hr.split
  have HM := Lib.hid hM
  have HCh := Lib.hid hCh
  obtain ⟨n, hn⟩ : ∃ n, n = l.length := ⟨_, rfl⟩
  have HN := Lib.hid hn
  rw [← hn] at hlen ⊢
  clear hn hr hM hCh hR
  go_enter Try.func50, Try.ntmps50
  go_wp2
  go_loopw [5, 6] (fun v i wr => ∃ (j : Nat) (K : List GV), i = .int .i64 j ∧ j ≤ n ∧ Hid (OwnV w1.heap.size wr v K) ∧ Hid (ChL w1 K (dropL (l.take j) x)) ∧ Hid (Gr w1 wr)) (fun _ i _ => n - (intOf i).toNat)
  case atStart => exact ⟨0, [], rfl, Nat.zero_le _, Lib.hid (OwnV.nil _ _), Lib.hid (ChL.nil _), Lib.hid (Gr.refl _)⟩
  case round =>
    obtain ⟨j, K, rfl, hj, HO, HK, HG⟩ := hrel
    by_cases hlt : j < n
    · have hjl : j < l.length := by rw [← HN.out]; exact hlt
      have hjM : j < M.length := by rw [HCh.out.1]; exact hjl
      obtain ⟨b, o, rfl, h1, h2⟩ := HM.out j hjM
      have hEV := HCh.out.2 j hjM hjl
      have HTK := Lib.hid (show dropL (l.take (j + 1)) x = dropL (l.take j) x ++ (if l[j].1 ≠ x then [l[j]] else []) by
        rw [List.take_succ_eq_append_getElem hjl, dropL, List.filter_append, List.filter_cons, List.filter_nil]
        congr 1
        by_cases h : l[j].1 = x
        · rw [if_neg (by simpa using h), if_neg (fun h2 => h2 h)]
        · rw [if_pos (by simpa using h), if_pos h])
      have hKl : K.length ≤ 3000 := by
        have h2 := HK.out.1
        have h3 := dropL_len (l := l.take j) (n := x)
        rw [List.length_take] at h3
        omega
      generalize M[j] = mj at *
      obtain ⟨y, c', m', cp'⟩ := mj
      generalize hlj : l[j] = gj at *
      obtain ⟨y0, Lj⟩ := gj
      obtain rfl : y = y0 := hEV.1
      have HE := Lib.hid (And.intro h1 h2)
      have HEV := Lib.hid hEV
      simp only [gsl] at HE
      clear h1 h2 hEV hlj
      have hc0 := gr_cell HG.out HE.out.1
      have hc1 := gr_cell HG.out HE.out.2
      by_cases heq : y = x
      · have hne : (y == x) = true := by simpa using heq
        have HK2 := Lib.hid (show ChL w1 K (dropL (l.take (j + 1)) x) by have h := HTK.out; rw [if_neg (fun h2 => h2 heq), List.append_nil] at h; rw [h]; exact HK.out)
        clear HK HTK heq
        go_wp2
        go_roundw
        case rel => exact ⟨j + 1, K, by go_num, by omega, HO, HK2, HG⟩
        case measure => simp [intOf]; omega
      · have hne : (y == x) = false := by simpa using heq
        obtain ⟨u4a, hwa⟩ : ∃ W, W = wr.alloc (.cells #[.int .i64 y, .slice c' m' cp'] 25) := ⟨_, rfl⟩
        have hga : Gr wr u4a := by rw [hwa]; exact (Gr.refl _).alloc _
        obtain ⟨hd0, hd1⟩ := show u4a.cell? ⟨wr.heap.size, 0, none⟩ = some _ ∧ u4a.cell? ⟨wr.heap.size, 1, none⟩ = some _ by rw [hwa]; exact box2 _ _ _ _
        have HY := Lib.hid (show RdGV u4a (some ⟨wr.heap.size, 0, none⟩) [(y, c', m', cp')] from fun j hj => by
          have : j = 0 := by simp at hj; omega
          subst this
          exact ⟨wr.heap.size, 0, rfl, by simpa using hd0, by simpa [gsl] using hd1⟩)
        clear hd0 hd1
        have HWA := Lib.hid hwa
        have HGA := Lib.hid (HG.out.trans hga)
        have HOA := Lib.hid (HO.out.gr hga)
        clear hwa hga
        go_wp2_with (at_builtin; rw [← HWA.out]; refine join_g hi hz0 hz1 hz2 rfl _ _ rfl _ K rfl HOA.out HGA.out.size (some ⟨wr.heap.size, 0, none⟩) [(y, c', m', cp')] 1 rfl HY.out (Or.inr ⟨_, _, rfl⟩) (by simp; omega) ?_; rintro v_u4 u4 HON hbn -; have HG := Lib.hid (show Gr w1 u4 from Below.trans HGA.out hbn); have HO := HON; have HK := Lib.hid (show ChL w1 (K ++ [(y, c', m', cp')]) (dropL (l.take (j + 1)) x) by have h := HTK.out; rw [if_pos heq] at h; rw [h]; exact HK.out.app (ChL.one HEV.out)); clear hbn HON HY HWA HGA HOA hc0 hc1)
        clear heq HTK
        go_roundw
        case rel => exact ⟨j + 1, _, by go_num, by omega, HO, HK, HG⟩
        case measure => simp [intOf]; omega
    · have HKe := Lib.hid (show ChL w1 K R by have h := HK.out; rwa [List.take_of_length_le (by rw [← HN.out]; omega), HRE.out] at h)
      clear HK
      go_wp2
      go_ret
      exact ⟨⟨_, rfl, HO.out.tb (HKe.out.gr HG.out)⟩, HG.out⟩
set_option maxRecDepth 100000 in
set_option maxHeartbeats 2000000 in
theorem r14_FindR {a : Option Addr} {l : List Gp} {cap : Nat} (n : Int) (w : World) (hr : RdG w a l) (hlen : l.length ≤ 1000000000) :
    Calls Try.prog 20 #[.slice a l.length cap, .int .i64 n] w fun e w' => (∃ u, e = .returned (.tuple #[u, .int .i64 (findR l n).2]) ∧ GpV w' u (findR l n).1) ∧ Gr w w' := by
  obtain ⟨w1, hw1⟩ : ∃ w1, w1 = w.alloc (.cells #[.int .i64 0, .slice none 0 0] 25) := ⟨_, rfl⟩
  have hg1 : Gr w w1 := by rw [hw1]; exact (Gr.refl w).alloc _
  have H6 := Lib.hid (show GB w1 w.heap.size _ _ by rw [hw1]; exact heap_alloc_last w _)
  obtain ⟨p, hp⟩ : ∃ p, p = w.heap.size := ⟨_, rfl⟩
  rw [← hp] at H6
  have HP := Lib.hid hp
  have HW1 := Lib.hid hw1
  have HG1 := Lib.hid hg1
  have HR0 := Lib.hid hr
  have HR := Lib.hid (hr.gr hg1)
  have HT := Lib.hid (r14_Table (cap := cap) w1 (hr.gr hg1) hlen)
  have HPL := Lib.hid (fun W (hW : Gr w1 W) => r14_Place (cap := cap) n W (hr.gr (hg1.trans hW)) hlen)
  clear hp hw1 hg1 hr
  unfold findR
  by_cases ht : tbR l = 0
  · rw [if_pos ht]
    rw [ht] at HT
    obtain ⟨h32, hall, ha⟩ := tbR_zero.1 ht
    cases hh : hasN l n
    · rw [if_neg (by simp)]
      have hpl : plF l n = -1 := plF_no fun j hj e => by
        have : hasN l n = true := hasN_iff.2 ⟨_, List.getElem_mem hj, e⟩
        rw [hh] at this; cases this
      rw [hpl] at HPL
      clear ht hall ha hh h32 hpl
      generalize l.length = m at *
      go_enter Try.func20, Try.ntmps20
      go_wp2_with fail
      rw [← HW1.out, ← HP.out]
      refine HT.out.mono ?_; rintro e w2 ⟨rfl, hg⟩
      have HG2 := Lib.hid (HG1.out.trans hg)
      have HPL2 := Lib.hid (HPL.out w2 hg)
      have H62 := Lib.hid (show GB w2 p _ _ from (hg.block _ (cellLt (cell_of_row _ _ 0 _ _ _ H6.out))).trans H6.out)
      clear hg HT HPL
      go_wp2_with fail
      refine HPL2.out.mono ?_; rintro e w3 ⟨rfl, rfl⟩
      go_wp2_with (refine wpl_storeG rfl rfl rfl rfl rfl rfl H62.out ?_)
      refine bodyPost_ret (v := .tuple #[.agg #[.int .i64 0, .slice none 0 0], .int .i64 6]) ?_ rfl ⟨⟨_, rfl, GpV.zero _⟩, HG2.out.row (by have := HP.out; omega) _⟩
      rw [results_cell_tmp rfl]
      simp [asAddr, Result.andThen]
      rw [run_loadG (H62.out.row _ _)]
    · rw [if_pos rfl]
      obtain ⟨g, hg, e⟩ := hasN_iff.1 hh
      obtain ⟨i, hi, rfl⟩ := List.getElem_of_mem hg
      have hpl : plF l n = (i : Int) := plF_yes hi (fun j hj hji e2 => by have := asc_inj ha hj hi (by omega); omega) e
      have hF := findG_at ha hi e
      rw [hpl] at HPL
      have HF := Lib.hid hF
      clear ht hall ha hh hpl hg e hF
      generalize findG l n = F at *
      obtain ⟨x, L⟩ := F
      simp only
      obtain ⟨m, hm⟩ : ∃ m, m = l.length := ⟨_, rfl⟩
      have HM := Lib.hid hm
      rw [← hm] at HT HPL h32 ⊢
      have him : i < m := by rw [hm]; exact hi
      clear hm
      go_enter Try.func20, Try.ntmps20
      go_wp2_with fail
      rw [← HW1.out, ← HP.out]
      refine HT.out.mono ?_; rintro e w2 ⟨rfl, hg⟩
      have HG2 := Lib.hid (HG1.out.trans hg)
      have HPL2 := Lib.hid (HPL.out w2 hg)
      have H62 := Lib.hid (show GB w2 p _ _ from (hg.block _ (cellLt (cell_of_row _ _ 0 _ _ _ H6.out))).trans H6.out)
      obtain ⟨b, o, c, cp, rfl, hc0, hc1, hr2, hcl, hcm⟩ := HR0.out i hi
      have hc0 := gr_cell HG2.out hc0
      have hc1 := gr_cell HG2.out hc1
      rw [← HF.out] at hc0 hc1 hr2 hcl
      simp only at hc0 hc1 hr2 hcl
      have HR2 := Lib.hid hr2
      have HCL := Lib.hid hcl
      obtain ⟨ml, hml⟩ : ∃ ml, ml = L.length := ⟨_, rfl⟩
      have HML := Lib.hid hml
      rw [← hml] at hc1 hcl
      clear hml
      clear hg HT HPL hr2 HF
      go_wp2_with fail
      refine HPL2.out.mono ?_; rintro e w3 ⟨rfl, rfl⟩
      go_wp2_with (refine wpl_storeG rfl rfl rfl rfl rfl rfl H62.out ?_)
      have HGE := HG2.out.row (g := p) (by have := HP.out; omega) #[.int .i64 x, .slice c ml cp]
      refine bodyPost_ret (v := .tuple #[.agg #[.int .i64 x, .slice c ml cp], .int .i64 0]) ?_ rfl ⟨⟨_, rfl, ?_⟩, HGE⟩
      · rw [results_cell_tmp rfl]
        simp [asAddr, Result.andThen]
        rw [run_loadG (H62.out.row _ _)]
      · exact ⟨c, cp, by rw [HML.out], HR2.out.gr HGE, HCL.out, hcm⟩
  · rw [if_neg ht]
    have hz : (tbR l == 0) = false := by simp [ht]
    clear ht HR HPL HR0
    generalize tbR l = E at *
    generalize l.length = m at *
    go_enter Try.func20, Try.ntmps20
    go_wp2_with fail
    rw [← HW1.out, ← HP.out]
    refine HT.out.mono ?_; rintro e w2 ⟨rfl, hg⟩
    have HG2 := Lib.hid (HG1.out.trans hg)
    have H62 := Lib.hid (show GB w2 p _ _ from (hg.block _ (cellLt (cell_of_row _ _ 0 _ _ _ H6.out))).trans H6.out)
    clear hg HT
    go_wp2_with (refine wpl_storeG rfl rfl rfl rfl rfl rfl H62.out ?_)
    refine bodyPost_ret (v := .tuple #[.agg #[.int .i64 0, .slice none 0 0], .int .i64 E]) ?_ rfl ⟨⟨_, rfl, GpV.zero _⟩, HG2.out.row (by have := HP.out; omega) _⟩
    rw [results_cell_tmp rfl]
    simp [asAddr, Result.andThen]
    rw [run_loadG (H62.out.row _ _)]
set_option maxRecDepth 100000 in
set_option maxHeartbeats 2000000 in
theorem r14_PutR {a : Option Addr} {l : List Gp} {cap : Nat} {v : Value} (g : Gp) (w : World) (hr : RdG w a l) (hlen : l.length ≤ 1000000000) (hv : GpV w v g) :
    Calls Try.prog 22 #[.slice a l.length cap, v] w fun e w' => (∃ u, e = .returned (.tuple #[u, .int .i64 (putR l g).2]) ∧ TbV w' u (putR l g).1) ∧ Gr w w' := by
  obtain ⟨E, hE⟩ : ∃ E, (putR l g).2 = E := ⟨_, rfl⟩
  obtain ⟨R, hR⟩ : ∃ R, (putR l g).1 = R := ⟨_, rfl⟩
  rw [hE, hR]
  have HE := Lib.hid hE
  have HRR := Lib.hid hR
  clear hE hR
  obtain ⟨c, cp, rfl, rc, lc, mc⟩ := hv
  obtain ⟨x, L⟩ := g
  simp only at rc lc HE HRR ⊢
  obtain ⟨w1, hw1⟩ : ∃ w1, w1 = w.alloc (.cells #[.int .i64 x, .slice c L.length cp] 25) := ⟨_, rfl⟩
  have hg1 : Gr w w1 := by rw [hw1]; exact (Gr.refl w).alloc _
  obtain ⟨hb0, hb1⟩ := show w1.cell? ⟨w.heap.size, 0, none⟩ = some (.int .i64 x) ∧ w1.cell? ⟨w.heap.size, 1, none⟩ = some (.slice c L.length cp) by rw [hw1]; exact box2 _ _ _ _
  have HT := Lib.hid (r14_Table (cap := cap) w1 (hr.gr hg1) hlen)
  have HCK := Lib.hid (fun W (hW : Gr w1 W) => r14_Check (x, L) W ⟨c, cp, rfl, rc.gr (hg1.trans hW), lc, mc⟩)
  have HWI : Hid (tbR l = 0 → ∀ W, Gr w1 W → Calls Try.prog 49 #[.slice a l.length cap, .agg #[.int .i64 x, .slice c L.length cp]] W fun e w' => (∃ u, e = .returned u ∧ TbV w' u (putL l (x, L))) ∧ Gr W w') := Lib.hid fun ht W hW => by
    obtain ⟨h32, -, ha⟩ := tbR_zero.1 ht
    have h := r14_With (cap := cap) (x, L) W (hr.gr (hg1.trans hW)) (by omega) ⟨c, cp, rfl, rc.gr (hg1.trans hW), lc, mc⟩
    rwa [withF_put _ _ ha] at h
  have HG1 := Lib.hid hg1
  have HW1 := Lib.hid hw1
  obtain ⟨p3, hp3⟩ : ∃ p3, p3 = w.heap.size := ⟨_, rfl⟩
  rw [← hp3] at hb0 hb1
  have HP3 := Lib.hid hp3
  clear rc hr hg1 hw1 hp3
  unfold putR at HE HRR
  generalize tbR l = T at *
  generalize gpR (x, L) = C at *
  generalize putL l (x, L) = P at *
  generalize L.length = m at *
  generalize l.length = n at *
  by_cases ht : T = 0
  · subst ht
    have HWJ := Lib.hid (fun W hW => HWI.out rfl W hW)
    clear HWI
    by_cases hc : C = 0
    · subst hc
      go_enter Try.func22, Try.ntmps22
      go_wp2_with fail
      rw [← HW1.out, ← HP3.out]
      refine HT.out.mono ?_; rintro e w2 ⟨rfl, hg2⟩
      have hb0 := gr_cell hg2 hb0
      have hb1 := gr_cell hg2 hb1
      have HG2 := Lib.hid hg2
      have HCK2 := Lib.hid (HCK.out w2 hg2)
      clear hg2 HT HCK
      go_wp2_with fail
      refine HCK2.out.mono ?_; rintro e w3 ⟨rfl, hg3⟩
      have hb0 := gr_cell hg3 hb0
      have hb1 := gr_cell hg3 hb1
      have HG3 := Lib.hid (HG2.out.trans hg3)
      have HWI3 := Lib.hid (HWJ.out w3 HG3.out)
      clear hg3 HCK2 HWJ
      go_wp2_with fail
      refine HWI3.out.mono ?_; rintro e w4 ⟨⟨u, rfl, hu⟩, hg4⟩
      obtain ⟨ua, uc, rfl, hur⟩ := id hu
      have HU := Lib.hid hu
      have HG4 := Lib.hid (HG1.out.trans (HG3.out.trans hg4))
      clear hu hur hg4 HWI3 hb0 hb1
      by_cases h33 : 32 < P.length
      · have he : E = 5 := by have h := HE.out; rw [if_pos trivial, if_pos trivial, if_pos h33] at h; exact h.symm
        have hr : R = [] := by have h := HRR.out; rw [if_pos trivial, if_pos trivial, if_pos h33] at h; exact h.symm
        subst he
        subst hr
        generalize P.length = pn at *
        clear HE HRR HU
        go_wp2
        go_ret2
        exact ⟨⟨.slice none 0 0, rfl, TbV.nil _⟩, HG4.out⟩
      · have he : E = 0 := by have h := HE.out; rw [if_pos trivial, if_pos trivial, if_neg h33] at h; exact h.symm
        have hr : R = P := by have h := HRR.out; rw [if_pos trivial, if_pos trivial, if_neg h33] at h; exact h.symm
        subst he
        subst hr
        generalize R.length = pn at *
        clear HE HRR
        go_wp2
        go_ret2
        exact ⟨⟨_, rfl, HU.out⟩, HG4.out⟩
    · have he : E = C := by have h := HE.out; rw [if_pos rfl, if_neg hc] at h; exact h.symm
      have hr : R = [] := by have h := HRR.out; rw [if_pos rfl, if_neg hc] at h; exact h.symm
      subst he
      subst hr
      have hz : (E == 0) = false := by simp [hc]
      clear hc HE HRR HWJ
      go_enter Try.func22, Try.ntmps22
      go_wp2_with fail
      rw [← HW1.out, ← HP3.out]
      refine HT.out.mono ?_; rintro e w2 ⟨rfl, hg2⟩
      have hb0 := gr_cell hg2 hb0
      have hb1 := gr_cell hg2 hb1
      have HG2 := Lib.hid hg2
      have HCK2 := Lib.hid (HCK.out w2 hg2)
      clear hg2 HT HCK
      go_wp2_with fail
      refine HCK2.out.mono ?_; rintro e w3 ⟨rfl, hg3⟩
      have HG3 := Lib.hid (HG1.out.trans (HG2.out.trans hg3))
      clear hg3 HCK2
      go_wp2
      go_ret2
      exact ⟨⟨.slice none 0 0, rfl, TbV.nil _⟩, HG3.out⟩
  · have he : E = T := by have h := HE.out; rw [if_neg ht] at h; exact h.symm
    have hr : R = [] := by have h := HRR.out; rw [if_neg ht] at h; exact h.symm
    subst he
    subst hr
    have hz : (E == 0) = false := by simp [ht]
    clear ht HE HRR HWI HCK
    go_enter Try.func22, Try.ntmps22
    go_wp2_with fail
    rw [← HW1.out]
    refine HT.out.mono ?_; rintro e w2 ⟨rfl, hg2⟩
    have HG2 := Lib.hid (HG1.out.trans hg2)
    clear hg2 HT
    go_wp2
    go_ret2
    exact ⟨⟨.slice none 0 0, rfl, TbV.nil _⟩, HG2.out⟩
set_option maxRecDepth 100000 in
set_option maxHeartbeats 2000000 in
theorem r14_DropR {a : Option Addr} {l : List Gp} {cap : Nat} (x : Int) (w : World) (hr : RdG w a l) (hlen : l.length ≤ 1000000000) :
    Calls Try.prog 24 #[.slice a l.length cap, .int .i64 x] w fun e w' => (∃ u, e = .returned (.tuple #[u, .int .i64 (dropR l x).2]) ∧ TbV w' u (dropR l x).1) ∧ Gr w w' := by
  have HT := Lib.hid (r14_Table (cap := cap) w hr hlen)
  have HPL := Lib.hid (fun W (hW : Gr w W) => r14_Place (cap := cap) x W (hr.gr hW) hlen)
  unfold dropR
  by_cases ht : tbR l = 0
  · rw [if_pos ht]
    rw [ht] at HT
    obtain ⟨h32, hall, ha⟩ := tbR_zero.1 ht
    have HWO := Lib.hid (fun W (hW : Gr w W) => r14_Without (cap := cap) x W (hr.gr hW) (by omega))
    cases hh : hasN l x
    · rw [if_neg (by simp)]
      have hpl : plF l x = -1 := plF_no fun j hj e => by
        have : hasN l x = true := hasN_iff.2 ⟨_, List.getElem_mem hj, e⟩
        rw [hh] at this; cases this
      rw [hpl] at HPL
      clear ht hall ha hh h32 hpl hr HWO
      generalize l.length = m at *
      go_enter Try.func24, Try.ntmps24
      go_wp2_with fail
      refine HT.out.mono ?_; rintro e w2 ⟨rfl, hg⟩
      have HG2 := Lib.hid hg
      have HPL2 := Lib.hid (HPL.out w2 hg)
      clear hg HT HPL
      go_wp2_with fail
      refine HPL2.out.mono ?_; rintro e w3 ⟨rfl, rfl⟩
      go_wp2
      go_ret2
      exact ⟨⟨.slice none 0 0, rfl, TbV.nil _⟩, HG2.out⟩
    · rw [if_pos rfl]
      obtain ⟨g, hg, e⟩ := hasN_iff.1 hh
      obtain ⟨i, hi, rfl⟩ := List.getElem_of_mem hg
      have hpl : plF l x = (i : Int) := plF_yes hi (fun j hj hji e2 => by have := asc_inj ha hj hi (by omega); omega) e
      rw [hpl] at HPL
      clear ht hall ha hh hpl hg e hi hr
      generalize dropL l x = P at *
      generalize l.length = m at *
      go_enter Try.func24, Try.ntmps24
      go_wp2_with fail
      refine HT.out.mono ?_; rintro e w2 ⟨rfl, hg⟩
      have HG2 := Lib.hid hg
      have HPL2 := Lib.hid (HPL.out w2 hg)
      have HWO2 := Lib.hid (HWO.out w2 hg)
      clear hg HT HPL HWO
      go_wp2_with fail
      refine HPL2.out.mono ?_; rintro e w3 ⟨rfl, rfl⟩
      go_wp2_with fail
      refine HWO2.out.mono ?_; rintro e w4 ⟨⟨u, rfl, hu⟩, hg4⟩
      have HU := Lib.hid hu
      have HG4 := Lib.hid (HG2.out.trans hg4)
      clear hu hg4
      go_wp2
      go_ret2
      exact ⟨⟨_, rfl, HU.out⟩, HG4.out⟩
  · rw [if_neg ht]
    have hz : (tbR l == 0) = false := by simp [ht]
    clear ht hr HPL
    generalize tbR l = E at *
    generalize l.length = m at *
    go_enter Try.func24, Try.ntmps24
    go_wp2_with fail
    refine HT.out.mono ?_; rintro e w2 ⟨rfl, hg⟩
    have HG2 := Lib.hid hg
    clear hg HT
    go_wp2
    go_ret2
    exact ⟨⟨.slice none 0 0, rfl, TbV.nil _⟩, HG2.out⟩
end Go.Proofs.Ytmcngnnbfmjajaa
