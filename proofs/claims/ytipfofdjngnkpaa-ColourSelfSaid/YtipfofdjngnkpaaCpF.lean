/- Law 11: ColourSelf. -/
import Derived.Test.YtipfofdjngnkpaaCpE
import Derived.OneCell
set_option linter.unusedVariables false
set_option linter.unusedSimpArgs false
namespace Go.Proofs.Ytipfofdjngnkpaa
open Go.RowKit
open Z
/-- a list of colours of uint16 lies behind an address -/
def Rd6 (w : World) (a : Option Addr) (l : List C3) : Prop := ∀ k (h : k < l.length), ∃ b o, a = some ⟨b, o, none⟩ ∧ w.cell? ⟨b, o + k * 3, none⟩ = some (.int .u16 l[k].1) ∧ w.cell? ⟨b, o + k * 3 + 1, none⟩ = some (.int .u16 l[k].2.1) ∧ w.cell? ⟨b, o + k * 3 + 2, none⟩ = some (.int .u16 l[k].2.2)
theorem Rd6.gr {w w' : World} {a : Option Addr} {l : List C3} (h : Rd6 w a l) (hg : Gr w w') : Rd6 w' a l := fun k hk => by
  obtain ⟨b, o, h1, h2, h3, h4⟩ := h k hk
  exact ⟨b, o, h1, gr_cell hg h2, gr_cell hg h3, gr_cell hg h4⟩
def BoxL (w : World) (g : Nat) (v : Value) : Prop := w.heap[g]? = some (.cells #[v] 41 (0, 0))
theorem BoxL.cell {w : World} {g : Nat} {v : Value} (h : BoxL w g v) : w.cell? ⟨g, 0, none⟩ = some v := by rw [cell_of_row _ _ _ _ _ _ h]; rfl
theorem BoxL.fz {w : World} {g : Nat} {v : Value} (h : BoxL w g v) : w.frozen? ⟨g, 0, none⟩ = false := by
  unfold BoxL at h
  simp [World.frozen?, h]
theorem BoxL.gr {w w' : World} {g : Nat} {v : Value} (h : BoxL w g v) (hg : Gr w w') : BoxL w' g v := (hg.block g (Array.getElem?_eq_some_iff.1 h).1).trans h
theorem BoxL.ne {B : Nat} {w : World} {g : Nat} {v v' : Value} {l : List C3} (h : BoxL w g v) (ho : OwnC B w v' l) : ∀ k, v'.ownBlock = some k → g ≠ k := fun k hk e => by
  subst e
  obtain ⟨cur, hc⟩ := ho.type g hk
  unfold BoxL at h
  rw [hc] at h
  injection h with h
  injection h with _ h
  revert h; decide
def Box6 (w : World) (g : Nat) (c : C3) : Prop := w.heap[g]? = some (.cells #[.int .u16 c.1, .int .u16 c.2.1, .int .u16 c.2.2] 54 (0, 0))
theorem Box6.gr {w w' : World} {g : Nat} {c : C3} (h : Box6 w g c) (hg : Gr w w') : Box6 w' g c := (hg.block g (Array.getElem?_eq_some_iff.1 h).1).trans h
theorem Box6.ne {B : Nat} {w : World} {g : Nat} {c : C3} {v' : Value} {l : List C3} (h : Box6 w g c) (ho : OwnC B w v' l) : ∀ k, v'.ownBlock = some k → g ≠ k := fun k hk e => by
  subst e
  obtain ⟨cur, hc⟩ := ho.type g hk
  unfold Box6 at h
  rw [hc] at h
  injection h with h
  injection h with _ h
  revert h; decide
set_option maxRecDepth 100000 in
set_option maxHeartbeats 4000000 in
theorem l11_ColourSelf {a : Option Addr} {l : List C3} {cap : Nat} {wh : Int} (hwh : 0 ≤ wh ∧ wh ≤ 255) (x : C3) (hx : isC x = true) (w : World) (hr : Rd6 w a l) (hall : ∀ c ∈ l, isC c = true) (hl : l.length ≤ maxLen) :
    Calls Try.prog 10 #[.slice a l.length cap, .int .u8 wh, .agg #[.int .u16 x.1, .int .u16 x.2.1, .int .u16 x.2.2]] w fun e w' => e = .returned (.bool true) ∧ Gr w w' := by
  have hl2 : l.length ≤ 9223372036854775807 := hl
  by_cases h0 : l.length = 0 ∨ 40 < l.length
  · have HG0 := Lib.hid ((Gr.refl w).alloc (.cells #[.int .u16 x.1, .int .u16 x.2.1, .int .u16 x.2.2] 54))
    clear hr hall hl
    generalize l.length = n at *
    rcases h0 with h0 | h0
    · subst h0
      go_enter Try.func10, Try.ntmps10
      go_wp2_with fail
      refine (l11_awake _).mono ?_; rintro e w9 ⟨rfl, hg9⟩
      have HG9 := Lib.hid (HG0.out.trans hg9)
      clear hg9
      go_wp2
      go_ret
      exact ⟨rfl, HG9.out⟩
    · have hz : ((n : Int) == 0) = false := by rw [beq_eq_false_iff_ne]; omega
      have hd : decide ((40 : Int) < (n : Int)) = true := decide_eq_true (by omega)
      go_enter Try.func10, Try.ntmps10
      go_wp2_with fail
      refine (l11_awake _).mono ?_; rintro e w9 ⟨rfl, hg9⟩
      have HG9 := Lib.hid (HG0.out.trans hg9)
      clear hg9
      go_wp2
      go_ret
      exact ⟨rfl, HG9.out⟩
  · have hn0 : 0 < l.length := by omega
    have hn40 : l.length ≤ 40 := by omega
    have hz : ((l.length : Int) == 0) = false := by rw [beq_eq_false_iff_ne]; omega
    have hd : decide ((40 : Int) < (l.length : Int)) = false := decide_eq_false (by omega)
    have HR := Lib.hid hr
    have HALL := Lib.hid (show ∀ j (hj : j < l.length), isC l[j] = true from fun j hj => hall _ (List.getElem_mem hj))
    obtain ⟨n, hn⟩ : ∃ n, n = l.length := ⟨_, rfl⟩
    have HN := Lib.hid hn
    have hjn : wh.toNat % l.length < l.length := Nat.mod_lt _ hn0
    have hmod : wh.tmod (l.length : Int) = ((wh.toNat % l.length : Nat) : Int) := by
      rw [Int.tmod_eq_emod_of_nonneg hwh.1]
      have h1 : wh = (wh.toNat : Int) := by omega
      conv => lhs; rw [h1]
      omega
    generalize wh.toNat % l.length = jj at *
    obtain ⟨wh0, wh1⟩ := hwh
    rw [← hn] at hn0 hn40 hz hd hmod hl2 hjn ⊢
    obtain ⟨W0, hW0⟩ : ∃ W0, W0 = (w.alloc (.cells #[.int .u16 x.1, .int .u16 x.2.1, .int .u16 x.2.2] 54)).alloc (.cells #[.slice none 0 0] 41) := ⟨_, rfl⟩
    have HG0 := Lib.hid (show Gr w W0 by rw [hW0]; exact ((Gr.refl w).alloc _).alloc _)
    have HB6 := Lib.hid (show Box6 W0 w.heap.size x by rw [hW0]; exact Box6.gr (show Box6 (w.alloc _) w.heap.size x from heap_alloc_last w _) ((Gr.refl _).alloc _))
    have HBL := Lib.hid (show BoxL W0 (w.heap.size + 1) (.slice none 0 0) by
      rw [hW0]
      have := heap_alloc_last (w.alloc (.cells #[.int .u16 x.1, .int .u16 x.2.1, .int .u16 x.2.2] 54)) (.cells #[.slice none 0 0] 41 (0, 0))
      rw [World.size_alloc] at this
      exact this)
    have HW0 := Lib.hid hW0
    obtain ⟨i9, hi9, hz0, hz1, hz2⟩ := info_parts Try.infoCC
    clear hr hall hl hn h0 hW0
    obtain ⟨x0, x1, x2⟩ := x
    have HXC := Lib.hid hx
    have hxb := isC_iff.1 hx
    clear hx
    simp only at hxb
    go_enter Try.func10, Try.ntmps10
    go_wp2_with fail
    rw [← HW0.out]
    clear HW0
    go_loopw [9, 28] (fun _ i wr => ∃ (k : Nat) (v : Value), i = .int .i64 k ∧ k ≤ n ∧ Hid (OwnC w.heap.size wr v (l.take k)) ∧ Hid (BoxL wr (w.heap.size + 1) v) ∧ Hid (Box6 wr w.heap.size (x0, x1, x2)) ∧ Hid (Gr w wr)) (fun _ i _ => n - (intOf i).toNat)
    case atStart => exact ⟨0, .slice none 0 0, rfl, Nat.zero_le _, OwnC.nil _ _, HBL.out, HB6.out, HG0.out⟩
    case round =>
      obtain ⟨k, v, rfl, hk, HO, HBv, HB6r, HGr⟩ := hrel
      by_cases hlt : k < n
      · have hkl : k < l.length := by rw [← HN.out]; exact hlt
        obtain ⟨b, o, rfl, d0, d1, d2⟩ := (HR.out.gr HGr.out) k hkl
        have hb := isC_iff.1 (HALL.out k hkl)
        have HT := Lib.hid (show l.take (k + 1) = l.take k ++ [l[k]] from List.take_succ_eq_append_getElem hkl)
        have hlen : (l.take k).length + 1 ≤ 1000000 := by rw [List.length_take]; omega
        generalize l[k] = u at *
        obtain ⟨u0, u1, u2⟩ := u
        simp only at d0 d1 d2 hb
        have hsh := HO.out.shape
        obtain ⟨av, cv', hv, -, -, -⟩ := hsh
        rw [show (l.take k).length = k by rw [List.length_take]; omega] at hv
        subst hv
        generalize l.take k = xs at *
        have G9 : Gr wr (wr.alloc (.cells #[.int .u16 u0, .int .u16 u1, .int .u16 u2] 54)) := (Gr.refl _).alloc _
        have HO9 := Lib.hid (HO.out.gr G9)
        have HB9 := Lib.hid (HBv.out.gr G9)
        have HC9 := Lib.hid (HB6r.out.gr G9)
        have HG9 := Lib.hid (HGr.out.trans G9)
        have t7 := HB9.out.cell
        have t7r := HBv.out.cell
        have hlt1 : w.heap.size + 1 < wr.heap.size := cellLt t7r
        obtain ⟨⟨b0, b1⟩, ⟨b2, b3⟩, ⟨b4, b5⟩⟩ := hb
        clear G9 HO HBv HB6r HGr HB6 HBL
        go_wp2_with (at_builtin; refine push_c hi9 hz0 hz1 hz2 rfl _ _ rfl _ _ rfl HO9.out HG9.out.size (u0, u1, u2) (wr.heap.size + 1) (by simp) rfl hlen ?_; rintro v5 w5 HO5 hb5 hk5; have HB5 := Lib.hid (show BoxL w5 (w.heap.size + 1) _ from (hk5 _ (Nat.lt_trans hlt1 (by simp)) (HB9.out.ne HO9.out)).trans HB9.out); have HC5 := Lib.hid (show Box6 w5 w.heap.size _ from (hk5 _ (by simp; omega) (HC9.out.ne HO9.out)).trans HC9.out); have HG5 := Lib.hid (show Gr w w5 from Below.trans HG9.out hb5); obtain ⟨a5, cp5, rfl, -⟩ := HO5.out.shape; have t5 := HB5.out.cell; have t5f := HB5.out.fz; clear hb5 hk5 t7 t7r)
        have hl5 : (xs ++ [(u0, u1, u2)]).length = xs.length + 1 := by simp
        rw [hl5] at HO5
        go_roundw
        case rel => exact ⟨k + 1, .slice a5 (xs.length + 1) cp5, by go_num, by omega, Lib.hid (by rw [HT.out]; exact HO5.out.same fun g hg => Below.heap_setCell w5 _ _ g (fun e => HB5.out.ne HO5.out g hg e.symm)), Lib.hid (one_setCell HB5.out), Lib.hid ((Below.heap_setCell w5 _ _ _ (by simp)).trans HC5.out), HG5.out.set (by omega) _⟩
        case measure => simp [intOf]; omega
      · have hkn : k = n := by omega
        subst hkn
        have hsh := HO.out
        rw [List.take_of_length_le (by have := HN.out; omega)] at hsh
        obtain ⟨av, cv', hv, hR3, hcv, hcm⟩ := hsh.shape
        rw [← HN.out] at hv hcv
        subst hv
        have HR3 := Lib.hid hR3
        have t7 := HBv.out.cell
        have hlt1 : w.heap.size + 1 < wr.heap.size := cellLt t7
        have hjl : jj < l.length := by rw [← HN.out]; exact hjn
        obtain ⟨b, o, rfl, d0, d1, d2⟩ := hR3 jj hjl
        have HOWN := Lib.hid (show isC l[jj] = true from HALL.out jj hjl)
        generalize hown : l[jj] = own at *
        have HJJ := Lib.hid hown
        obtain ⟨o0, o1, o2⟩ := own
        simp only at d0 d1 d2
        have hw8 : wrap64 wh = wh := by unfold wrap64; omega
        have z1 : (0 : Int) ≤ (jj : Int) := by omega
        have z2 : (jj : Int) < (k : Int) := by omega
        have z3 : ¬ (k : Int) = 0 := by omega
        clear hsh hR3 HO hown
        have hwr : IntKind.i64.wrap wh = wh := IntWalk.i64_in _ (by omega)
        go_wp2_with fail
        have hS0 : (fun w' : World => Gr wr w') wr.drew := (Gr.refl _).drew
        refine wp_region_held (S := fun w' : World => Gr wr w') (by kernel_rfl) ?_
        change wpAnyH _ _ _ _ _ _ _ _ wr.drew
        refine wpAnyH_take (i := 0) (v := .slice (some ⟨b, o, none⟩) k cv') rfl (by kernel_rfl) (by kernel_rfl) (by kernel_rfl) (fun _ _ _ h => h) (Or.inl ⟨by rfl, ?_⟩) hS0 ?_
        · intro w hSw; have s1 := gr_cell hSw t7; go_simp
        try simp only [Act.put, List.getElem_toArray, List.getElem_cons_succ, List.getElem_cons_zero, List.setIfInBounds_toArray, List.set_cons_zero, List.set_cons_succ]
        refine wpAnyH_take (i := 1) (v := .int .u8 wh) rfl (by kernel_rfl) (by kernel_rfl) (by kernel_rfl) (fun _ _ _ h => h) (Or.inl ⟨by rfl, ?_⟩) hS0 ?_
        · intro w hSw; go_simp
        try simp only [Act.put, List.getElem_toArray, List.getElem_cons_succ, List.getElem_cons_zero, List.setIfInBounds_toArray, List.set_cons_zero, List.set_cons_succ]
        refine wpAnyH_take (i := 2) (v := .int .i64 wh) rfl (by kernel_rfl) (by kernel_rfl) (by kernel_rfl) (fun _ _ _ h => h) (Or.inl ⟨by rfl, ?_⟩) hS0 ?_
        · intro w hSw; go_simp; try exact hwr
        try simp only [Act.put, List.getElem_toArray, List.getElem_cons_succ, List.getElem_cons_zero, List.setIfInBounds_toArray, List.set_cons_zero, List.set_cons_succ]
        refine wpAnyH_take (i := 3) (v := .slice (some ⟨b, o, none⟩) k cv') rfl (by kernel_rfl) (by kernel_rfl) (by kernel_rfl) (fun _ _ _ h => h) (Or.inl ⟨by rfl, ?_⟩) hS0 ?_
        · intro w hSw; have s1 := gr_cell hSw t7; go_simp
        try simp only [Act.put, List.getElem_toArray, List.getElem_cons_succ, List.getElem_cons_zero, List.setIfInBounds_toArray, List.set_cons_zero, List.set_cons_succ]
        refine wpAnyH_take (i := 4) (v := .int .i64 k) rfl (by kernel_rfl) (by kernel_rfl) (by kernel_rfl) (fun _ _ _ h => h) (Or.inl ⟨by rfl, ?_⟩) hS0 ?_
        · intro w hSw; go_simp
        try simp only [Act.put, List.getElem_toArray, List.getElem_cons_succ, List.getElem_cons_zero, List.setIfInBounds_toArray, List.set_cons_zero, List.set_cons_succ]
        refine wpAnyH_take (i := 5) (v := .int .i64 jj) rfl (by kernel_rfl) (by kernel_rfl) (by kernel_rfl) (fun _ _ _ h => h) (Or.inl ⟨by rfl, ?_⟩) hS0 ?_
        · intro w hSw; go_simp; (try simp [hmod]); (try omega)
        try simp only [Act.put, List.getElem_toArray, List.getElem_cons_succ, List.getElem_cons_zero, List.setIfInBounds_toArray, List.set_cons_zero, List.set_cons_succ]
        refine wpAnyH_take (i := 6) (v := .pointer (some ⟨b, o + jj * 3, none⟩)) rfl (by kernel_rfl) (by kernel_rfl) (by kernel_rfl) (fun _ _ _ h => h) (Or.inl ⟨by rfl, ?_⟩) hS0 ?_
        · intro w hSw; go_simp
        try simp only [Act.put, List.getElem_toArray, List.getElem_cons_succ, List.getElem_cons_zero, List.setIfInBounds_toArray, List.set_cons_zero, List.set_cons_succ]
        refine wpAnyH_take (i := 7) (v := vC (o0, o1, o2)) rfl (by kernel_rfl) (by kernel_rfl) (by kernel_rfl) (fun _ _ _ h => h) (Or.inl ⟨by rfl, ?_⟩) hS0 ?_
        · intro w hSw; have s1 := gr_cell hSw d0; have s2 := gr_cell hSw d1; have s3 := gr_cell hSw d2; unfold vC; go_simp
        try simp only [Act.put, List.getElem_toArray, List.getElem_cons_succ, List.getElem_cons_zero, List.setIfInBounds_toArray, List.set_cons_zero, List.set_cons_succ]
        refine wpAnyH_ready (rs := [8]) (by kernel_rfl) (by simp) (AllReadyH.cons rfl (fun K' hK' => ?_) AllReadyH.nil)
        go_simp
        refine hK'.out _ _ (hS0.alloc _) (fun hS1 => ?_)
        clear hK' K'
        try simp only [Act.put, List.getElem_toArray, List.getElem_cons_succ, List.getElem_cons_zero, List.setIfInBounds_toArray, List.set_cons_zero, List.set_cons_succ]
        refine wpAnyH_ready (rs := [9]) (by kernel_rfl) (by simp) (AllReadyH.cons rfl (fun K' hK' => ?_) AllReadyH.nil)
        rw [if_pos (by rfl)]
        unfold Oper.wp
        rw [exec_store3 (c := (o0, o1, o2)) _ rfl rfl rfl (show C3At (wr.alloc (.cells #[.int .i64 0, .int .i64 0, .int .i64 0] 23)).drew wr.heap.size (0, 0, 0) from (C3At.new wr (0, 0, 0)).drew)]
        rw [Oper.upon_skip]
        refine hK'.out _ _ (hS1.row (Nat.le_refl _) _) (fun hS2 => ?_)
        clear hK' K'
        try simp only [Act.put, List.getElem_toArray, List.getElem_cons_succ, List.getElem_cons_zero, List.setIfInBounds_toArray, List.set_cons_zero, List.set_cons_succ]
        refine wpAnyH_done (by kernel_rfl) ?_ _
        obtain ⟨w1, hw1⟩ : ∃ v, v = (wr.alloc (.cells #[.int .i64 0, .int .i64 0, .int .i64 0] 23)).drew.setRow wr.heap.size #[.int .i64 o0, .int .i64 o1, .int .i64 o2] := ⟨_, rfl⟩
        have g1 : Gr wr w1 := by rw [hw1]; exact ((Gr.refl wr).alloc (.cells #[.int .i64 0, .int .i64 0, .int .i64 0] 23)).drew.row (Nat.le_refl _) _
        have E1 := Lib.hid (show C3At w1 wr.heap.size (o0, o1, o2) by rw [hw1]; exact ((C3At.new wr (0, 0, 0)).drew).row (o0, o1, o2))
        rw [← hw1]
        clear hw1
        have T1 := Lib.hid (HBv.out.gr g1)
        have R1 := Lib.hid (HR3.out.gr g1)
        have X1 := Lib.hid (HB6r.out.gr g1)
        have G1 := Lib.hid (HGr.out.trans g1)
        clear hS0 hS1 hS2 g1 t7 d0 d1 d2 HBv HR3 HB6r HGr
        have t1 := T1.out.cell
        have hne : ¬ l.length = 0 := by omega
        have hn256 : ¬ 256 < l.length := by have := HN.out; omega
        have hallB : l.all isC = true := by rw [List.all_eq_true]; intro u hu; obtain ⟨j, hj, rfl⟩ := List.getElem_of_mem hu; exact HALL.out j hj
        have HNR : Hid (∀ c, isC c = true → nearR c l = (((bestN c l l.length : Nat) : Int), (0 : Int))) := Lib.hid fun c hc => by unfold nearR; rw [if_neg (by simp [hc]), if_neg hne, if_neg hn256, if_pos hallB]
        have hlM : l.length ≤ maxLen := by unfold maxLen; have := HN.out; omega
        have HNC : Hid (∀ (c : C3) (w1 : World), isC c = true → Rd3 w1 (some ⟨b, o, none⟩) l → Calls Try.prog 21 #[vC c, .slice (some ⟨b, o, none⟩) k cv'] w1 fun e w' => e = .returned (.tuple #[.int .i64 (bestN c l k : Nat), .int .i64 0]) ∧ Gr w1 w') := Lib.hid fun c w1 hc h => by
          have h2 := co_Nearest c (cap := cv') w1 h hlM
          rw [HNR.out c hc, ← HN.out] at h2
          exact h2
        have HIX : Hid (∀ (w1 : World), Rd3 w1 (some ⟨b, o, none⟩) l → Calls Try.prog 26 #[.slice (some ⟨b, o, none⟩) k cv', vC (o0, o1, o2)] w1 fun e w' => e = .returned (.int .i64 (bestN (o0, o1, o2) l k : Nat)) ∧ Gr w1 w') := Lib.hid fun w1 h => by
          have h2 := sl_Index (cap := cv') (o0, o1, o2) w1 h (by have := HN.out; omega) hjl HJJ.out
          have e : (Value.slice (some ⟨b, o, none⟩) k cv') = .slice (some ⟨b, o, none⟩) l.length cv' := by rw [← HN.out]
          rw [e]
          refine h2.mono ?_
          rintro e w' ⟨⟨k1, hk1, rfl, h3, h4⟩, hg⟩
          refine ⟨?_, hg⟩
          have h5 := bestN_first hk1 h4
          rw [h3] at h5
          rw [HN.out, h5]
        have hk40 : ∀ c, bestN c l k ≤ 40 := fun c => Nat.le_trans (bestN_le c l k) hn40
        have hbo := hk40 (o0, o1, o2)
        clear hallB hne hn256 HNR hlM
        obtain ⟨bo, hbo2⟩ : ∃ v, bestN (o0, o1, o2) l k = v := ⟨_, rfl⟩
        have HO1 := Lib.hid (HNC.out (o0, o1, o2) w1 HOWN.out R1.out)
        rw [hbo2] at HO1 HIX hbo
        go_wp2_with (refine wpl_load3 (c := (o0, o1, o2)) rfl rfl rfl E1.out ?_)
        refine HO1.out.mono ?_; rintro e w2 ⟨rfl, hg2⟩
        have T2 := Lib.hid (T1.out.gr hg2)
        have R2 := Lib.hid (R1.out.gr hg2)
        have X2 := Lib.hid (X1.out.gr hg2)
        have G2 := Lib.hid (G1.out.trans hg2)
        have E2 := E1.out.gr hg2
        have t2 := T2.out.cell
        have e0 := E2.c0
        have e1 := E2.c1
        have e2 := E2.c2
        simp only at e0 e1 e2
        clear hg2 E1 E2 T1 R1 X1 G1 t1 HO1
        have HI2 := Lib.hid (HIX.out w2 R2.out)
        unfold vC at HI2
        go_wp2_with fail
        refine HI2.out.mono ?_; rintro e w3 ⟨rfl, hg3⟩
        have T3 := Lib.hid (T2.out.gr hg3)
        have R3 := Lib.hid (R2.out.gr hg3)
        have X3 := X2.out.gr hg3
        have G3 := Lib.hid (G2.out.trans hg3)
        have t3 := T3.out.cell
        have f0 : w3.cell? ⟨w.heap.size, 0, none⟩ = some (.int .u16 x0) := by rw [cell_of_row _ _ _ _ _ _ X3]; rfl
        have f1 : w3.cell? ⟨w.heap.size, 1, none⟩ = some (.int .u16 x1) := by rw [cell_of_row _ _ _ _ _ _ X3]; rfl
        have f2 : w3.cell? ⟨w.heap.size, 2, none⟩ = some (.int .u16 x2) := by rw [cell_of_row _ _ _ _ _ _ X3]; rfl
        have hlt3 : w.heap.size + 1 < w3.heap.size := cellLt t3
        obtain ⟨⟨v0, v1⟩, ⟨v2, v3⟩, ⟨v4, v5⟩⟩ := hxb
        obtain ⟨w4, hw4⟩ : ∃ v, v = w3.alloc (.cells #[.int .i64 x0, .int .i64 x1, .int .i64 x2] 23) := ⟨_, rfl⟩
        have E4 := Lib.hid (show C3At w4 w3.heap.size (x0, x1, x2) by rw [hw4]; exact C3At.new w3 (x0, x1, x2))
        have g4 : Gr w3 w4 := by rw [hw4]; exact (Gr.refl _).alloc _
        have T4 := Lib.hid (T3.out.gr g4)
        have R4 := Lib.hid (R3.out.gr g4)
        have G4 := Lib.hid (G3.out.trans g4)
        have W4 := Lib.hid hw4
        have t4 : (w3.alloc (.cells #[.int .i64 x0, .int .i64 x1, .int .i64 x2] 23)).cell? ⟨w.heap.size + 1, 0, none⟩ = some (.slice (some ⟨b, o, none⟩) k cv') := by rw [← hw4]; exact T4.out.cell
        obtain ⟨bx, hbx⟩ : ∃ v, bestN (x0, x1, x2) l k = v := ⟨_, rfl⟩
        have hbx40 := hk40 (x0, x1, x2)
        have hbxn : bestN (x0, x1, x2) l k < k := by have := bestN_lt (x0, x1, x2) (l := l) (by omega) k (by have := HN.out; omega); have := HN.out; omega
        have HO2 := Lib.hid (HNC.out (x0, x1, x2) w4 HXC.out R4.out)
        have HMN : Hid (∀ j (hj : j < l.length), ∃ h : bx < l.length, farR (x0, x1, x2) l[bx] ≤ farR (x0, x1, x2) l[j]) := Lib.hid fun j hj => by
          obtain ⟨h1, h2⟩ := bestN_min (x0, x1, x2) (l := l) (by omega) hj
          subst hbx
          have hkk := HN.out
          subst hkk
          exact ⟨h1, h2⟩
        rw [hbx] at HO2 hbx40 hbxn
        clear hw4 X3 g4 hg3 T2 R2 X2 G2 T3 R3 G3 t2 e0 e1 e2 HI2 HIX HNC hk40 hbo2 hbx
        go_wp2_with (first | (refine wpl_load3 (c := (x0, x1, x2)) rfl rfl rfl (by rw [W4.out] at E4; exact E4.out) ?_))
        rw [← W4.out]
        refine HO2.out.mono ?_; rintro e w5 ⟨rfl, hg5⟩
        have T5 := T4.out.gr hg5
        have R5 := R4.out.gr hg5
        have E5 := E4.out.gr hg5
        have G5 := Lib.hid (G4.out.trans hg5)
        have ga : Gr w5 (w5.alloc (.cells #[.int .i64 bx] 3)) := (Gr.refl _).alloc _
        have gb : Gr w5 ((w5.alloc (.cells #[.int .i64 bx] 3)).alloc (.cells #[.func (.func 27) #[] #[.pointer (some ⟨w3.heap.size, 0, none⟩)]] 56)) := ((Gr.refl _).alloc _).alloc _
        have ta := gr_cell ga T5.cell
        have tb := gr_cell gb T5.cell
        have hlt5 : w.heap.size + 1 < w5.heap.size := cellLt T5.cell
        have CS : Hid (CapS ((w5.alloc (.cells #[.int .i64 bx] 3)).alloc (.cells #[.func (.func 27) #[] #[.pointer (some ⟨w3.heap.size, 0, none⟩)]] 56)) (w5.heap.size + 1) (w.heap.size + 1) w5.heap.size w3.heap.size (x0, x1, x2) (some ⟨b, o, none⟩) l cv' bx) := Lib.hid (by
          refine ⟨?_, E5.gr gb, by rw [← HN.out]; exact tb, R5.gr gb, ?_⟩
          · have h := heap_alloc_last (w5.alloc (.cells #[.int .i64 bx] 3)) (.cells #[.func (.func 27) #[] #[.pointer (some ⟨w3.heap.size, 0, none⟩)]] 56)
            rw [World.size_alloc] at h
            rw [cell_of_row _ _ _ _ _ _ h]; rfl
          · have h := (((Gr.refl (w5.alloc (.cells #[.int .i64 bx] 3))).alloc (.cells #[.func (.func 27) #[] #[.pointer (some ⟨w3.heap.size, 0, none⟩)]] 56)).block w5.heap.size (by simp)).trans (heap_alloc_last w5 (.cells #[.int .i64 bx] 3))
            rw [cell_of_row _ _ _ _ _ _ h]; rfl)
        have HCF := Lib.hid (sl_ContainsFunc _ CS.out HXC.out HALL.out (by have := HN.out; omega) (by have := HN.out; omega) (fun j hj => (HMN.out j hj).2))
        rw [← HN.out] at HCF
        have hmf : ∀ (fn : Fn) (first cap : Array Value) (w : World), (Instr.makeFunc fn first cap).run Try.prog w = .ok (.func fn first cap) w := fun _ _ _ _ => rfl
        have db : decide ((bx : Int) < 0) = false := decide_eq_false (by omega)
        have db2 : decide ((k : Int) ≤ (bx : Int)) = false := decide_eq_false (by omega)
        have GB := Lib.hid (G5.out.trans gb)
        clear CS ga gb T5 R5 E5 G5 hg5 T4 R4 E4 G4 W4 t3 t4 f0 f1 f2 HO2 HMN
        go_wp2_with fail
        refine HCF.out.mono ?_; rintro e w6 ⟨rfl, hg6⟩
        have G6 := Lib.hid (GB.out.trans hg6)
        clear hg6 HCF
        go_wp2_with fail
        refine (l11_awake _).mono ?_; rintro e w7 ⟨rfl, hg7⟩
        have G7 := Lib.hid (G6.out.trans hg7)
        clear hg7
        go_wp2
        go_ret
        exact ⟨rfl, G7.out⟩
end Go.Proofs.Ytipfofdjngnkpaa
