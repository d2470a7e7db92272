/- Law 15: Flat and Missing of the reference; Home, At, Of. -/
import Derived.Test.YtgjlcmheipmmlaaPaQ
import Derived.Laws.CopyRow
set_option linter.unusedVariables false
set_option linter.unusedSimpArgs false
namespace Go.Proofs.Ytgjlcmheipmmlaa
open Go.RowKit
open Z
theorem run_storeV {w : World} {g : Nat} {c a q v : Int} (u1 u2 : Int) (h : Blk shE w g (c, a, q, v)) : (storeVar 23 ⟨g, 2, none⟩ (.agg #[.int .i64 u1, .int .i64 u2])).run Try.prog w = .ok () (w.setRow g (shE.enc (c, a, u1, u2)).toArray) := by
  have h2 := run_storeCells_at (P := Try.prog) g 2 _ [.int .i64 u1, .int .i64 u2] 0 _ w h (by simp [shE]) (by intro x hx; simp only [List.mem_cons, List.not_mem_nil, or_false] at hx; rcases hx with rfl | rfl <;> rfl)
  have h3 : (storeVar 23 ⟨g, 2, none⟩ (.agg #[.int .i64 u1, .int .i64 u2])).run Try.prog w = (storeCells ⟨g, 2, none⟩ [.int .i64 u1, .int .i64 u2] 0).run Try.prog w := by
    have hs : (sizeOf 23).run Try.prog w = .ok 2 w := Try.sizeOf23 w
    simp only [storeVar, Sem.run_bind, hs, Result.andThen_ok]
    rfl
  rw [h3, h2]
  rfl
theorem wpl_storeV {ops : Array Oper} {rest : List Oper} {o : Oper} {x : Act} {Q : Exit → Act → World → Prop} {w : World} {s t : Operand} {g : Nat} {c a q v : Int} (u1 u2 : Int) (hg : o.guard = none) (ho : o.op = .store 23 s t) (hx : x.eval s = .pointer (some ⟨g, 2, none⟩)) (hy : x.eval t = .agg #[.int .i64 u1, .int .i64 u2]) (hP : Blk shE w g (c, a, q, v))
    (hK : wpList Try.prog ops Q rest (x.put o.dst undef) (w.setRow g (shE.enc (c, a, u1, u2)).toArray)) : wpList Try.prog ops Q (o :: rest) x w := by
  refine wpList_plain hg fun K hK' => ?_
  unfold Oper.wp execOp
  rw [ho]
  simp only [hx, hy, Instr.storeAt, Instr.sureAddr, Sem.run_bind, Sem.run_pure, Result.andThen, run_storeV u1 u2 hP]
  rw [Oper.upon_skip]
  exact hK' _ _ hK
set_option maxRecDepth 100000 in
set_option maxHeartbeats 1000000 in
theorem r15_Home  (w : World) : Calls Try.prog 47 #[] w fun e w' => e = .returned (.agg #[.int .i64 (-1), .int .i64 0]) ∧ Gr w w' := by
  have HG1 := Lib.hid ((Gr.refl w).alloc (.cells #[.int .i64 (-1), .int .i64 0] 23))
  have k0 := fresh w [.int .i64 (-1), .int .i64 0] 23 (k := 0) rfl
  have k1 := fresh w [.int .i64 (-1), .int .i64 0] 23 (k := 1) rfl
  have K0 := Lib.hid k0
  have K1 := Lib.hid k1
  clear k0 k1
  go_enter Try.func47, Try.ntmps47
  go_wp2
  refine bodyPost_ret (v := .agg #[.int .i64 (-1), .int .i64 0]) ?_ rfl ⟨rfl, HG1.out⟩
  have k0 := K0.out
  have k1 := K1.out
  simp [results, Try.results47, go_sem, k0, k1]
set_option maxRecDepth 100000 in
set_option maxHeartbeats 1000000 in
theorem r15_At (v : Int) (w : World) : Calls Try.prog 46 #[.int .i64 v] w fun e w' => e = .returned (.agg #[.int .i64 0, .int .i64 v]) ∧ Gr w w' := by
  have HG1 := Lib.hid ((Gr.refl w).alloc (.cells #[.int .i64 0, .int .i64 v] 23))
  have k0 := fresh w [.int .i64 0, .int .i64 v] 23 (k := 0) rfl
  have k1 := fresh w [.int .i64 0, .int .i64 v] 23 (k := 1) rfl
  have K0 := Lib.hid k0
  have K1 := Lib.hid k1
  clear k0 k1
  go_enter Try.func46, Try.ntmps46
  go_wp2
  refine bodyPost_ret (v := .agg #[.int .i64 0, .int .i64 v]) ?_ rfl ⟨rfl, HG1.out⟩
  have k0 := K0.out
  have k1 := K1.out
  simp [results, Try.results46, go_sem, k0, k1]
set_option maxRecDepth 100000 in
set_option maxHeartbeats 1000000 in
theorem r15_Of (v : Int) (w : World) : Calls Try.prog 45 #[.int .i64 v] w fun e w' => e = .returned (.agg #[.int .i64 v, .int .i64 0]) ∧ Gr w w' := by
  have HG1 := Lib.hid ((Gr.refl w).alloc (.cells #[.int .i64 v, .int .i64 0] 23))
  have k0 := fresh w [.int .i64 v, .int .i64 0] 23 (k := 0) rfl
  have k1 := fresh w [.int .i64 v, .int .i64 0] 23 (k := 1) rfl
  have K0 := Lib.hid k0
  have K1 := Lib.hid k1
  clear k0 k1
  go_enter Try.func45, Try.ntmps45
  go_wp2
  refine bodyPost_ret (v := .agg #[.int .i64 v, .int .i64 0]) ?_ rfl ⟨rfl, HG1.out⟩
  have k0 := K0.out
  have k1 := K1.out
  simp [results, Try.results45, go_sem, k0, k1]
set_option maxRecDepth 100000 in
set_option maxHeartbeats 4000000 in
theorem r15_Flat {al : Option Addr} {l : List Pl} {cl : Nat} {ae : Option Addr} {es : List En} {ce : Nat} (w : World) (hr : RdP w al l) (hlen : l.length ≤ 9223372036854775807) (hin : ∀ g ∈ l, g.2.length ≤ 9223372036854775807) (he : Rd shE w ae es) (hlen2 : es.length ≤ 9223372036854775807) :
    Calls Try.prog 31 #[.slice al l.length cl, .slice ae es.length ce] w fun e w' => (∃ v, e = .returned (.tuple #[v, .int .i64 (bothR l es)]) ∧ Own shE w.heap.size w' v (flatL l es)) ∧ Gr w w' := by
  have HC1 := Lib.hid (r15_Both (cl := cl) (ce := ce) w hr hlen hin he hlen2)
  by_cases h0 : bothR l es = 0
  · obtain ⟨hp0, he0⟩ := bothR_zero.1 h0
    have h4 := (entR_zero.1 he0).1
    have HE := Lib.hid he
    have HH := Lib.hid (fun (x : En) W (hW : Gr w W) => r15_Hue (cap := cl) x.2.2.1 x.1 x.2.1 W (hr.gr hW) hlen hin)
    have HUL := Lib.hid (show flatL l es = _ from if_pos h0)
    rw [HUL.out, h0]
    rw [h0] at HC1
    obtain ⟨n, hn⟩ : ∃ n, n = es.length := ⟨_, rfl⟩
    have HN := Lib.hid hn
    rw [← hn] at h4 HC1 ⊢
    clear hr hlen hin he hlen2 h0 hp0 he0 hn HUL
    generalize l.length = ml at *
    go_enter Try.func31, Try.ntmps31
    go_wp2_with fail
    refine HC1.out.mono ?_; rintro e w1 ⟨rfl, hg1⟩
    have HG1 := Lib.hid hg1
    clear hg1 HC1
    go_wp2
    go_loopw [7, 8] (fun ow i wr => ∃ j : Nat, i = .int .i64 j ∧ j ≤ n ∧ Hid (Own shE w.heap.size wr ow ((es.take j).map (flatE l))) ∧ Hid (Gr w wr)) (fun _ i _ => n - (intOf i).toNat)
    case atStart => exact ⟨0, rfl, Nat.zero_le _, Lib.hid (by simpa using Own.nil shE _ _), HG1⟩
    case round =>
      obtain ⟨j, rfl, hj, HO, HG⟩ := hrel
      by_cases hlt : j < n
      · have hjl : j < es.length := by rw [← HN.out]; exact hlt
        obtain ⟨b, o, rfl, c0, c1, c2, c3⟩ := en_cells (HE.out.gr HG.out) hjl
        have HTK := Lib.hid (show (es.take (j + 1)).map (flatE l) = (es.take j).map (flatE l) ++ [flatE l es[j]] by rw [List.take_succ_eq_append_getElem hjl, List.map_append]; rfl)
        have HLL := Lib.hid (show ((es.take j).map (flatE l)).length ≤ 4096 by rw [List.length_map, List.length_take]; omega)
        have HF := Lib.hid (show flatE l es[j] = if 0 < es[j].2.2.1 then (match hueL l es[j].2.2.1 es[j].1 es[j].2.1 with | some v => (es[j].1, es[j].2.1, 0, v) | none => (es[j].1, es[j].2.1, -1, 0)) else es[j] from rfl)
        have HH1 := Lib.hid (HH.out es[j])
        generalize es[j] = x at *
        generalize flatE l x = y at *
        generalize (es.take j).map (flatE l) = xs at *
        generalize hueL l x.2.2.1 x.1 x.2.1 = V at *
        obtain ⟨xc, xa, xq, xv⟩ := x
        simp only at c0 c1 c2 c3 HF HH1
        have hxl := HLL.out
        obtain ⟨wa, hwa⟩ : ∃ wa, wa = wr.alloc (.cells #[.int .i64 xc, .int .i64 xa, .int .i64 xq, .int .i64 xv] 57) := ⟨_, rfl⟩
        obtain ⟨p, hp⟩ : ∃ p, p = wr.heap.size := ⟨_, rfl⟩
        have hga : Gr wr wa := by rw [hwa]; exact (Gr.refl wr).alloc _
        have HBX := Lib.hid (show Blk shE wa p (xc, xa, xq, xv) by rw [hwa, hp]; exact Blk.new shE wr (xc, xa, xq, xv))
        have HPW := Lib.hid (show wr.heap.size ≤ p by omega)
        by_cases hq : 0 < xq
        · have HH2 := Lib.hid (HH1.out wa (HG.out.trans hga))
          go_wp2_with fail
          rw [← hwa, ← hp]
          clear hwa hp c0 c1 c2 c3 HH1
          refine HH2.out.mono ?_; rintro e w5 ⟨rfl, hg5⟩
          have hg25 := hga.trans hg5
          have HB5 := Lib.hid (HBX.out.gr hg5)
          clear hg5 hga HH2 HBX
          have HHM := Lib.hid (fun W => r15_Home W)
          go_wp2_with fail
          refine (HHM.out _).mono ?_; rintro e w6 ⟨rfl, hg6⟩
          have HB6 := Lib.hid (HB5.out.gr hg6)
          have hg26 := hg25.trans hg6
          clear hg6 hg25 HB5
          have HBz := Lib.hid (show Blk shE (w6.setRow p (shE.enc (xc, xa, -1, 0)).toArray) p (xc, xa, -1, 0) from HB6.out.row (xc, xa, -1, 0))
          have hgz := hg26.row HPW.out (shE.enc (xc, xa, -1, 0)).toArray
          have HN6 := Lib.hid (show (w6.setRow p (shE.enc (xc, xa, -1, 0)).toArray).heap.size = w6.heap.size by simp)
          cases V with
          | none =>
            have hy : y = (xc, xa, -1, 0) := by rw [HF.out, if_pos hq]
            subst hy
            have HGz := Lib.hid hgz
            have HOz := Lib.hid (HO.out.gr HGz.out)
            have HGy := Lib.hid (HG.out.trans HGz.out)
            clear HF hq hgz hg26 HO HG HGz HH HHM
            go_wp2_with (first | (refine wpl_storeV (-1) 0 rfl rfl rfl rfl HB6.out ?_; have k0 := HBz.out.cell (k := 0) rfl; have k1 := HBz.out.cell (k := 1) rfl; have k2 := HBz.out.cell (k := 2) rfl; have k3 := HBz.out.cell (k := 3) rfl) | (at_builtin; refine push_s shE rfl _ _ rfl _ xs rfl HOz.out HGy.out (xc, xa, -1, 0) _ HN6.out.symm rfl (by omega) ?_; rintro v7 w7 HO7 hg7; have HG7 := Lib.hid hg7; clear hg7))
            go_roundw
            case rel => exact ⟨j + 1, by go_num, by omega, Lib.hid (by rw [HTK.out]; exact HO7.out), HG7⟩
            case measure => simp [intOf]; omega
          | some v =>
            have hy : y = (xc, xa, 0, v) := by rw [HF.out, if_pos hq]
            subst hy
            have HAM := Lib.hid (fun W => r15_At v W)
            go_wp2_with (first | (refine wpl_storeV (-1) 0 rfl rfl rfl rfl HB6.out ?_) | fail)
            refine (HAM.out _).mono ?_; rintro e w7 ⟨rfl, hg7⟩
            have HB7 := Lib.hid (HBz.out.gr hg7)
            have HB8 := Lib.hid (show Blk shE (w7.setRow p (shE.enc (xc, xa, 0, v)).toArray) p (xc, xa, 0, v) from HB7.out.row (xc, xa, 0, v))
            have HGz := Lib.hid ((hgz.trans hg7).row HPW.out (shE.enc (xc, xa, 0, v)).toArray)
            have HOz := Lib.hid (HO.out.gr HGz.out)
            have HGy := Lib.hid (HG.out.trans HGz.out)
            have HN7 := Lib.hid (show (w7.setRow p (shE.enc (xc, xa, 0, v)).toArray).heap.size = w7.heap.size by simp)
            clear HF hq hgz hg26 HO HG HGz HH HHM HBz HN6 hg7 HB6
            go_wp2_with (first | (refine wpl_storeV 0 v rfl rfl rfl rfl HB7.out ?_; have k0 := HB8.out.cell (k := 0) rfl; have k1 := HB8.out.cell (k := 1) rfl; have k2 := HB8.out.cell (k := 2) rfl; have k3 := HB8.out.cell (k := 3) rfl) | (at_builtin; refine push_s shE rfl _ _ rfl _ xs rfl HOz.out HGy.out (xc, xa, 0, v) _ HN7.out.symm rfl (by omega) ?_; rintro v8 w8 HO8 hg8; have HG8 := Lib.hid hg8; clear hg8))
            go_roundw
            case rel => exact ⟨j + 1, by go_num, by omega, Lib.hid (by rw [HTK.out]; exact HO8.out), HG8⟩
            case measure => simp [intOf]; omega
        · have hy : y = (xc, xa, xq, xv) := by rw [HF.out, if_neg hq]
          subst hy
          clear HF HH1
          have HOa := Lib.hid (HO.out.gr hga)
          have HGa := Lib.hid (HG.out.trans hga)
          rw [hwa] at HOa HGa
          clear hga HO HG hwa HBX HPW hp
          go_wp2_with (at_builtin; refine push_s shE rfl _ _ rfl _ xs rfl HOa.out HGa.out (xc, xa, xq, xv) _ (World.size_alloc _ _).symm rfl (by omega) ?_; rintro v7 w7 HO7 hg7; have HG7 := Lib.hid hg7; clear hg7)
          go_roundw
          case rel => exact ⟨j + 1, by go_num, by omega, Lib.hid (by rw [HTK.out]; exact HO7.out), HG7⟩
          case measure => simp [intOf]; omega
      · have hjn : j = es.length := by rw [← HN.out]; omega
        have ho := HO.out
        rw [hjn, List.take_length] at ho
        have HOe := Lib.hid ho
        clear HO ho hjn
        go_wp2
        go_ret2
        exact ⟨⟨_, rfl, HOe.out⟩, HG.out⟩
  · have hul : flatL l es = [] := if_neg h0
    have hz : (bothR l es == 0) = false := by simp [h0]
    rw [hul]
    clear hr hlen hin he hlen2 h0 hul
    generalize bothR l es = E at *
    generalize l.length = ml at *
    generalize es.length = me at *
    go_enter Try.func31, Try.ntmps31
    go_wp2_with fail
    refine HC1.out.mono ?_; rintro e w1 ⟨rfl, hg1⟩
    have HG1 := Lib.hid hg1
    clear hg1 HC1
    go_wp2
    go_ret2
    exact ⟨⟨_, rfl, Own.nil _ _ _⟩, HG1.out⟩
end Go.Proofs.Ytgjlcmheipmmlaa
