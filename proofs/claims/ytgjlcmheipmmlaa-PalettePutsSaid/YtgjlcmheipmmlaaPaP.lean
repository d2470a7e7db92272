/- Law 15: Flat and Missing of the program. -/
import Derived.Test.YtgjlcmheipmmlaaPaO
set_option linter.unusedVariables false
set_option linter.unusedSimpArgs false
namespace Go.Proofs.Ytgjlcmheipmmlaa
open Go.RowKit
open Z
def bothR (l : List Pl) (es : List En) : Int := or2 (palR l) (entR es)
theorem bothR_zero {l : List Pl} {es : List En} : bothR l es = 0 ↔ palR l = 0 ∧ entR es = 0 := by
  unfold bothR or2; split <;> simp_all
def flatL (l : List Pl) (es : List En) : List En := if bothR l es = 0 then es.map (flatE l) else []
def missL (l : List Pl) (es : List En) : List Pr := if bothR l es = 0 then ((es.filter fun x => decide (0 < x.2.2.1)).filter fun x => (hueL l x.2.2.1 x.1 x.2.1).isNone).map (fun x => (x.1, x.2.1)) else []
set_option maxRecDepth 100000 in
set_option maxHeartbeats 2000000 in
theorem pl_Flat {al : Option Addr} {l : List Pl} {cl : Nat} {ae : Option Addr} {es : List En} {ce : Nat} (w : World) (hr : RdP w al l) (hlen : l.length ≤ 9223372036854775807) (hin : ∀ g ∈ l, g.2.length ≤ 9223372036854775807) (he : Rd shE w ae es) (hlen2 : es.length ≤ 9223372036854775807) :
    Calls Try.prog 30 #[.slice al l.length cl, .slice ae es.length ce] w fun e w' => (∃ v, e = .returned (.tuple #[v, .int .i64 (bothR l es)]) ∧ Own shE w.heap.size w' v (flatL l es)) ∧ Gr w w' := by
  have HC1 := Lib.hid (pl_Check (cap := cl) w hr hlen hin)
  have HC2 := Lib.hid (fun W (hW : Gr w W) => pl_Entries (cap := ce) W (he.gr hW) hlen2)
  have HO2 := Lib.hid (fun W => or2E_fresh (palR l) (entR es) W)
  by_cases h0 : bothR l es = 0
  · obtain ⟨hp0, he0⟩ := bothR_zero.1 h0
    have hul : flatL l es = es.map (flatE l) := if_pos h0
    have h4 := (entR_zero.1 he0).1
    rw [hp0] at HC1
    rw [he0] at HC2
    rw [hp0, he0, show or2 0 0 = 0 from rfl] at HO2
    rw [h0, hul]
    have HE := Lib.hid he
    have HRS := Lib.hid (fun x (hx : x ∈ es) W (hW : Gr w W) => pl_resolved (cap := cl) x W (hr.gr hW) hp0 (enE_le he0 x hx))
    obtain ⟨n, hn⟩ : ∃ n, n = es.length := ⟨_, rfl⟩
    have HN := Lib.hid hn
    rw [← hn] at h4 HC2 ⊢
    clear hr hlen hin he hlen2 h0 hul hp0 he0 hn
    generalize l.length = ml at *
    go_enter Try.func30, Try.ntmps30
    go_wp2_with fail
    refine HC1.out.mono ?_; rintro e w1 ⟨rfl, hg1⟩
    have HC3 := Lib.hid (HC2.out w1 hg1)
    have HG1 := Lib.hid hg1
    clear hg1 HC1 HC2
    go_wp2_with fail
    refine HC3.out.mono ?_; rintro e w2 ⟨rfl, hg2⟩
    have hg23 := (HG1.out.trans hg2).alloc (.cells #[.int .i64 0, .int .i64 0] 29)
    clear hg2 HC3 HG1
    go_wp2_with fail
    refine (HO2.out _).mono ?_; rintro e w3 ⟨rfl, hw3⟩
    rw [hw3] at hg23
    have HG3 := Lib.hid hg23
    clear hg23 hw3 HO2
    go_wp2
    go_loopw [7, 21] (fun ow i wr => ∃ j : Nat, i = .int .i64 j ∧ j ≤ n ∧ Hid (Own shE w.heap.size wr ow ((es.take j).map (flatE l))) ∧ Hid (Gr w wr)) (fun _ i _ => n - (intOf i).toNat)
    case atStart => exact ⟨0, rfl, Nat.zero_le _, Lib.hid (by simpa using Own.nil shE _ _), HG3⟩
    case round =>
      obtain ⟨j, rfl, hj, HO, HG⟩ := hrel
      by_cases hlt : j < n
      · have hjl : j < es.length := by rw [← HN.out]; exact hlt
        obtain ⟨b, o, rfl, c0, c1, c2, c3⟩ := en_cells (HE.out.gr HG.out) hjl
        have HTK := Lib.hid (show (es.take (j + 1)).map (flatE l) = (es.take j).map (flatE l) ++ [flatE l es[j]] by rw [List.take_succ_eq_append_getElem hjl, List.map_append]; rfl)
        have HLL := Lib.hid (show ((es.take j).map (flatE l)).length ≤ 4096 by rw [List.length_map, List.length_take]; omega)
        have HR1 := Lib.hid (HRS.out es[j] (List.getElem_mem hjl))
        generalize es[j] = x at *
        generalize flatE l x = y at *
        generalize (es.take j).map (flatE l) = xs at *
        have hxl := HLL.out
        obtain ⟨wa, hwa⟩ : ∃ wa, wa = wr.alloc (.cells #[.int .i64 x.1, .int .i64 x.2.1, .int .i64 x.2.2.1, .int .i64 x.2.2.2] 57) := ⟨_, rfl⟩
        have hga : Gr wr wa := by rw [hwa]; exact (Gr.refl wr).alloc _
        have HGa := Lib.hid (HG.out.trans hga)
        have HR2 := Lib.hid (HR1.out wa HGa.out)
        have HO2 := Lib.hid (HO.out.gr hga)
        go_wp2_with fail
        rw [← hwa]
        clear hwa hga HO HG c0 c1 c2 c3 HR1
        refine HR2.out.mono ?_; rintro e w5 ⟨rfl, hg5⟩
        have HO5 := Lib.hid (HO2.out.gr hg5)
        have HG5 := Lib.hid (HGa.out.trans hg5)
        clear hg5 HO2 HGa HR2
        go_wp2_with (at_builtin; refine push_s shE rfl _ _ rfl _ xs rfl HO5.out HG5.out y _ rfl rfl (by omega) ?_; rintro v6 w6 HO6 hg6; have HG6 := Lib.hid hg6; clear hg6)
        go_roundw
        case rel => exact ⟨j + 1, by go_num, by omega, Lib.hid (by rw [HTK.out]; exact HO6.out), HG6⟩
        case measure => simp [intOf]; omega
      · have hjn : j = es.length := by rw [← HN.out]; omega
        have ho := HO.out
        rw [hjn, List.take_length] at ho
        have HOe := Lib.hid ho
        clear HO ho hjn
        go_wp2
        go_ret2
        exact ⟨⟨_, rfl, HOe.out⟩, HG.out⟩
  · have hul : flatL l es = [] := if_neg h0
    have hz : (bothR l es == 0) = false := by simp [h0]
    rw [show or2 (palR l) (entR es) = bothR l es from rfl] at HO2
    rw [hul]
    clear hr hlen hin he hlen2 h0 hul
    generalize bothR l es = E at *
    generalize palR l = X at *
    generalize entR es = Y at *
    generalize l.length = ml at *
    generalize es.length = me at *
    go_enter Try.func30, Try.ntmps30
    go_wp2_with fail
    refine HC1.out.mono ?_; rintro e w1 ⟨rfl, hg1⟩
    have HC3 := Lib.hid (HC2.out w1 hg1)
    have HG1 := Lib.hid hg1
    clear hg1 HC1 HC2
    go_wp2_with fail
    refine HC3.out.mono ?_; rintro e w2 ⟨rfl, hg2⟩
    have HG2 := Lib.hid ((HG1.out.trans hg2).alloc (.cells #[.int .i64 X, .int .i64 Y] 29))
    clear hg2 HC3 HG1
    go_wp2_with fail
    refine (HO2.out _).mono ?_; rintro e w3 ⟨rfl, rfl⟩
    go_wp2
    go_ret2
    exact ⟨⟨_, rfl, Own.nil _ _ _⟩, HG2.out⟩
set_option maxRecDepth 100000 in
set_option maxHeartbeats 2000000 in
theorem pl_Missing {al : Option Addr} {l : List Pl} {cl : Nat} {ae : Option Addr} {es : List En} {ce : Nat} (w : World) (hr : RdP w al l) (hlen : l.length ≤ 9223372036854775807) (hin : ∀ g ∈ l, g.2.length ≤ 9223372036854775807) (he : Rd shE w ae es) (hlen2 : es.length ≤ 9223372036854775807) :
    Calls Try.prog 32 #[.slice al l.length cl, .slice ae es.length ce] w fun e w' => (∃ v, e = .returned (.tuple #[v, .int .i64 (bothR l es)]) ∧ Own shR w.heap.size w' v (missL l es)) ∧ Gr w w' := by
  have HC1 := Lib.hid (pl_Check (cap := cl) w hr hlen hin)
  have HC2 := Lib.hid (fun W (hW : Gr w W) => pl_Entries (cap := ce) W (he.gr hW) hlen2)
  have HO2 := Lib.hid (fun W => or2E_fresh (palR l) (entR es) W)
  by_cases h0 : bothR l es = 0
  · obtain ⟨hp0, he0⟩ := bothR_zero.1 h0
    have hul : missL l es = ((es.filter fun x => decide (0 < x.2.2.1)).filter fun x => (hueL l x.2.2.1 x.1 x.2.1).isNone).map (fun x => (x.1, x.2.1)) := if_pos h0
    have h4 := (entR_zero.1 he0).1
    rw [hp0] at HC1
    rw [he0] at HC2
    rw [hp0, he0, show or2 0 0 = 0 from rfl] at HO2
    rw [h0, hul]
    have HK := Lib.hid (fun W (hW : Gr w W) => pl_keptE (cap := ce) W (he.gr hW) h4 (enE_le he0))
    have HH := Lib.hid (fun (x : En) W (hW : Gr w W) => pl_hueOf (cap := cl) x.2.2.1 x.1 x.2.1 W (hr.gr hW) hp0)
    have hfl : (es.filter fun x => decide (0 < x.2.2.1)).length ≤ 4096 := Nat.le_trans (List.length_filter_le _ _) h4
    clear hr hlen hin he hlen2 h0 hul hp0 he0 h4
    generalize es.filter (fun x => decide (0 < x.2.2.1)) = F at *
    generalize l.length = ml at *
    generalize es.length = me at *
    go_enter Try.func32, Try.ntmps32
    go_wp2_with fail
    refine HC1.out.mono ?_; rintro e w1 ⟨rfl, hg1⟩
    have HC3 := Lib.hid (HC2.out w1 hg1)
    have HG1 := Lib.hid hg1
    clear hg1 HC1 HC2
    go_wp2_with fail
    refine HC3.out.mono ?_; rintro e w2 ⟨rfl, hg2⟩
    have hg23 := (HG1.out.trans hg2).alloc (.cells #[.int .i64 0, .int .i64 0] 29)
    clear hg2 HC3 HG1
    go_wp2_with fail
    refine (HO2.out _).mono ?_; rintro e w3 ⟨rfl, hw3⟩
    rw [hw3] at hg23
    have HG3 := Lib.hid hg23
    clear hg23 hw3 HO2
    have HK3 := Lib.hid (HK.out w3 HG3.out)
    clear HK
    go_wp2_with fail
    refine HK3.out.mono ?_; rintro e w4 ⟨⟨v, rfl, ho⟩, hg4⟩
    obtain ⟨fa, fc, rfl, hfr, hf1, hf2, -⟩ := ho.shape
    have HFR := Lib.hid hfr
    have HG4 := Lib.hid (HG3.out.trans hg4)
    obtain ⟨n, hn⟩ : ∃ n, n = F.length := ⟨_, rfl⟩
    have HN := Lib.hid hn
    rw [← hn] at hfl hf1 ⊢
    unfold maxLen at hf2
    clear hn ho hg4 hfr HK3 HG3
    go_wp2
    go_loopw [7, 24] (fun ow i wr => ∃ j : Nat, i = .int .i64 j ∧ j ≤ n ∧ Hid (Own shR w4.heap.size wr ow (((F.take j).filter fun x => (hueL l x.2.2.1 x.1 x.2.1).isNone).map (fun x => (x.1, x.2.1)))) ∧ Hid (Gr w4 wr)) (fun _ i _ => n - (intOf i).toNat)
    case atStart => exact ⟨0, rfl, Nat.zero_le _, Lib.hid (by simpa using Own.nil shR _ _), Lib.hid (Gr.refl _)⟩
    case round =>
      obtain ⟨j, rfl, hj, HO, HG⟩ := hrel
      by_cases hlt : j < n
      · have hjl : j < F.length := by rw [← HN.out]; exact hlt
        obtain ⟨b, o, rfl, c0, c1, c2, c3⟩ := en_cells (HFR.out.gr HG.out) hjl
        have HTK := Lib.hid (show ((F.take (j + 1)).filter fun x => (hueL l x.2.2.1 x.1 x.2.1).isNone).map (fun x => (x.1, x.2.1)) = ((F.take j).filter fun x => (hueL l x.2.2.1 x.1 x.2.1).isNone).map (fun x => (x.1, x.2.1)) ++ (if (hueL l F[j].2.2.1 F[j].1 F[j].2.1).isNone = true then [(F[j].1, F[j].2.1)] else []) by
          rw [List.take_succ_eq_append_getElem hjl, List.filter_append, List.map_append, List.filter_cons]
          congr 1
          split <;> rfl)
        have HLL := Lib.hid (show (((F.take j).filter fun x => (hueL l x.2.2.1 x.1 x.2.1).isNone).map (fun x => (x.1, x.2.1))).length ≤ 4096 by
          rw [List.length_map]
          exact Nat.le_trans (List.length_filter_le _ _) (by rw [List.length_take]; omega))
        have HH1 := Lib.hid (HH.out F[j])
        generalize F[j] = x at *
        generalize hueL l x.2.2.1 x.1 x.2.1 = V at *
        generalize ((F.take j).filter fun x => (hueL l x.2.2.1 x.1 x.2.1).isNone).map (fun x => (x.1, x.2.1)) = xs at *
        have hxl := HLL.out
        obtain ⟨wa, hwa⟩ : ∃ wa, wa = wr.alloc (.cells #[.int .i64 x.1, .int .i64 x.2.1, .int .i64 x.2.2.1, .int .i64 x.2.2.2] 57) := ⟨_, rfl⟩
        obtain ⟨p, hp⟩ : ∃ p, p = wr.heap.size := ⟨_, rfl⟩
        have hga : Gr wr wa := by rw [hwa]; exact (Gr.refl wr).alloc _
        have HBX := Lib.hid (show Blk shE wa p x by rw [hwa, hp]; exact Blk.new shE wr x)
        have HGa := Lib.hid (HG.out.trans hga)
        have HH2 := Lib.hid (HH1.out wa (HG4.out.trans HGa.out))
        have HO2 := Lib.hid (HO.out.gr hga)
        go_wp2_with fail
        rw [← hwa, ← hp]
        clear hwa hp hga HO HG c0 c1 c2 c3 HH1
        refine HH2.out.mono ?_; rintro e w5 ⟨⟨h, rfl, -⟩, hg5⟩
        have HO5 := Lib.hid (HO2.out.gr (hg5.alloc (.cells #[.int .i64 h.1, .int .i64 h.2.1, .int .i64 h.2.2] 110)))
        have HG5 := Lib.hid (HGa.out.trans (hg5.alloc (.cells #[.int .i64 h.1, .int .i64 h.2.1, .int .i64 h.2.2] 110)))
        have hbx := HBX.out.gr (hg5.alloc (.cells #[.int .i64 h.1, .int .i64 h.2.1, .int .i64 h.2.2] 110))
        have f0 := hbx.cell (k := 0) rfl
        have f1 := hbx.cell (k := 1) rfl
        clear hg5 HO2 HGa HH2 HBX hbx
        cases V with
        | some y =>
          have HT2 := Lib.hid (show _ = xs from HTK.out.trans (List.append_nil xs))
          clear HTK
          go_wp2
          go_roundw
          case rel => exact ⟨j + 1, by go_num, by omega, Lib.hid (by rw [HT2.out]; exact HO5.out), HG5⟩
          case measure => simp [intOf]; omega
        | none =>
          have HT2 := Lib.hid (show _ = xs ++ [(x.1, x.2.1)] from HTK.out)
          clear HTK
          go_wp2_with (at_builtin; refine push_s shR rfl _ _ rfl _ xs rfl HO5.out HG5.out (x.1, x.2.1) _ (World.size_alloc _ _).symm rfl (by omega) ?_; rintro v6 w6 HO6 hg6; have HG6 := Lib.hid hg6; clear hg6)
          go_roundw
          case rel => exact ⟨j + 1, by go_num, by omega, Lib.hid (by rw [HT2.out]; exact HO6.out), HG6⟩
          case measure => simp [intOf]; omega
      · have hjn : j = F.length := by rw [← HN.out]; omega
        have ho := HO.out
        rw [hjn, List.take_length] at ho
        have HOe := Lib.hid (ho.low HG4.out.size)
        have HGe := Lib.hid (HG4.out.trans HG.out)
        clear HO ho hjn
        go_wp2
        go_ret2
        exact ⟨⟨_, rfl, HOe.out⟩, HGe.out⟩
  · have hul : missL l es = [] := if_neg h0
    have hz : (bothR l es == 0) = false := by simp [h0]
    rw [show or2 (palR l) (entR es) = bothR l es from rfl] at HO2
    rw [hul]
    clear hr hlen hin he hlen2 h0 hul
    generalize bothR l es = E at *
    generalize palR l = X at *
    generalize entR es = Y at *
    generalize l.length = ml at *
    generalize es.length = me at *
    go_enter Try.func32, Try.ntmps32
    go_wp2_with fail
    refine HC1.out.mono ?_; rintro e w1 ⟨rfl, hg1⟩
    have HC3 := Lib.hid (HC2.out w1 hg1)
    have HG1 := Lib.hid hg1
    clear hg1 HC1 HC2
    go_wp2_with fail
    refine HC3.out.mono ?_; rintro e w2 ⟨rfl, hg2⟩
    have HG2 := Lib.hid ((HG1.out.trans hg2).alloc (.cells #[.int .i64 X, .int .i64 Y] 29))
    clear hg2 HC3 HG1
    go_wp2_with fail
    refine (HO2.out _).mono ?_; rintro e w3 ⟨rfl, rfl⟩
    go_wp2
    go_ret2
    exact ⟨⟨_, rfl, Own.nil _ _ _⟩, HG2.out⟩
end Go.Proofs.Ytgjlcmheipmmlaa
