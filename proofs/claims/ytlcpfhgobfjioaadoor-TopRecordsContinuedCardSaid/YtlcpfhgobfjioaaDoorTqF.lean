/- T4: TopRecordsContinued. -/
import Derived.Test.YtlcpfhgobfjioaaDoorTqE
set_option linter.unusedVariables false
set_option linter.unusedSimpArgs false
namespace Go.Proofs.YtlcpfhgobfjioaaDoor
open Go.RowKit Go.Shelf
open Z Rc
theorem parts2E {W : World} {a b : Option Addr} {x y : List E} {c d : Nat} (hx : RdE W a x) (hy : RdE W b y) (ha : a = none → c = 0) (hb : b = none → d = 0) (ty : TypeId) : PartsE (W.alloc (.cells #[.slice a x.length c, .slice b y.length d] ty)) W.heap.size [x, y] := fun k hk => by
  match k, hk with
  | 0, _ => exact ⟨a, c, by rw [World.cell?_alloc_at _ _ _ _ rfl]; rfl, hx.gr ((Gr.refl W).alloc _), ha⟩
  | 1, _ => exact ⟨b, d, by rw [World.cell?_alloc_at _ _ _ _ rfl]; rfl, hy.gr ((Gr.refl W).alloc _), hb⟩
  | k + 2, hk => exact absurd hk (by simp only [List.length_cons, List.length_nil]; omega)
theorem tq_ext (b : ByteArray) (m : Nat) : (b.extract 0 m).data.toList = b.data.toList.take m := by simp
theorem cont_text {l r : List E} {S T : ByteArray} {m j : Nat} (hS : S.data.toList = joB l) (hT : T.data.toList = joB r) (hm : (joB (l.take j)).length ≤ m) : ((S.extract 0 m).extract 0 (joB (l.take j)).length ++ T).data.toList = joB (l.take j ++ r) := by
  rw [ByteArray.data_append, Array.toList_append, tq_ext, tq_ext, hS, hT, List.take_take, Nat.min_eq_left hm, joB_append]
  congr 1
  conv => lhs; arg 2; rw [← List.take_append_drop j l, joB_append]
  exact List.take_left
set_option maxHeartbeats 4000000 in
set_option maxRecDepth 100000 in
theorem top_TopRecordsContinued (a : Option Addr) (l : List E) (cap : Nat) (b : Option Addr) (r : List E) (cap2 : Nat) (cut : Int) (w : World) (hr : RdE w a l) (hl : l.length ≤ cap) (hc : cap ≤ maxLen) (hz : ∀ x ∈ l, x.2.size ≤ maxLen)
    (hr2 : RdE w b r) (hl2 : r.length ≤ cap2) (hc2 : cap2 ≤ maxLen) (hz2 : ∀ x ∈ r, x.2.size ≤ maxLen) (hb : b = none → cap2 = 0) (hcut : 0 ≤ cut ∧ cut ≤ 65535) :
    Calls Tryd.prog 6 #[.slice a l.length cap, .slice b r.length cap2, .int .u16 cut] w fun e w' => e = .returned (.bool true) ∧ Gr w w' := by
  have PR := Lib.hid top_playRecords
  have PE := Lib.hid (fun w (hr : RdE w a l) => top_playEntries a l cap w hr hl hc hz)
  have PE2 := Lib.hid (fun w (hr : RdE w b r) => top_playEntries b r cap2 w hr hl2 hc2 hz2)
  have HR0 := Lib.hid hr
  have HQ0 := Lib.hid hr2
  have SM := Lib.hid (tq_small (l := l))
  have SM2 := Lib.hid (tq_small (l := r))
  have HB := Lib.hid hb
  obtain ⟨n, hn⟩ : ∃ n, l.length = n := ⟨_, rfl⟩
  obtain ⟨n2, hn2⟩ : ∃ n, r.length = n := ⟨_, rfl⟩
  have HN := Lib.hid hn
  have HN2 := Lib.hid hn2
  rw [hn] at PE hl ⊢
  rw [hn2] at PE2 hl2 ⊢
  unfold maxLen at hc hc2
  clear hr hn hz hr2 hn2 hz2 hb
  cases hs : smallB l
  · rw [hs] at PE
    clear hs SM SM2
    go_enter Tryd.func6, Tryd.ntmps6
    go_wp2_with fail
    refine (PE.out _ HR0.out).mono ?_; rintro e w1 ⟨rfl, hg⟩
    have HG1 := Lib.hid hg
    clear hg
    go_wp2_with fail
    refine (PR.out _).mono ?_; rintro e w2 ⟨rfl, hg⟩
    have HG2 := Lib.hid (Gr.trans HG1.out hg)
    clear hg
    go_wp2
    go_ret
    exact ⟨rfl, HG2.out⟩
  · rw [hs] at PE
    obtain ⟨s1, s2, s3, s4⟩ := SM.out hs
    rw [HN.out] at s1 s3
    have HCK := Lib.hid s2
    have HSZ := Lib.hid s4
    clear hs SM s2 s4
    cases hs2 : smallB r
    · rw [hs2] at PE2
      clear hs2 SM2
      go_enter Tryd.func6, Tryd.ntmps6
      go_wp2_with fail
      refine (PE.out _ HR0.out).mono ?_; rintro e w1 ⟨rfl, hg⟩
      have HG1 := Lib.hid hg
      have HQ1 := Lib.hid (HQ0.out.gr hg)
      clear hg
      go_wp2_with fail
      refine (PE2.out _ HQ1.out).mono ?_; rintro e w2 ⟨rfl, hg⟩
      have HG2 := Lib.hid (Gr.trans HG1.out hg)
      clear hg
      go_wp2_with fail
      refine (PR.out _).mono ?_; rintro e w3 ⟨rfl, hg⟩
      have HG3 := Lib.hid (Gr.trans HG2.out hg)
      clear hg
      go_wp2
      go_ret
      exact ⟨rfl, HG3.out⟩
    · rw [hs2] at PE2
      obtain ⟨s5, s6, s7, s8⟩ := SM2.out hs2
      rw [HN2.out] at s5 s7
      have HCK2 := Lib.hid s6
      have J1 := Lib.hid (fun w (h : RdE w a l) => rc_Join a l cap w h (by rw [HN.out]; omega) (fun x hx => Nat.le_trans (HSZ.out x hx) (by unfold maxLen; omega)))
      have J2 := Lib.hid (fun w (h : RdE w b r) => rc_Join b r cap2 w h (by rw [HN2.out]; omega) (fun x hx => Nat.le_trans (s8 x hx) (by unfold maxLen; omega)))
      unfold joinE xV at J1 J2
      rw [joE_ok.2 HCK.out, if_neg (by decide), HN.out] at J1
      rw [joE_ok.2 HCK2.out, if_neg (by decide), HN2.out] at J2
      simp only at J1 J2
      obtain ⟨S, hS⟩ : ∃ S, str (joB l) = S := ⟨_, rfl⟩
      obtain ⟨T, hT⟩ : ∃ T, str (joB r) = T := ⟨_, rfl⟩
      have hSz : S.size = (joB l).length := by rw [← hS, str_sz]
      have hTz : T.size = (joB r).length := by rw [← hT, str_sz]
      have hSd : S.data.toList = joB l := by rw [← hS]; exact data_str _
      have hTd : T.data.toList = joB r := by rw [← hT]; exact data_str _
      rw [hS] at J1
      rw [hT] at J2
      have hSle : S.size ≤ 6100 := by omega
      have hTle : T.size ≤ 6100 := by omega
      obtain ⟨m, hm⟩ : ∃ m : Nat, cut % ((S.size : Int) + 1) = (m : Int) := ⟨(cut % ((S.size : Int) + 1)).toNat, by rw [Int.toNat_of_nonneg]; exact Int.emod_nonneg _ (by omega)⟩
      have hmt : cut.tmod ((S.size : Int) + 1) = (m : Int) := by rw [Int.tmod_eq_emod_of_nonneg hcut.1]; exact hm
      have hmS : m ≤ S.size := by
        have := Int.emod_lt_of_pos cut (show (0 : Int) < (S.size : Int) + 1 by omega)
        omega
      obtain ⟨j, hjn, hje, hal⟩ := al_torn l HCK.out m (by omega)
      have hj20 : j ≤ 20 := by have := HN.out; omega
      have hn220 : r.length ≤ 20 := by rw [HN2.out]; omega
      have hct := cont_text (r := r) (T := T) hSd hTd hje
      have hx1 : (S.extract 0 m).size = m := by rw [ByteArray.size_extract]; omega
      have hall := al_join0 (l.take j ++ r) (fun x hx => by
        rcases List.mem_append.1 hx with hx | hx
        · exact HCK.out x (List.mem_of_mem_take hx)
        · exact HCK2.out x hx)
      have hlj : (l.take j).length = j := by rw [List.length_take]; omega
      have hlen2 : (joB (l.take j ++ r)).length = (joB (l.take j)).length + T.size := by rw [joB_append, List.length_append, hTz]
      rw [hlen2] at hall
      obtain ⟨f3, hf3⟩ : ∃ f, (if (joB (l.take j)).length = m then (0 : Int) else 20) = f := ⟨_, rfl⟩
      rw [hf3] at hal
      have A1 := Lib.hid (fun w => rc_All2 (S.extract 0 m) w (by omega))
      rw [tq_ext, hSd, hal] at A1
      simp only [hlj] at A1
      have hsz2 : ((S.extract 0 m).extract 0 (joB (l.take j)).length ++ T).size ≤ 100000 := by rw [ByteArray.size_append, ByteArray.size_extract, hx1]; omega
      have A2 := Lib.hid (fun w => rc_All2 ((S.extract 0 m).extract 0 (joB (l.take j)).length ++ T) w hsz2)
      rw [hct, hall] at A2
      simp only [List.length_append, hlj, HN2.out] at A2
      have CC := Lib.hid (fun w p (h : PartsE w p [l.take j, r]) => sl_ConcatE p [l.take j, r] 2 w h (by simp) (by simp only [List.flatten_cons, List.flatten_nil, List.append_nil, List.length_append, hlj]; omega))
      simp only [List.flatten_cons, List.flatten_nil, List.append_nil] at CC
      have EQ1 := Lib.hid (fun (w : World) (a1 a2 : Option Addr) (c1 c2 : Nat) (h1 : RdE w a1 (l.take j ++ r)) (h2 : RdE w a2 (l.take j ++ r)) => sl_SameE (ca := c1) (cb := c2) h1 h2 (by rw [List.length_append, hlj]; omega))
      have EQ2 := Lib.hid (fun (w : World) (a1 : Option Addr) (c1 : Nat) (h1 : RdE w a1 (l.take j)) (h2 : RdE w a (l.take j)) => sl_SameE (ca := c1) (cb := cap) h1 h2 (by rw [hlj]; omega))
      simp only [List.length_append, hlj, HN2.out] at EQ1
      rw [hlj] at EQ2
      have P2 := Lib.hid (fun (W : World) (a1 : Option Addr) (c1 : Nat) (h1 : RdE W a1 (l.take j)) (h2 : RdE W b r) (h3 : a1 = none → c1 = 0) => parts2E (c := c1) (d := cap2) h1 h2 h3 HB.out 60)
      rw [hlj, HN2.out] at P2
      have hjn2 : j ≤ n := by rw [← HN.out]; exact hjn
      have haddX : ∀ w, (Op.stringOp .add ((S.extract 0 m).extract 0 (joB (l.take j)).length) T).run Tryd.prog w = .ok (.string ((S.extract 0 m).extract 0 (joB (l.take j)).length ++ T)) w := fun w => run_string_add_sum _ _ _ (by rw [ByteArray.size_append] at hsz2; omega)
      obtain ⟨en, hen⟩ : ∃ en, (joB (l.take j)).length = en := ⟨_, rfl⟩
      rw [hen] at A1 A2 haddX hje
      have HLJ := Lib.hid hlj
      clear hn220
      clear hs2 SM2 s6 s8 hall hal hct hf3 hlen2 hSd hTd hS hT hSz hTz s3 s7 hen hm hjn hlj hsz2
      go_enter Tryd.func6, Tryd.ntmps6
      go_wp2_with fail
      refine (PE.out _ HR0.out).mono ?_; rintro e w1 ⟨rfl, hg⟩
      have HG1 := Lib.hid hg
      have HR1 := Lib.hid (HR0.out.gr hg)
      have HQ1 := Lib.hid (HQ0.out.gr hg)
      clear hg
      go_wp2_with fail
      refine (PE2.out _ HQ1.out).mono ?_; rintro e w2 ⟨rfl, hg⟩
      have HG2 := Lib.hid (Gr.trans HG1.out hg)
      have HR2 := Lib.hid (HR1.out.gr hg)
      have HQ2 := Lib.hid (HQ1.out.gr hg)
      clear hg HR1 HQ1
      go_wp2_with fail
      refine (J1.out _ HR2.out).mono ?_; rintro e w3 ⟨rfl, hg⟩
      have HG3 := Lib.hid (Gr.trans HG2.out hg)
      have HR3 := Lib.hid (HR2.out.gr hg)
      have HQ3 := Lib.hid (HQ2.out.gr hg)
      clear hg HR2 HQ2
      go_wp2_with fail
      refine (J2.out _ HQ3.out).mono ?_; rintro e w4 ⟨rfl, hg⟩
      have HG4 := Lib.hid (Gr.trans HG3.out hg)
      have HR4 := Lib.hid (HR3.out.gr hg)
      have HQ4 := Lib.hid (HQ3.out.gr hg)
      clear hg HR3 HQ3
      go_wp2_with fail
      refine (A1.out _).mono ?_; rintro e w5 ⟨⟨a5, c5, rfl, h5, -, -, z5⟩, hg⟩
      have HG5 := Lib.hid (Gr.trans HG4.out hg)
      have HR5 := Lib.hid (HR4.out.gr hg)
      have HQ5 := Lib.hid (HQ4.out.gr hg)
      have HH5 := Lib.hid h5
      have HZ5 := Lib.hid z5
      clear hg HR4 HQ4 h5 z5
      go_wp2_with fail
      refine (A2.out _).mono ?_; rintro e w6 ⟨⟨a6, c6, rfl, h6, -, -, -⟩, hg⟩
      have HG6 := Lib.hid (Gr.trans HG5.out hg)
      have HR6 := Lib.hid (HR5.out.gr hg)
      have HQ6 := Lib.hid (HQ5.out.gr hg)
      have HH6 := Lib.hid (HH5.out.gr hg)
      have HA6 := Lib.hid h6
      clear hg HR5 HQ5 h6 HH5
      go_wp2_with fail
      refine (CC.out _ _ (P2.out _ a5 c5 HH6.out HQ6.out HZ5.out)).mono ?_; rintro e w7 ⟨v, rfl, ho, hg⟩
      obtain ⟨a7, c7, rfl, h7, -, -, -⟩ := ho.shape2
      have hgg := Gr.trans ((Gr.refl w6).alloc (.cells #[.slice a5 j c5, .slice b n2 cap2] 60)) hg
      have HG7 := Lib.hid (Gr.trans HG6.out hgg)
      have HR7 := Lib.hid (HR6.out.gr hgg)
      have HH7 := Lib.hid (HH6.out.gr hgg)
      have HA7 := Lib.hid (HA6.out.gr hgg)
      have HC7 := Lib.hid h7
      rw [List.length_append, HLJ.out, HN2.out]
      clear hg hgg ho h7 HG6 HR6 HH6 HA6 HQ6
      go_wp2_with fail
      refine (EQ1.out _ a6 a7 c6 c7 HA7.out HC7.out).mono ?_; rintro e w8 ⟨rfl, hg⟩
      have HG8 := Lib.hid (Gr.trans HG7.out hg)
      have HR8 := Lib.hid (HR7.out.gr hg)
      have HH8 := Lib.hid (HH7.out.gr hg)
      clear hg HG7 HR7 HH7 HA7 HC7
      go_wp2_with fail
      refine (EQ2.out _ a5 c5 HH8.out (tq_take HR8.out j)).mono ?_; rintro e w9 ⟨rfl, hg⟩
      have HG9 := Lib.hid (Gr.trans HG8.out hg)
      clear hg HG8 HR8 HH8
      go_wp2_with fail
      refine (PR.out _).mono ?_; rintro e w10 ⟨rfl, hg⟩
      have HG10 := Lib.hid (Gr.trans HG9.out hg)
      clear hg HG9
      go_wp2
      go_ret
      exact ⟨rfl, HG10.out⟩
end Go.Proofs.YtlcpfhgobfjioaaDoor
