/- Law 15: Both, put, Referred, Used, Flat and Missing of the reference. -/
import Derived.Test.YtgjlcmheipmmlaaPaP
set_option linter.unusedVariables false
set_option linter.unusedSimpArgs false
namespace Go.Proofs.Ytgjlcmheipmmlaa
open Go.RowKit
open Z
set_option maxRecDepth 100000 in
set_option maxHeartbeats 1000000 in
theorem r15_Both {al : Option Addr} {l : List Pl} {cl : Nat} {ae : Option Addr} {es : List En} {ce : Nat} (w : World) (hr : RdP w al l) (hlen : l.length ≤ 9223372036854775807) (hin : ∀ g ∈ l, g.2.length ≤ 9223372036854775807) (he : Rd shE w ae es) (hlen2 : es.length ≤ 9223372036854775807) :
    Calls Try.prog 74 #[.slice al l.length cl, .slice ae es.length ce] w fun e w' => e = .returned (.int .i64 (bothR l es)) ∧ Gr w w' := by
  have HC1 := Lib.hid (r15_Check (cap := cl) w hr hlen hin)
  have HC2 := Lib.hid (fun W (hW : Gr w W) => r15_Entries (cap := ce) W (he.gr hW) hlen2)
  have HB := Lib.hid (show bothR l es = if palR l = 0 then entR es else palR l from rfl)
  clear hr hlen hin he hlen2
  generalize bothR l es = B at *
  generalize palR l = X at *
  generalize entR es = Y at *
  generalize l.length = ml at *
  generalize es.length = me at *
  by_cases hX : X = 0
  · have hB : B = Y := by rw [HB.out, if_pos hX]
    subst hB hX
    clear HB
    go_enter Try.func74, Try.ntmps74
    go_wp2_with fail
    refine HC1.out.mono ?_; rintro e w1 ⟨rfl, hg1⟩
    have HC3 := Lib.hid (HC2.out w1 hg1)
    have HG1 := Lib.hid hg1
    clear hg1 HC1 HC2
    go_wp2_with fail
    refine HC3.out.mono ?_; rintro e w2 ⟨rfl, hg2⟩
    have HG2 := Lib.hid (HG1.out.trans hg2)
    clear hg2
    go_wp2
    go_ret
    exact ⟨rfl, HG2.out⟩
  · have hB : B = X := by rw [HB.out, if_neg hX]
    have hz : (X == 0) = false := by simp [hX]
    subst hB
    clear HB hX HC2
    go_enter Try.func74, Try.ntmps74
    go_wp2_with fail
    refine HC1.out.mono ?_; rintro e w1 ⟨rfl, hg1⟩
    have HG1 := Lib.hid hg1
    clear hg1
    go_wp2
    go_ret
    exact ⟨rfl, HG1.out⟩
theorem int_cells {w : World} {a : Option Addr} {l : List Int} (h : Rd shI w a l) {k : Nat} (hk : k < l.length) : ∃ b o, a = some ⟨b, o, none⟩ ∧ w.cell? ⟨b, o + k, none⟩ = some (.int .i64 l[k]) := by
  obtain ⟨b, o, e, hc⟩ := h k hk
  have h0 := hc 0 _ rfl
  rw [show o + k * shI.sz + 0 = o + k by show o + k * 1 + 0 = o + k; omega] at h0
  exact ⟨b, o, e, h0⟩
/-- a slice of ints that a call tells -/
def IntsRet (w : World) (e : Ending) (l : List Int) : Prop := ∃ a cap, e = .returned (.slice a l.length cap) ∧ Rd shI w a l ∧ l.length ≤ cap ∧ cap ≤ maxLen
/-- what put has made of the first ones -/
def insP (d : Bool) (l : List Int) (n : Int) : List Int := if d = true then insN l n else l
set_option maxRecDepth 100000 in
set_option maxHeartbeats 4000000 in
theorem r15_put {a : Option Addr} {l : List Int} {cap : Nat} (n : Int) (w : World) (hr : Rd shI w a l) (hu : up l) (hlen : l.length ≤ 100000) (hcap : l.length ≤ cap) (hcm : cap ≤ maxLen) :
    Calls Try.prog 91 #[.slice a l.length cap, .int .i64 n] w fun e w' => IntsRet w' e (insN l n) ∧ Gr w w' := by
  have HR := Lib.hid hr
  have HU := Lib.hid hu
  have HCP := Lib.hid (And.intro hcap hcm)
  obtain ⟨R, hR⟩ : ∃ R, insN l n = R := ⟨_, rfl⟩
  rw [hR]
  have HRR := Lib.hid hR
  obtain ⟨m, hm⟩ : ∃ m, m = l.length := ⟨_, rfl⟩
  have HM := Lib.hid hm
  rw [← hm] at hlen HCP ⊢
  clear hr hu hR hm hcap hcm
  go_enter Try.func91, Try.ntmps91
  go_wp2
  go_loopw [5, 6, 7] (fun ow dw i wr => ∃ (j : Nat) (d : Bool), i = .int .i64 j ∧ dw = .bool d ∧ j ≤ m ∧ Hid (Own shI w.heap.size wr ow (insP d (l.take j) n)) ∧ Hid ((d = true → ∃ x ∈ l.take j, n < x) ∧ (d = false → ∀ x ∈ l.take j, x < n)) ∧ Hid (Gr w wr)) (fun _ _ i _ => m - (intOf i).toNat)
  case atStart => exact ⟨0, false, rfl, rfl, Nat.zero_le _, Lib.hid (by simpa [insP] using Own.nil shI _ _), Lib.hid ⟨fun h => (by cases h), fun _ x hx => by simp at hx⟩, Lib.hid (Gr.refl _)⟩
  case round =>
    obtain ⟨j, d, rfl, rfl, hj, HO, HD, HG⟩ := hrel
    by_cases hlt : j < m
    · have hjl : j < l.length := by rw [← HM.out]; exact hlt
      obtain ⟨b, o, rfl, c0w⟩ := int_cells HR.out hjl
      have c0 := gr_cell HG.out c0w
      have HTK := Lib.hid (show l.take (j + 1) = l.take j ++ [l[j]] from List.take_succ_eq_append_getElem hjl)
      have HJX := Lib.hid (show ∀ y ∈ l.take j, y < l[j] from fun y hy => by
        obtain ⟨k, hk, rfl⟩ := List.getElem_of_mem hy
        rw [List.length_take] at hk
        rw [List.getElem_take]
        exact (List.pairwise_iff_getElem.1 HU.out) k j (by omega) hjl (by omega))
      have HIN := Lib.hid (show l[j] ∈ l from List.getElem_mem hjl)
      have HLL := Lib.hid (show (insP d (l.take j) n).length ≤ 100001 by
        unfold insP
        have h2 : (l.take j).length ≤ 100000 := by rw [List.length_take]; omega
        split
        · unfold insN
          rw [List.length_append, List.length_cons]
          have h1 : ((l.take j).filter fun x => decide (x < n)).length + ((l.take j).filter fun x => decide (n < x)).length ≤ (l.take j).length := by
            generalize l.take j = q
            induction q with
            | nil => simp
            | cons a r ih =>
              rw [List.filter_cons, List.filter_cons, List.length_cons]
              by_cases h3 : a < n
              · rw [if_pos (by simpa using h3), if_neg (by simp; omega), List.length_cons]; omega
              · rw [if_neg (by simpa using h3)]
                split
                · rw [List.length_cons]; omega
                · omega
          omega
        · omega)
      have hxl := HLL.out
      generalize l[j] = x at *
      by_cases hx : x = n
      · subst hx
        have hR : R = l := by rw [← HRR.out]; exact insN_has HU.out HIN.out
        have HRf := Lib.hid (HR.out.gr HG.out)
        have HCP2 := Lib.hid (show R.length ≤ cap ∧ cap ≤ maxLen by rw [hR, ← HM.out]; exact HCP.out)
        have HM2 := Lib.hid (show m = R.length by rw [hR]; exact HM.out)
        rw [← hR] at HRf
        clear HRR hR HO HD HTK HJX HIN HLL hxl
        go_wp2
        go_ret
        exact ⟨⟨_, cap, by rw [← HM2.out]; rfl, HRf.out, HCP2.out.1, HCP2.out.2⟩, HG.out⟩
      · have hxz : (x == n) = false := by simp [hx]
        by_cases hnx : n < x
        · cases d
          · have HT2 := Lib.hid (show insP true (l.take (j + 1)) n = l.take j ++ [n] ++ [x] by rw [HTK.out]; exact insN_low (HD.out.2 rfl) hnx)
            have HD2 := Lib.hid (show ((true = true → ∃ y ∈ l.take (j + 1), n < y) ∧ (true = false → ∀ y ∈ l.take (j + 1), y < n)) from ⟨fun _ => ⟨x, by rw [HTK.out]; simp, hnx⟩, fun h => (by cases h)⟩)
            have HO2 := Lib.hid (show Own shI w.heap.size wr u5 (l.take j) from HO.out)
            have hxl2 : (l.take j).length ≤ 100001 := hxl
            clear HO HD HTK HJX HIN HLL hxl hx
            generalize l.take j = q at *
            go_wp2_with (at_builtin; first | (refine push_s shI rfl _ _ rfl _ q rfl HO2.out HG.out n _ rfl rfl (by omega) ?_; rintro v5 w5 HO5 hg5; have HG5 := Lib.hid hg5; have c5 := gr_cell hg5 c0w; clear hg5) | (refine push_s shI rfl _ _ rfl _ (q ++ [n]) rfl HO5.out HG5.out x _ rfl rfl (by simp; omega) ?_; rintro v6 w6 HO6 hg6; have HG6 := Lib.hid hg6; clear hg6))
            go_roundw
            case rel => exact ⟨j + 1, true, by go_num, rfl, by omega, Lib.hid (by rw [HT2.out]; exact HO6.out), HD2, HG6⟩
            case measure => simp [intOf]; omega
          · have HT2 := Lib.hid (show insP true (l.take (j + 1)) n = insP true (l.take j) n ++ [x] by rw [HTK.out]; exact insN_more hnx)
            have HD2 := Lib.hid (show ((true = true → ∃ y ∈ l.take (j + 1), n < y) ∧ (true = false → ∀ y ∈ l.take (j + 1), y < n)) from ⟨fun _ => ⟨x, by rw [HTK.out]; simp, hnx⟩, fun h => (by cases h)⟩)
            clear HD HTK HJX HIN HLL hx
            generalize insP true (l.take j) n = q at *
            go_wp2_with (at_builtin; refine push_s shI rfl _ _ rfl _ q rfl HO.out HG.out x _ rfl rfl (by omega) ?_; rintro v6 w6 HO6 hg6; have HG6 := Lib.hid hg6; clear hg6)
            go_roundw
            case rel => exact ⟨j + 1, true, by go_num, rfl, by omega, Lib.hid (by rw [HT2.out]; exact HO6.out), HD2, HG6⟩
            case measure => simp [intOf]; omega
        · have hxn : x < n := by omega
          have hd : d = false := by
            cases d with
            | false => rfl
            | true =>
              obtain ⟨y, hy, hny⟩ := HD.out.1 rfl
              have := HJX.out y hy
              omega
          subst hd
          have HT2 := Lib.hid (show insP false (l.take (j + 1)) n = insP false (l.take j) n ++ [x] from HTK.out)
          have HD2 := Lib.hid (show ((false = true → ∃ y ∈ l.take (j + 1), n < y) ∧ (false = false → ∀ y ∈ l.take (j + 1), y < n)) from ⟨fun h => (by cases h), fun _ y hy => by
            rw [HTK.out, List.mem_append, List.mem_singleton] at hy
            rcases hy with hy | hy
            · exact HD.out.2 rfl y hy
            · rw [hy]; exact hxn⟩)
          clear HD HTK HJX HIN HLL hx
          generalize insP false (l.take j) n = q at *
          go_wp2_with (at_builtin; refine push_s shI rfl _ _ rfl _ q rfl HO.out HG.out x _ rfl rfl (by omega) ?_; rintro v6 w6 HO6 hg6; have HG6 := Lib.hid hg6; clear hg6)
          go_roundw
          case rel => exact ⟨j + 1, false, by go_num, rfl, by omega, Lib.hid (by rw [HT2.out]; exact HO6.out), HD2, HG6⟩
          case measure => simp [intOf]; omega
    · have hjm : j = l.length := by rw [← HM.out]; omega
      have htk : l.take j = l := by rw [hjm, List.take_length]
      rw [htk] at HO HD
      cases d
      · have hR : R = l ++ [n] := by rw [← HRR.out]; exact insN_end (HD.out.2 rfl)
        have HO2 := Lib.hid (show Own shI w.heap.size wr u5 l from HO.out)
        have hll : l.length ≤ 100000 := by rw [← HM.out]; exact hlen
        clear HO HD hjm htk
        go_wp2_with (at_builtin; refine push_s shI rfl _ _ rfl _ l rfl HO2.out HG.out n _ rfl rfl (by omega) ?_; rintro v6 w6 HO6 hg6; have HG6 := Lib.hid hg6; clear hg6)
        obtain ⟨va, vc, rfl, hv1, hv2, hv3, -⟩ := HO6.out.shape
        rw [← hR] at hv1 hv2 HO6 ⊢
        have HV := Lib.hid (And.intro hv1 (And.intro hv2 hv3))
        clear hv1 hv2 hv3 HO6 HO2 hR hll
        go_wp2
        go_ret
        exact ⟨⟨va, vc, rfl, HV.out⟩, HG6.out⟩
      · have hR : insP true l n = R := HRR.out
        rw [hR] at HO
        obtain ⟨va, vc, rfl, hv1, hv2, hv3, -⟩ := HO.out.shape
        have HV := Lib.hid (And.intro hv1 (And.intro hv2 hv3))
        clear hv1 hv2 hv3 HO HD hR hjm htk
        go_wp2
        go_ret
        exact ⟨⟨va, vc, rfl, HV.out⟩, HG.out⟩
theorem insN_len (l : List Int) (n : Int) : (insN l n).length ≤ l.length + 1 := by
  unfold insN
  rw [List.length_append, List.length_cons]
  have h1 : (l.filter fun x => decide (x < n)).length + (l.filter fun x => decide (n < x)).length ≤ l.length := by
    induction l with
    | nil => simp
    | cons a r ih =>
      rw [List.filter_cons, List.filter_cons, List.length_cons]
      by_cases h3 : a < n
      · rw [if_pos (by simpa using h3), if_neg (by simp; omega), List.length_cons]; omega
      · rw [if_neg (by simpa using h3)]
        split
        · rw [List.length_cons]; omega
        · omega
  omega
theorem fold_len : ∀ (l p : List Int), (l.foldl insN p).length ≤ p.length + l.length
  | [], p => by simp
  | a :: r, p => by
    have := fold_len r (insN p a)
    have := insN_len p a
    rw [List.foldl_cons, List.length_cons]; omega
theorem usedR_snoc (l : List En) (x : En) : usedR (l ++ [x]) = if 0 < x.2.2.1 then insN (usedR l) x.2.2.1 else usedR l := by
  unfold usedR
  rw [List.filter_append, List.map_append, List.foldl_append, List.filter_cons]
  split
  · rename_i h; rw [if_pos (by simpa using h)]; rfl
  · rename_i h; rw [if_neg (by simpa using h)]; rfl
theorem usedR_len (l : List En) : (usedR l).length ≤ l.length := by
  unfold usedR
  have h1 := fold_len ((l.filter fun x => decide (0 < x.2.2.1)).map fun x => x.2.2.1) []
  rw [List.length_map] at h1
  have := List.length_filter_le (fun x : En => decide (0 < x.2.2.1)) l
  simp at h1 ⊢; omega
set_option maxRecDepth 100000 in
set_option maxHeartbeats 2000000 in
theorem r15_Referred {a : Option Addr} {l : List En} {cap : Nat} (w : World) (hr : Rd shE w a l) (hlen : l.length ≤ 4096) :
    Calls Try.prog 73 #[.slice a l.length cap] w fun e w' => IntsRet w' e (usedR l) ∧ Gr w w' := by
  have HR := Lib.hid hr
  obtain ⟨R, hR⟩ : ∃ R, usedR l = R := ⟨_, rfl⟩
  rw [hR]
  have HRR := Lib.hid hR
  obtain ⟨m, hm⟩ : ∃ m, m = l.length := ⟨_, rfl⟩
  have HM := Lib.hid hm
  rw [← hm] at hlen ⊢
  clear hr hR hm
  go_enter Try.func73, Try.ntmps73
  go_wp2
  go_loopw [3, 4] (fun ow i wr => ∃ (j : Nat) (q : Nat) (oa : Option Addr) (oc : Nat), i = .int .i64 j ∧ j ≤ m ∧ ow = .slice oa q oc ∧ Hid (q = (usedR (l.take j)).length ∧ Rd shI wr oa (usedR (l.take j)) ∧ q ≤ oc ∧ oc ≤ maxLen) ∧ Hid (Gr w wr)) (fun _ i _ => m - (intOf i).toNat)
  case atStart => exact ⟨0, 0, none, 0, rfl, Nat.zero_le _, rfl, Lib.hid ⟨rfl, Rd.nil _ _ _, Nat.le_refl _, by unfold maxLen; omega⟩, Lib.hid (Gr.refl _)⟩
  case round =>
    obtain ⟨j, q, oa, oc, rfl, hj, rfl, HQ, HG⟩ := hrel
    by_cases hlt : j < m
    · have hjl : j < l.length := by rw [← HM.out]; exact hlt
      obtain ⟨b, o, rfl, c0, c1, c2, c3⟩ := en_cells (HR.out.gr HG.out) hjl
      have HTK := Lib.hid (show usedR (l.take (j + 1)) = if 0 < l[j].2.2.1 then insN (usedR (l.take j)) l[j].2.2.1 else usedR (l.take j) by rw [List.take_succ_eq_append_getElem hjl, usedR_snoc])
      have HUP := Lib.hid (usedR_up (l.take j))
      have HLN := Lib.hid (show (usedR (l.take j)).length ≤ 4096 from Nat.le_trans (usedR_len _) (by rw [List.length_take]; omega))
      obtain ⟨P2, hP2⟩ : ∃ P2, usedR (l.take (j + 1)) = P2 := ⟨_, rfl⟩
      have HP2 := Lib.hid hP2
      rw [hP2] at HTK
      clear hP2
      generalize usedR (l.take j) = P at *
      generalize l[j].2.2.1 = x at *
      by_cases hx : 0 < x
      · have HT2 := Lib.hid (show P2 = insN P x by rw [HTK.out, if_pos hx])
        obtain ⟨q1, q2, q3, q4⟩ := HQ.out
        have HPU := Lib.hid (r15_put (cap := oc) x wr q2 HUP.out (by have := HLN.out; omega) (by omega) q4)
        rw [← q1] at HPU
        unfold maxLen at q4
        clear HTK HQ q1 q2
        go_wp2_with fail
        refine HPU.out.mono ?_; rintro e w5 ⟨⟨va, vc, rfl, hv1, hv2, hv3⟩, hg5⟩
        obtain ⟨q5, hq5⟩ : ∃ q5, q5 = (insN P x).length := ⟨_, rfl⟩
        have HQ5 := Lib.hid (show q5 = P2.length ∧ Rd shI w5 va P2 ∧ q5 ≤ vc ∧ vc ≤ maxLen by rw [HT2.out]; exact ⟨hq5, hv1, by omega, hv3⟩)
        have HG5 := Lib.hid (HG.out.trans hg5)
        rw [← hq5]
        clear hg5 hv1 hv2 hv3 HPU HT2 hq5
        go_wp2
        go_roundw
        case rel => exact ⟨j + 1, q5, va, vc, by go_num, by omega, rfl, by rw [HP2.out]; exact HQ5, HG5⟩
        case measure => simp [intOf]; omega
      · have HT2 := Lib.hid (show P2 = P by rw [HTK.out, if_neg hx])
        have HQ2 := Lib.hid (show q = P2.length ∧ Rd shI wr oa P2 ∧ q ≤ oc ∧ oc ≤ maxLen by rw [HT2.out]; exact HQ.out)
        clear HTK HQ HT2
        go_wp2
        go_roundw
        case rel => exact ⟨j + 1, q, oa, oc, by go_num, by omega, rfl, by rw [HP2.out]; exact HQ2, HG⟩
        case measure => simp [intOf]; omega
    · have hjm : j = l.length := by rw [← HM.out]; omega
      have hq := HQ.out
      rw [hjm, List.take_length, HRR.out] at hq
      have HQ2 := Lib.hid hq
      clear HQ hq hjm
      go_wp2
      go_ret
      exact ⟨⟨oa, oc, by rw [← HQ2.out.1]; rfl, HQ2.out.2.1, by rw [← HQ2.out.1]; exact HQ2.out.2.2.1, HQ2.out.2.2.2⟩, HG.out⟩
/-- a slice and an error that a call tells -/
def Ret2 {α : Type} (S : Sh α) (w : World) (e : Ending) (l : List α) (E : Int) : Prop := ∃ a cap, e = .returned (.tuple #[.slice a l.length cap, .int .i64 E]) ∧ Rd S w a l ∧ l.length ≤ cap ∧ cap ≤ maxLen
set_option maxRecDepth 100000 in
set_option maxHeartbeats 1000000 in
theorem r15_Used {a : Option Addr} {l : List En} {cap : Nat} (w : World) (hr : Rd shE w a l) (hlen : l.length ≤ 9223372036854775807) :
    Calls Try.prog 29 #[.slice a l.length cap] w fun e w' => Ret2 shI w' e (usedL l) (entR l) ∧ Gr w w' := by
  have HCH := Lib.hid (r15_Entries (cap := cap) w hr hlen)
  by_cases h0 : entR l = 0
  · have hul : usedL l = usedR l := if_pos h0
    have HK := Lib.hid (fun W (hW : Gr w W) => r15_Referred (cap := cap) W (hr.gr hW) (entR_zero.1 h0).1)
    rw [h0] at HCH ⊢
    rw [hul]
    clear hr hlen h0 hul
    generalize usedR l = U at *
    generalize l.length = m at *
    go_enter Try.func29, Try.ntmps29
    go_wp2_with fail
    refine HCH.out.mono ?_; rintro e w1 ⟨rfl, hg1⟩
    have HK1 := Lib.hid (HK.out w1 hg1)
    have HG1 := Lib.hid hg1
    clear hg1 HK HCH
    go_wp2_with fail
    refine HK1.out.mono ?_; rintro e w2 ⟨⟨va, vc, rfl, hv⟩, hg2⟩
    have HV := Lib.hid hv
    have HG2 := Lib.hid (HG1.out.trans hg2)
    clear hv hg2 HK1
    generalize hq : U.length = q at *
    have HQ := Lib.hid hq
    clear hq
    go_wp2
    go_ret2
    exact ⟨⟨va, vc, by rw [HQ.out]; rfl, HV.out.1, by rw [HQ.out]; exact HV.out.2.1, HV.out.2.2⟩, HG2.out⟩
  · have hul : usedL l = [] := if_neg h0
    have hz : (entR l == 0) = false := by simp [h0]
    rw [hul]
    clear hr hlen h0 hul
    generalize entR l = E at *
    generalize l.length = m at *
    go_enter Try.func29, Try.ntmps29
    go_wp2_with fail
    refine HCH.out.mono ?_; rintro e w1 ⟨rfl, hg1⟩
    have HG1 := Lib.hid hg1
    clear hg1 HCH
    go_wp2
    go_ret2
    exact ⟨⟨none, 0, rfl, Rd.nil _ _ _, Nat.le_refl _, by unfold maxLen; omega⟩, HG1.out⟩
end Go.Proofs.Ytgjlcmheipmmlaa
