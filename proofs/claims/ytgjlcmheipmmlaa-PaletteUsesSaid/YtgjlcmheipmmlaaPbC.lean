/- Law 15: PaletteUses. -/
import Derived.Test.YtgjlcmheipmmlaaPbB
set_option linter.unusedVariables false
set_option linter.unusedSimpArgs false
namespace Go.Proofs.Ytgjlcmheipmmlaa
open Go.RowKit
open Z
set_option maxRecDepth 100000 in
set_option maxHeartbeats 8000000 in
theorem l15_PaletteUses {al : Option Addr} {l : List Pl} {cl : Nat} {ae : Option Addr} {es : List En} {ce : Nat} (w : World) (hr : RdP w al l) (hlen : l.length ≤ 9223372036854775807) (hin : ∀ g ∈ l, g.2.length ≤ 9223372036854775807) (he : Rd shE w ae es) (hle : es.length ≤ 9223372036854775807) :
    Calls Try.prog 9 #[.slice al l.length cl, .slice ae es.length ce] w fun e w' => e = .returned (.bool true) ∧ Gr w w' := by
  have HAW := Lib.hid (fun W => l15_awake W)
  have HGV := Lib.hid (l15_given (cl := cl) (ce := ce) w hr hlen hin he hle)
  have hmf : ∀ (fn : Fn) (first cap : Array Value) (w : World), (Instr.makeFunc fn first cap).run Try.prog w = .ok (.func fn first cap) w := fun _ _ _ _ => rfl
  by_cases hD : fewB l = true ∧ es.length ≤ 200 ∧ bothR l es = 0
  · rw [decide_eq_true hD] at HGV
    obtain ⟨-, h200, hb⟩ := hD
    obtain ⟨hp0, he0⟩ := bothR_zero.1 hb
    have HUS := Lib.hid (fun W (hW : Gr w W) => pl_Used (cap := ce) W (he.gr hW) hle)
    rw [he0, show usedL es = usedR es from if_pos he0] at HUS
    have hul := usedR_len es
    have HUP := Lib.hid (usedR_up es)
    have HFL := Lib.hid (show ∀ (aL : Option Addr) (cL : Nat) (L : List Pl) W, Gr w W → RdP W aL L → palR L = 0 → (∀ x ∈ es, flatE L x = flatE l x) → Calls Try.prog 30 #[.slice aL L.length cL, .slice ae es.length ce] W fun e w' => (∃ v, e = .returned (.tuple #[v, .int .i64 0]) ∧ Own shE W.heap.size w' v (es.map (flatE l))) ∧ Gr W w' from fun aL cL L W hW hR hP hX => by
      have h1 := (palR_zero.1 hP)
      have := pl_Flat (cl := cL) (ce := ce) W hR (by have := h1.1; omega) (fun g hg => by have := (huR_zero.1 (h1.2.1 g hg).2).1; omega) (he.gr hW) hle
      have hb2 : bothR L es = 0 := bothR_zero.2 ⟨hP, he0⟩
      rw [hb2, show flatL L es = es.map (flatE L) from if_pos hb2, List.map_congr_left hX] at this
      exact this)
    have HDR := Lib.hid (show ∀ (aL : Option Addr) (cL : Nat) (L : List Pl) (c : Int) W, RdP W aL L → palR L = 0 → Calls Try.prog 24 #[.slice aL L.length cL, .int .i64 c] W fun e w' => (∃ v B, e = .returned (.tuple #[v, .bool B, .int .i64 0]) ∧ OwnP W.heap.size w' v (dropL L c)) ∧ Gr W w' from fun aL cL L c W hR hP => by
      have h1 := (palR_zero.1 hP)
      have := pl_Drop (cap := cL) c W hR (by have := h1.1; omega) (fun g hg => by have := (huR_zero.1 (h1.2.1 g hg).2).1; omega)
      refine this.mono ?_
      rintro e w' ⟨⟨v, h3, h4⟩, h5⟩
      rw [hP] at h3
      rw [if_pos hP] at h4
      exact ⟨⟨v, _, h3, h4⟩, h5⟩)
    have HST := Lib.hid (fun (L : List Pl) (c : Int) (hX : ∀ x ∈ es, flatE L x = flatE l x) (hc : decide (c ∈ usedR es) = false) x (hx : x ∈ es) => (flat_drop (l := L) (d := c) (x := x) (fun h0 e => of_decide_eq_false hc (mem_used.2 ⟨x, hx, h0, e⟩))).trans (hX x hx))
    have HUE := Lib.hid (fun n (hn : n ∈ usedR es) => show es.any (refB n) = true by
      obtain ⟨x, hx, -, e⟩ := mem_used.1 hn
      exact List.any_eq_true.2 ⟨x, hx, by unfold refB; simpa using e⟩)
    have HCF := Lib.hid (fun (q : Nat) (c : Int) W (hW : Gr w W) (hc : W.cell? ⟨q, 0, none⟩ = some (.int .i64 c)) => sl_ContainsFuncE (cap := ce) W (he.gr hW) (by omega) hc)
    have HR := Lib.hid hr
    have HP0 := Lib.hid hp0
    obtain ⟨n, hn⟩ : ∃ n, n = l.length := ⟨_, rfl⟩
    have HN := Lib.hid hn
    rw [← hn] at HGV hlen ⊢
    clear hr hin he hb hp0 he0 hn
    generalize hU : usedR es = U at *
    clear hU
    have HML := Lib.hid (show (es.map (flatE l)).length ≤ 200 by rw [List.length_map]; exact h200)
    generalize es.map (flatE l) = F at *
    go_enter Try.func9, Try.ntmps9
    go_wp2_with fail
    refine HGV.out.mono ?_; rintro e w1 ⟨rfl, hg1⟩
    have HU1 := Lib.hid (HUS.out w1 hg1)
    have HG1 := Lib.hid hg1
    clear hg1 HGV HUS
    go_wp2_with fail
    refine HU1.out.mono ?_; rintro e w2 ⟨⟨v2, rfl, ho2⟩, hg2⟩
    obtain ⟨a2, c2, rfl, r2, l2, m2, -⟩ := ho2.shape
    have hu5 : U.length ≤ 100000 := by omega
    have HSO := Lib.hid (sl_IsSortedI (cap := c2) w2 r2 hu5 HUP.out)
    have HCT := Lib.hid (fun (c : Int) W (hW : Gr w2 W) => sl_ContainsI (cap := c2) c W (r2.gr hW) (by omega))
    have HRU := Lib.hid r2
    have HG2 := Lib.hid (HG1.out.trans hg2)
    obtain ⟨nu, hnu⟩ : ∃ nu, U.length = nu := ⟨_, rfl⟩
    have HNU := Lib.hid hnu
    rw [hnu] at HSO HCT hu5 ⊢
    clear ho2 hg2 HU1 HG1 r2 l2 m2 hnu hul
    go_wp2_with fail
    refine HSO.out.mono ?_; rintro e w3 ⟨rfl, hg3⟩
    have HG23 := Lib.hid hg3
    have HG3 := Lib.hid (HG2.out.trans hg3)
    clear hg3 HSO HG2
    go_wp2_with fail
    go_loopw [6, 7, 35] (fun eu lu i wr => ∃ (j : Nat) (aL : Option Addr) (cL : Nat) (L : List Pl), eu = .int .i64 0 ∧ lu = .slice aL L.length cL ∧ i = .int .i64 j ∧ j ≤ n ∧ Hid (RdP wr aL L ∧ palR L = 0 ∧ ∀ x ∈ es, flatE L x = flatE l x) ∧ Hid (Gr w3 wr)) (fun _ _ i _ => n - (intOf i).toNat)
    case atStart => exact ⟨0, al, cl, l, rfl, by rw [HN.out], rfl, Nat.zero_le _, Lib.hid ⟨HR.out.gr HG3.out, HP0.out, fun _ _ => rfl⟩, Lib.hid (Gr.refl _)⟩
    case round =>
      obtain ⟨j, aL, cL, L, rfl, rfl, rfl, hj, HL, HG⟩ := hrel
      by_cases hlt : j < n
      · have hjl : j < l.length := by rw [← HN.out]; exact hlt
        obtain ⟨b, o, c, cap, rfl, c0, c1, -, -, -, -⟩ := (HR.out.gr (HG3.out.trans HG.out)).at hjl
        generalize l[j].1 = num at *
        generalize l[j].2.length = hl at *
        obtain ⟨wa, hwa⟩ : ∃ wa, wa = wr.alloc (.cells #[.int .i64 num, .slice c hl cap] 39) := ⟨_, rfl⟩
        obtain ⟨p, hp⟩ : ∃ p, p = wr.heap.size := ⟨_, rfl⟩
        have hga : Gr wr wa := by rw [hwa]; exact (Gr.refl wr).alloc _
        have e0 : wa.cell? ⟨p, 0, none⟩ = some (.int .i64 num) := by rw [hwa, hp]; exact fresh wr [.int .i64 num, .slice c hl cap] _ (k := 0) rfl
        have HE0 := Lib.hid e0
        have HC1 := Lib.hid (HCT.out num wa (HG23.out.trans (HG.out.trans hga)))
        obtain ⟨D, hD⟩ : ∃ D, decide (num ∈ U) = D := ⟨_, rfl⟩
        rw [hD] at HC1
        have HDD := Lib.hid hD
        have HGa := Lib.hid (HG.out.trans hga)
        have HLa := Lib.hid (HL.out.1.gr hga)
        have HL2 := Lib.hid HL.out.2
        clear hD
        go_wp2_with fail
        rw [← hwa, ← hp]
        clear hwa hp hga HG HL c0 c1
        go_wp2_with fail
        refine HC1.out.mono ?_; rintro e w4 ⟨rfl, hg4⟩
        have HG4 := Lib.hid (HGa.out.trans hg4)
        have HL4 := Lib.hid (HLa.out.gr hg4)
        have f0 := gr_cell hg4 HE0.out
        clear hg4 HGa HLa HC1 e0
        cases D
        · have HD4 := Lib.hid (HDR.out aL cL L num w4 HL4.out HL2.out.1)
          go_wp2_with fail
          refine HD4.out.mono ?_; rintro e w5 ⟨⟨v5, B5, rfl, ho5⟩, hg5⟩
          obtain ⟨a5, c5, rfl, r5, l5, m5, -⟩ := ho5.shape
          have HG5 := Lib.hid (HG4.out.trans hg5)
          have HR5 := Lib.hid r5
          clear hg5 ho5 r5 l5 m5 HD4 HG4 HL4
          go_wp2
          go_roundw
          case rel => exact ⟨j + 1, a5, c5, _, rfl, rfl, by go_num, by omega, Lib.hid ⟨HR5.out, dropL_ok HL2.out.1, HST.out _ _ HL2.out.2 HDD.out⟩, HG5⟩
          case measure => simp [intOf]; omega
        · go_wp2
          go_roundw
          case rel => exact ⟨j + 1, aL, cL, L, rfl, rfl, by go_num, by omega, Lib.hid ⟨HL4.out, HL2.out⟩, HG4⟩
          case measure => simp [intOf]; omega
      · have HGw := Lib.hid (HG3.out.trans HG.out)
        have HG2w := Lib.hid (HG23.out.trans HG.out)
        have HF1 := Lib.hid (HFL.out al cl l wr HGw.out (HR.out.gr HGw.out) HP0.out (fun _ _ => rfl))
        have HF2 := Lib.hid (fun W (hW : Gr wr W) => HFL.out aL cL L W (HGw.out.trans hW) (HL.out.1.gr hW) HL.out.2.1 HL.out.2.2)
        rw [← HN.out] at HF1
        clear HL HG HDR HST HCT HFL
        generalize L.length = nL at *
        go_wp2_with fail
        refine HF1.out.mono ?_; rintro e w6 ⟨⟨v6, rfl, ho6⟩, hg6⟩
        obtain ⟨a6, c6, rfl, r6, l6, m6, -⟩ := ho6.shape
        have HF3 := Lib.hid (HF2.out w6 hg6)
        have HR6 := Lib.hid r6
        have HGw6 := Lib.hid (HGw.out.trans hg6)
        have HG26 := Lib.hid (HG2w.out.trans hg6)
        clear hg6 ho6 r6 l6 m6 HF1 HF2 HGw HG2w
        go_wp2_with fail
        refine HF3.out.mono ?_; rintro e w7 ⟨⟨v7, rfl, ho7⟩, hg7⟩
        obtain ⟨a7, c7, rfl, r7, l7, m7, -⟩ := ho7.shape
        have HSE := Lib.hid (fun W (hW : Gr w7 W) => r15_SameEntries (ca := c6) (cb := c7) W (HR6.out.gr (hg7.trans hW)) (r7.gr hW) (by have := HML.out; omega) (by have := HML.out; omega))
        rw [decide_eq_true (show F = F from rfl)] at HSE
        have HGw7 := Lib.hid (HGw6.out.trans hg7)
        have HG27 := Lib.hid (HG26.out.trans hg7)
        clear hg7 ho7 r7 l7 m7 HF3 HGw6 HG26 HR6
        generalize F.length = nF at *
        generalize es.length = ne at *
        go_wp2_with fail
        go_loopw [69] (fun i wq => ∃ j : Nat, i = .int .i64 j ∧ j ≤ nu ∧ Hid (Gr w7 wq)) (fun i _ => nu - (intOf i).toNat)
        case atStart => exact ⟨0, rfl, Nat.zero_le _, Lib.hid (Gr.refl _)⟩
        case round =>
          obtain ⟨k, rfl, hk, HGq⟩ := hrel
          by_cases hkt : k < nu
          · have hkU : k < U.length := by rw [HNU.out]; exact hkt
            obtain ⟨b2, o2, rfl, d0⟩ := int_cells (HRU.out.gr (HG27.out.trans HGq.out)) hkU
            have HA := Lib.hid (HUE.out _ (List.getElem_mem hkU))
            generalize U[k] = num at *
            obtain ⟨wa, hwa⟩ : ∃ wa, wa = wr.alloc (.cells #[.int .i64 num] 3) := ⟨_, rfl⟩
            obtain ⟨p, hp⟩ : ∃ p, p = wr.heap.size := ⟨_, rfl⟩
            have hga : Gr wr wa := by rw [hwa]; exact (Gr.refl wr).alloc _
            have e0 : wa.cell? ⟨p, 0, none⟩ = some (.int .i64 num) := by rw [hwa, hp]; exact fresh wr [.int .i64 num] _ (k := 0) rfl
            have HX := Lib.hid (HCF.out p num wa (HGw7.out.trans (HGq.out.trans hga)) e0)
            rw [HA.out] at HX
            have HGa := Lib.hid (HGq.out.trans hga)
            go_wp2_with fail
            rw [← hwa, ← hp]
            clear hwa hp hga HGq d0 e0 HA
            go_wp2_with fail
            refine HX.out.mono ?_; rintro e w8 ⟨rfl, hg8⟩
            have HG8 := Lib.hid (HGa.out.trans hg8)
            clear hg8 HX HGa
            go_wp2
            go_roundw
            case rel => exact ⟨k + 1, by go_num, by omega, HG8⟩
            case measure => simp [intOf]; omega
          · have HQ := Lib.hid (HSE.out _ HGq.out)
            have HGz := Lib.hid (HGw7.out.trans HGq.out)
            clear HGq HSE
            go_wp2_with fail
            refine HQ.out.mono ?_; rintro e w9 ⟨rfl, hg9⟩
            have HG9 := Lib.hid (HGz.out.trans hg9)
            clear hg9 HQ HGz
            go_wp2_with fail
            refine (HAW.out _).mono ?_; rintro e w10 ⟨rfl, hg10⟩
            have HG10 := Lib.hid (HG9.out.trans hg10)
            clear hg10
            go_wp2
            go_ret
            exact ⟨rfl, HG10.out⟩
  · rw [decide_eq_false hD] at HGV
    clear hr hlen hin he hD
    generalize l.length = ml at *
    generalize es.length = me at *
    go_enter Try.func9, Try.ntmps9
    go_wp2_with fail
    refine HGV.out.mono ?_; rintro e w1 ⟨rfl, hg1⟩
    have HG1 := Lib.hid hg1
    clear hg1 HGV
    go_wp2_with fail
    refine (HAW.out _).mono ?_; rintro e w9 ⟨rfl, hg9⟩
    have HG9 := Lib.hid (HG1.out.trans hg9)
    clear hg9
    go_wp2
    go_ret
    exact ⟨rfl, HG9.out⟩
end Go.Proofs.Ytgjlcmheipmmlaa
