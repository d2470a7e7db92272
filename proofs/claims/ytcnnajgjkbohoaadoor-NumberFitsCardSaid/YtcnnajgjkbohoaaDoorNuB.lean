/- Numbers of cues: the rest of the reference. -/
import Derived.Test.YtcnnajgjkbohoaaDoorNuA
import Derived.Deep.RegionHeld3
import Derived.IntWalk
set_option linter.unusedVariables false
set_option linter.unusedSimpArgs false
namespace Go.Proofs.YtcnnajgjkbohoaaDoor
open Go.RowKit Go.Shelf
open Z

/-- a pair of a text and the number of an error -/
def vTI (p : List UInt8 × Int) : Value := .tuple #[.string (str p.1), .int .i64 p.2]
set_option maxHeartbeats 1000000 in
theorem r5_Of (n : Int) (w : World) (hn : isJ n) :
    Calls Tryd.prog 19 #[.int .i64 n] w fun e w' => e = .returned (vTI (ofN n)) ∧ w = w' := by
  have hn0 := hn.1
  have hn1 := hn.2
  clear hn
  unfold ofN
  by_cases h0 : n < 1
  · rw [if_neg (by omega)]
    go_enter Tryd.func19, Tryd.ntmps19
    go_wp2
    go_ret2
    exact ⟨rfl, rfl⟩
  · by_cases h1 : 9999999 < n
    · rw [if_neg (by omega)]
      go_enter Tryd.func19, Tryd.ntmps19
      go_wp2
      go_ret2
      exact ⟨rfl, rfl⟩
    · obtain ⟨m, rfl⟩ : ∃ m : Nat, n = (m : Int) := ⟨n.toNat, by omega⟩
      rw [if_pos (by omega), Int.toNat_natCast]
      have HN := Lib.hid (fun w => r5_Named m w (by omega))
      generalize nuT m = T at *
      go_enter Tryd.func19, Tryd.ntmps19
      go_wp2_with fail
      refine (HN.out _).mono ?_; rintro e w' ⟨rfl, rfl⟩
      go_wp2
      go_ret2
      exact ⟨rfl, rfl⟩
set_option maxHeartbeats 1000000 in
theorem r5_Order (s t : ByteArray) (w : World) (hs : s.size ≤ maxLen) (ht : t.size ≤ maxLen) (h1 : nuE s.data.toList = 0) (h2 : nuE t.data.toList = 0) :
    Calls Tryd.prog 30 #[.string s, .string t] w fun e w' => e = .returned (.int .i64 (ordN (nuV s.data.toList) (nuV t.data.toList))) ∧ Gr w w' := by
  have H1 := Lib.hid (fun w => r5_Value s w hs h1)
  have H2 := Lib.hid (fun w => r5_Value t w ht h2)
  have b1 := (nuV_le h1).2
  have b2 := (nuV_le h2).2
  clear hs ht h1 h2
  unfold ordN
  generalize nuV s.data.toList = x at *
  generalize nuV t.data.toList = y at *
  rcases Nat.lt_trichotomy x y with h | rfl | h
  · rw [if_pos h]
    go_enter Tryd.func30, Tryd.ntmps30
    go_wp2_with fail
    refine (H1.out _).mono ?_; rintro e w1 ⟨rfl, hg⟩
    have HG := Lib.hid hg; clear hg
    go_wp2_with fail
    refine (H2.out _).mono ?_; rintro e w2 ⟨rfl, hg⟩
    replace HG := Lib.hid (Gr.trans HG.out hg); clear hg
    go_wp2
    go_ret
    exact ⟨rfl, HG.out⟩
  · rw [if_neg (by omega), if_neg (by omega)]
    go_enter Tryd.func30, Tryd.ntmps30
    go_wp2_with fail
    refine (H1.out _).mono ?_; rintro e w1 ⟨rfl, hg⟩
    have HG := Lib.hid hg; clear hg
    go_wp2_with fail
    refine (H2.out _).mono ?_; rintro e w2 ⟨rfl, hg⟩
    replace HG := Lib.hid (Gr.trans HG.out hg); clear hg
    go_wp2
    go_ret
    exact ⟨rfl, HG.out⟩
  · rw [if_neg (by omega), if_pos h]
    go_enter Tryd.func30, Tryd.ntmps30
    go_wp2_with fail
    refine (H1.out _).mono ?_; rintro e w1 ⟨rfl, hg⟩
    have HG := Lib.hid hg; clear hg
    go_wp2_with fail
    refine (H2.out _).mono ?_; rintro e w2 ⟨rfl, hg⟩
    replace HG := Lib.hid (Gr.trans HG.out hg); clear hg
    go_wp2
    go_ret
    exact ⟨rfl, HG.out⟩
set_option maxHeartbeats 1000000 in
theorem r5_Compare (s t : ByteArray) (w : World) (hs : s.size ≤ maxLen) (ht : t.size ≤ maxLen) :
    Calls Tryd.prog 21 #[.string s, .string t] w fun e w' => e = .returned (vII (nuCmp s.data.toList t.data.toList)) ∧ Gr w w' := by
  have H1 := Lib.hid (fun w => r5_Check s w hs)
  have H2 := Lib.hid (fun w => r5_Check t w ht)
  have H3 := Lib.hid (fun h1 h2 w => r5_Order s t w hs ht h1 h2)
  clear hs ht
  unfold nuCmp both2
  generalize ordN (nuV s.data.toList) (nuV t.data.toList) = c at *
  generalize nuE s.data.toList = E at *
  generalize nuE t.data.toList = F at *
  by_cases h1 : E = 0
  · subst h1
    by_cases h2 : F = 0
    · subst h2
      have H4 := Lib.hid (H3.out rfl rfl)
      clear H3
      go_enter Tryd.func21, Tryd.ntmps21
      go_wp2_with fail
      refine (H1.out _).mono ?_; rintro e w1 ⟨rfl, hg⟩
      have HG := Lib.hid hg; clear hg
      go_wp2_with fail
      refine (H2.out _).mono ?_; rintro e w2 ⟨rfl, hg⟩
      replace HG := Lib.hid (Gr.trans HG.out hg); clear hg
      go_wp2_with fail
      refine (H4.out _).mono ?_; rintro e w2 ⟨rfl, hg⟩
      replace HG := Lib.hid (Gr.trans HG.out hg); clear hg
      go_wp2
      go_ret2
      exact ⟨rfl, HG.out⟩
    · simp only [if_true, if_neg h2]
      have hne : (F != 0) = true := by simpa using h2
      clear H3 h2
      go_enter Tryd.func21, Tryd.ntmps21
      go_wp2_with fail
      refine (H1.out _).mono ?_; rintro e w1 ⟨rfl, hg⟩
      have HG := Lib.hid hg; clear hg
      go_wp2_with fail
      refine (H2.out _).mono ?_; rintro e w2 ⟨rfl, hg⟩
      replace HG := Lib.hid (Gr.trans HG.out hg); clear hg
      go_wp2
      go_ret2
      exact ⟨rfl, HG.out⟩
  · simp only [if_neg h1]
    have hne : (E != 0) = true := by simpa using h1
    clear H3 h1
    go_enter Tryd.func21, Tryd.ntmps21
    go_wp2_with fail
    refine (H1.out _).mono ?_; rintro e w1 ⟨rfl, hg⟩
    have HG := Lib.hid hg; clear hg
    go_wp2
    go_ret2
    exact ⟨rfl, HG.out⟩
theorem nuCmp_err {a b : List UInt8} (h : both2 a b ≠ 0) : nuCmp a b = (0, both2 a b) := if_neg h
theorem nuCmp_ok {a b : List UInt8} (h : both2 a b = 0) : nuCmp a b = (ordN (nuV a) (nuV b), 0) := if_pos h
theorem both2_zero {a b : List UInt8} (h : both2 a b = 0) : nuE a = 0 ∧ nuE b = 0 := by
  unfold both2 at h
  by_cases h1 : nuE a = 0
  · rw [if_pos h1] at h; exact ⟨h1, h⟩
  · rw [if_neg h1] at h; exact absurd h h1
set_option maxHeartbeats 2000000 in
set_option maxRecDepth 100000 in
theorem r5_Between (s t : ByteArray) (w : World) (hs : s.size ≤ maxLen) (ht : t.size ≤ maxLen) :
    Calls Tryd.prog 23 #[.string s, .string t] w fun e w' => e = .returned (vTI (betN s.data.toList t.data.toList)) ∧ Gr w w' := by
  have H1 := Lib.hid (fun w => r5_Compare s t w hs ht)
  unfold betN
  unfold vII at H1
  by_cases hb : both2 s.data.toList t.data.toList = 0
  · obtain ⟨h1, h2⟩ := both2_zero hb
    rw [nuCmp_ok hb] at H1
    rw [if_pos hb]
    have V1 := Lib.hid (fun w => r5_Value s w hs h1)
    have V2 := Lib.hid (fun w => r5_Value t w ht h2)
    have b1 := (nuV_le h1).2
    have b2 := (nuV_le h2).2
    clear hs ht h1 h2 hb
    generalize nuV s.data.toList = x at *
    generalize nuV t.data.toList = y at *
    by_cases hle : y ≤ x
    · rw [if_pos hle]
      obtain ⟨c, hc, hc0⟩ : ∃ c : Int, ordN x y = c ∧ 0 ≤ c := ⟨_, rfl, by unfold ordN; rw [if_neg (by omega)]; split <;> omega⟩
      rw [hc] at H1
      simp only at H1
      clear V1 V2 hc
      go_enter Tryd.func23, Tryd.ntmps23
      go_wp2_with fail
      refine (H1.out _).mono ?_; rintro e w1 ⟨rfl, hg⟩
      have HG := Lib.hid hg; clear hg
      go_wp2
      go_ret2
      exact ⟨rfl, HG.out⟩
    · rw [if_neg hle]
      rw [show ordN x y = -1 by unfold ordN; rw [if_pos (by omega)]] at H1
      simp only at H1
      have HN := Lib.hid (fun (n : Nat) (h : n ≤ 9999999) w => r5_Named n w h)
      have BA := Lib.hid (fun (k : Nat) (hk : k ≤ 3) (hn : ∀ j, j < k → ¬ upN x (unitU j) < y) (h : upN x (unitU k) < y) => (show betV x y = (nuT (upN x (unitU k)), 0) by unfold betV; rw [bet_at hk hn h]))
      have BE := Lib.hid (fun (hn : ∀ j, j < 4 → ¬ upN x (unitU j) < y) => (show betV x y = ([], 12) by unfold betV; rw [bet_end hn]))
      have HU := Lib.hid (fun (k : Nat) (h : k ≤ 3) => unit_next h)
      have HP := Lib.hid (fun (u : Nat) (h : 1 ≤ u) => up_parts x u h)
      clear hle
      go_enter Tryd.func23, Tryd.ntmps23
      go_wp2_with fail
      refine (H1.out _).mono ?_; rintro e w1 ⟨rfl, hg⟩
      have HG := Lib.hid hg; clear hg
      go_wp2
      go_loopw [8, 9] (fun u _ wr => ∃ k : Nat, u = .int .i64 (unitU k : Nat) ∧ k ≤ 4 ∧ Hid (∀ j, j < k → ¬ upN x (unitU j) < y) ∧ Hid (Gr w wr)) (fun u _ _ => (intOf u).toNat)
      case atStart => exact ⟨0, rfl, Nat.zero_le _, fun j hj => absurd hj (by omega), HG.out⟩
      case round =>
        clear HG
        obtain ⟨k, rfl, hk, HF, HG⟩ := hrel
        by_cases hk4 : k = 4
        · subst hk4
          have HE := Lib.hid (BE.out HF.out)
          have hu0 : ((unitU 4 : Nat) : Int) = 0 := rfl
          rw [hu0]
          clear hu0
          go_wp2
          go_ret2
          exact ⟨by rw [HE.out]; rfl, HG.out⟩
        · obtain ⟨u1, u2, u3, u4⟩ := HU.out k (by omega)
          obtain ⟨p1, p2, p3, p4⟩ := HP.out _ u2
          have hn9 := HN.out (upN x (unitU k))
          have ha := BA.out k (by omega) HF.out
          have HF' : Hid (¬ upN x (unitU k) < y → ∀ j, j < k + 1 → ¬ upN x (unitU j) < y) := Lib.hid fun h j hj => by
            by_cases hjk : j = k
            · subst hjk; exact h
            · exact HF.out j (by omega)
          have HA := Lib.hid ha
          have HN9 := Lib.hid hn9
          clear ha hn9
          generalize nuT (upN x (unitU k)) = T at *
          generalize upN x (unitU k) = N at *
          generalize x / unitU k = q at *
          obtain ⟨u', hu'⟩ : ∃ u', Hid (unitU (k + 1) = u') := ⟨_, Lib.hid rfl⟩
          rw [hu'.out] at u1 u4
          generalize unitU k = u at *
          by_cases hlt : N < y
          · have HA1 := Lib.hid (HA.out hlt)
            have HN1 := Lib.hid (HN9.out (by omega))
            clear HA HF' HF
            go_wp2_with fail
            refine (V1.out _).mono ?_; rintro e w2 ⟨rfl, hg⟩
            replace HG := Lib.hid (Gr.trans HG.out hg); clear hg
            go_wp2_with fail
            refine (V2.out _).mono ?_; rintro e w3 ⟨rfl, hg⟩
            replace HG := Lib.hid (Gr.trans HG.out hg); clear hg
            go_wp2_with fail
            refine (HN1.out _).mono ?_; rintro e w' ⟨rfl, rfl⟩
            go_wp2
            go_ret2
            exact ⟨by rw [HA1.out]; rfl, HG.out⟩
          · have HF2 := Lib.hid (HF'.out hlt)
            clear HA HF' HF HN9
            go_wp2_with fail
            refine (V1.out _).mono ?_; rintro e w2 ⟨rfl, hg⟩
            replace HG := Lib.hid (Gr.trans HG.out hg); clear hg
            go_wp2_with fail
            refine (V2.out _).mono ?_; rintro e w3 ⟨rfl, hg⟩
            replace HG := Lib.hid (Gr.trans HG.out hg); clear hg
            go_wp2
            go_roundw
            case rel => exact ⟨k + 1, by rw [hu'.out], by omega, HF2.out, HG.out⟩
            case measure => simp [intOf]; omega
  · rw [if_neg hb]
    rw [nuCmp_err hb] at H1
    have hne : (both2 s.data.toList t.data.toList != 0) = true := by simpa using hb
    clear hb hs ht
    generalize both2 s.data.toList t.data.toList = E at *
    simp only at H1
    go_enter Tryd.func23, Tryd.ntmps23
    go_wp2_with fail
    refine (H1.out _).mono ?_; rintro e w1 ⟨rfl, hg⟩
    have HG := Lib.hid hg; clear hg
    go_wp2
    go_ret2
    exact ⟨rfl, HG.out⟩
set_option maxHeartbeats 1000000 in
theorem r5_After (s : ByteArray) (w : World) (hs : s.size ≤ maxLen) :
    Calls Tryd.prog 25 #[.string s] w fun e w' => e = .returned (vTI (aftN s.data.toList)) ∧ Gr w w' := by
  have H1 := Lib.hid (fun w => r5_Check s w hs)
  unfold aftN
  by_cases h : nuE s.data.toList = 0
  · rw [if_pos h]
    have V1 := Lib.hid (fun w => r5_Value s w hs h)
    have b1 := (nuV_le h).2
    rw [h] at H1
    clear hs h
    generalize nuV s.data.toList = x at *
    obtain ⟨p1, p2, p3, p4⟩ := up_parts x 1000 (by decide)
    have HO := Lib.hid (fun w => r5_Of (upN x 1000 : Nat) w (by unfold isJ; omega))
    generalize upN x 1000 = N at *
    generalize x / 1000 = q at *
    have p1' : (x : Int).tdiv 1000 = (q : Int) := p1
    have p2' : ((q : Int) + 1) * 1000 = (N : Int) := p2
    clear p1 p2
    obtain ⟨v, hv⟩ : ∃ v, ofN (N : Int) = v := ⟨_, rfl⟩
    rw [hv] at HO ⊢
    clear hv
    unfold vTI at *
    generalize str v.1 = vs at *
    generalize v.2 = ve at *
    go_enter Tryd.func25, Tryd.ntmps25
    go_wp2_with fail
    refine (H1.out _).mono ?_; rintro e w1 ⟨rfl, hg⟩
    have HG := Lib.hid hg; clear hg
    go_wp2_with fail
    refine (V1.out _).mono ?_; rintro e w2 ⟨rfl, hg⟩
    replace HG := Lib.hid (Gr.trans HG.out hg); clear hg
    go_wp2_with fail
    refine (HO.out _).mono ?_; rintro e w' ⟨rfl, rfl⟩
    go_wp2
    go_ret2
    exact ⟨rfl, HG.out⟩
  · rw [if_neg h]
    have hne : (nuE s.data.toList != 0) = true := by simpa using h
    clear h hs
    generalize nuE s.data.toList = E at *
    go_enter Tryd.func25, Tryd.ntmps25
    go_wp2_with fail
    refine (H1.out _).mono ?_; rintro e w1 ⟨rfl, hg⟩
    have HG := Lib.hid hg; clear hg
    go_wp2
    go_ret2
    exact ⟨rfl, HG.out⟩
/-- a slice of texts, as it is read -/
def RdS (w : World) (a : Option Addr) (l : List ByteArray) : Prop := ∀ k (h : k < l.length), ∃ b o, a = some ⟨b, o, none⟩ ∧ w.cell? ⟨b, o + k, none⟩ = some (.string l[k])
theorem cellLt {w : World} {b o : Nat} {v : Value} (h : w.cell? ⟨b, o, none⟩ = some v) : b < w.heap.size := by
  by_cases hb : b < w.heap.size
  · exact hb
  · exfalso
    have : w.heap[b]? = none := Array.getElem?_eq_none (by omega)
    simp [World.cell?, this] at h
theorem cell_gr {W w1 : World} (h : Gr W w1) {b o : Nat} {v : Value} (hc : W.cell? ⟨b, o, none⟩ = some v) : w1.cell? ⟨b, o, none⟩ = some v :=
  (Below.cell h (p := ⟨b, o, none⟩) (cellLt hc)).trans hc
theorem RdS.gr {w w' : World} {a : Option Addr} {l : List ByteArray} (h : RdS w a l) (hg : Gr w w') : RdS w' a l := fun k hk => by
  obtain ⟨b, o, e, hat⟩ := h k hk
  exact ⟨b, o, e, cell_gr hg hat⟩
set_option maxHeartbeats 2000000 in
set_option maxRecDepth 100000 in
theorem r5_Ascending {a : Option Addr} {l : List ByteArray} {cap : Nat} (w : World) (hr : RdS w a l) (hl : l.length ≤ 1000) (hs : ∀ s ∈ l, s.size ≤ maxLen) :
    Calls Tryd.prog 27 #[.slice a l.length cap] w fun e w' => e = .returned (.int .i64 (ascE l)) ∧ Gr w w' := by
  have HR := Lib.hid hr
  have HS := Lib.hid (fun k (hk : k < l.length) => hs _ (List.getElem_mem hk))
  obtain ⟨E, HE⟩ : ∃ E, Hid (ascE l = E) := ⟨_, Lib.hid rfl⟩
  have HF := Lib.hid (fun (k : Nat) (c : Int) (hk : k < l.length) (h : ∀ j, j < k → stepS l j = 0) (hc : stepS l k = c) (hne : c ≠ 0) => HE.out.symm.trans (ascE_at hk h hc hne))
  have HO := Lib.hid (fun (h : ∀ j, j < l.length → stepS l j = 0) => HE.out.symm.trans (ascE_ok h))
  have HZ := Lib.hid (fun (k : Nat) (hk : k < l.length) => stepS_at hk)
  rw [HE.out]
  clear hr hs HE
  obtain ⟨n, hn⟩ : ∃ n, n = l.length := ⟨_, rfl⟩
  have HN := Lib.hid hn
  rw [← hn] at hl ⊢
  clear hn
  go_enter Tryd.func27, Tryd.ntmps27
  go_wp2
  go_loopw [3, 4] (fun i _ wr => ∃ k : Nat, i = .int .i64 k ∧ k ≤ n ∧ Hid (Gr w wr) ∧ Hid (∀ j, j < k → stepS l j = 0)) (fun i _ _ => n - (intOf i).toNat)
  case atStart => exact ⟨0, rfl, Nat.zero_le _, Gr.refl _, fun j hj => absurd hj (by omega)⟩
  case round =>
    obtain ⟨k, rfl, hk, HG, HK⟩ := hrel
    by_cases hlt : k < n
    · have hkl : k < l.length := by rw [← HN.out]; exact hlt
      obtain ⟨b, o, rfl, hat⟩ := HR.out k hkl
      have c0 := cell_gr HG.out hat
      have H1 := Lib.hid (fun w => r5_Check l[k] w (HS.out k hkl))
      have hz := HZ.out k hkl
      by_cases h0 : nuE (l[k]).data.toList = 0
      · rw [h0] at H1
        by_cases hk0 : k = 0
        · have HST : Hid (stepS l k = 0) := Lib.hid (by rw [hz, if_neg (by simpa using h0), if_pos hk0])
          have HK2 : Hid (∀ j, j < k + 1 → stepS l j = 0) := Lib.hid fun j hj => by
            obtain rfl : j = k := by omega
            exact HST.out
          have hdk : decide (0 < k) = false := by simp [hk0]
          generalize l[k] = x at *
          clear hz h0 hat hk0 HK HST
          go_wp2_with fail
          refine (H1.out _).mono ?_; rintro e w1 ⟨rfl, hg⟩
          replace HG := Lib.hid (Gr.trans HG.out hg); clear hg
          go_wp2_with fail
          go_region
          all_goals
            go_wp2
            go_roundw
            case rel => exact ⟨k + 1, by go_num, by omega, HG.out.drew, HK2.out⟩
            case measure => simp [intOf]; omega
        · obtain ⟨p, hpk⟩ : ∃ p, k = p + 1 := ⟨k - 1, by omega⟩
          have hpl : p < l.length := by omega
          have hzp := HZ.out p hpl
          have hp0 := HK.out p (by omega)
          have hep : nuE (l[p]).data.toList = 0 := by
            by_cases h : nuE (l[p]).data.toList = 0
            · exact h
            · rw [hp0, if_pos h] at hzp; exact absurd hzp.symm h
          obtain ⟨b', o', e', hatp⟩ := HR.out p hpl
          simp only [Option.some.injEq, Addr.mk.injEq, and_true] at e'
          obtain ⟨rfl, rfl⟩ := e'
          have H2 := Lib.hid (fun w => r5_Order l[p] l[k] w (HS.out p hpl) (HS.out _ hkl) hep h0)
          have hzk : stepS l k = if nuV (l[k]).data.toList ≤ nuV (l[p]).data.toList then 9 else 0 := by
            rw [hz, if_neg (by simpa using h0), if_neg (by omega)]
            simp only [show k - 1 = p by omega]
          have HF1 := Lib.hid (HF.out k 9 hkl HK.out)
          have HK' : Hid (stepS l k = 0 → ∀ j, j < k + 1 → stepS l j = 0) := Lib.hid fun h j hj => by
            by_cases hjk : j = k
            · subst hjk; exact h
            · exact HK.out j (by omega)
          have HAT := Lib.hid hatp
          have hwp : IntKind.i64.wrap ((k : Int) - 1) = (p : Int) := by rw [IntWalk.i64_in _ (by omega)]; omega
          have hpn : p < n := by omega
          have h0k : 0 < k := by omega
          clear hpk hz hzp hp0 hk0 HK hatp hat
          generalize l[k] = x at *
          generalize l[p] = y at *
          by_cases hord : nuV x.data.toList ≤ nuV y.data.toList
          · rw [if_pos hord] at hzk
            have hE := HF1.out hzk (by decide)
            subst hE
            have hc0 : 0 ≤ ordN (nuV y.data.toList) (nuV x.data.toList) := by unfold ordN; rw [if_neg (by omega)]; split <;> omega
            generalize ordN (nuV y.data.toList) (nuV x.data.toList) = c at *
            clear hzk h0 hep hord HF1 HK'
            go_wp2_with fail
            refine (H1.out _).mono ?_; rintro e w1 ⟨rfl, hg⟩
            have c1 := cell_gr hg c0
            replace HG := Lib.hid (Gr.trans HG.out hg); clear hg
            have c2 := cell_gr HG.out HAT.out
            go_wp2
            have gd : Gr w w1.drew := HG.out.drew
            go_region_held3 (fun w' => w'.cell? ⟨b, o + k, none⟩ = some (.string x) ∧ w'.cell? ⟨b, o + p, none⟩ = some (.string y)) (go_keep) (first
              | (go_at_call 30; refine (H2.out _).mono ?_; rintro e w6 ⟨rfl, hg6⟩; have g6 : Gr w w6 := Gr.trans (by assumption) hg6; have m0 : w6.cell? ⟨b, o + k, none⟩ = some (.string x) := cell_gr hg6 (by assumption); have m1 : w6.cell? ⟨b, o + p, none⟩ = some (.string y) := cell_gr hg6 (by assumption)))
            go_wp2
            go_ret
            exact ⟨rfl, by assumption⟩
          · rw [if_neg hord] at hzk
            have HK2 := Lib.hid (HK'.out hzk)
            have hc0 : ordN (nuV y.data.toList) (nuV x.data.toList) = -1 := by unfold ordN; rw [if_pos (by omega)]
            rw [hc0] at H2
            clear hzk h0 hep hord HF1 HK' hc0
            go_wp2_with fail
            refine (H1.out _).mono ?_; rintro e w1 ⟨rfl, hg⟩
            have c1 := cell_gr hg c0
            replace HG := Lib.hid (Gr.trans HG.out hg); clear hg
            have c2 := cell_gr HG.out HAT.out
            go_wp2
            have gd : Gr w w1.drew := HG.out.drew
            go_region_held3 (fun w' => w'.cell? ⟨b, o + k, none⟩ = some (.string x) ∧ w'.cell? ⟨b, o + p, none⟩ = some (.string y)) (go_keep) (first
              | (go_at_call 30; refine (H2.out _).mono ?_; rintro e w6 ⟨rfl, hg6⟩; have g6 : Gr w w6 := Gr.trans (by assumption) hg6; have m0 : w6.cell? ⟨b, o + k, none⟩ = some (.string x) := cell_gr hg6 (by assumption); have m1 : w6.cell? ⟨b, o + p, none⟩ = some (.string y) := cell_gr hg6 (by assumption)))
            go_wp2
            go_roundw
            case rel => exact ⟨k + 1, by go_num, by omega, by assumption, HK2.out⟩
            case measure => simp [intOf]; omega
      · obtain ⟨c, hc⟩ : ∃ c, nuE (l[k]).data.toList = c := ⟨_, rfl⟩
        have hE : E = c := by rw [← hc]; exact HF.out k _ hkl HK.out (by rw [hz, if_pos h0]) h0
        rw [hc] at H1 h0
        have hne : (c != 0) = true := by simpa using h0
        subst hE
        clear hz h0 hat HF HO hc
        generalize l[k] = x at *
        go_wp2_with fail
        refine (H1.out _).mono ?_; rintro e w1 ⟨rfl, hg⟩
        replace HG := Lib.hid (Gr.trans HG.out hg); clear hg
        go_wp2
        go_ret
        exact ⟨rfl, HG.out⟩
    · have hE := HO.out fun j hj => HK.out j (by have := HN.out; omega)
      subst hE
      go_wp2
      go_ret
      exact ⟨rfl, HG.out⟩
end Go.Proofs.YtcnnajgjkbohoaaDoor
