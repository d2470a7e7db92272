/- Knots of the reference; the law GlideChains. -/
import Derived.Test.YtffifpinnhaloaaGreatDoorLaw03b
set_option linter.unusedVariables false
set_option linter.unusedSimpArgs false
namespace Go.Proofs.YtffifpinnhaloaaGreatDoor
open Go.RowKit Go.Shelf Go.Deep
open Z

theorem putL_same {r : List Kn} {k : Kn} : putL (r ++ [k]) k = r ++ [k] := by unfold putL; rw [if_pos (by simp)]
theorem putL_more {r : List Kn} {k k1 : Kn} (h : k1 ≠ k) : putL (r ++ [k1]) k = r ++ [k1] ++ [k] := by unfold putL; rw [if_neg (by simpa using h)]
theorem putL_len (l : List Kn) (k : Kn) : (putL l k).length ≤ l.length + 1 := by unfold putL; split <;> simp
theorem putAll_len : ∀ (r l : List Kn), (putAll l r).length ≤ l.length + r.length
  | [], l => by simp [putAll]
  | a :: r, l => by
    have e : putAll l (a :: r) = putAll (putL l a) r := rfl
    have := putAll_len r (putL l a)
    have := putL_len l a
    rw [e, List.length_cons]; omega
theorem putAll_one (xs : List Kn) (a : Kn) : putAll [] (xs ++ [a]) = putL (putAll [] xs) a := by unfold putAll; rw [List.foldl_append]; rfl
section
variable {w0 : World}
set_option maxHeartbeats 2000000 in
set_option maxRecDepth 100000 in
theorem r3_put {wb w : World} {v : Value} {l : List Kn} (hown : OwnR wb.heap.size w v l) (hg : Gr wb w) (t : Int) (f : ByteArray) (hlen : l.length ≤ 2000) :
    Calls Tryz.prog 68 #[v, .int .i64 t, .string f] w (fun e w' => ∃ v', e = .returned v' ∧ OwnR wb.heap.size w' v' (putL l (t, f)) ∧ Gr wb w') := by
  obtain ⟨i0, hi, hz0, hz1, hz2⟩ := info_parts Tryz.infoRKnot
  obtain ⟨a, cap, rfl, hr, ha⟩ := hown.shape
  have HO := Lib.hid hown
  have HG := Lib.hid hg
  by_cases hne : l = []
  · subst hne
    clear hown hg hr ha
    simp only [List.length_nil] at *
    go_enter Tryz.func68, Tryz.ntmps68
    go_wp2_with (at_builtin; refine push_rk hi hz0 hz1 hz2 rfl _ _ rfl _ [] rfl HO.out HG.out t f w.heap.size rfl rfl (by simp) ?_; rintro v5 w5 HO5 hg5; have HG5 := Lib.hid hg5; clear hg5)
    go_ret
    exact ⟨v5, rfl, HO5.out, HG5.out⟩
  · obtain ⟨g, rfl⟩ := ha.resolve_left hne
    obtain ⟨r, k1, rfl⟩ : ∃ r k1, l = r ++ [k1] := ⟨l.dropLast, l.getLast hne, (List.dropLast_concat_getLast hne).symm⟩
    have hll : (r ++ [k1]).length = r.length + 1 := by simp
    obtain ⟨b, o, e, hat⟩ := hr r.length (by omega)
    simp only [Option.some.injEq, Addr.mk.injEq, and_true] at e
    obtain ⟨rfl, rfl⟩ := e
    rw [Nat.zero_add, show (r ++ [k1])[r.length]'(by omega) = k1 by simp] at hat
    obtain ⟨t1, f1⟩ := k1
    obtain ⟨c0, c1⟩ := hat
    simp only at c0 c1
    have HS : Hid (t1 = t → f1 = f → putL (r ++ [(t1, f1)]) (t, f) = r ++ [(t1, f1)]) := Lib.hid fun h1 h2 => by subst h1; subst h2; exact putL_same
    have HM : Hid (¬ (t1 = t ∧ f1 = f) → putL (r ++ [(t1, f1)]) (t, f) = r ++ [(t1, f1)] ++ [(t, f)]) := Lib.hid fun h => putL_more (fun e => h (by simpa using e))
    have HLL := Lib.hid hll
    generalize r ++ [(t1, f1)] = l at *
    rw [hll] at hlen ⊢
    rw [hll] at HO
    have hw1 : IntKind.i64.wrap (((r.length + 1 : Nat) : Int) - 1) = (r.length : Int) := by rw [IntWalk.i64_in _ (by omega)]; omega
    have hpos : (0 : Int) < ((r.length + 1 : Nat) : Int) := by omega
    generalize r.length = n at *
    clear hown hg hr ha hne hll
    by_cases h1 : t1 = t
    · subst h1
      by_cases h2 : f1 = f
      · subst h2
        have hbeq := ba_beq (s := f1) rfl
        have HS1 := Lib.hid (HS.out rfl rfl)
        clear HS HM
        go_enter Tryz.func68, Tryz.ntmps68
        go_wp2
        go_ret
        exact ⟨_, rfl, by rw [HS1.out]; exact HO.out, HG.out⟩
      · have hbn := ba_bne (s := f1) (t := f) h2
        have HM1 := Lib.hid (HM.out (fun h => h2 h.2))
        clear HS HM h2
        go_enter Tryz.func68, Tryz.ntmps68
        go_wp2_with (at_builtin; refine push_rk hi hz0 hz1 hz2 rfl _ _ rfl _ l rfl HO.out HG.out t1 f w.heap.size rfl rfl (by have := HLL.out; omega) ?_; rintro v5 w5 HO5 hg5; have HG5 := Lib.hid hg5; clear hg5)
        go_ret
        exact ⟨v5, rfl, by rw [HM1.out]; exact HO5.out, HG5.out⟩
    · have hbn : (t1 == t) = false := by simpa using h1
      have HM1 := Lib.hid (HM.out (fun h => h1 h.1))
      clear HS HM h1
      go_enter Tryz.func68, Tryz.ntmps68
      go_wp2_with (at_builtin; refine push_rk hi hz0 hz1 hz2 rfl _ _ rfl _ l rfl HO.out HG.out t f w.heap.size rfl rfl (by have := HLL.out; omega) ?_; rintro v5 w5 HO5 hg5; have HG5 := Lib.hid hg5; clear hg5)
      go_ret
      exact ⟨v5, rfl, by rw [HM1.out]; exact HO5.out, HG5.out⟩
def KnS (l : List Gl) (w w' : World) (e : Ending) : Prop := Gr w w' ∧ ((chainE l ≠ 0 ∧ e = .returned (.tuple #[.slice none 0 0, .int .i64 (chainE l)])) ∨
  (chainE l = 0 ∧ ∃ a cp, e = .returned (.tuple #[.slice a (knL l).length cp, .int .i64 0]) ∧ RdK w' a (knL l)))
set_option maxHeartbeats 4000000 in
set_option maxRecDepth 100000 in
theorem r3_Knots {a : Option Addr} {l : List Gl} {cap : Nat} (hc : RdG w0 a l) (hI : ∀ g ∈ l, g.isG) (hf : Fits l) (hlm : l.length ≤ maxLen) (w : World) (hg : Gr w0 w) :
    Calls Tryz.prog 30 #[.slice a l.length cap] w (fun e w' => KnS l w w' e) := by
  have C := RetG.of4 (w0 := w0) fun w1 h => ret3_Chain (w0 := w1) (cap := cap) (hc.gr h) hI hf hlm
  have HG := Lib.hid hg
  by_cases h : chainE l = 0
  · rw [h] at C
    have C := Lib.hid C
    have hz := chainE_zero h
    have HL : Hid (∀ g ∈ l, 0 ≤ g.x ∧ g.x ≤ 65535 ∧ 0 ≤ g.st ∧ g.st ≤ 10000000 ∧ 0 ≤ g.ti ∧ g.ti ≤ 10000000) := Lib.hid fun g hg => (Gl.lvl ((facts_of h).1 g hg)).2
    have HWh := Lib.hid (fun (x : Int) (x0 : 0 ≤ x) (x1 : x ≤ 65535) => RetG.of4 (w0 := w0) fun w1 _ => ret_Whole2 (w0 := w1) (n := x) (by omega) (by omega))
    have HC := Lib.hid (hc.gr hg)
    have HN0 : Hid (∀ w' v, Gr w w' → OwnR w.heap.size w' v (putAll [] (knAll l l.length)) → KnS l w w' (.returned (.tuple #[v, .int .i64 0]))) := Lib.hid fun w' v h1 h2 => by
      rw [putAll_compact] at h2
      obtain ⟨a', cp, rfl, hr, -⟩ := h2.shape
      exact ⟨h1, .inr ⟨h, a', cp, rfl, hr⟩⟩
    have HLE : Hid (∀ k, k ≤ l.length → (putAll [] (knAll l k)).length ≤ 2 * k) := Lib.hid fun k hk => by
      have h1 := putAll_len (knAll l k) []
      have h2 := knAll_len hk
      rw [List.length_nil] at h1; omega
    have K1 : Hid (∀ k (hk0 : k < l.length) (hk : k + 1 < l.length), ¬ (l[k]).st + (l[k]).ti ≤ (l[k + 1]).st → putAll [] (knAll l (k + 1)) = putL (putAll [] (knAll l k)) ((l[k]).st, (l[k]).f)) := Lib.hid fun k hk0 hk hn => by rw [kn1_one hk hn, putAll_one]
    have K2 : Hid (∀ k (hk : k < l.length), (∀ h : k + 1 < l.length, (l[k]).st + (l[k]).ti ≤ (l[k + 1]).st) → putAll [] (knAll l (k + 1)) = putL (putL (putAll [] (knAll l k)) ((l[k]).st, (l[k]).f)) ((l[k]).st + (l[k]).ti, Tx (l[k]).x)) := Lib.hid fun k hk hn => by rw [kn1_two hk hn, putAll_one, putAll_one]
    have hl256 := hz.1
    obtain ⟨n, hn⟩ : ∃ n, n = l.length := ⟨_, rfl⟩
    have HN := Lib.hid hn
    rw [← hn] at hl256 C ⊢
    clear hc hI hf hlm hz h hn hg
    go_enter Tryz.func30, Tryz.ntmps30
    go_wp2_with fail
    refine (C.out _ HG.out).mono ?_
    rintro e w1 ⟨rfl, hg1⟩
    have HG1 := Lib.hid hg1
    clear hg1 C
    go_wp2
    go_loopw [5, 6, 7] (fun v i _ wr => ∃ k : Nat, i = .int .i64 k ∧ k ≤ n ∧ Hid (OwnR w.heap.size wr v (putAll [] (knAll l k))) ∧ Hid (Gr w wr)) (fun _ i _ _ => n - (intOf i).toNat)
    case atStart => exact ⟨0, rfl, Nat.zero_le _, OwnR.nil _ _, HG1.out⟩
    case round =>
      clear HG1
      obtain ⟨k, rfl, hk, HO, HGk⟩ := hrel
      by_cases hlt : k < n
      · have hkl : k < l.length := by rw [← HN.out]; exact hlt
        obtain ⟨b, o, rfl, hat⟩ := HC.out k hkl
        have hL := HL.out _ (List.getElem_mem hkl)
        have hle := HLE.out k (by omega)
        have W1 := HWh.out _ hL.1 hL.2.1
        have NXT : Hid (∀ h : k + 1 < l.length, ∃ nst, (l[k + 1]).st = nst ∧ w.cell? ⟨b, o + (k + 1) * 4 + 2, none⟩ = some (.int .i64 nst)) := Lib.hid fun h => by
          obtain ⟨b', o', e, hat'⟩ := HC.out (k + 1) h
          simp only [Option.some.injEq, Addr.mk.injEq, and_true] at e
          obtain ⟨rfl, rfl⟩ := e
          exact ⟨_, rfl, hat'.2.2.1⟩
        have K1k := Lib.hid (K1.out k hkl)
        have K2k := Lib.hid (K2.out k hkl)
        have HAT := Lib.hid hat
        generalize putAll [] (knAll l k) = xs at *
        generalize l[k] = g at *
        obtain ⟨s, x, st, ti⟩ := g
        try simp only [Gl.f, Gl.x, Gl.st, Gl.ti] at hL W1
        obtain ⟨x0, x1, s0, s1, i0, i1⟩ := hL
        obtain ⟨c0, c1, c2, c3⟩ := HAT.out.gr HGk.out
        simp only [Gl.f, Gl.x, Gl.st, Gl.ti] at c0 c1 c2 c3
        have W1 := Lib.hid W1
        have P1 := Lib.hid (fun (w' : World) (v : Value) (ho : OwnR w.heap.size w' v xs) (hg : Gr w w') => r3_put ho hg st s (by omega))
        have hwr : IntKind.i64.wrap (st + ti) = st + ti := IntWalk.i64_in _ (by omega)
        clear hat
        go_wp2_with fail
        go_region_with (go_at_call 68; refine (P1.out _ _ (HO.out.gr (Gr.refl _).drew) HGk.out.drew).mono ?_; rintro e y1 ⟨v1, rfl, ho1, hy1⟩)
        all_goals
          have HO1 := Lib.hid ho1
          have HY1 := Lib.hid hy1
          clear ho1 hy1 c0 c1 c2 c3 HO HGk
          obtain ⟨c0, c1, c2, c3⟩ := HAT.out.gr HY1.out
          simp only [Gl.f, Gl.x, Gl.st, Gl.ti] at c0 c1 c2 c3
          go_wp2_with fail
          go_quiet (fail)
          rename_i nq
          have HY2 := Lib.hid (below_drewN HY1.out nq)
          have HO2 := Lib.hid (HO1.out.gr (below_drewN (Gr.refl y1) nq))
          clear c0 c1 c2 c3 HO1 HY1
          generalize y1.drewN nq = y2 at *
          obtain ⟨c0, c1, c2, c3⟩ := HAT.out.gr HY2.out
          simp only [Gl.f, Gl.x, Gl.st, Gl.ti] at c0 c1 c2 c3
          by_cases hlast : k + 1 = n
          · have hq := K2k.out (fun h => absurd h (by have := HN.out; omega))
            have HQ := Lib.hid hq
            have heq : (((k : Int) + 1) == (n : Int)) = true := by rw [beq_iff_eq]; omega
            have P2 := Lib.hid (fun (w' : World) (ho : OwnR w.heap.size w' v1 (putL xs (st, s))) (hg : Gr w w') => r3_put ho hg (st + ti) (Tx x) (by have := putL_len xs (st, s); omega))
            clear hq K1k K2k
            simp only [Gl.f, Gl.x, Gl.st, Gl.ti] at HQ
            generalize Tx x = tx at *
            go_wp2_with fail
            refine (W1.out _ (Gr.trans HG.out HY2.out)).mono ?_
            rintro e w3 ⟨rfl, hg3⟩
            have HY3 := Lib.hid (Gr.trans HY2.out hg3)
            have HO3 := Lib.hid (HO2.out.gr hg3)
            clear hg3
            go_wp2_with fail
            refine (P2.out _ HO3.out HY3.out).mono ?_
            rintro e w4 ⟨v4, rfl, ho4, hg4⟩
            have HO4 := Lib.hid ho4
            have HY4 := Lib.hid hg4
            clear ho4 hg4
            go_wp2
            go_roundw
            case rel => exact ⟨k + 1, by go_num, by omega, by rw [HQ.out]; exact HO4.out, HY4.out⟩
            case measure => simp [intOf]; omega
          · have hk1 : k + 1 < l.length := by have := HN.out; omega
            have hk1n : (k : Int) + 1 < n := by omega
            obtain ⟨nst, hns, hn2⟩ := NXT.out hk1
            have n2 := gr_cell HY2.out hn2
            have heq : (((k : Int) + 1) == (n : Int)) = false := by rw [beq_eq_false_iff_ne]; omega
            have q1 : (0 : Int) ≤ (k : Int) + 1 := by omega
            have q4 : ((k : Int) + 1).toNat = k + 1 := by omega
            by_cases hge : st + ti ≤ nst
            · have hq := K2k.out (fun h => by show st + ti ≤ _; rw [hns]; exact hge)
              have HQ := Lib.hid hq
              have P2 := Lib.hid (fun (w' : World) (ho : OwnR w.heap.size w' v1 (putL xs (st, s))) (hg : Gr w w') => r3_put ho hg (st + ti) (Tx x) (by have := putL_len xs (st, s); omega))
              clear hq K1k K2k hns hn2
              simp only [Gl.f, Gl.x, Gl.st, Gl.ti] at HQ
              generalize Tx x = tx at *
              go_wp2_with fail
              refine (W1.out _ (Gr.trans HG.out HY2.out)).mono ?_
              rintro e w3 ⟨rfl, hg3⟩
              have HY3 := Lib.hid (Gr.trans HY2.out hg3)
              have HO3 := Lib.hid (HO2.out.gr hg3)
              clear hg3
              go_wp2_with fail
              refine (P2.out _ HO3.out HY3.out).mono ?_
              rintro e w4 ⟨v4, rfl, ho4, hg4⟩
              have HO4 := Lib.hid ho4
              have HY4 := Lib.hid hg4
              clear ho4 hg4
              go_wp2
              go_roundw
              case rel => exact ⟨k + 1, by go_num, by omega, by rw [HQ.out]; exact HO4.out, HY4.out⟩
              case measure => simp [intOf]; omega
            · have hq := K1k.out hk1 (by rw [hns]; first | exact hge | (show nst < st + ti; omega))
              have HQ := Lib.hid hq
              have HO3 := HO2
              clear hq K1k K2k hns hn2
              simp only [Gl.f, Gl.x, Gl.st, Gl.ti] at HQ
              go_wp2
              go_roundw
              case rel => exact ⟨k + 1, by go_num, by omega, by rw [HQ.out]; exact HO3.out, HY2.out⟩
              case measure => simp [intOf]; omega
      · have hkn : k = n := by omega
        have hfin := fun v => HN0.out wr v HGk.out
        rw [← HN.out, ← hkn] at hfin
        have HF := Lib.hid hfin
        clear hfin
        go_wp2
        go_ret2
        exact HF.out _ HO.out
  · have hne : (chainE l != 0) = true := by simpa using h
    have HN0 : Hid (∀ w', Gr w w' → KnS l w w' (.returned (.tuple #[.slice none 0 0, .int .i64 (chainE l)]))) := Lib.hid fun w' hw => ⟨hw, .inl ⟨h, rfl⟩⟩
    have C := Lib.hid C
    clear h hc hI hf hlm hg
    generalize chainE l = c at *
    go_enter Tryz.func30, Tryz.ntmps30
    go_wp2_with fail
    refine (C.out _ HG.out).mono ?_
    rintro e w1 ⟨rfl, hg1⟩
    have HG1 := Lib.hid hg1
    clear hg1
    go_wp2
    go_ret2
    exact HN0.out _ HG1.out
end
section
variable {w0 : World} (htab : Tab w0) (hmx : Mx w0) (herr : ErrR w0)
include htab hmx herr
set_option maxHeartbeats 4000000 in
set_option maxRecDepth 100000 in
theorem l3_GlideChains {a : Option Addr} {l : List Gl} {cap : Nat} (hc : RdG w0 a l) (hall : ∀ g ∈ l, g.f.size ≤ maxLen ∧ g.isG) (hlc : l.length ≤ cap) (hcm : cap ≤ maxLen) {t : Int} (ht : isJ t) : Ret w0 5 #[.slice a l.length cap, .int .i64 t] (.bool true) := by
  have AW := Lib.hid (RetG.of4 (w0 := w0) fun w1 h => l3_awake (htab_gr htab h) (hmx.gr h) (herr.gr h))
  have F := RetG.of4 (w0 := w0) fun w1 h => ret3_Few (w0 := w1) (cap := cap) (hc.gr h) (fun g hg => (hall g hg).1)
  have hlm : l.length ≤ maxLen := by omega
  cases hf : fewG l
  · rw [hf] at F
    have F := Lib.hid F
    clear htab hmx herr hc hall hf
    generalize l.length = n at *
    intro w hg
    have HG := Lib.hid hg; clear hg
    go_enter Tryz.func5, Tryz.ntmps5
    go_wp2_with fail
    refine (F.out _ HG.out).mono ?_
    rintro e w1 ⟨rfl, hg⟩
    replace HG := Lib.hid (Gr.trans HG.out hg); clear hg
    go_wp2_with fail
    refine (AW.out _ HG.out).mono ?_
    rintro e w1 ⟨rfl, hg⟩
    replace HG := Lib.hid (Gr.trans HG.out hg); clear hg
    go_wp2
    go_ret
    exact ⟨rfl, HG.out⟩
  · rw [hf] at F
    have F := Lib.hid F
    have hG : ∀ g ∈ l, g.isG := fun g hg => (hall g hg).2
    have hfit : Fits l := by
      rcases fewG_yes hf with h | ⟨-, h⟩
      · exact .inl h
      · exact .inr fun g hg => by have := h g hg; omega
    have V1 := RetG.of4 (w0 := w0) fun w1 h => ret_GValue (htab_gr htab h) (hmx.gr h) (herr.gr h) (hc.gr h) hG hfit hlc hcm ht
    have V2 := RetG.of4 (w0 := w0) fun w1 h => ret3_Value (w0 := w1) (cap := cap) (hc.gr h) hG hfit hlm ht
    have C1 := RetG.of4 (w0 := w0) fun w1 h => ret_GChain (htab_gr htab h) (hmx.gr h) (herr.gr h) (cap := cap) (hc.gr h) hG hfit hlm
    have C2 := RetG.of4 (w0 := w0) fun w1 h => ret3_Chain (w0 := w1) (cap := cap) (hc.gr h) hG hfit hlm
    have N1 := Lib.hid (fun (w : World) (hw : Gr w0 w) => ret_GKnots htab hmx herr hc hG hfit hlc hcm w hw)
    have N2 := Lib.hid (fun (w : World) (hw : Gr w0 w) => r3_Knots (cap := cap) hc hG hfit hlm w hw)
    obtain ⟨⟨v, e⟩, hve⟩ : ∃ p, valE l t = p := ⟨_, rfl⟩
    rw [hve] at V1 V2
    unfold vSI at V1 V2
    have V1 := Lib.hid V1
    have V2 := Lib.hid V2
    have C1 := Lib.hid C1
    have C2 := Lib.hid C2
    have hbeq := ba_beq (s := v) rfl
    have HK3 : Hid (chainE l = 0 → (knL l).length ≤ 600) := Lib.hid fun h => by
      have h1 := compactL_len (knAll l l.length)
      have h2 := knAll_len (l := l) (k := l.length) (Nat.le_refl _)
      have h3 := (chainE_zero h).1
      unfold knL; omega
    obtain ⟨n, hn⟩ : ∃ n, n = l.length := ⟨_, rfl⟩
    rw [← hn] at F V1 V2 C1 C2 N1 N2 ⊢
    rw [← hn] at hlc hlm
    clear htab hmx herr hc hall hf hG hfit hve hn ht
    intro w hg
    have HG := Lib.hid hg; clear hg
    go_enter Tryz.func5, Tryz.ntmps5
    go_wp2_with fail
    refine (F.out _ HG.out).mono ?_
    rintro e1 w1 ⟨rfl, hg⟩
    replace HG := Lib.hid (Gr.trans HG.out hg); clear hg
    go_wp2_with fail
    refine (V1.out _ HG.out).mono ?_
    rintro e1 w1 ⟨rfl, hg⟩
    replace HG := Lib.hid (Gr.trans HG.out hg); clear hg
    go_wp2_with fail
    refine (V2.out _ HG.out).mono ?_
    rintro e1 w1 ⟨rfl, hg⟩
    replace HG := Lib.hid (Gr.trans HG.out hg); clear hg
    go_wp2_with fail
    refine (N1.out _ HG.out).mono ?_
    rintro e1 w1 ⟨hg, h1⟩
    replace HG := Lib.hid (Gr.trans HG.out hg); clear hg
    rcases h1 with ⟨hne, rfl⟩ | ⟨hz, g1, cp1, rfl, hr1, hcp, -⟩
    · have hne' : chainE l ≠ 0 := hne
      go_wp2_with fail
      refine (N2.out _ HG.out).mono ?_
      rintro e1 w2 ⟨hg, h2⟩
      replace HG := Lib.hid (Gr.trans HG.out hg); clear hg
      rcases h2 with ⟨-, rfl⟩ | ⟨hz, -⟩
      · clear HK3 hne hne'
        generalize chainE l = c at *
        go_wp2_with fail
        refine (AW.out _ HG.out).mono ?_
        rintro e1 w3 ⟨rfl, hg⟩
        replace HG := Lib.hid (Gr.trans HG.out hg); clear hg
        go_wp2_with fail
        refine (C1.out _ HG.out).mono ?_
        rintro e1 w4 ⟨rfl, hg⟩
        replace HG := Lib.hid (Gr.trans HG.out hg); clear hg
        go_wp2_with fail
        refine (C2.out _ HG.out).mono ?_
        rintro e1 w5 ⟨rfl, hg⟩
        replace HG := Lib.hid (Gr.trans HG.out hg); clear hg
        go_wp2_with fail
        refine (l3_knots (l := []) (cap := 0) w5 (RdK.nil _ _) (by simp)).mono ?_
        rintro e1 w6 ⟨⟨a6, c6, rfl, hr6⟩, hg⟩
        replace HG := Lib.hid (Gr.trans HG.out hg); clear hg hr6
        have SK := r3_SameKnots (a := a6) (b := none) (la := []) (lb := []) (ca := c6) (cb := 0) w6 (RdK.nil _ _) (RdK.nil _ _) (by simp)
        simp only [List.length_nil, decide_true] at SK ⊢
        have SK := Lib.hid SK
        go_wp2_with fail
        refine SK.out.mono ?_
        rintro e1 w7 ⟨rfl, hg⟩
        replace HG := Lib.hid (Gr.trans HG.out hg); clear hg SK
        go_wp2
        go_ret
        exact ⟨rfl, HG.out⟩
      · exact absurd hz hne'
    · have hk6 := HK3.out hz
      have HR1 := Lib.hid hr1
      clear hr1
      go_wp2_with fail
      refine (N2.out _ HG.out).mono ?_
      rintro e1 w2 ⟨hg, h2⟩
      have hR1 := HR1.out.gr hg
      replace HG := Lib.hid (Gr.trans HG.out hg); clear hg HR1
      rcases h2 with ⟨hne, -⟩ | ⟨-, a2, cp2, rfl, hr2⟩
      · exact absurd hz hne
      · have HR1 := Lib.hid hR1
        have HR2 := Lib.hid hr2
        rw [hz] at C1 C2
        have KN := Lib.hid (fun (w : World) (a : Option Addr) (c : Nat) (h : RdK w a (knL l)) => l3_knots (l := knL l) (cap := c) w h hk6)
        have SK := Lib.hid (fun (w : World) (a b : Option Addr) (ca cb : Nat) (ha : RdK w a (knL l)) (hb : RdK w b (knL l)) => r3_SameKnots (la := knL l) (lb := knL l) (ca := ca) (cb := cb) w ha hb hk6)
        clear hr2 hR1 HK3 hz
        generalize knL l = ks at *
        obtain ⟨m, hm⟩ : ∃ m, m = ks.length := ⟨_, rfl⟩
        rw [← hm] at hk6 KN SK hcp ⊢
        clear hm
        go_wp2_with fail
        refine (AW.out _ HG.out).mono ?_
        rintro e1 w3 ⟨rfl, hg⟩
        have hA := HR1.out.gr hg
        have hB := HR2.out.gr hg
        replace HG := Lib.hid (Gr.trans HG.out hg); clear hg HR1 HR2
        have HR1 := Lib.hid hA
        have HR2 := Lib.hid hB
        clear hA hB
        go_wp2_with fail
        refine (C1.out _ HG.out).mono ?_
        rintro e1 w4 ⟨rfl, hg⟩
        have hA := HR1.out.gr hg
        have hB := HR2.out.gr hg
        replace HG := Lib.hid (Gr.trans HG.out hg); clear hg HR1 HR2
        have HR1 := Lib.hid hA
        have HR2 := Lib.hid hB
        clear hA hB
        go_wp2_with fail
        refine (C2.out _ HG.out).mono ?_
        rintro e1 w5 ⟨rfl, hg⟩
        have hA := HR1.out.gr hg
        have hB := HR2.out.gr hg
        replace HG := Lib.hid (Gr.trans HG.out hg); clear hg HR1 HR2
        have HR1 := Lib.hid hA
        have HR2 := Lib.hid hB
        clear hA hB
        go_wp2_with fail
        refine (KN.out _ _ _ HR1.out).mono ?_
        rintro e1 w6 ⟨⟨a6, c6, rfl, hr6⟩, hg⟩
        have HR6 := Lib.hid hr6
        have hB := HR2.out.gr hg
        replace HG := Lib.hid (Gr.trans HG.out hg); clear hg hr6 HR2 HR1
        have HR2 := Lib.hid hB
        clear hB
        go_wp2_with fail
        refine (SK.out _ _ _ _ _ HR6.out HR2.out).mono ?_
        rintro e1 w7 ⟨rfl, hg⟩
        replace HG := Lib.hid (Gr.trans HG.out hg); clear hg
        simp only [decide_true]
        go_wp2
        go_ret
        exact ⟨rfl, HG.out⟩
end
end Go.Proofs.YtffifpinnhaloaaGreatDoor
