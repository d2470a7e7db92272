/- Records: own and Same. -/
import Derived.Test.YtebniicnaofdoaaRcP
set_option linter.unusedVariables false
set_option linter.unusedSimpArgs false
namespace Go.Proofs.Ytebniicnaofdoaa
open Go.RowKit
open Z Rc

theorem ba_beqE {s t : ByteArray} (h : s = t) : (s.toList == t.toList) = true := by subst h; simp
theorem ba_bneE {s t : ByteArray} (h : ¬ s = t) : (s.toList == t.toList) = false := by
  rw [beq_eq_false_iff_ne, ByteArray.toList_eq, ByteArray.toList_eq]; exact fun e => h (ba_ext e)
set_option maxHeartbeats 2000000 in
set_option maxRecDepth 100000 in
theorem l8_own {a : Option Addr} {l : List E} {cap : Nat} (w : World) (hc : RdE w a l) (hlen : l.length ≤ 20000) :
    Calls Try.prog 26 #[.slice a l.length cap] w (fun e w' => (∃ a' c', e = .returned (.slice a' l.length c') ∧ RdE w' a' l) ∧ Gr w w') := by
  have HC := Lib.hid hc; clear hc
  obtain ⟨i0, hi, hz0, hz1, hz2⟩ := info_parts Try.infoEF
  obtain ⟨n, hn⟩ : ∃ n, n = l.length := ⟨_, rfl⟩
  have HN := Lib.hid hn
  rw [← hn] at hlen ⊢
  clear hn
  go_enter Try.func26, Try.ntmps26
  go_wp2
  go_loopw [3, 8] (fun v i wr => ∃ k : Nat, i = .int .i64 k ∧ k ≤ n ∧ Hid (OwnF w.heap.size wr v (l.take k)) ∧ Hid (Gr w wr)) (fun _ i _ => n - (intOf i).toNat)
  case atStart => exact ⟨0, rfl, Nat.zero_le _, OwnF.nil _ _, Gr.refl w⟩
  case round =>
    obtain ⟨k, rfl, hk, HO, HG⟩ := hrel
    by_cases hlt : k < n
    · have hkl : k < l.length := by rw [← HN.out]; exact hlt
      obtain ⟨b, o, rfl, c0, c1⟩ := (HC.out.gr HG.out) k hkl
      have HT : Hid (l.take (k + 1) = l.take k ++ [l[k]]) := Lib.hid (List.take_succ_eq_append_getElem hkl)
      have hxl : (l.take k).length ≤ 20000 := by rw [List.length_take]; have := HN.out; omega
      generalize hx : l[k] = x at *
      obtain ⟨t, f⟩ := x
      simp only at c0 c1
      have hbl : b < wr.heap.size := cell_lt c0
      have HO1 := Lib.hid (HO.out.gr ((Gr.refl wr).alloc (.cells #[.int .i64 t, .string f] 41)))
      have HG1 := Lib.hid (HG.out.alloc (.cells #[.int .i64 t, .string f] 41))
      clear hx HO HG
      generalize l.take k = xs at *
      go_wp2_with (at_builtin; refine push_f hi hz0 hz1 hz2 rfl _ _ rfl _ xs rfl HO1.out HG1.out t f (wr.heap.size + 1) (by simp) rfl (by omega) ?_; rintro v5 w5 HO5 hg5; have HG5 := Lib.hid hg5; clear hg5)
      go_roundw
      case rel => exact ⟨k + 1, by go_num, by omega, by rw [HT.out]; exact HO5.out, HG5.out⟩
      case measure => simp [intOf]; omega
    · have hkn : k = n := by omega
      subst hkn
      have ho := HO.out
      rw [List.take_of_length_le (by have := HN.out; omega)] at ho
      obtain ⟨a', c', hv, hr, -⟩ := ho.shape
      rw [← HN.out] at hv
      subst hv
      have HR := Lib.hid hr
      clear ho hr HO
      go_wp2
      go_ret
      exact ⟨⟨a', c', rfl, HR.out⟩, HG.out⟩
set_option maxHeartbeats 2000000 in
set_option maxRecDepth 100000 in
theorem r8_Same {a b : Option Addr} {la lb : List E} {ca cb : Nat} (w : World) (ha : RdE w a la) (hb : RdE w b lb) (hlen : la.length ≤ 20000) :
    Calls Try.prog 31 #[.slice a la.length ca, .slice b lb.length cb] w (fun e w' => e = .returned (.bool (decide (la = lb))) ∧ Gr w w') := by
  by_cases hl : la.length = lb.length
  · have HA := Lib.hid ha
    have HB := Lib.hid hb
    obtain ⟨r, hr⟩ : ∃ r, decide (la = lb) = r := ⟨_, rfl⟩
    have HY : Hid ((∀ j (hj : j < la.length) (hj' : j < lb.length), la[j] = lb[j]) → r = true) := Lib.hid fun h => by rw [← hr]; exact decide_eq_true (List.ext_getElem hl fun j h1 h2 => h j h1 h2)
    have HX : Hid (∀ j (hj : j < la.length) (hj' : j < lb.length), la[j] ≠ lb[j] → r = false) := Lib.hid fun j hj hj' h => by rw [← hr]; exact decide_eq_false fun e => h (by subst e; rfl)
    have HL := Lib.hid hl
    rw [hr, ← hl]
    clear hr ha hb hl
    obtain ⟨n, hn⟩ : ∃ n, n = la.length := ⟨_, rfl⟩
    have HN := Lib.hid hn
    rw [← hn] at hlen ⊢
    clear hn
    go_enter Try.func31, Try.ntmps31
    go_wp2
    go_loopw [5] (fun i wr => ∃ k : Nat, i = .int .i64 k ∧ k ≤ n ∧ Hid (Gr w wr) ∧ Hid (∀ j (hj : j < la.length) (hj' : j < lb.length), j < k → la[j] = lb[j])) (fun i _ => n - (intOf i).toNat)
    case atStart => exact ⟨0, rfl, Nat.zero_le _, Gr.refl w, fun j hj _ h => absurd h (by omega)⟩
    case round =>
      obtain ⟨k, rfl, hk, HG, HK⟩ := hrel
      by_cases hlt : k < n
      · have hka : k < la.length := by rw [← HN.out]; exact hlt
        have hkb : k < lb.length := by have := HL.out; omega
        obtain ⟨b1, o1, rfl, c0, c1⟩ := (HA.out.gr HG.out) k hka
        obtain ⟨b2, o2, rfl, d0, d1⟩ := (HB.out.gr HG.out) k hkb
        have HX1 := Lib.hid (HX.out k hka hkb)
        have HQ : Hid (la[k] = lb[k] → ∀ j (hj : j < la.length) (hj' : j < lb.length), j < k + 1 → la[j] = lb[j]) := Lib.hid fun e j hj hj' h => by
          by_cases hjk : j = k
          · subst hjk; exact e
          · exact HK.out j hj hj' (by omega)
        generalize la[k] = x at *
        generalize lb[k] = y at *
        obtain ⟨x0, x1⟩ := x
        obtain ⟨y0, y1⟩ := y
        simp only at c0 c1 d0 d1
        clear HK
        by_cases h0 : x0 = y0
        · subst h0
          by_cases h1 : x1 = y1
          · subst h1
            have HQ1 := Lib.hid (HQ.out rfl)
            have hbeq := ba_beqE (s := x1) rfl
            clear HX1 HQ
            go_wp2_with fail
            go_region
            go_wp2
            go_roundw
            case rel => exact ⟨k + 1, by go_num, by omega, HG.out.drew, HQ1.out⟩
            case measure => simp [intOf]; omega
          · have hbn := ba_bneE (s := x1) (t := y1) h1
            have hr : r = false := HX1.out (fun e => h1 (by injection e))
            subst hr
            clear HX1 HQ h1
            go_wp2_with fail
            go_region
            go_wp2
            go_ret
            exact ⟨rfl, HG.out.drew⟩
        · have hbn : (x0 == y0) = false := by simpa using h0
          have hr : r = false := HX1.out (fun e => h0 (by injection e))
          subst hr
          clear HX1 HQ h0
          go_wp2_with fail
          go_region
          go_wp2
          go_ret
          exact ⟨rfl, HG.out.drew⟩
      · have hr : r = true := HY.out fun j hj hj' => HK.out j hj hj' (by have := HN.out; omega)
        subst hr
        go_wp2
        go_ret
        exact ⟨rfl, HG.out⟩
  · have hr : decide (la = lb) = false := decide_eq_false fun e => hl (by rw [e])
    rw [hr]
    have hlb : ((la.length : Int) == (lb.length : Int)) = false := by rw [beq_eq_false_iff_ne]; omega
    go_enter Try.func31, Try.ntmps31
    go_wp2
    go_ret
    exact ⟨rfl, Gr.refl _⟩
end Go.Proofs.Ytebniicnaofdoaa
