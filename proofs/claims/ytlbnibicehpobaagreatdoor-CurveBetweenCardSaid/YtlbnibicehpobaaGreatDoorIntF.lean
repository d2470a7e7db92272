/- IntF: Int02o, joined. -/
import Derived.Test.YtlbnibicehpobaaGreatDoorIntE
import Derived.Deep.QuietTactic
import Derived.BigQuiet
set_option linter.unusedVariables false
set_option linter.unusedSimpArgs false

/- The greatest common divisor of words. -/
namespace Go.Proofs.YtlbnibicehpobaaGreatDoor
open Go.RowKit Go.Shelf
open Z

theorem Rd.unique {k : IntKind} {w : World} {v : Value} {xs ys : List Nat} (h : Rd k w v xs) (h' : Rd k w v ys) : xs = ys := by
  obtain ⟨a, c, rfl, -, h1⟩ := h
  obtain ⟨a', c', he, -, h2⟩ := h'
  simp only [Value.slice.injEq] at he
  obtain ⟨rfl, hl, rfl⟩ := he
  refine List.ext_getElem hl fun i hi hi' => ?_
  rcases h1 with rfl | ⟨g, off, rfl, -, h3⟩
  · simp at hi
  · rcases h2 with rfl | ⟨g', off', he, -, h4⟩
    · simp at hi'
    · simp only [Option.some.injEq, Addr.mk.injEq, and_true] at he
      obtain ⟨rfl, rfl⟩ := he
      have h5 := h3 i hi
      rw [h4 i hi'] at h5
      simp only [Option.some.injEq, Value.int.injEq, true_and] at h5
      omega
theorem WD.unique {w : World} {v : Value} {n m : Nat} (h : WD w v n) (h' : WD w v m) : n = m := by
  obtain ⟨xs, h1, -, rfl⟩ := h
  obtain ⟨ys, h2, -, rfl⟩ := h'
  rw [h1.unique h2]
open Classical in
/-- the number that words hold -/
noncomputable def wdv (w : World) (v : Value) : Nat := if h : ∃ n, WD w v n then Classical.choose h else 0
theorem wdv_eq {w : World} {v : Value} {n : Nat} (h : WD w v n) : wdv w v = n := by
  unfold wdv
  rw [dif_pos ⟨n, h⟩]
  exact (Classical.choose_spec (⟨n, h⟩ : ∃ n, WD w v n)).unique h
theorem Nm.len_le {xs : List Nat} {K : Nat} (h : Nm xs) (hk : wv 1000000000 xs < 1000000000 ^ K) : xs.length ≤ K := h.le hk
def GcdI (n m K : Nat) (wr : World) (x y : Value) : Prop := ∃ a b, WD wr x a ∧ WD wr y b ∧ Nat.gcd a b = Nat.gcd n m ∧ a < 1000000000 ^ K ∧ b < 1000000000 ^ K
theorem gcd_step (a b : Nat) : Nat.gcd b (a % b) = Nat.gcd a b := by
  rw [Nat.gcd_comm b, ← Nat.gcd_rec, Nat.gcd_comm]
theorem WD.zero {w : World} {a : Option Addr} {n c : Nat} {m : Nat} (h : WD w (.slice a n c) m) : (n = 0 ↔ m = 0) := by
  obtain ⟨xs, hr, hn, rfl⟩ := h
  obtain ⟨rfl, -, -⟩ := hr.len
  constructor
  · intro h; rw [List.eq_nil_of_length_eq_zero h]; rfl
  · intro h
    rcases Nat.eq_zero_or_pos xs.length with h1 | h1
    · exact h1
    · have := hn.ge (by intro e; rw [e] at h1; simp at h1)
      have h2 : 0 < 1000000000 ^ (xs.length - 1) := Nat.pow_pos (by omega)
      omega
theorem WD.sh {w : World} {v : Value} {m : Nat} (h : WD w v m) : ∃ a n c, v = .slice a n c := by
  obtain ⟨a, c, xs, rfl, -⟩ := h.form
  exact ⟨a, _, c, rfl⟩
theorem WD.small {w : World} {a : Option Addr} {n c : Nat} {m : Nat} (h : WD w (.slice a n c) m) (hn : n ≤ 2) : m < 1000000000000000000 := by
  obtain ⟨xs, hr, hnm, rfl⟩ := h
  obtain ⟨rfl, -, -⟩ := hr.len
  have := wv_lt hnm.1
  have h2 : 1000000000 ^ xs.length ≤ 1000000000 ^ 2 := Nat.pow_le_pow_right (by omega) hn
  omega
theorem rd_new2 (w : World) (x y : Nat) (t : TypeId) : Rd .u32 (w.alloc (.cells #[.int .u32 x, .int .u32 y] t)) (.slice (some ⟨w.heap.size, 0, none⟩) 2 2) [x, y] := by
  refine ⟨some ⟨w.heap.size, 0, none⟩, 2, rfl, ⟨by simp, by unfold maxLen; omega⟩, .inr ⟨w.heap.size, 0, rfl, by simp, fun i hi => ?_⟩⟩
  have : i = 0 ∨ i = 1 := by simp at hi; omega
  rcases this with rfl | rfl
  · rw [World.cell?_alloc_at _ _ _ _ rfl]; rfl
  · rw [World.cell?_alloc_at _ _ _ _ rfl]; rfl
theorem i_smallW {m : Nat} (a : Option Addr) (n c : Nat) (w : World) (h : WD w (.slice a n c) m) (hn : n ≤ 2) :
    Calls Tryz.prog 166 #[.slice a n c] w (fun e w' => e = .returned (.int .u64 m) ∧ Gr w w') := by
  obtain ⟨xs, hr, hnm, rfl⟩ := h
  obtain ⟨rfl, -, -⟩ := hr.len
  exact i_small a _ c xs w hr hnm.1 hn

set_option maxHeartbeats 4000000 in
set_option maxRecDepth 100000 in
theorem i_gcd {K : Nat} (v v' : Value) (n m : Nat) (w : World) (h : WD w v n) (h' : WD w v' m) (hn : n < 1000000000 ^ K) (hm : m < 1000000000 ^ K) (hK : K ≤ 1000000) :
    Calls Tryz.prog 149 #[v, v'] w (fun e w' => WRet (Nat.gcd n m) w w' e) := by
  have HI0 : Hid (GcdI n m K w v v') := ⟨n, m, h, h', rfl, hn, hm⟩
  clear h h' hn hm
  have HTR := Lib.hid (fun (q r : Nat) (w : World) (hq : q < 1000000000) (hr : r < 1000000000) (g : Nat) (hx : Rd .u32 w (.slice (some ⟨g, 0, none⟩) 2 2) [q, r]) => i_trim (some ⟨g, 0, none⟩) 2 2 [q, r] w hx (by intro x hx; simp at hx; omega) (by simp))
  obtain ⟨wo, hwo⟩ : ∃ wo : World, wo = w := ⟨_, rfl⟩
  go_enter Tryz.func149, Tryz.ntmps149
  go_wp2
  go_loopw [0, 1, 5, 6] (fun x y _ _ wr => Hid (GcdI n m K wr x y) ∧ Hid (Gr w wr)) (fun _ y _ _ wr => wdv wr y)
  case atStart => exact ⟨HI0.out, Gr.refl _⟩
  case round =>
    clear HI0
    obtain ⟨HI, HG⟩ := hrel
    obtain ⟨a, b, ha, hb, hgcd, haK, hbK⟩ := id HI.out
    obtain ⟨aa, na, ca, rfl⟩ := ha.sh
    obtain ⟨ab, nb, cb, rfl⟩ := hb.sh
    have HA := Lib.hid ha
    have HB := Lib.hid hb
    have HGC := Lib.hid hgcd
    have HAK := Lib.hid haK
    have HBK := Lib.hid hbK
    clear ha hb hgcd haK hbK HI
    by_cases e0 : 2 < na ∨ 2 < nb
    · by_cases e1 : nb = 0
      · subst e1
        have hna : 2 < na := by omega
        have hb0 : b = 0 := HB.out.zero.1 rfl
        clear e0
        go_wp2
        go_ret
        refine ⟨_, rfl, ?_, HG.out⟩
        rw [← HGC.out, hb0, Nat.gcd_zero_right]; exact HA.out
      · have hbp : 0 < b := by
          rcases Nat.eq_zero_or_pos b with h | h
          · exact absurd (HB.out.zero.2 h) e1
          · exact h
        have HD := Lib.hid (i_divide _ _ a b wr HA.out HB.out HAK.out HBK.out hK hbp)
        have h1 : 0 < nb := by omega
        by_cases e2 : 2 < na
        · clear e0
          go_wp2_with fail
          refine HD.out.mono ?_
          rintro e w5 ⟨v5, v6, rfl, h5, h6, hg5⟩
          have HN5 : Hid (GcdI n m K w5 (.slice ab nb cb) v6) := ⟨b, a % b, HB.out.gr hg5, h6, (gcd_step a b).trans HGC.out, HBK.out, Nat.lt_of_lt_of_le (Nat.mod_lt _ hbp) (Nat.le_of_lt HBK.out)⟩
          have HG5 := Lib.hid (Gr.trans HG.out hg5)
          have HME : Hid (wdv w5 v6 < wdv wr (.slice ab nb cb)) := by show _ < _; rw [wdv_eq h6, wdv_eq HB.out]; exact Nat.mod_lt _ hbp
          obtain ⟨a6, n6, c6, rfl⟩ := h6.sh
          clear h5 h6 hg5
          go_wp2
          go_roundw
          case rel => exact ⟨HN5.out, HG5.out⟩
          case measure => exact HME.out
        · have e3 : 2 < nb := by omega
          clear e0
          go_wp2_with fail
          refine HD.out.mono ?_
          rintro e w5 ⟨v5, v6, rfl, h5, h6, hg5⟩
          have HN5 : Hid (GcdI n m K w5 (.slice ab nb cb) v6) := ⟨b, a % b, HB.out.gr hg5, h6, (gcd_step a b).trans HGC.out, HBK.out, Nat.lt_of_lt_of_le (Nat.mod_lt _ hbp) (Nat.le_of_lt HBK.out)⟩
          have HG5 := Lib.hid (Gr.trans HG.out hg5)
          have HME : Hid (wdv w5 v6 < wdv wr (.slice ab nb cb)) := by show _ < _; rw [wdv_eq h6, wdv_eq HB.out]; exact Nat.mod_lt _ hbp
          obtain ⟨a6, n6, c6, rfl⟩ := h6.sh
          clear h5 h6 hg5
          go_wp2
          go_roundw
          case rel => exact ⟨HN5.out, HG5.out⟩
          case measure => exact HME.out
    · have ea : na ≤ 2 := by omega
      have eb : nb ≤ 2 := by omega
      clear e0
      have hab := HA.out.small ea
      have hbb := HB.out.small eb
      have HS1 := Lib.hid (i_smallW aa na ca wr HA.out ea)
      go_wp2_with fail
      refine HS1.out.mono ?_
      rintro e w5 ⟨rfl, hg5⟩
      have HS2 := Lib.hid (i_smallW ab nb cb w5 (HB.out.gr hg5) eb)
      have HG5 := Lib.hid (Gr.trans HG.out hg5)
      clear hg5
      go_wp2_with fail
      refine HS2.out.mono ?_
      rintro e w6 ⟨rfl, hg6⟩
      have HG6 := Lib.hid (Gr.trans HG5.out hg6)
      clear hg6
      obtain ⟨wq, hwq⟩ : ∃ wq : World, wq = w6 := ⟨_, rfl⟩
      go_wp2
      go_loopw [7, 8] (fun x y wr => ∃ p q : Nat, x = .int .u64 p ∧ y = .int .u64 q ∧ p < 1000000000000000000 ∧ q < 1000000000000000000 ∧ Hid (Nat.gcd p q = Nat.gcd n m) ∧ Hid (Gr w wr)) (fun _ y _ => (intOf y).toNat)
      case atStart => exact ⟨a, b, rfl, rfl, hab, hbb, HGC.out, HG6.out⟩
      case round =>
        clear HG6 HG5 HG HA HB HGC HAK HBK HS1 HS2 hab hbb hwq
        obtain ⟨p, q, rfl, rfl, hp, hq, HPQ, HG⟩ := hrel
        by_cases hq0 : 0 < q
        · have hm1 : (p : Int).tmod (q : Int) = ((p % q : Nat) : Int) := rfl
          have hml : p % q < q := Nat.mod_lt _ hq0
          have HPQ2 : Hid (Nat.gcd q (p % q) = Nat.gcd n m) := (gcd_step p q).trans HPQ.out
          generalize p % q = r at hm1 hml HPQ2
          have hwr : IntKind.u64.wrap (r : Int) = (r : Int) := IntWalk.u64_in _ (by omega)
          go_wp2
          go_quiet (fail)
          go_wp2
          go_roundw
          case rel => exact ⟨q, r, rfl, rfl, hq, by omega, HPQ2.out, below_drewN HG.out _⟩
          case measure => simp only [intOf]; omega
        · obtain rfl : q = 0 := by omega
          have HP : Hid (p = Nat.gcd n m) := by have := HPQ.out; rwa [Nat.gcd_zero_right] at this
          have hd1 : (p : Int).tmod 1000000000 = ((p % 1000000000 : Nat) : Int) := rfl
          have hd2 : (p : Int).tdiv 1000000000 = ((p / 1000000000 : Nat) : Int) := rfl
          have HPE : Hid (wv 1000000000 [p % 1000000000, p / 1000000000] = p) := by
            show wv 1000000000 [p % 1000000000, p / 1000000000] = p
            simp only [wv]; omega
          have hr1 : p % 1000000000 < 1000000000 := by omega
          have hr2 : p / 1000000000 < 1000000000 := by omega
          generalize p % 1000000000 = lo at hd1 HPE hr1
          generalize p / 1000000000 = hi at hd2 HPE hr2
          go_wp2_with fail
          refine (HTR.out lo hi _ hr1 hr2 _ (rd_new2 _ _ _ _)).mono ?_
          rintro e w9 ⟨v9, rfl, hr9, hg9⟩
          have HG9 := Lib.hid (Gr.trans (Gr.alloc HG.out _) hg9)
          have HR9 : Hid (WD w9 v9 (Nat.gcd n m)) := ⟨_, hr9, Nm.trim (by intro x hx; simp at hx; omega), by rw [wv_trimL, HPE.out]; exact HP.out⟩
          clear hr9 hg9
          go_wp2
          go_ret
          exact ⟨_, rfl, HR9.out, HG9.out⟩
end Go.Proofs.YtlbnibicehpobaaGreatDoor
