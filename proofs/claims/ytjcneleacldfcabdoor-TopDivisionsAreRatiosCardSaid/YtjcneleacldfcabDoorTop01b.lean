/- T1: TopDivisionsAreRatios. -/
import Derived.Test.YtjcneleacldfcabDoorTop01a
import Derived.Test.YtjcneleacldfcabDoorLaw01b
set_option linter.unusedVariables false
set_option linter.unusedSimpArgs false
namespace Go.Proofs.YtjcneleacldfcabDoor
open Go.RowKit Go.Shelf
open Z

def sh40 (s : ByteArray) : Bool := decide (s.size ≤ 40) && (chk s.data.toList == 0)
set_option maxHeartbeats 2000000 in
set_option maxRecDepth 100000 in
theorem top_runShort (g : Nat) (l : List ByteArray) (w : World) (hl : l.length ≤ 1000) (hc : Strs w g l) (hsz : ∀ s ∈ l, s.size ≤ maxLen) :
    Calls Tryd.prog 5 #[.slice (some ⟨g, 0, none⟩) l.length l.length] w (fun e w' => e = .returned (.bool (l.all sh40)) ∧ w = w') := by
  have HC := Lib.hid hc
  have HSZ := Lib.hid hsz
  clear hc hsz
  go_enter Tryd.func5, Tryd.ntmps5
  go_wp2
  go_loop [4, 7] (fun _ i => ∃ k : Nat, k ≤ l.length ∧ i = .int .i64 k ∧ Hid (∀ j (h : j < l.length), j < k → sh40 l[j] = true)) (fun _ i => l.length - (intOf i).toNat)
  case atStart => exact ⟨0, Nat.zero_le _, rfl, fun j hj h => absurd h (by omega)⟩
  case round =>
    obtain ⟨k, hk, rfl, HK⟩ := hrel
    by_cases hlt : k < l.length
    · have hcell := HC.out k hlt
      have hmx := HSZ.out _ (List.getElem_mem hlt)
      obtain ⟨s, HS⟩ : ∃ s, Hid (l[k] = s) := ⟨l[k], Lib.hid rfl⟩
      rw [HS.out] at hcell hmx
      have HCK := Lib.hid (fun w => r1_Check s w hmx)
      unfold maxLen at hmx
      by_cases h4 : s.size ≤ 40
      · have hb : sh40 l[k] = (chk s.data.toList == 0) := by rw [HS.out]; unfold sh40; rw [decide_eq_true h4]; rfl
        have HB := Lib.hid hb
        clear hb
        generalize chk s.data.toList = c at *
        by_cases h0 : c = 0
        · have HB2 : Hid (sh40 l[k] = true) := by show _ = _; rw [HB.out, h0]; rfl
          subst h0
          go_wp2_with fail
          refine (HCK.out _).mono ?_
          rintro e w' ⟨rfl, rfl⟩
          go_wp2
          go_round
          case rel =>
            refine ⟨k + 1, by omega, by go_num, fun j hj h => ?_⟩
            by_cases hjk : j = k
            · subst hjk; exact HB2.out
            · exact HK.out j hj (by omega)
          case measure => simp [intOf]; omega
        · have HB2 : Hid (sh40 l[k] = false) := by show _ = _; rw [HB.out]; exact beq_eq_false_iff_ne.2 h0
          have hne : (c == 0) = false := beq_eq_false_iff_ne.2 h0
          have hne2 : (c != 0) = true := bne_iff_ne.2 h0
          go_wp2_with fail
          refine (HCK.out _).mono ?_
          rintro e w' ⟨rfl, rfl⟩
          go_wp2
          go_ret
          exact ⟨ret_bool (all_not hlt HB2.out).symm, rfl⟩
      · have HB2 : Hid (sh40 l[k] = false) := by show _ = _; rw [HS.out]; unfold sh40; rw [decide_eq_false h4]; rfl
        have h4' : 40 < s.size := by omega
        clear h4
        go_wp2
        go_ret
        exact ⟨ret_bool (all_not hlt HB2.out).symm, rfl⟩
    · have HB : Hid (l.all sh40 = true) := all_get fun j hj => HK.out j hj (by omega)
      go_wp2
      go_ret
      exact ⟨ret_bool HB.out.symm, rfl⟩
theorem runShort2 (s t : ByteArray) (w0 w : World) (ty : TypeId) (hg : Gr w0 w) (hs : s.size ≤ maxLen) (ht : t.size ≤ maxLen) :
    Calls Tryd.prog 5 #[.slice (some ⟨w.heap.size, 0, none⟩) 2 2] (w.alloc (.cells #[.string s, .string t] ty)) (fun e w' => e = .returned (.bool (sh40 s && sh40 t)) ∧ Gr w0 w') := by
  refine (top_runShort w.heap.size [s, t] _ (by simp) (strs_two (by simp) (by simp)) (fun x hx => by
    simp only [List.mem_cons, List.not_mem_nil, or_false] at hx
    rcases hx with rfl | rfl
    · exact hs
    · exact ht)).mono ?_
  rintro e w' ⟨rfl, rfl⟩
  exact ⟨by simp, hg.alloc _⟩
theorem sh40_Tx {s : ByteArray} (h : sh40 s = true) : ∃ a : Int, s = Tx a ∧ Lib.nDigits a.natAbs ≤ 40 := by
  unfold sh40 at h
  rw [Bool.and_eq_true] at h
  have h1 : s.size ≤ 40 := of_decide_eq_true h.1
  have h2 : chk s.data.toList = 0 := by simpa using h.2
  rcases chk_cases s with h3 | ⟨a, rfl, _, _⟩
  · rw [h2] at h3; simp at h3
  · refine ⟨a, rfl, ?_⟩
    rw [size_Tx, itoa_length] at h1
    omega
theorem sh_of_int {n : Int} {k : Nat} (h : Lib.nDigits n.natAbs ≤ k) : Sh k ((n : Int) : Rat) := by
  refine ⟨by rw [Rat.num_intCast]; exact h, ?_⟩
  rw [Rat.den_intCast, Lib.nDigits_small (by decide)]
  exact Nat.le_trans (Lib.nDigits_pos _) h
theorem ofR_in {a b : Int} (ha : In a) (hb : In b) (h0 : b ≠ 0) : ofR (Tx a) (Tx b) = (RT (Rat.divInt a b), 0) := by
  unfold ofR
  rw [if_pos (ha.both hb), data_Tx, data_Tx, ival_itoa, ival_itoa, if_neg h0]
theorem divInt_gcd {a b : Int} (h0 : b ≠ 0) : Rat.divInt (a.fdiv ((Nat.gcd a.natAbs b.natAbs : Nat) : Int)) (b.fdiv ((Nat.gcd a.natAbs b.natAbs : Nat) : Int)) = Rat.divInt a b ∧ b.fdiv ((Nat.gcd a.natAbs b.natAbs : Nat) : Int) ≠ 0 := by
  have hg := gcd_pos (p := a) h0
  have da : ((Nat.gcd a.natAbs b.natAbs : Nat) : Int) ∣ a := Int.ofNat_dvd_left.2 (Nat.gcd_dvd_left _ _)
  have db : ((Nat.gcd a.natAbs b.natAbs : Nat) : Int) ∣ b := Int.ofNat_dvd_left.2 (Nat.gcd_dvd_right _ _)
  obtain ⟨g, hgg⟩ : ∃ g : Int, g = ((Nat.gcd a.natAbs b.natAbs : Nat) : Int) := ⟨_, rfl⟩
  have hgn : g ≠ 0 := by omega
  rw [← hgg] at da db ⊢
  rw [Int.fdiv_eq_ediv_of_dvd da, Int.fdiv_eq_ediv_of_dvd db]
  obtain ⟨x, rfl⟩ := da
  obtain ⟨y, rfl⟩ := db
  rw [Int.mul_ediv_cancel_left _ hgn, Int.mul_ediv_cancel_left _ hgn]
  refine ⟨(Rat.divInt_mul_left hgn).symm, fun e => h0 ?_⟩
  rw [e, Int.mul_zero]
section
variable {w0 : World} (htab : Tab w0) (hmx : Mx w0)
include htab hmx
set_option maxHeartbeats 4000000 in
set_option maxRecDepth 100000 in
theorem top_TopDivisionsAreRatios {s t : ByteArray} (hs : s.size ≤ maxLen) (ht : t.size ≤ maxLen) : Ret w0 3 #[.string s, .string t] (.bool true) := by
  have RI := Lib.hid (top_runIntegers htab hmx)
  have HR := Lib.hid (fun w' ty hg => runShort2 s t w0 w' ty hg hs ht)
  cases hr : (sh40 s && sh40 t)
  · rw [hr] at HR
    clear hr hs ht htab hmx
    intro w hg
    have HG := Lib.hid hg; clear hg
    go_enter Tryd.func3, Tryd.ntmps3
    go_wp2_with fail
    refine (RI.out _ HG.out).mono ?_
    rintro e w1 ⟨rfl, hg⟩
    replace HG := Lib.hid hg; clear hg
    go_wp2_with fail
    refine (HR.out _ _ HG.out).mono ?_
    rintro e w1 ⟨rfl, hg⟩
    replace HG := Lib.hid hg; clear hg
    go_wp2
    go_ret
    exact ⟨rfl, HG.out⟩
  · rw [hr] at HR
    rw [Bool.and_eq_true] at hr
    obtain ⟨a, rfl, na⟩ := sh40_Tx hr.1
    obtain ⟨b, rfl, nb⟩ := sh40_Tx hr.2
    have is0 := Tx_is0 b
    by_cases h0 : b = 0
    · rw [decide_eq_true h0] at is0
      clear h0 na nb hr hs ht htab hmx
      generalize Tx a = s at *
      generalize Tx b = t at *
      intro w hg
      have HG := Lib.hid hg; clear hg
      go_enter Tryd.func3, Tryd.ntmps3
      go_wp2_with fail
      refine (RI.out _ HG.out).mono ?_
      rintro e w1 ⟨rfl, hg⟩
      replace HG := Lib.hid hg; clear hg
      go_wp2_with fail
      refine (HR.out _ _ HG.out).mono ?_
      rintro e w1 ⟨rfl, hg⟩
      replace HG := Lib.hid hg; clear hg
      go_wp2
      go_ret
      exact ⟨rfl, HG.out⟩
    · rw [decide_eq_false h0] at is0
      have ia : In a := Nat.le_trans na (by omega)
      have ib : In b := Nat.le_trans nb (by omega)
      have nq : Lib.nDigits (a.fdiv b).natAbs ≤ 40 := Nat.le_trans (nDigits_mono (fdiv_natAbs_le a b h0)) na
      have nr : Lib.nDigits (a.fmod b).natAbs ≤ 40 := Nat.le_trans (nDigits_mono (Nat.le_of_lt (fmod_natAbs_le a b h0))) nb
      have iq : In (a.fdiv b) := Nat.le_trans nq (by omega)
      have ir : In (a.fmod b) := Nat.le_trans nr (by omega)
      have kv : Sh 40 (Rat.divInt a b) := .divInt h0 na nb
      have kq := sh_of_int nq
      have kb := sh_of_int nb
      have Q := Lib.hid (ret_Quo htab ia ib h0 iq)
      have R := Lib.hid (ret_Rem htab ia ib h0 ir)
      have V := Lib.hid ((ret_QOf htab (s := Tx a) (t := Tx b) (by have := ia.sm.size; omega) (by have := ib.sm.size; omega)).si (ofR_in ia ib h0))
      have F := ((ret_QFloor htab hmx (RT_small (kv.inR (by omega)))).si (floorR_ok (kv.inR (by omega))))
      rw [floor_div a b h0] at F
      have F' := Lib.hid F
      have S := (ret_QSub htab hmx (s := RT (Rat.divInt a b)) (t := RT ((a.fdiv b : Int) : Rat)) (RT_small (kv.inR (by omega))) (RT_small (kq.inR (by omega)))).si ((op2_ok (kv.inR (by omega)) (kq.inR (by omega))).trans (subR_sh kv kq (by omega)))
      have kl := kv.sub kq
      have M := (ret_QMul htab hmx (s := RT (Rat.divInt a b - ((a.fdiv b : Int) : Rat))) (t := RT ((b : Int) : Rat)) (RT_small (kl.inR (by omega))) (RT_small (kb.inR (by omega)))).si ((op2_ok (kl.inR (by omega)) (kb.inR (by omega))).trans (mulR_sh kl kb (by omega)))
      rw [lackb a b h0, RT_int, RT_int] at M
      rw [RT_int] at S
      have S' := Lib.hid S
      have M' := Lib.hid M
      have ig := gcd_in (a := a) ib h0
      obtain ⟨hw, hy0⟩ := divInt_gcd (a := a) h0
      have hg0 : ((Nat.gcd a.natAbs b.natAbs : Nat) : Int) ≠ 0 := by have := gcd_pos (p := a) h0; omega
      have ix : In (a.fdiv ((Nat.gcd a.natAbs b.natAbs : Nat) : Int)) := Nat.le_trans (nDigits_mono (fdiv_natAbs_le a _ hg0)) ia
      have iy : In (b.fdiv ((Nat.gcd a.natAbs b.natAbs : Nat) : Int)) := Nat.le_trans (nDigits_mono (fdiv_natAbs_le b _ hg0)) ib
      have G := Lib.hid (ret_Gcd htab ia ib ig)
      have X := Lib.hid (ret_Quo htab ia ig hg0 ix)
      have Y := Lib.hid (ret_Quo htab ib ig hg0 iy)
      have W := (ret_QOf htab (s := Tx (a.fdiv ((Nat.gcd a.natAbs b.natAbs : Nat) : Int))) (t := Tx (b.fdiv ((Nat.gcd a.natAbs b.natAbs : Nat) : Int))) (by have := ix.sm.size; omega) (by have := iy.sm.size; omega)).si (ofR_in ix iy hy0)
      rw [hw] at W
      have W' := Lib.hid W
      clear F S M W kl ig hw hy0 hg0 ix iy ia ib nq nr iq ir kv kq kb h0 na nb hr hs ht htab hmx
      generalize RT (Rat.divInt a b - ((a.fdiv b : Int) : Rat)) = l at *
      generalize RT (Rat.divInt a b) = v at *
      generalize Tx (a.fdiv ((Nat.gcd a.natAbs b.natAbs : Nat) : Int)) = x at *
      generalize Tx (b.fdiv ((Nat.gcd a.natAbs b.natAbs : Nat) : Int)) = y at *
      generalize Tx ((Nat.gcd a.natAbs b.natAbs : Nat) : Int) = g at *
      generalize Tx (a.fdiv b) = q at *
      generalize Tx (a.fmod b) = r at *
      generalize Tx a = s at *
      generalize Tx b = t at *
      intro w hg
      have HG := Lib.hid hg; clear hg
      go_enter Tryd.func3, Tryd.ntmps3
      go_wp2_with fail
      refine (RI.out _ HG.out).mono ?_
      rintro e w1 ⟨rfl, hg⟩
      replace HG := Lib.hid hg; clear hg
      go_wp2_with fail
      refine (HR.out _ _ HG.out).mono ?_
      rintro e w1 ⟨rfl, hg⟩
      replace HG := Lib.hid hg; clear hg
      go_wp2_with fail
      refine (Q.out _ HG.out).mono ?_
      rintro e w1 ⟨rfl, hg⟩
      replace HG := Lib.hid hg; clear hg
      go_wp2_with fail
      refine (R.out _ HG.out).mono ?_
      rintro e w1 ⟨rfl, hg⟩
      replace HG := Lib.hid hg; clear hg
      go_wp2_with fail
      refine (V.out _ HG.out).mono ?_
      rintro e w1 ⟨rfl, hg⟩
      replace HG := Lib.hid hg; clear hg
      go_wp2_with fail
      refine (F'.out _ HG.out).mono ?_
      rintro e w1 ⟨rfl, hg⟩
      replace HG := Lib.hid hg; clear hg
      go_wp2_with fail
      refine (S'.out _ HG.out).mono ?_
      rintro e w1 ⟨rfl, hg⟩
      replace HG := Lib.hid hg; clear hg
      go_wp2_with fail
      refine (M'.out _ HG.out).mono ?_
      rintro e w1 ⟨rfl, hg⟩
      replace HG := Lib.hid hg; clear hg
      go_wp2_with fail
      refine (G.out _ HG.out).mono ?_
      rintro e w1 ⟨rfl, hg⟩
      replace HG := Lib.hid hg; clear hg
      go_wp2_with fail
      refine (X.out _ HG.out).mono ?_
      rintro e w1 ⟨rfl, hg⟩
      replace HG := Lib.hid hg; clear hg
      go_wp2_with fail
      refine (Y.out _ HG.out).mono ?_
      rintro e w1 ⟨rfl, hg⟩
      replace HG := Lib.hid hg; clear hg
      go_wp2_with fail
      refine (W'.out _ HG.out).mono ?_
      rintro e w1 ⟨rfl, hg⟩
      replace HG := Lib.hid hg; clear hg
      go_wp2
      go_ret
      exact ⟨rfl, HG.out⟩
end
end Go.Proofs.YtjcneleacldfcabDoor
