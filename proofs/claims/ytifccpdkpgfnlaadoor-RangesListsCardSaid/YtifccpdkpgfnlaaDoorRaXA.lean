/- RaXA: RaX, RaY, RaZ, RbA, joined. -/
import Derived.Test.YtifccpdkpgfnlaaDoorRaTW
set_option linter.unusedVariables false
set_option linter.unusedSimpArgs false

/- Sets of channels: mathematics of sets: they are sets, and hold what is in. -/
namespace Go.Proofs.YtifccpdkpgfnlaaDoor.Z
open Go
/-- the end of the last range, or what was ahead -/
def lastE (l : List (Int × Int)) (p : Option Int) : Option Int := match l.getLast? with
  | none => p
  | some r => some r.2
theorem lastE_cons (x : Int × Int) (l : List (Int × Int)) (p : Option Int) : lastE (x :: l) p = lastE l (some x.2) := by
  unfold lastE
  cases l with
  | nil => rfl
  | cons y ys => rw [List.getLast?_cons_cons]; rw [List.getLast?_eq_some_getLast (by simp)]
theorem lastE_snoc (l : List (Int × Int)) (x : Int × Int) (p : Option Int) : lastE (l ++ [x]) p = some x.2 := by unfold lastE; simp
def nearP (p : Option Int) (f : Int) : Bool := match p with
  | none => false
  | some q => decide (f < q + 2)
theorem checkL_cons (r : Int × Int) (l : List (Int × Int)) (p : Option Int) : checkL (r :: l) p = if isRg r = false then 2 else if nearP p r.1 = true then 9 else checkL l (some r.2) := rfl
theorem checkL_zero (r : Int × Int) (l : List (Int × Int)) (p : Option Int) : checkL (r :: l) p = 0 ↔ isRg r = true ∧ nearP p r.1 = false ∧ checkL l (some r.2) = 0 := by
  rw [checkL_cons]
  cases isRg r <;> cases nearP p r.1 <;> simp
theorem nearP_false {p : Option Int} {f : Int} : nearP p f = false ↔ ∀ q, p = some q → q + 2 ≤ f := by
  cases p with
  | none => simp [nearP]
  | some q => simp [nearP]
theorem checkL_snoc (x : Int × Int) : ∀ (l : List (Int × Int)) (p : Option Int), checkL (l ++ [x]) p = 0 ↔ checkL l p = 0 ∧ isRg x = true ∧ nearP (lastE l p) x.1 = false
  | [], p => by
    show checkL [x] p = 0 ↔ _
    rw [checkL_zero]
    show _ ↔ (0 : Int) = 0 ∧ isRg x = true ∧ nearP p x.1 = false
    simp [checkL]
  | y :: l, p => by
    rw [List.cons_append, checkL_zero, checkL_zero, checkL_snoc x l, lastE_cons]
    constructor
    · rintro ⟨a, b, c, d, e⟩; exact ⟨⟨a, b, c⟩, d, e⟩
    · rintro ⟨⟨a, b, c⟩, d, e⟩; exact ⟨a, b, c, d, e⟩
theorem hasR_iff (k : Int) (r : Int × Int) : hasR k r = true ↔ r.1 ≤ k ∧ k ≤ r.2 := by unfold hasR; simp
/-- what setS makes is a set, and holds what is in -/
theorem setS_spec (g : Nat → Bool) (h0 : g 0 = false) : ∀ n, n ≤ 1000 → checkR (setS g n) = 0 ∧ (∀ k : Nat, (setS g n).any (hasR k) = (decide (k < n) && g k)) ∧
    (1 ≤ n → g (n - 1) = true → lastE (setS g n) none = some ((n : Int) - 1)) ∧ ((n = 0 ∨ g (n - 1) = false) → ∀ q, lastE (setS g n) none = some q → q + 1 < n)
  | 0, _ => ⟨rfl, fun k => by simp [setS], fun h => by omega, fun _ q h => by simp [setS, lastE] at h⟩
  | n + 1, hn => by
    obtain ⟨A, B, C, D⟩ := setS_spec g h0 n (by omega)
    have hs : setS g (n + 1) = setStep g (setS g n) n := rfl
    rw [hs]
    cases hg : g n
    · rw [setStep_off hg]
      refine ⟨A, fun k => ?_, fun _ h => ?_, fun _ q hq => ?_⟩
      · rw [B k]
        by_cases hk : k = n
        · subst hk; rw [hg]; simp
        · have : decide (k < n) = decide (k < n + 1) := decide_eq_decide.2 (by omega)
          rw [this]
      · rw [Nat.add_sub_cancel, hg] at h; cases h
      · by_cases h1 : n = 0 ∨ g (n - 1) = false
        · have := D h1 q hq; omega
        · have h2 : 1 ≤ n ∧ g (n - 1) = true := ⟨by omega, by simpa using fun e => h1 (.inr e)⟩
          rw [C h2.1 h2.2] at hq
          cases hq; omega
    · have hn1 : 1 ≤ n := by
        cases n with
        | zero => rw [h0] at hg; cases hg
        | succ m => omega
      cases hp : g (n - 1)
      · have e : setStep g (setS g n) n = setS g n ++ [((n : Int), (n : Int))] := by unfold setStep; rw [if_pos hg, if_neg (by rw [hp]; simp)]
        rw [e]
        refine ⟨(checkL_snoc _ _ _).2 ⟨A, (isRg_iff _).2 ⟨by simp only; omega, by simp only; omega, by simp only; omega⟩, nearP_false.2 fun q hq => ?_⟩, fun k => ?_, fun _ _ => ?_, fun h => ?_⟩
        · have := D (.inr hp) q hq
          simp only; omega
        · rw [List.any_append, B k]
          by_cases hk : k = n
          · subst hk
            have : hasR (k : Int) ((k : Int), (k : Int)) = true := (hasR_iff _ _).2 ⟨Int.le_refl _, Int.le_refl _⟩
            simp [this, hg]
          · have h1 : hasR (k : Int) ((n : Int), (n : Int)) = false := by
              rw [Bool.eq_false_iff]; intro h
              have := (hasR_iff _ _).1 h
              simp only at this; omega
            have h2 : decide (k < n) = decide (k < n + 1) := decide_eq_decide.2 (by omega)
            simp [h1, h2]
        · rw [lastE_snoc]; simp
        · rcases h with h | h
          · omega
          · rw [Nat.add_sub_cancel, hg] at h; cases h
      · have e : setStep g (setS g n) n = bumpL (setS g n) n := by unfold setStep; rw [if_pos hg, if_pos ⟨hn1, hp⟩]
        rw [e]
        have hl := C hn1 hp
        obtain ⟨i, r, hir⟩ : ∃ i r, setS g n = i ++ [r] := by
          have hne : setS g n ≠ [] := fun e => by rw [e] at hl; simp [lastE] at hl
          exact ⟨_, _, (List.dropLast_concat_getLast hne).symm⟩
        rw [hir] at A B hl ⊢
        rw [lastE_snoc] at hl
        have hr2 : r.2 = (n : Int) - 1 := by simpa using hl
        have hb : bumpL (i ++ [r]) (n : Int) = i ++ [(r.1, (n : Int))] := by unfold bumpL; simp
        rw [hb]
        obtain ⟨A1, A2, A3⟩ := (checkL_snoc r i none).1 A
        have hrg := (isRg_iff r).1 A2
        refine ⟨(checkL_snoc _ _ _).2 ⟨A1, (isRg_iff _).2 ⟨hrg.1, by simp only; omega, by simp only; omega⟩, A3⟩, fun k => ?_, fun _ _ => ?_, fun h => ?_⟩
        · have Bk := B k
          rw [List.any_append] at Bk ⊢
          by_cases hk : k = n
          · subst hk
            have : hasR (k : Int) (r.1, (k : Int)) = true := (hasR_iff _ _).2 ⟨by simp only; omega, Int.le_refl _⟩
            simp [this, hg]
          · have h1 : hasR (k : Int) (r.1, (n : Int)) = hasR (k : Int) r := by
              rw [Bool.eq_iff_iff, hasR_iff, hasR_iff]; simp only; omega
            have h2 : decide (k < n) = decide (k < n + 1) := decide_eq_decide.2 (by omega)
            rw [← h2, ← Bk]
            simp [h1]
        · rw [lastE_snoc]; simp
        · rcases h with h | h
          · omega
          · rw [Nat.add_sub_cancel, hg] at h; cases h
end Go.Proofs.YtifccpdkpgfnlaaDoor.Z

/- Law 6: a channel is in a union, a difference, an intersection as it is in the sets. -/
namespace Go.Proofs.YtifccpdkpgfnlaaDoor.Z
open Go
theorem comb_has (rem : Bool → Bool → Bool) (A B : List (Int × Int)) {k : Nat} (h1 : 1 ≤ k) (h2 : k ≤ 999) :
    checkR (setS (combG rem (inR A) (inR B) (chans [(1, 999)])) 1000) = 0 ∧ (setS (combG rem (inR A) (inR B) (chans [(1, 999)])) 1000).any (hasR k) = rem (A.any (hasR k)) (B.any (hasR k)) := by
  obtain ⟨a, b, -, -⟩ := setS_spec (combG rem (inR A) (inR B) (chans [(1, 999)])) (combG_zero _ _ _) 1000 (Nat.le_refl _)
  refine ⟨a, ?_⟩
  rw [b k, combG_all, if_pos ⟨h1, h2⟩, inR_eq, inR_eq, decide_eq_true (by omega)]
  simp
theorem combR_ok {rem : Bool → Bool → Bool} {A B : List (Int × Int)} (hA : checkR A = 0) (hB : checkR B = 0) : combR rem A B = (setS (combG rem (inR A) (inR B) (chans [(1, 999)])) 1000, 0) := by
  unfold combR; rw [if_neg (by simp [hA]), if_neg (by simp [hB])]
end Go.Proofs.YtifccpdkpgfnlaaDoor.Z
namespace Go.Proofs.YtifccpdkpgfnlaaDoor
open Go.RowKit Go.Shelf
open Z
set_option maxHeartbeats 1000000 in
set_option maxRecDepth 100000 in
theorem l6_has (a : Option Addr) (R : List (Int × Int)) (cap : Nat) (c : Int) (w : World) (hR : RngAt w a R) (hcap : a = none → cap = 0) (hlen : R.length ≤ 10000000000000) (h : checkR R = 0) :
    Calls Tryd.prog 37 #[.slice a R.length cap, .int .i64 c] w fun e w' => e = .returned (.bool (R.any (hasR c))) ∧ Gr w w' := by
  have C := ra_Holds a R cap c w hR hcap hlen
  unfold holdsR at C
  rw [if_neg (by simp [h])] at C
  simp only at C
  have C := Lib.hid C
  clear hR hcap h
  generalize R.length = n at *
  cases hv : R.any (hasR c)
  all_goals
    rw [hv] at C
    clear hv
    go_enter Tryd.func37, Tryd.ntmps37
    go_wp2_with fail
    refine C.out.mono ?_; rintro e w2 ⟨rfl, hg2⟩
    have HG2 := Lib.hid hg2
    clear hg2
    go_wp2
    go_ret
    exact ⟨rfl, HG2.out⟩
theorem own_has {v : Value} {S : List (Int × Int)} {B : Nat} {w : World} (ho : OwnR B w v S) (hc : checkR S = 0) (hl : S.length ≤ 1000) (c : Int) :
    ∃ a cap, v = .slice a S.length cap ∧ ∀ w', Gr w w' → Calls Tryd.prog 37 #[.slice a S.length cap, .int .i64 c] w' fun e w2 => e = .returned (.bool (S.any (hasR c))) ∧ Gr w' w2 := by
  obtain ⟨a, cap, rfl, hr, hn, -⟩ := ho.shape2
  exact ⟨a, cap, rfl, fun w' hg => l6_has a S cap c w' (hr.gr hg) hn (by omega) hc⟩
set_option maxHeartbeats 2000000 in
set_option maxRecDepth 100000 in
theorem l6_Members_ok (a b : Option Addr) (A B : List (Int × Int)) (ca cb ch : Nat) (w : World) (htab : Tab w) (hA : RngAt w a A) (hB : RngAt w b B) (hca : a = none → ca = 0) (hcb : b = none → cb = 0)
    (hpa : ∀ p o, a = some ⟨p, o, none⟩ → p < w.heap.size) (hpb : ∀ p o, b = some ⟨p, o, none⟩ → p < w.heap.size) (hla : A.length ≤ 60) (hlb : B.length ≤ 60) (h0 : checkR A = 0) (h1 : checkR B = 0) :
    Calls Tryd.prog 8 #[.slice a A.length ca, .slice b B.length cb, .int .u16 (ch : Nat)] w fun e w' => e = .returned (.bool true) ∧ Gr w w' := by
  have HT := Lib.hid htab
  have CA := Lib.hid (fun w' (hg : Gr w w') => ra_Check a A ca w' (hA.gr hg) hca (by omega))
  have CB := Lib.hid (fun w' (hg : Gr w w') => ra_Check b B cb w' (hB.gr hg) hcb (by omega))
  rw [h0] at CA
  rw [h1] at CB
  obtain ⟨k, hk⟩ : ∃ k, 1 + ch % 999 = k := ⟨_, rfl⟩
  have hk1 : 1 ≤ k := by omega
  have hk2 : k ≤ 999 := by omega
  have XA := Lib.hid (fun w' (hg : Gr w w') => l6_has a A ca k w' (hA.gr hg) hca (by omega) h0)
  have XB := Lib.hid (fun w' (hg : Gr w w') => l6_has b B cb k w' (hB.gr hg) hcb (by omega) h1)
  have UC := Lib.hid (fun w' (hg : Gr w w') => ra_Union a b A B ca cb w' (hA.gr hg) (hB.gr hg) hca hcb (by omega) (by omega) (fun p o e => Nat.lt_of_lt_of_le (hpa p o e) hg.size) (fun p o e => Nat.lt_of_lt_of_le (hpb p o e) hg.size))
  rw [combR_ok h0 h1] at UC
  obtain ⟨U0, U1⟩ := comb_has (fun x y => x || y) A B hk1 hk2
  have U2 := setS_len (combG (fun x y => x || y) (inR A) (inR B) (chans [(1, 999)])) 1000
  generalize setS (combG (fun x y => x || y) (inR A) (inR B) (chans [(1, 999)])) 1000 = US at *
  have MC := Lib.hid (fun w' (hg : Gr w w') => ra_Minus a b A B ca cb w' (hA.gr hg) (hB.gr hg) hca hcb (by omega) (by omega) (fun p o e => Nat.lt_of_lt_of_le (hpa p o e) hg.size) (fun p o e => Nat.lt_of_lt_of_le (hpb p o e) hg.size))
  rw [combR_ok h0 h1] at MC
  obtain ⟨M0, M1⟩ := comb_has (fun x y => x && !y) A B hk1 hk2
  have M2 := setS_len (combG (fun x y => x && !y) (inR A) (inR B) (chans [(1, 999)])) 1000
  generalize setS (combG (fun x y => x && !y) (inR A) (inR B) (chans [(1, 999)])) 1000 = MS at *
  have CC := Lib.hid (fun w' (hg : Gr w w') => ra_Common a b A B ca cb w' (hA.gr hg) (hB.gr hg) hca hcb (by omega) (by omega) (fun p o e => Nat.lt_of_lt_of_le (hpa p o e) hg.size) (fun p o e => Nat.lt_of_lt_of_le (hpb p o e) hg.size))
  rw [combR_ok h0 h1] at CC
  obtain ⟨C0, C1⟩ := comb_has (fun x y => x && y) A B hk1 hk2
  have C2 := setS_len (combG (fun x y => x && y) (inR A) (inR B) (chans [(1, 999)])) 1000
  generalize setS (combG (fun x y => x && y) (inR A) (inR B) (chans [(1, 999)])) 1000 = CS at *
  simp only at UC MC CC U1 M1 C1
  clear hA hB hca hcb hpa hpb h0 h1
  generalize A.any (hasR k) = x at *
  generalize B.any (hasR k) = y at *
  generalize A.length = la at *
  generalize B.length = lb at *
  have AW := Lib.hid (fun w' (hg : Gr w w') => l6_awake w' (htab_gr htab hg))
  clear htab HT
  go_enter Tryd.func8, Tryd.ntmps8
  have da : decide (60 < (la : Int)) = false := decide_eq_false (by omega)
  have db : decide (60 < (lb : Int)) = false := decide_eq_false (by omega)
  go_wp2_with fail
  refine (CA.out _ (Gr.refl w)).mono ?_; rintro e w1 ⟨rfl, hg1⟩
  have HG1 := Lib.hid hg1
  clear hg1 CA
  go_wp2_with fail
  refine (CB.out _ HG1.out).mono ?_; rintro e w2 ⟨rfl, hg2⟩
  have HG2 := Lib.hid (Gr.trans HG1.out hg2)
  clear hg2 CB HG1
  go_wp2_with fail
  refine (UC.out _ HG2.out).mono ?_; rintro e w3 ⟨v, rfl, ho, hg⟩
  obtain ⟨ua, uc, rfl, HU⟩ := own_has ho U0 U2 k
  have HG3 := Lib.hid (Gr.trans HG2.out hg)
  have HU3 := Lib.hid HU
  clear ho hg UC HG2 HU
  go_wp2_with fail
  refine (MC.out _ HG3.out).mono ?_; rintro e w4 ⟨v, rfl, ho, hg⟩
  obtain ⟨ma, mc, rfl, HM⟩ := own_has ho M0 M2 k
  have HG4 := Lib.hid (Gr.trans HG3.out hg)
  have HU4 := Lib.hid (fun w' (h : Gr w4 w') => HU3.out w' (Gr.trans hg h))
  have HM4 := Lib.hid HM
  clear ho hg MC HG3 HM HU3
  go_wp2_with fail
  refine (CC.out _ HG4.out).mono ?_; rintro e w5 ⟨v, rfl, ho, hg⟩
  obtain ⟨ia, ic, rfl, HI⟩ := own_has ho C0 C2 k
  have HG5 := Lib.hid (Gr.trans HG4.out hg)
  have HU5 := Lib.hid (fun w' (h : Gr w5 w') => HU4.out w' (Gr.trans hg h))
  have HM5 := Lib.hid (fun w' (h : Gr w5 w') => HM4.out w' (Gr.trans hg h))
  have HI5 := Lib.hid HI
  clear ho hg CC HG4 HI HU4 HM4
  go_wp2_with fail
  have hkc : (1 : Int) + (ch : Int) % 999 = (k : Int) := by omega
  rw [hkc]
  clear hkc hk
  refine (XA.out _ HG5.out).mono ?_; rintro e w6 ⟨rfl, hg⟩
  have HG6 := Lib.hid (Gr.trans HG5.out hg)
  have HU6 := Lib.hid (fun w' (h : Gr w6 w') => HU5.out w' (Gr.trans hg h))
  have HM6 := Lib.hid (fun w' (h : Gr w6 w') => HM5.out w' (Gr.trans hg h))
  have HI6 := Lib.hid (fun w' (h : Gr w6 w') => HI5.out w' (Gr.trans hg h))
  clear hg HG5 HU5 HM5 HI5 XA
  go_wp2_with fail
  refine (XB.out _ HG6.out).mono ?_; rintro e w7 ⟨rfl, hg⟩
  have HG7 := Lib.hid (Gr.trans HG6.out hg)
  have HU7 := Lib.hid (HU6.out w7 hg)
  have HM7 := Lib.hid (fun w' (h : Gr w7 w') => HM6.out w' (Gr.trans hg h))
  have HI7 := Lib.hid (fun w' (h : Gr w7 w') => HI6.out w' (Gr.trans hg h))
  clear hg HG6 HU6 HM6 HI6 XB
  rw [U1] at HU7
  rw [M1] at HM7
  rw [C1] at HI7
  clear U0 U1 U2 M0 M1 M2 C0 C1 C2
  cases x
  all_goals cases y
  all_goals
    go_wp2_with fail
    refine HU7.out.mono ?_; rintro e w8 ⟨rfl, hg⟩
    have HG8 := Lib.hid (Gr.trans HG7.out hg)
    have HM8 := Lib.hid (HM7.out w8 hg)
    have HI8 := Lib.hid (fun w' (h : Gr w8 w') => HI7.out w' (Gr.trans hg h))
    clear hg HG7 HU7 HM7 HI7
    go_wp2_with fail
    refine HM8.out.mono ?_; rintro e w9 ⟨rfl, hg⟩
    have HG9 := Lib.hid (Gr.trans HG8.out hg)
    have HI9 := Lib.hid (HI8.out w9 hg)
    clear hg HG8 HM8 HI8
    go_wp2_with fail
    refine HI9.out.mono ?_; rintro e wa ⟨rfl, hg⟩
    have HGa := Lib.hid (Gr.trans HG9.out hg)
    have HAW := Lib.hid (AW.out wa HGa.out)
    clear hg HG9 HI9 AW
    go_wp2_with fail
    refine HAW.out.mono ?_; rintro e wb ⟨rfl, hg⟩
    have HGb := Lib.hid (Gr.trans HGa.out hg)
    clear hg
    go_wp2
    go_ret
    exact ⟨rfl, HGb.out⟩
set_option maxHeartbeats 2000000 in
set_option maxRecDepth 100000 in
theorem l6_Members (a b : Option Addr) (A B : List (Int × Int)) (ca cb ch : Nat) (w : World) (htab : Tab w) (hA : RngAt w a A) (hB : RngAt w b B) (hca : a = none → ca = 0) (hcb : b = none → cb = 0)
    (hpa : ∀ p o, a = some ⟨p, o, none⟩ → p < w.heap.size) (hpb : ∀ p o, b = some ⟨p, o, none⟩ → p < w.heap.size) (hla : A.length ≤ 10000000000000) (hlb : B.length ≤ 10000000000000) :
    Calls Tryd.prog 8 #[.slice a A.length ca, .slice b B.length cb, .int .u16 (ch : Nat)] w fun e w' => e = .returned (.bool true) ∧ Gr w w' := by
  have AW := Lib.hid (fun w' (hg : Gr w w') => l6_awake w' (htab_gr htab hg))
  have CA := Lib.hid (fun w' (hg : Gr w w') => ra_Check a A ca w' (hA.gr hg) hca hla)
  have CB := Lib.hid (fun w' (hg : Gr w w') => ra_Check b B cb w' (hB.gr hg) hcb hlb)
  by_cases h1 : 60 < A.length
  · clear CA CB hA hB
    generalize A.length = la at *
    generalize B.length = lb at *
    have da : decide (60 < (la : Int)) = true := decide_eq_true (by omega)
    go_enter Tryd.func8, Tryd.ntmps8
    go_wp2_with fail
    refine (AW.out _ (Gr.refl w)).mono ?_; rintro e w1 ⟨rfl, hg⟩
    have HG := Lib.hid hg
    clear hg
    go_wp2
    go_ret
    exact ⟨rfl, HG.out⟩
  · by_cases h2 : 60 < B.length
    · clear CA CB hA hB
      generalize A.length = la at *
      generalize B.length = lb at *
      have da : decide (60 < (la : Int)) = false := decide_eq_false (by omega)
      have db : decide (60 < (lb : Int)) = true := decide_eq_true (by omega)
      go_enter Tryd.func8, Tryd.ntmps8
      go_wp2_with fail
      refine (AW.out _ (Gr.refl w)).mono ?_; rintro e w1 ⟨rfl, hg⟩
      have HG := Lib.hid hg
      clear hg
      go_wp2
      go_ret
      exact ⟨rfl, HG.out⟩
    · by_cases h3 : checkR A = 0
      · by_cases h4 : checkR B = 0
        · exact l6_Members_ok a b A B ca cb ch w htab hA hB hca hcb hpa hpb (by omega) (by omega) h3 h4
        · clear hA hB
          rw [h3] at CA
          generalize checkR B = v at *
          have hv : (v == 0) = false := by rw [beq_eq_false_iff_ne]; exact h4
          generalize A.length = la at *
          generalize B.length = lb at *
          have da : decide (60 < (la : Int)) = false := decide_eq_false (by omega)
          have db : decide (60 < (lb : Int)) = false := decide_eq_false (by omega)
          go_enter Tryd.func8, Tryd.ntmps8
          go_wp2_with fail
          refine (CA.out _ (Gr.refl w)).mono ?_; rintro e w1 ⟨rfl, hg1⟩
          have HG1 := Lib.hid hg1
          clear hg1
          go_wp2_with fail
          refine (CB.out _ HG1.out).mono ?_; rintro e w2 ⟨rfl, hg2⟩
          have HG2 := Lib.hid (Gr.trans HG1.out hg2)
          clear hg2
          go_wp2_with fail
          refine (AW.out _ HG2.out).mono ?_; rintro e w3 ⟨rfl, hg⟩
          have HG := Lib.hid (Gr.trans HG2.out hg)
          clear hg
          go_wp2
          go_ret
          exact ⟨rfl, HG.out⟩
      · clear hA hB CB
        generalize checkR A = v at *
        have hv : (v == 0) = false := by rw [beq_eq_false_iff_ne]; exact h3
        generalize A.length = la at *
        generalize B.length = lb at *
        have da : decide (60 < (la : Int)) = false := decide_eq_false (by omega)
        have db : decide (60 < (lb : Int)) = false := decide_eq_false (by omega)
        go_enter Tryd.func8, Tryd.ntmps8
        go_wp2_with fail
        refine (CA.out _ (Gr.refl w)).mono ?_; rintro e w1 ⟨rfl, hg1⟩
        have HG1 := Lib.hid hg1
        clear hg1
        go_wp2_with fail
        refine (AW.out _ HG1.out).mono ?_; rintro e w3 ⟨rfl, hg⟩
        have HG := Lib.hid (Gr.trans HG1.out hg)
        clear hg
        go_wp2
        go_ret
        exact ⟨rfl, HG.out⟩
end Go.Proofs.YtifccpdkpgfnlaaDoor

/- Sets of channels: mathematics: a set is known by what it holds. -/
namespace Go.Proofs.YtifccpdkpgfnlaaDoor.Z
open Go
theorem checkL_ge : ∀ (R : List (Int × Int)) (p : Int), checkL R (some p) = 0 → ∀ r ∈ R, p + 2 ≤ r.1
  | [], _, _ => fun r h => absurd h (by simp)
  | x :: R, p, h => fun r hr => by
    obtain ⟨h1, h2, h3⟩ := (checkL_zero x R (some p)).1 h
    have h4 := nearP_false.1 h2 p rfl
    rcases List.mem_cons.1 hr with rfl | hr
    · exact h4
    · have := checkL_ge R x.2 h3 r hr
      have := (isRg_iff x).1 h1
      omega
theorem any_iff (R : List (Int × Int)) (k : Int) : R.any (hasR k) = true ↔ ∃ r ∈ R, r.1 ≤ k ∧ k ≤ r.2 := by
  rw [List.any_eq_true]
  exact exists_congr fun r => and_congr_right fun _ => hasR_iff k r
theorem norm_uniq : ∀ (R S : List (Int × Int)) (p q : Option Int), checkL R p = 0 → checkL S q = 0 → (∀ k : Int, R.any (hasR k) = true ↔ S.any (hasR k) = true) → R = S
  | [], [], _, _, _, _, _ => rfl
  | [], s :: S, _, q, _, hS, h => by
    have hs := (isRg_iff s).1 ((checkL_zero s S q).1 hS).1
    have := (h s.1).2 ((any_iff _ _).2 ⟨s, List.mem_cons_self, Int.le_refl _, hs.2.1⟩)
    simp at this
  | r :: R, [], p, _, hR, _, h => by
    have hs := (isRg_iff r).1 ((checkL_zero r R p).1 hR).1
    have := (h r.1).1 ((any_iff _ _).2 ⟨r, List.mem_cons_self, Int.le_refl _, hs.2.1⟩)
    simp at this
  | r :: R, s :: S, p, q, hR, hS, h => by
    obtain ⟨r1, r2, r3⟩ := (checkL_zero r R p).1 hR
    obtain ⟨s1, s2, s3⟩ := (checkL_zero s S q).1 hS
    have r1 := (isRg_iff r).1 r1
    have s1 := (isRg_iff s).1 s1
    have gR := checkL_ge R r.2 r3
    have gS := checkL_ge S s.2 s3
    have mR : ∀ k : Int, (r :: R).any (hasR k) = true ↔ (r.1 ≤ k ∧ k ≤ r.2) ∨ R.any (hasR k) = true := fun k => by
      rw [List.any_cons, Bool.or_eq_true, hasR_iff]
    have mS : ∀ k : Int, (s :: S).any (hasR k) = true ↔ (s.1 ≤ k ∧ k ≤ s.2) ∨ S.any (hasR k) = true := fun k => by
      rw [List.any_cons, Bool.or_eq_true, hasR_iff]
    have fR : ∀ k : Int, R.any (hasR k) = true → r.2 + 2 ≤ k := fun k hk => by
      obtain ⟨x, hx, h1, h2⟩ := (any_iff R k).1 hk
      have := gR x hx; omega
    have fS : ∀ k : Int, S.any (hasR k) = true → s.2 + 2 ≤ k := fun k hk => by
      obtain ⟨x, hx, h1, h2⟩ := (any_iff S k).1 hk
      have := gS x hx; omega
    have H : ∀ k : Int, ((r.1 ≤ k ∧ k ≤ r.2) ∨ R.any (hasR k) = true) ↔ ((s.1 ≤ k ∧ k ≤ s.2) ∨ S.any (hasR k) = true) := fun k => by
      rw [← mR, ← mS]; exact h k
    have e1 : r.1 = s.1 := by
      have a := (H r.1).1 (.inl ⟨Int.le_refl _, r1.2.1⟩)
      have b := (H s.1).2 (.inl ⟨Int.le_refl _, s1.2.1⟩)
      rcases a with a | a
      · rcases b with b | b
        · omega
        · have := fR _ b; omega
      · have := fS _ a
        rcases b with b | b
        · omega
        · have := fR _ b; omega
    have e2 : r.2 = s.2 := by
      rcases Int.lt_trichotomy r.2 s.2 with hl | he | hl
      · rcases (H (r.2 + 1)).2 (.inl ⟨by omega, by omega⟩) with a | a
        · omega
        · have := fR _ a; omega
      · exact he
      · rcases (H (s.2 + 1)).1 (.inl ⟨by omega, by omega⟩) with a | a
        · omega
        · have := fS _ a; omega
    have e : r = s := Prod.ext e1 e2
    subst e
    have := norm_uniq R S (some r.2) (some r.2) r3 s3 fun k => by
      constructor
      · intro hk
        rcases (H k).1 (.inr hk) with a | a
        · have := fR _ hk; omega
        · exact a
      · intro hk
        rcases (H k).2 (.inr hk) with a | a
        · have := fS _ hk; omega
        · exact a
    rw [this]
/-- a set is what setS makes of what it holds -/
theorem setS_of {R : List (Int × Int)} (hR : checkR R = 0) {g : Nat → Bool} (h0 : g 0 = false) (hg : ∀ k : Nat, 1 ≤ k → k ≤ 999 → g k = R.any (hasR k)) : setS g 1000 = R := by
  obtain ⟨A, B, -, -⟩ := setS_spec g h0 1000 (Nat.le_refl _)
  refine norm_uniq _ _ none none A hR fun k => ?_
  have hb : ∀ S : List (Int × Int), checkR S = 0 → S.any (hasR k) = true → 1 ≤ k ∧ k ≤ 999 := fun S hS hk => by
    obtain ⟨r, hr, h1, h2⟩ := (any_iff S k).1 hk
    have := (isRg_iff r).1 (checkL_each hS r hr)
    omega
  by_cases hk : 1 ≤ k ∧ k ≤ 999
  · obtain ⟨n, rfl⟩ : ∃ n : Nat, k = n := ⟨k.toNat, by omega⟩
    rw [B n, ← hg n (by omega) (by omega), decide_eq_true (by omega)]
    simp
  · exact ⟨fun h => absurd (hb _ A h) hk, fun h => absurd (hb _ hR h) hk⟩
end Go.Proofs.YtifccpdkpgfnlaaDoor.Z

/- Law 6: the normal text of a set is read back: the walk (what Parse makes of Format's text is a premise yet). -/
namespace Go.Proofs.YtifccpdkpgfnlaaDoor
open Go.RowKit Go.Shelf
open Z
set_option maxHeartbeats 2000000 in
set_option maxRecDepth 100000 in
theorem l6_Returns (a : Option Addr) (R : List (Int × Int)) (cap : Nat) (w : World) (htab : Tab w) (hR : RngAt w a R) (hcap : a = none → cap = 0) (hlen : R.length ≤ 10000000000000)
    (hback : R.length ≤ 60 → checkR R = 0 → parseR (formatR R).1 = (R, 0, 0)) :
    Calls Tryd.prog 7 #[.slice a R.length cap] w fun e w' => e = .returned (.bool true) ∧ Gr w w' := by
  have AW := Lib.hid (fun w' (hg : Gr w w') => l6_awake w' (htab_gr htab hg))
  have CK := Lib.hid (fun w' (hg : Gr w w') => ra_Check a R cap w' (hR.gr hg) hcap hlen)
  have FO := Lib.hid (fun w' (hg : Gr w w') (h60 : R.length ≤ 60) => ra_Format a R cap w' (hR.gr hg) hcap (by omega) (htab_gr htab hg))
  by_cases h1 : 60 < R.length
  · clear CK FO hR hback
    generalize R.length = n at *
    have da : decide (60 < (n : Int)) = true := decide_eq_true (by omega)
    go_enter Tryd.func7, Tryd.ntmps7
    go_wp2_with fail
    refine (AW.out _ (Gr.refl w)).mono ?_; rintro e w1 ⟨rfl, hg⟩
    have HG := Lib.hid hg
    clear hg
    go_wp2
    go_ret
    exact ⟨rfl, HG.out⟩
  · by_cases h2 : checkR R = 0
    · have hb := hback (by omega) h2
      have PA : Hid (∀ w', Calls Tryd.prog 35 #[.string (str (formatR R).1)] w' fun e w2 => ∃ v, e = .returned (.tuple #[v, .int .i64 0, .int .i64 0]) ∧ OwnR w'.heap.size w2 v R ∧ Gr w' w2) := Lib.hid fun w' => by
        have := ra_Parse (str (formatR R).1) w'
        rw [show (str (formatR R).1).data.toList = (formatR R).1 from by simp [str], hb] at this
        exact this
      have hf2 : (formatR R).2 = 0 := by unfold formatR; rw [if_neg (by simp [h2])]
      rw [hf2] at FO
      rw [h2] at CK
      have EQ : Hid (∀ (w' w2 : World) (v : Value), Gr w w2 → OwnR w'.heap.size w2 v R → ∃ b c, v = .slice b R.length c ∧ Calls Tryd.prog 36 #[.slice b R.length c, .slice a R.length cap] w2 fun e w3 => e = .returned (.bool true) ∧ Gr w2 w3) := Lib.hid fun w' w2 v hg ho => by
        obtain ⟨b, c, rfl, hr, -, -⟩ := ho.shape2
        exact ⟨b, c, rfl, sl_SameR hr (hR.gr hg) hlen⟩
      clear hb hback hf2 hR h2
      generalize str (formatR R).1 = s at *
      generalize hn : R.length = n at *
      have da : decide (60 < (n : Int)) = false := decide_eq_false (by omega)
      clear hn
      go_enter Tryd.func7, Tryd.ntmps7
      go_wp2_with fail
      refine (CK.out _ (Gr.refl w)).mono ?_; rintro e w1 ⟨rfl, hg⟩
      have HG1 := Lib.hid hg
      clear hg CK
      go_wp2_with fail
      refine (FO.out _ HG1.out (by omega)).mono ?_; rintro e w2 ⟨rfl, hg⟩
      have HG2 := Lib.hid (Gr.trans HG1.out hg)
      clear hg FO HG1
      go_wp2_with fail
      refine (PA.out _).mono ?_; rintro e w3 ⟨v, rfl, ho, hg⟩
      have HG3 := Lib.hid (Gr.trans HG2.out hg)
      obtain ⟨b, c, rfl, he⟩ := EQ.out _ w3 _ HG3.out ho
      have HE := Lib.hid he
      clear hg PA HG2 EQ ho he
      go_wp2_with fail
      refine HE.out.mono ?_; rintro e w4 ⟨rfl, hg⟩
      have HG4 := Lib.hid (Gr.trans HG3.out hg)
      clear hg HE HG3
      go_wp2_with fail
      refine (AW.out _ HG4.out).mono ?_; rintro e w5 ⟨rfl, hg⟩
      have HG5 := Lib.hid (Gr.trans HG4.out hg)
      clear hg
      go_wp2
      go_ret
      exact ⟨rfl, HG5.out⟩
    · have hf2 : (formatR R).2 = checkR R := by unfold formatR; rw [if_pos h2]
      rw [hf2] at FO
      clear hf2 hR hback
      generalize str (formatR R).1 = s at *
      generalize checkR R = v at *
      have hv : (v == 0) = false := by rw [beq_eq_false_iff_ne]; exact h2
      generalize hn : R.length = n at *
      have da : decide (60 < (n : Int)) = false := decide_eq_false (by omega)
      clear hn
      go_enter Tryd.func7, Tryd.ntmps7
      go_wp2_with fail
      refine (CK.out _ (Gr.refl w)).mono ?_; rintro e w1 ⟨rfl, hg⟩
      have HG1 := Lib.hid hg
      clear hg
      go_wp2_with fail
      refine (FO.out _ HG1.out (by omega)).mono ?_; rintro e w2 ⟨rfl, hg⟩
      have HG2 := Lib.hid (Gr.trans HG1.out hg)
      clear hg FO HG1
      go_wp2_with fail
      refine (CK.out _ HG2.out).mono ?_; rintro e w3 ⟨rfl, hg⟩
      have HG3 := Lib.hid (Gr.trans HG2.out hg)
      clear hg CK HG2
      go_wp2_with fail
      refine (AW.out _ HG3.out).mono ?_; rintro e w5 ⟨rfl, hg⟩
      have HG5 := Lib.hid (Gr.trans HG3.out hg)
      clear hg
      go_wp2
      go_ret
      exact ⟨rfl, HG5.out⟩
end Go.Proofs.YtifccpdkpgfnlaaDoor
