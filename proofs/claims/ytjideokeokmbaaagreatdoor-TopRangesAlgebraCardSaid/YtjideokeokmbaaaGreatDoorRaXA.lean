/- RaXA: RaX, RaY, RaZ, RbA, joined. -/
import Derived.Test.YtjideokeokmbaaaGreatDoorRaTW
set_option linter.unusedVariables false
set_option linter.unusedSimpArgs false

/- Sets of channels: mathematics of sets: they are sets, and hold what is in. -/
namespace Go.Proofs.YtjideokeokmbaaaGreatDoor.Z
open Go
/-- the end of the last range, or what was ahead -/
def lastE (l : List (Int × Int)) (p : Option Int) : Option Int := match l.getLast? with
  | none => p
  | some r => some r.2
theorem lastE_cons (x : Int × Int) (l : List (Int × Int)) (p : Option Int) : lastE (x :: l) p = lastE l (some x.2) := by
  unfold lastE
  cases l with
  | nil => rfl
  | cons y ys => rw [List.getLast?_cons_cons]; rw [List.getLast?_eq_some_getLast (by simp)]
theorem lastE_snoc (l : List (Int × Int)) (x : Int × Int) (p : Option Int) : lastE (l ++ [x]) p = some x.2 := by unfold lastE; simp
def nearP (p : Option Int) (f : Int) : Bool := match p with
  | none => false
  | some q => decide (f < q + 2)
theorem checkL_cons (r : Int × Int) (l : List (Int × Int)) (p : Option Int) : checkL (r :: l) p = if isRg r = false then 2 else if nearP p r.1 = true then 9 else checkL l (some r.2) := rfl
theorem checkL_zero (r : Int × Int) (l : List (Int × Int)) (p : Option Int) : checkL (r :: l) p = 0 ↔ isRg r = true ∧ nearP p r.1 = false ∧ checkL l (some r.2) = 0 := by
  rw [checkL_cons]
  cases isRg r <;> cases nearP p r.1 <;> simp
theorem nearP_false {p : Option Int} {f : Int} : nearP p f = false ↔ ∀ q, p = some q → q + 2 ≤ f := by
  cases p with
  | none => simp [nearP]
  | some q => simp [nearP]
theorem checkL_snoc (x : Int × Int) : ∀ (l : List (Int × Int)) (p : Option Int), checkL (l ++ [x]) p = 0 ↔ checkL l p = 0 ∧ isRg x = true ∧ nearP (lastE l p) x.1 = false
  | [], p => by
    show checkL [x] p = 0 ↔ _
    rw [checkL_zero]
    show _ ↔ (0 : Int) = 0 ∧ isRg x = true ∧ nearP p x.1 = false
    simp [checkL]
  | y :: l, p => by
    rw [List.cons_append, checkL_zero, checkL_zero, checkL_snoc x l, lastE_cons]
    constructor
    · rintro ⟨a, b, c, d, e⟩; exact ⟨⟨a, b, c⟩, d, e⟩
    · rintro ⟨⟨a, b, c⟩, d, e⟩; exact ⟨a, b, c, d, e⟩
theorem hasR_iff (k : Int) (r : Int × Int) : hasR k r = true ↔ r.1 ≤ k ∧ k ≤ r.2 := by unfold hasR; simp
/-- what setS makes is a set, and holds what is in -/
theorem setS_spec (g : Nat → Bool) (h0 : g 0 = false) : ∀ n, n ≤ 1000 → checkR (setS g n) = 0 ∧ (∀ k : Nat, (setS g n).any (hasR k) = (decide (k < n) && g k)) ∧
    (1 ≤ n → g (n - 1) = true → lastE (setS g n) none = some ((n : Int) - 1)) ∧ ((n = 0 ∨ g (n - 1) = false) → ∀ q, lastE (setS g n) none = some q → q + 1 < n)
  | 0, _ => ⟨rfl, fun k => by simp [setS], fun h => by omega, fun _ q h => by simp [setS, lastE] at h⟩
  | n + 1, hn => by
    obtain ⟨A, B, C, D⟩ := setS_spec g h0 n (by omega)
    have hs : setS g (n + 1) = setStep g (setS g n) n := rfl
    rw [hs]
    cases hg : g n
    · rw [setStep_off hg]
      refine ⟨A, fun k => ?_, fun _ h => ?_, fun _ q hq => ?_⟩
      · rw [B k]
        by_cases hk : k = n
        · subst hk; rw [hg]; simp
        · have : decide (k < n) = decide (k < n + 1) := decide_eq_decide.2 (by omega)
          rw [this]
      · rw [Nat.add_sub_cancel, hg] at h; cases h
      · by_cases h1 : n = 0 ∨ g (n - 1) = false
        · have := D h1 q hq; omega
        · have h2 : 1 ≤ n ∧ g (n - 1) = true := ⟨by omega, by simpa using fun e => h1 (.inr e)⟩
          rw [C h2.1 h2.2] at hq
          cases hq; omega
    · have hn1 : 1 ≤ n := by
        cases n with
        | zero => rw [h0] at hg; cases hg
        | succ m => omega
      cases hp : g (n - 1)
      · have e : setStep g (setS g n) n = setS g n ++ [((n : Int), (n : Int))] := by unfold setStep; rw [if_pos hg, if_neg (by rw [hp]; simp)]
        rw [e]
        refine ⟨(checkL_snoc _ _ _).2 ⟨A, (isRg_iff _).2 ⟨by simp only; omega, by simp only; omega, by simp only; omega⟩, nearP_false.2 fun q hq => ?_⟩, fun k => ?_, fun _ _ => ?_, fun h => ?_⟩
        · have := D (.inr hp) q hq
          simp only; omega
        · rw [List.any_append, B k]
          by_cases hk : k = n
          · subst hk
            have : hasR (k : Int) ((k : Int), (k : Int)) = true := (hasR_iff _ _).2 ⟨Int.le_refl _, Int.le_refl _⟩
            simp [this, hg]
          · have h1 : hasR (k : Int) ((n : Int), (n : Int)) = false := by
              rw [Bool.eq_false_iff]; intro h
              have := (hasR_iff _ _).1 h
              simp only at this; omega
            have h2 : decide (k < n) = decide (k < n + 1) := decide_eq_decide.2 (by omega)
            simp [h1, h2]
        · rw [lastE_snoc]; simp
        · rcases h with h | h
          · omega
          · rw [Nat.add_sub_cancel, hg] at h; cases h
      · have e : setStep g (setS g n) n = bumpL (setS g n) n := by unfold setStep; rw [if_pos hg, if_pos ⟨hn1, hp⟩]
        rw [e]
        have hl := C hn1 hp
        obtain ⟨i, r, hir⟩ : ∃ i r, setS g n = i ++ [r] := by
          have hne : setS g n ≠ [] := fun e => by rw [e] at hl; simp [lastE] at hl
          exact ⟨_, _, (List.dropLast_concat_getLast hne).symm⟩
        rw [hir] at A B hl ⊢
        rw [lastE_snoc] at hl
        have hr2 : r.2 = (n : Int) - 1 := by simpa using hl
        have hb : bumpL (i ++ [r]) (n : Int) = i ++ [(r.1, (n : Int))] := by unfold bumpL; simp
        rw [hb]
        obtain ⟨A1, A2, A3⟩ := (checkL_snoc r i none).1 A
        have hrg := (isRg_iff r).1 A2
        refine ⟨(checkL_snoc _ _ _).2 ⟨A1, (isRg_iff _).2 ⟨hrg.1, by simp only; omega, by simp only; omega⟩, A3⟩, fun k => ?_, fun _ _ => ?_, fun h => ?_⟩
        · have Bk := B k
          rw [List.any_append] at Bk ⊢
          by_cases hk : k = n
          · subst hk
            have : hasR (k : Int) (r.1, (k : Int)) = true := (hasR_iff _ _).2 ⟨by simp only; omega, Int.le_refl _⟩
            simp [this, hg]
          · have h1 : hasR (k : Int) (r.1, (n : Int)) = hasR (k : Int) r := by
              rw [Bool.eq_iff_iff, hasR_iff, hasR_iff]; simp only; omega
            have h2 : decide (k < n) = decide (k < n + 1) := decide_eq_decide.2 (by omega)
            rw [← h2, ← Bk]
            simp [h1]
        · rw [lastE_snoc]; simp
        · rcases h with h | h
          · omega
          · rw [Nat.add_sub_cancel, hg] at h; cases h
end Go.Proofs.YtjideokeokmbaaaGreatDoor.Z

/- Law 6: a channel is in a union, a difference, an intersection as it is in the sets. -/
namespace Go.Proofs.YtjideokeokmbaaaGreatDoor.Z
open Go
theorem comb_has (rem : Bool → Bool → Bool) (A B : List (Int × Int)) {k : Nat} (h1 : 1 ≤ k) (h2 : k ≤ 999) :
    checkR (setS (combG rem (inR A) (inR B) (chans [(1, 999)])) 1000) = 0 ∧ (setS (combG rem (inR A) (inR B) (chans [(1, 999)])) 1000).any (hasR k) = rem (A.any (hasR k)) (B.any (hasR k)) := by
  obtain ⟨a, b, -, -⟩ := setS_spec (combG rem (inR A) (inR B) (chans [(1, 999)])) (combG_zero _ _ _) 1000 (Nat.le_refl _)
  refine ⟨a, ?_⟩
  rw [b k, combG_all, if_pos ⟨h1, h2⟩, inR_eq, inR_eq, decide_eq_true (by omega)]
  simp
theorem combR_ok {rem : Bool → Bool → Bool} {A B : List (Int × Int)} (hA : checkR A = 0) (hB : checkR B = 0) : combR rem A B = (setS (combG rem (inR A) (inR B) (chans [(1, 999)])) 1000, 0) := by
  unfold combR; rw [if_neg (by simp [hA]), if_neg (by simp [hB])]
end Go.Proofs.YtjideokeokmbaaaGreatDoor.Z
namespace Go.Proofs.YtjideokeokmbaaaGreatDoor
open Go.RowKit Go.Shelf
open Z
end Go.Proofs.YtjideokeokmbaaaGreatDoor

/- Sets of channels: mathematics: a set is known by what it holds. -/
namespace Go.Proofs.YtjideokeokmbaaaGreatDoor.Z
open Go
theorem checkL_ge : ∀ (R : List (Int × Int)) (p : Int), checkL R (some p) = 0 → ∀ r ∈ R, p + 2 ≤ r.1
  | [], _, _ => fun r h => absurd h (by simp)
  | x :: R, p, h => fun r hr => by
    obtain ⟨h1, h2, h3⟩ := (checkL_zero x R (some p)).1 h
    have h4 := nearP_false.1 h2 p rfl
    rcases List.mem_cons.1 hr with rfl | hr
    · exact h4
    · have := checkL_ge R x.2 h3 r hr
      have := (isRg_iff x).1 h1
      omega
theorem any_iff (R : List (Int × Int)) (k : Int) : R.any (hasR k) = true ↔ ∃ r ∈ R, r.1 ≤ k ∧ k ≤ r.2 := by
  rw [List.any_eq_true]
  exact exists_congr fun r => and_congr_right fun _ => hasR_iff k r
theorem norm_uniq : ∀ (R S : List (Int × Int)) (p q : Option Int), checkL R p = 0 → checkL S q = 0 → (∀ k : Int, R.any (hasR k) = true ↔ S.any (hasR k) = true) → R = S
  | [], [], _, _, _, _, _ => rfl
  | [], s :: S, _, q, _, hS, h => by
    have hs := (isRg_iff s).1 ((checkL_zero s S q).1 hS).1
    have := (h s.1).2 ((any_iff _ _).2 ⟨s, List.mem_cons_self, Int.le_refl _, hs.2.1⟩)
    simp at this
  | r :: R, [], p, _, hR, _, h => by
    have hs := (isRg_iff r).1 ((checkL_zero r R p).1 hR).1
    have := (h r.1).1 ((any_iff _ _).2 ⟨r, List.mem_cons_self, Int.le_refl _, hs.2.1⟩)
    simp at this
  | r :: R, s :: S, p, q, hR, hS, h => by
    obtain ⟨r1, r2, r3⟩ := (checkL_zero r R p).1 hR
    obtain ⟨s1, s2, s3⟩ := (checkL_zero s S q).1 hS
    have r1 := (isRg_iff r).1 r1
    have s1 := (isRg_iff s).1 s1
    have gR := checkL_ge R r.2 r3
    have gS := checkL_ge S s.2 s3
    have mR : ∀ k : Int, (r :: R).any (hasR k) = true ↔ (r.1 ≤ k ∧ k ≤ r.2) ∨ R.any (hasR k) = true := fun k => by
      rw [List.any_cons, Bool.or_eq_true, hasR_iff]
    have mS : ∀ k : Int, (s :: S).any (hasR k) = true ↔ (s.1 ≤ k ∧ k ≤ s.2) ∨ S.any (hasR k) = true := fun k => by
      rw [List.any_cons, Bool.or_eq_true, hasR_iff]
    have fR : ∀ k : Int, R.any (hasR k) = true → r.2 + 2 ≤ k := fun k hk => by
      obtain ⟨x, hx, h1, h2⟩ := (any_iff R k).1 hk
      have := gR x hx; omega
    have fS : ∀ k : Int, S.any (hasR k) = true → s.2 + 2 ≤ k := fun k hk => by
      obtain ⟨x, hx, h1, h2⟩ := (any_iff S k).1 hk
      have := gS x hx; omega
    have H : ∀ k : Int, ((r.1 ≤ k ∧ k ≤ r.2) ∨ R.any (hasR k) = true) ↔ ((s.1 ≤ k ∧ k ≤ s.2) ∨ S.any (hasR k) = true) := fun k => by
      rw [← mR, ← mS]; exact h k
    have e1 : r.1 = s.1 := by
      have a := (H r.1).1 (.inl ⟨Int.le_refl _, r1.2.1⟩)
      have b := (H s.1).2 (.inl ⟨Int.le_refl _, s1.2.1⟩)
      rcases a with a | a
      · rcases b with b | b
        · omega
        · have := fR _ b; omega
      · have := fS _ a
        rcases b with b | b
        · omega
        · have := fR _ b; omega
    have e2 : r.2 = s.2 := by
      rcases Int.lt_trichotomy r.2 s.2 with hl | he | hl
      · rcases (H (r.2 + 1)).2 (.inl ⟨by omega, by omega⟩) with a | a
        · omega
        · have := fR _ a; omega
      · exact he
      · rcases (H (s.2 + 1)).1 (.inl ⟨by omega, by omega⟩) with a | a
        · omega
        · have := fS _ a; omega
    have e : r = s := Prod.ext e1 e2
    subst e
    have := norm_uniq R S (some r.2) (some r.2) r3 s3 fun k => by
      constructor
      · intro hk
        rcases (H k).1 (.inr hk) with a | a
        · have := fR _ hk; omega
        · exact a
      · intro hk
        rcases (H k).2 (.inr hk) with a | a
        · have := fS _ hk; omega
        · exact a
    rw [this]
/-- a set is what setS makes of what it holds -/
theorem setS_of {R : List (Int × Int)} (hR : checkR R = 0) {g : Nat → Bool} (h0 : g 0 = false) (hg : ∀ k : Nat, 1 ≤ k → k ≤ 999 → g k = R.any (hasR k)) : setS g 1000 = R := by
  obtain ⟨A, B, -, -⟩ := setS_spec g h0 1000 (Nat.le_refl _)
  refine norm_uniq _ _ none none A hR fun k => ?_
  have hb : ∀ S : List (Int × Int), checkR S = 0 → S.any (hasR k) = true → 1 ≤ k ∧ k ≤ 999 := fun S hS hk => by
    obtain ⟨r, hr, h1, h2⟩ := (any_iff S k).1 hk
    have := (isRg_iff r).1 (checkL_each hS r hr)
    omega
  by_cases hk : 1 ≤ k ∧ k ≤ 999
  · obtain ⟨n, rfl⟩ : ∃ n : Nat, k = n := ⟨k.toNat, by omega⟩
    rw [B n, ← hg n (by omega) (by omega), decide_eq_true (by omega)]
    simp
  · exact ⟨fun h => absurd (hb _ A h) hk, fun h => absurd (hb _ hR h) hk⟩
end Go.Proofs.YtjideokeokmbaaaGreatDoor.Z

/- Law 6: the normal text of a set is read back: the walk (what Parse makes of Format's text is a premise yet). -/
namespace Go.Proofs.YtjideokeokmbaaaGreatDoor
open Go.RowKit Go.Shelf
open Z
end Go.Proofs.YtjideokeokmbaaaGreatDoor
