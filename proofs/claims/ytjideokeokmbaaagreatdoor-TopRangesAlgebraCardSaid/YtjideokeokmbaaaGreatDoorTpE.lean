/- T3: mathematics of texts of ranges with signs. -/
import Derived.Test.YtjideokeokmbaaaGreatDoorRbN
set_option linter.unusedVariables false
set_option linter.unusedSimpArgs false
namespace Go.Proofs.YtjideokeokmbaaaGreatDoor.Z
open Go
/-- ranges with signs: each behind + or - -/
def sgnB (v : Bool) : UInt8 := if v then 43 else 45
def sgnT : List (Bool × (Int × Int)) → List UInt8
  | [] => []
  | (v, r) :: S => [32, sgnB v, 32] ++ termT r ++ sgnT S
def sgnF (S : List (Bool × (Int × Int))) (g : Nat → Bool) : Nat → Bool := S.foldl (fun g x => updM g (chans [x.2]) x.1) g
theorem sgnT_app (S T : List (Bool × (Int × Int))) : sgnT (S ++ T) = sgnT S ++ sgnT T := by
  induction S with
  | nil => rfl
  | cons x S ih => obtain ⟨v, r⟩ := x; simp [sgnT, ih]
theorem sgnB_ne (v : Bool) : sgnB v ≠ 32 ∧ isD (sgnB v) = false ∧ sgnB v ≠ 116 := by cases v <;> decide
theorem thru_sgn {l x : List UInt8} {k : Nat} {v : Bool} (h : l.drop k = 32 :: sgnB v :: x) : thruR l k = (false, k + 1) := by
  have hs : skipB l k = k + 1 := skipB_at (n := 1) (x := sgnB v :: x) h (by simpa using (sgnB_ne v).1)
  have hd : l.drop (k + 1) = sgnB v :: x := drop_add (a := [32]) h
  unfold thruR
  rw [hs, hd, if_neg]
  simp only [Lib.hasPrefix, thruL, List.isPrefixOf]
  cases v <;> simp [sgnB]
theorem term_sgn {l x : List UInt8} {k n : Nat} {r : Int × Int} (hr : isRg r = true) (hx : x = [] ∨ ∃ v y, x = 32 :: sgnB v :: y) (h : l.drop k = List.replicate n 32 ++ (termT r ++ x)) :
    (termR l k).1 = r ∧ (termR l k).2.1 = 0 ∧ l.drop (skipB l (termR l k).2.2) = x.drop 1 := by
  obtain ⟨f, t⟩ := r
  have hb := (isRg_iff _).1 hr
  simp only at hb
  obtain ⟨F, rfl⟩ : ∃ F : Nat, f = F := ⟨f.toNat, by omega⟩
  obtain ⟨T, rfl⟩ : ∃ T : Nat, t = T := ⟨t.toNat, by omega⟩
  have hxd : ∀ c, x.head? = some c → isD c = false := by
    rcases hx with rfl | ⟨v, y, rfl⟩
    · simp
    · intro c hc; simp at hc; subst hc; decide
  have hend : ∀ e, l.drop e = x → l.drop (skipB l e) = x.drop 1 := fun e he => by
    rcases hx with rfl | ⟨v, y, rfl⟩
    · rw [skipB_at (n := 0) (x := []) he (by simp)]; simpa using he
    · rw [skipB_at (n := 1) (x := sgnB v :: y) he (by simpa using (sgnB_ne v).1)]
      exact drop_add (a := [32]) he
  unfold termT at h
  simp only [Int.toNat_natCast] at h
  by_cases hft : (F : Int) < T
  · rw [if_pos hft] at h
    rw [List.append_assoc, List.append_assoc] at h
    have c1 := chan_at (x := [32, 116, 104, 114, 117, 32] ++ (Lib.decDigits T ++ x)) (by omega) (by omega) h (by intro c hc; simp at hc; subst hc; decide)
    have d1 : l.drop (k + n + (Lib.decDigits F).length) = [32, 116, 104, 114, 117, 32] ++ (Lib.decDigits T ++ x) := by
      have := drop_add h
      rw [List.length_replicate] at this
      exact drop_add this
    have t1 := thru_yes (x := Lib.decDigits T ++ x) d1
    have d2 : l.drop (k + n + (Lib.decDigits F).length + 1 + 4) = List.replicate 1 32 ++ (Lib.decDigits T ++ x) := by
      have := drop_add (a := [32, 116, 104, 114, 117]) (b := 32 :: (Lib.decDigits T ++ x)) (by simpa using d1)
      simpa [Nat.add_assoc] using this
    have c2 := chan_at (by omega) (by omega) d2 hxd
    have d3 : l.drop (k + n + (Lib.decDigits F).length + 1 + 4 + 1 + (Lib.decDigits T).length) = x := by
      have := drop_add d2
      rw [List.length_replicate] at this
      exact drop_add this
    unfold termR
    rw [c1]
    simp only [ne_eq, not_true_eq_false, if_false]
    rw [t1]
    simp only [if_true]
    rw [c2]
    refine ⟨?_, rfl, hend _ d3⟩
    simp only
    rw [Int.min_eq_left (by omega), Int.max_eq_right (by omega)]
  · have he : F = T := by omega
    subst he
    rw [if_neg hft, List.append_nil] at h
    have c1 := chan_at (by omega) (by omega) h hxd
    have d1 : l.drop (k + n + (Lib.decDigits F).length) = x := by
      have := drop_add h
      rw [List.length_replicate] at this
      exact drop_add this
    unfold termR
    rw [c1]
    simp only [ne_eq, not_true_eq_false, if_false]
    rcases hx with rfl | ⟨v, y, rfl⟩
    · rw [thru_end d1]
      exact ⟨rfl, rfl, hend _ d1⟩
    · rw [thru_sgn d1]
      refine ⟨rfl, rfl, ?_⟩
      have d2 : l.drop (k + n + (Lib.decDigits F).length + 1) = sgnB v :: y := drop_add (a := [32]) d1
      simp only [Bool.false_eq_true, if_false]
      rw [skipB_at (n := 0) (x := sgnB v :: y) d2 (by simpa using (sgnB_ne v).1)]
      exact d2
theorem termT_pos {r : Int × Int} (hr : isRg r = true) : 1 ≤ (termT r).length ∧ (termT r).length ≤ 12 := by
  have hb := (isRg_iff r).1 hr
  have h2 := dig_ok r.1.toNat (by omega)
  have h3 := dig_ok r.2.toNat (by omega)
  have h5 : 1 ≤ (Lib.decDigits r.1.toNat).length := Nat.pos_of_ne_zero fun e => h2.2.2.1 (List.eq_nil_of_length_eq_zero e)
  unfold termT
  split <;> simp <;> omega
theorem memF_sgn (l : List UInt8) : ∀ (S : List (Bool × (Int × Int))) (v : Bool) (r : Int × Int) (g : Nat → Bool) (k n b : Nat), isRg r = true → (∀ x ∈ S, isRg x.2 = true) → S.length < n →
    l.drop k = List.replicate b 32 ++ (termT r ++ sgnT S) →
    (memF l n g v k).1 = sgnF S (updM g (chans [r]) v) ∧ (memF l n g v k).2.1 = 0
  | S, v, r, g, k, 0, b, hr, hS, hn, h => by omega
  | [], v, r, g, k, n + 1, b, hr, hS, hn, h => by
    obtain ⟨a, e, c⟩ := term_sgn hr (.inl rfl) h
    unfold memF
    rw [e, if_neg (by simp), a]
    have hs : skipB l (termR l k).2.2 = l.length := by
      have h1 : l.length ≤ skipB l (termR l k).2.2 := by simpa using c
      have h2 := (skipB_le (l := l) (k := (termR l k).2.2) (termR_ok (by
        by_cases hk : k ≤ l.length
        · exact hk
        · rw [List.drop_of_length_le (by omega)] at h
          have := congrArg List.length h
          have h4 := (termT_pos hr).1
          simp [sgnT] at this
          omega)).1).2
      omega
    rw [if_pos hs]
    exact ⟨rfl, rfl⟩
  | (u, s) :: S, v, r, g, k, n + 1, b, hr, hS, hn, h => by
    have hj : sgnT ((u, s) :: S) = 32 :: sgnB u :: 32 :: (termT s ++ sgnT S) := by simp [sgnT]
    rw [hj] at h
    obtain ⟨a, e, c⟩ := term_sgn hr (.inr ⟨u, _, rfl⟩) h
    simp only [List.drop_succ_cons, List.drop_zero] at c
    unfold memF
    rw [e, if_neg (by simp), a]
    have hs : skipB l (termR l k).2.2 ≠ l.length := fun e => by
      rw [List.drop_of_length_le (by omega)] at c
      cases c
    rw [if_neg hs]
    have ih := fun v' => memF_sgn l S v' s (updM g (chans [r]) v) (skipB l (termR l k).2.2 + 1) n 1 (hS (u, s) (by simp)) (fun x hx => hS x (List.mem_cons_of_mem _ hx)) (by simp at hn; omega) (by
      have := drop_add (a := [sgnB u]) c
      simpa using this)
    cases u
    · rw [if_neg (by rw [c]; simp [Lib.hasPrefix, sgnB]), if_pos (by rw [c]; rfl)]
      simpa [sgnF] using ih false
    · rw [if_pos (by rw [c]; rfl)]
      simpa [sgnF] using ih true
/-- the members of a text of ranges with signs -/
theorem members_sgn {r : Int × Int} {S : List (Bool × (Int × Int))} (hr : isRg r = true) (hS : ∀ x ∈ S, isRg x.2 = true) (hl : S.length ≤ 100) :
    (membersR (termT r ++ sgnT S)).1 = sgnF S (updM (fun _ => false) (chans [r]) true) ∧ (membersR (termT r ++ sgnT S)).2.1 = 0 ∧ (termT r ++ sgnT S).length ≤ 4096 := by
  have hb := (isRg_iff r).1 hr
  have h2 := dig_ok r.1.toNat (by omega)
  have h4 := termT_pos hr
  have hlen : ∀ S : List (Bool × (Int × Int)), (∀ x ∈ S, isRg x.2 = true) → S.length ≤ (sgnT S).length ∧ (sgnT S).length ≤ 15 * S.length := by
    intro S
    induction S with
    | nil => intro _; simp [sgnT]
    | cons x S ih =>
      intro hS
      obtain ⟨v, s⟩ := x
      have h1 := ih fun x hx => hS x (List.mem_cons_of_mem _ hx)
      have h2 := termT_pos (hS (v, s) (by simp))
      simp only at h2
      simp only [sgnT, List.length_append, List.length_cons, List.length_nil]
      omega
  have h5 := hlen S hS
  obtain ⟨l, hL⟩ : ∃ l, termT r ++ sgnT S = l := ⟨_, rfl⟩
  have hll : l.length ≤ 4096 ∧ 1 ≤ l.length ∧ S.length < l.length + 1 := by
    rw [← hL, List.length_append]; omega
  rw [hL]
  have hs0 : skipB l 0 = 0 := skipB_at (n := 0) (x := l) (by simp) (by
    rw [← hL]
    cases hd : Lib.decDigits r.1.toNat with
    | nil => exact absurd hd h2.2.2.1
    | cons d ds =>
      have := h2.1
      rw [hd] at this
      unfold termT
      rw [hd, List.cons_append, List.cons_append, List.head?_cons]
      intro e
      exact isD_blank (c := d) (by simp at this; exact this.1) (by simpa using e))
  obtain ⟨a, b⟩ := memF_sgn l S true r (fun _ => false) 0 (l.length + 1) 0 hr hS hll.2.2 (by rw [← hL]; simp)
  have hm : membersR l = memF l (l.length + 1) (fun _ => false) true 0 := by
    unfold membersR
    rw [hs0, if_neg (by omega)]
  rw [hm]
  exact ⟨a, b, hll.1⟩
theorem updM_sub (g : Nat → Bool) (r : Int × Int) (k : Nat) : updM g (chans [r]) false k = (g k && !hasR k r) := by
  unfold updM
  have : (k : Int) ∈ chans [r] ↔ hasR k r = true := by rw [mem_chans, hasR_iff]; simp
  by_cases h : hasR k r = true
  · rw [if_pos (this.2 h), h]; simp
  · rw [if_neg (fun e => h (this.1 e))]
    simp at h
    rw [h]; simp
theorem sgnF_add (R : List (Int × Int)) : ∀ (g : Nat → Bool) (k : Nat), sgnF (R.map fun r => (true, r)) g k = (g k || R.any (hasR k)) := by
  induction R with
  | nil => intro g k; simp [sgnF]
  | cons r R ih =>
    intro g k
    have := ih (updM g (chans [r]) true) k
    rw [updM_one, Bool.or_assoc] at this
    simpa [sgnF] using this
theorem sgnF_sub (R : List (Int × Int)) : ∀ (g : Nat → Bool) (k : Nat), sgnF (R.map fun r => (false, r)) g k = (g k && !R.any (hasR k)) := by
  induction R with
  | nil => intro g k; simp [sgnF]
  | cons r R ih =>
    intro g k
    have := ih (updM g (chans [r]) false) k
    rw [updM_sub] at this
    simp only [sgnF, List.map_cons, List.foldl_cons, List.any_cons] at this ⊢
    rw [this]
    cases g k <;> cases hasR k r <;> simp
theorem sgnF_app (S T : List (Bool × (Int × Int))) (g : Nat → Bool) : sgnF (S ++ T) g = sgnF T (sgnF S g) := by unfold sgnF; rw [List.foldl_append]
theorem joinT_sgn (R : List (Int × Int)) : Lib.joinTail [32, 43, 32] (R.map termT) = sgnT (R.map fun r => (true, r)) := by
  induction R with
  | nil => rfl
  | cons r R ih =>
    simp only [Lib.joinTail, List.map_cons, List.flatten_cons, sgnT] at ih ⊢
    rw [ih]; rfl
theorem fmt_sgn {r : Int × Int} {R : List (Int × Int)} (h : checkR (r :: R) = 0) : formatR (r :: R) = (termT r ++ sgnT (R.map fun r => (true, r)), 0) := by
  unfold formatR; rw [if_neg (by simp [h]), List.map_cons, Lib.join_cons, joinT_sgn]
theorem any_zero {R : List (Int × Int)} (h : checkR R = 0) : R.any (hasR ((0 : Nat) : Int)) = false := by
  rw [Bool.eq_false_iff]
  intro e
  obtain ⟨x, hx, h1, -⟩ := (any_iff _ _).1 e
  have := (isRg_iff x).1 (checkL_each h x hx)
  omega
theorem set_comb {A B : List (Int × Int)} (hA : checkR A = 0) (hB : checkR B = 0) (rem : Bool → Bool → Bool) (h00 : rem false false = false) {g : Nat → Bool} (hg : ∀ k, g k = rem (A.any (hasR k)) (B.any (hasR k))) :
    setS g 1000 = (combR rem A B).1 := by
  have e : ∀ k, k < 1000 → g k = combG rem (inR A) (inR B) (chans [(1, 999)]) k := fun k hk => by
    rw [combG_all, hg, inR_eq, inR_eq]
    by_cases h0 : k = 0
    · subst h0
      rw [any_zero hA, any_zero hB, h00, if_neg (by omega)]
    · rw [if_pos (by omega)]
  rw [combR_ok hA hB]
  simp only
  generalize (1000 : Nat) = n at e ⊢
  exact setS_congr n e
/-- the texts of two sets, joined by + -/
theorem parse_join {a : Int × Int} {A B : List (Int × Int)} (hA : checkR (a :: A) = 0) (hB : checkR B = 0) (hb : B ≠ []) (la : A.length ≤ 30) (lb : B.length ≤ 30) :
    parseR ((formatR (a :: A)).1 ++ [32, 43, 32] ++ (formatR B).1) = ((combR (fun x y => x || y) (a :: A) B).1, 0, 0) := by
  obtain ⟨b, B, rfl⟩ : ∃ b B', B = b :: B' := by cases B with
    | nil => exact absurd rfl hb
    | cons b B => exact ⟨b, B, rfl⟩
  have hrA := checkL_each hA
  have hrB := checkL_each hB
  have e : (formatR (a :: A)).1 ++ [32, 43, 32] ++ (formatR (b :: B)).1 = termT a ++ sgnT ((A ++ b :: B).map fun r => (true, r)) := by
    rw [fmt_sgn hA, fmt_sgn hB, List.map_append, sgnT_app, List.map_cons]
    simp [sgnT, sgnB]
  rw [e]
  obtain ⟨m1, m2, m3⟩ := members_sgn (r := a) (S := (A ++ b :: B).map fun r => (true, r)) (hrA a (by simp)) (fun x hx => by
    obtain ⟨r, hr, rfl⟩ := List.mem_map.1 hx
    rcases List.mem_append.1 hr with h | h
    · exact hrA r (List.mem_cons_of_mem _ h)
    · exact hrB r h) (by simp at lb ⊢; omega)
  unfold parseR
  rw [if_neg (by omega), if_neg (fun h => h m2), m1, set_comb hA hB (fun x y => x || y) rfl]
  intro k
  rw [sgnF_add, updM_one, List.any_cons, List.any_append]
  simp [Bool.or_assoc]
/-- the ranges of the second set, each behind - -/
theorem parse_minus {a : Int × Int} {A B : List (Int × Int)} (hA : checkR (a :: A) = 0) (hB : checkR B = 0) (la : A.length ≤ 30) (lb : B.length ≤ 30) :
    parseR ((formatR (a :: A)).1 ++ sgnT (B.map fun r => (false, r))) = ((combR (fun x y => x && !y) (a :: A) B).1, 0, 0) := by
  have hrA := checkL_each hA
  have hrB := checkL_each hB
  have e : (formatR (a :: A)).1 ++ sgnT (B.map fun r => (false, r)) = termT a ++ sgnT ((A.map fun r => (true, r)) ++ B.map fun r => (false, r)) := by
    rw [fmt_sgn hA, sgnT_app, List.append_assoc]
  rw [e]
  obtain ⟨m1, m2, m3⟩ := members_sgn (r := a) (S := (A.map fun r => (true, r)) ++ B.map fun r => (false, r)) (hrA a (by simp)) (fun x hx => by
    rcases List.mem_append.1 hx with h | h
    · obtain ⟨r, hr, rfl⟩ := List.mem_map.1 h
      exact hrA r (List.mem_cons_of_mem _ hr)
    · obtain ⟨r, hr, rfl⟩ := List.mem_map.1 h
      exact hrB r hr) (by simp; omega)
  unfold parseR
  rw [if_neg (by omega), if_neg (fun h => h m2), m1, set_comb hA hB (fun x y => x && !y) rfl]
  intro k
  rw [sgnF_app, sgnF_sub, sgnF_add, updM_one, List.any_cons]
  simp
theorem sgnT_nxt {B : List (Int × Int)} {k : Nat} (h : k < B.length) : sgnT ((B.take (k + 1)).map fun r => (false, r)) = sgnT ((B.take k).map fun r => (false, r)) ++ ([32, 45, 32] ++ termT B[k]) := by
  rw [List.take_succ_eq_append_getElem h, List.map_append, sgnT_app]; simp [sgnT, sgnB]
theorem fmt_one {r : Int × Int} (h : isRg r = true) : formatR [r] = (termT r, 0) := by
  have hc : checkR [r] = 0 := (checkL_zero r [] none).2 ⟨h, rfl, rfl⟩
  rw [fmt_sgn hc]; simp [sgnT]
end Go.Proofs.YtjideokeokmbaaaGreatDoor.Z
