/- Law 11: the reference's palettes and levels. -/
import Derived.Test.YtipfofdjngnkpaaCoL
set_option linter.unusedVariables false
set_option linter.unusedSimpArgs false
namespace Go.Proofs.Ytipfofdjngnkpaa.Z
open Go
def placeR (l : List Int) (a : Int) : Int := if l.contains a = true then (l.idxOf a : Int) else -1
theorem idx_first : ∀ {l : List Int} {a : Int} {k : Nat} (hk : k < l.length), l[k] = a → (∀ j (hj : j < l.length), j < k → l[j] ≠ a) → l.idxOf a = k
  | x :: l, a, 0, _, h, _ => by simp only [List.getElem_cons_zero] at h; subst h; simp
  | x :: l, a, k + 1, hk, h, hn => by
    have h0 : x ≠ a := hn 0 (by simp) (by omega)
    have ih := idx_first (l := l) (a := a) (k := k) (by simpa using hk) (by simpa using h) (fun j hj hjk => by
      have := hn (j + 1) (by simpa using hj) (by omega)
      simpa using this)
    have hb : (x == a) = false := by rw [beq_eq_false_iff_ne]; exact h0
    rw [List.idxOf_cons, ih, hb]
    rfl
theorem placeR_yes {l : List Int} {a : Int} {k : Nat} (hk : k < l.length) (h : l[k] = a) (hn : ∀ j (hj : j < l.length), j < k → l[j] ≠ a) : placeR l a = k := by
  unfold placeR
  rw [if_pos (by rw [List.contains_iff_mem, ← h]; exact List.getElem_mem hk), idx_first hk h hn]
theorem placeR_no {l : List Int} {a : Int} (hn : ∀ j (hj : j < l.length), l[j] ≠ a) : placeR l a = -1 := by
  unfold placeR
  rw [if_neg]
  intro h
  rw [List.contains_iff_mem] at h
  obtain ⟨j, hj, e⟩ := List.getElem_of_mem h
  exact hn j hj e
theorem placeR_nonneg (l : List Int) (a : Int) : decide (0 ≤ placeR l a) = l.contains a := by
  unfold placeR
  cases l.contains a
  · rfl
  · simp
theorem placeR_neg (l : List Int) (a : Int) : decide (placeR l a < 0) = !l.contains a := by
  unfold placeR
  cases l.contains a
  · rfl
  · simp
theorem at_place : ∀ {l v : List Int} {a : Int}, l.length = v.length → a ∈ l → ∃ h : l.idxOf a < v.length, v[l.idxOf a] = atA l v a
  | b :: l, x :: v, a, hl, h => by
    by_cases e : b = a
    · subst e; refine ⟨by simp, ?_⟩; simp [atA]
    · obtain ⟨h1, h2⟩ := at_place (l := l) (v := v) (a := a) (by simpa using hl) ((List.mem_cons.1 h).resolve_left fun e2 => e e2.symm)
      have hi : (b :: l).idxOf a = l.idxOf a + 1 := by
        have hb : (b == a) = false := by rw [beq_eq_false_iff_ne]; exact e
        rw [List.idxOf_cons, hb]; rfl
      refine ⟨by rw [hi]; simp; exact h1, ?_⟩
      simp only [hi, List.getElem_cons_succ]
      rw [h2, atA, if_neg e]
end Go.Proofs.Ytipfofdjngnkpaa.Z
namespace Go.Proofs.Ytipfofdjngnkpaa
open Go.RowKit
open Z
set_option maxRecDepth 100000 in
set_option maxHeartbeats 2000000 in
theorem rf_place {a : Option Addr} {l : List Int} {cap : Nat} (x : Int) (w : World) (hr : RdI w a l) (hl : l.length ≤ maxLen) :
    Calls Try.prog 34 #[.slice a l.length cap, .int .i64 x] w fun e w' => e = .returned (.int .i64 (placeR l x)) ∧ w' = w := by
  have HR := Lib.hid hr
  have HY := Lib.hid (fun k hk h hn => placeR_yes (l := l) (a := x) (k := k) hk h hn)
  have HX := Lib.hid (fun hn => placeR_no (l := l) (a := x) hn)
  generalize placeR l x = P at *
  obtain ⟨n, hn⟩ : ∃ n, n = l.length := ⟨_, rfl⟩
  have HN := Lib.hid hn
  rw [← hn] at hl ⊢
  have hl2 : n ≤ 9223372036854775807 := hl
  clear hn hr hl
  go_enter Try.func34, Try.ntmps34
  go_wp2
  go_loopw [5] (fun i wr => ∃ k : Nat, i = .int .i64 k ∧ k ≤ n ∧ Hid (w = wr) ∧ Hid (∀ j (hj : j < l.length), j < k → l[j] ≠ x)) (fun i _ => n - (intOf i).toNat)
  case atStart => exact ⟨0, rfl, Nat.zero_le _, rfl, fun j hj h => absurd h (by omega)⟩
  case round =>
    obtain ⟨k, rfl, hk, HW, HK⟩ := hrel
    have hwr := HW.out
    subst hwr
    by_cases hlt : k < n
    · have hkl : k < l.length := by rw [← HN.out]; exact hlt
      obtain ⟨b, o, rfl, hc⟩ := HR.out k hkl
      have HY1 := Lib.hid (fun h => HY.out k hkl h HK.out)
      have HQ : Hid (l[k] ≠ x → ∀ j (hj : j < l.length), j < k + 1 → l[j] ≠ x) := Lib.hid fun e j hj h => by
        by_cases hjk : j = k
        · subst hjk; exact e
        · exact HK.out j hj (by omega)
      generalize l[k] = u at *
      clear HK
      by_cases hu : u = x
      · have hv := HY1.out hu
        have hb : (u == x) = true := by simp [hu]
        subst hv
        clear HY HX HY1 HQ hu
        go_wp2
        go_ret
        exact ⟨rfl, rfl⟩
      · have hb : (u == x) = false := by simp [hu]
        have HQ1 := Lib.hid (HQ.out hu)
        clear HY1 HQ hu
        go_wp2
        go_roundw
        case rel => exact ⟨k + 1, by go_num, by omega, trivial, HQ1.out⟩
        case measure => simp [intOf]; omega
    · have hv := HX.out fun j hj => HK.out j hj (by have := HN.out; omega)
      subst hv
      go_wp2
      go_ret
      exact ⟨rfl, rfl⟩
set_option maxRecDepth 100000 in
set_option maxHeartbeats 2000000 in
theorem rf_has {a : Option Addr} {l : List Int} {cap : Nat} (x y z : Int) (w : World) (hr : RdI w a l) (hl : l.length ≤ maxLen) :
    Calls Try.prog 35 #[.slice a l.length cap, .int .i64 x, .int .i64 y, .int .i64 z] w fun e w' => e = .returned (.bool (has3 l x y z)) ∧ w' = w := by
  have hx := placeR_nonneg l x
  have hy := placeR_nonneg l y
  have hz := placeR_nonneg l z
  have HX := Lib.hid (rf_place (cap := cap) x w hr hl)
  have HY := Lib.hid (rf_place (cap := cap) y w hr hl)
  have HZ := Lib.hid (rf_place (cap := cap) z w hr hl)
  unfold has3
  generalize placeR l x = px at *
  generalize placeR l y = py at *
  generalize placeR l z = pz at *
  generalize l.contains x = bx at *
  generalize l.contains y = bY at *
  generalize l.contains z = bz at *
  clear hr
  cases bx
  · go_enter Try.func35, Try.ntmps35
    go_wp2_with fail
    refine HX.out.mono ?_; rintro e w1 ⟨rfl, rfl⟩
    go_wp2
    go_ret
    exact ⟨rfl, rfl⟩
  · cases bY
    · go_enter Try.func35, Try.ntmps35
      go_wp2_with fail
      refine HX.out.mono ?_; rintro e w1 ⟨rfl, hw1⟩
      rw [hw1]
      go_wp2_with fail
      refine HY.out.mono ?_; rintro e w2 ⟨rfl, hw2⟩
      rw [hw2]
      go_wp2
      go_ret
      exact ⟨rfl, rfl⟩
    · cases bz
      all_goals
        go_enter Try.func35, Try.ntmps35
        go_wp2_with fail
        refine HX.out.mono ?_; rintro e w1 ⟨rfl, hw1⟩
        rw [hw1]
        go_wp2_with fail
        refine HY.out.mono ?_; rintro e w2 ⟨rfl, hw2⟩
        rw [hw2]
        go_wp2_with fail
        refine HZ.out.mono ?_; rintro e w3 ⟨rfl, hw3⟩
        rw [hw3]
        go_wp2
        go_ret
        exact ⟨rfl, rfl⟩
set_option maxRecDepth 100000 in
set_option maxHeartbeats 1000000 in
theorem rf_Additive {a : Option Addr} {l : List Int} {cap : Nat} (w : World) (hr : RdI w a l) (hl : l.length ≤ maxLen) :
    Calls Try.prog 24 #[.slice a l.length cap] w fun e w' => e = .returned (.bool (addi l)) ∧ w' = w := by
  have HX := Lib.hid (rf_has (cap := cap) 3 4 5 w hr hl)
  go_enter Try.func24, Try.ntmps24
  go_wp2_with fail
  refine HX.out.mono ?_; rintro e w1 ⟨rfl, rfl⟩
  go_wp2
  go_ret
  exact ⟨rfl, rfl⟩
set_option maxRecDepth 100000 in
set_option maxHeartbeats 1000000 in
theorem rf_Is (v : Int) (w : World) : Calls Try.prog 47 #[.int .i64 v] w fun e w' => e = .returned (.bool (isL v)) ∧ w' = w := by
  unfold isL
  obtain ⟨p, hp⟩ : ∃ p, decide (0 ≤ v) = p := ⟨_, rfl⟩
  obtain ⟨q, hq⟩ : ∃ q, decide (v ≤ 65535) = q := ⟨_, rfl⟩
  rw [hp, hq]
  cases p
  all_goals
    go_enter Try.func47, Try.ntmps47
    go_wp2
    go_ret
    exact ⟨rfl, rfl⟩
set_option maxRecDepth 100000 in
set_option maxHeartbeats 2000000 in
theorem rf_levels {a : Option Addr} {l : List Int} {cap : Nat} (w : World) (hr : RdI w a l) (hlen : l.length ≤ maxLen) :
    Calls Try.prog 39 #[.slice a l.length cap] w fun e w' => e = .returned (.bool (l.all isL)) ∧ w' = w := by
  obtain ⟨E, hE⟩ : ∃ E, l.all isL = E := ⟨_, rfl⟩
  rw [hE]
  have HY : Hid ((∀ j (hj : j < l.length), isL l[j] = true) → E = true) := Lib.hid fun h => by
    rw [← hE, List.all_eq_true]; intro x hx; obtain ⟨j, hj, rfl⟩ := List.getElem_of_mem hx; exact h j hj
  have HX : Hid (∀ j (hj : j < l.length), isL l[j] = false → E = false) := Lib.hid fun j hj h => by
    rw [← hE, Bool.eq_false_iff]; intro h2; rw [List.all_eq_true] at h2; rw [h2 _ (List.getElem_mem hj)] at h; cases h
  have HC := Lib.hid (fun v => rf_Is v w)
  obtain ⟨n, hn⟩ : ∃ n, n = l.length := ⟨_, rfl⟩
  have HN := Lib.hid hn
  have HR := Lib.hid hr
  rw [← hn] at hlen ⊢
  clear hn hr hE
  have hl2 : n ≤ 9223372036854775807 := hlen
  clear hlen
  go_enter Try.func39, Try.ntmps39
  go_wp2
  go_loopw [3] (fun i wr => ∃ k : Nat, i = .int .i64 k ∧ k ≤ n ∧ Hid (w = wr) ∧ Hid (∀ j (hj : j < l.length), j < k → isL l[j] = true)) (fun i _ => n - (intOf i).toNat)
  case atStart => exact ⟨0, rfl, Nat.zero_le _, rfl, fun j hj h => absurd h (by omega)⟩
  case round =>
    obtain ⟨k, rfl, hk, HW, HK⟩ := hrel
    by_cases hlt : k < n
    · have hkl : k < l.length := by rw [← HN.out]; exact hlt
      have hwr := HW.out
      subst hwr
      obtain ⟨b, o, rfl, hc⟩ := HR.out k hkl
      have HX1 := Lib.hid (HX.out k hkl)
      have HQ : Hid (isL l[k] = true → ∀ j (hj : j < l.length), j < k + 1 → isL l[j] = true) := Lib.hid fun e j hj h => by
        by_cases hjk : j = k
        · subst hjk; exact e
        · exact HK.out j hj (by omega)
      generalize l[k] = x at *
      have HC1 := Lib.hid (HC.out x)
      clear HK HC
      cases hx : isL x
      · rw [hx] at HX1 HC1
        have hv := HX1.out rfl
        subst hv
        go_wp2_with fail
        refine HC1.out.mono ?_; rintro e w1 ⟨rfl, rfl⟩
        go_wp2
        go_ret
        exact ⟨rfl, rfl⟩
      · rw [hx] at HX1 HC1 HQ
        have HQ1 := Lib.hid (HQ.out rfl)
        go_wp2_with fail
        refine HC1.out.mono ?_; rintro e w1 ⟨rfl, hw1⟩
        subst hw1
        go_wp2
        go_roundw
        case rel => exact ⟨k + 1, by go_num, by omega, trivial, HQ1.out⟩
        case measure => simp [intOf]; omega
    · have hv := HY.out fun j hj => HK.out j hj (by have := HN.out; omega)
      have hwr := HW.out
      subst hwr
      subst hv
      go_wp2
      go_ret
      exact ⟨rfl, rfl⟩
set_option maxRecDepth 100000 in
set_option maxHeartbeats 1000000 in
theorem rf_Colour (c : C3) (w : World) : Calls Try.prog 23 #[vC c] w fun e w' => e = .returned (.bool (isC c)) ∧ Gr w w' := by
  have HG := Lib.hid ((Gr.refl w).alloc (.cells #[.int .i64 c.1, .int .i64 c.2.1, .int .i64 c.2.2] 23))
  have HI := Lib.hid (fun v w => rf_Is v w)
  obtain ⟨x, y, z⟩ := c
  unfold vC isC
  simp only at HG ⊢
  obtain ⟨p, hp⟩ : ∃ p, isL x = p := ⟨_, rfl⟩
  obtain ⟨q, hq⟩ : ∃ q, isL y = q := ⟨_, rfl⟩
  obtain ⟨r, hr⟩ : ∃ r, isL z = r := ⟨_, rfl⟩
  have HX := Lib.hid (fun w => HI.out x w)
  have HY := Lib.hid (fun w => HI.out y w)
  have HZ := Lib.hid (fun w => HI.out z w)
  rw [hp] at HX
  rw [hq] at HY
  rw [hr] at HZ
  rw [hp, hq, hr]
  clear HI hp hq hr
  cases p
  · go_enter Try.func23, Try.ntmps23
    go_wp2_with fail
    refine (HX.out _).mono ?_; rintro e w1 ⟨rfl, hw1⟩
    rw [hw1]
    go_wp2
    go_ret
    exact ⟨rfl, HG.out⟩
  · cases q
    · go_enter Try.func23, Try.ntmps23
      go_wp2_with fail
      refine (HX.out _).mono ?_; rintro e w1 ⟨rfl, hw1⟩
      rw [hw1]
      go_wp2_with fail
      refine (HY.out _).mono ?_; rintro e w2 ⟨rfl, hw2⟩
      rw [hw2]
      go_wp2
      go_ret
      exact ⟨rfl, HG.out⟩
    · cases r
      all_goals
        go_enter Try.func23, Try.ntmps23
        go_wp2_with fail
        refine (HX.out _).mono ?_; rintro e w1 ⟨rfl, hw1⟩
        rw [hw1]
        go_wp2_with fail
        refine (HY.out _).mono ?_; rintro e w2 ⟨rfl, hw2⟩
        rw [hw2]
        go_wp2_with fail
        refine (HZ.out _).mono ?_; rintro e w3 ⟨rfl, hw3⟩
        rw [hw3]
        go_wp2
        go_ret
        exact ⟨rfl, HG.out⟩
end Go.Proofs.Ytipfofdjngnkpaa
