/- Plain mathematics of knots of chains: reading them gives the chain's level. -/
import Derived.Test.YtflkgkchoagphaaGreatDoorGlRT
import Derived.Test.YtflkgkchoagphaaGreatDoorGlCP
import Derived.Test.YtflkgkchoagphaaGreatDoorGlH
set_option linter.unusedVariables false
set_option linter.unusedSimpArgs false
namespace Go.Proofs.YtflkgkchoagphaaGreatDoor
open Go.RowKit Go.Shelf
open Z

theorem readL_one {a : Kn} {t : Int} (h : a.1 ≤ t) : readL [a] t = a.2 := by
  unfold readL rdN rdN
  rw [if_pos h]; rfl
theorem readL_go {a b : Kn} {r : List Kn} {t : Int} (ha : a.1 ≤ t) (hb : b.1 ≤ t) : readL (a :: b :: r) t = readL (b :: r) t := by
  unfold readL
  have e1 : rdN (b :: r) t = rdN r t + 1 := by rw [rdN, if_pos hb]
  have e2 : rdN (a :: b :: r) t = rdN r t + 1 + 1 := by rw [rdN, if_pos ha, e1]
  rw [e1, e2]
  simp only [List.getElem?_cons_succ]
theorem readL_mix {a b : Kn} {r : List Kn} {t : Int} (ha : a.1 ≤ t) (hb : t < b.1) : readL (a :: b :: r) t = mixL a b t := by
  unfold readL
  have e1 : rdN (b :: r) t = 0 := by rw [rdN, if_neg (by omega)]
  have e2 : rdN (a :: b :: r) t = 0 + 1 := by rw [rdN, if_pos ha, e1]
  rw [e2]
  simp only [List.getElem?_cons_zero, List.getElem?_cons_succ]
theorem readL_lt {a : Kn} {r : List Kn} {t : Int} (h : t < a.1) : readL (a :: r) t = a.2 := readL_first (l := a :: r) (by simp) h
theorem compactL_head (b : Kn) : ∀ r : List Kn, ∃ r', compactL (b :: r) = b :: r'
  | [] => ⟨[], rfl⟩
  | c :: r => by
    by_cases h : b = c
    · subst h
      obtain ⟨r', e⟩ := compactL_head b r
      exact ⟨r', by rw [compactL, if_pos rfl, e]⟩
    · exact ⟨compactL (c :: r), by rw [compactL, if_neg h]⟩
theorem readL_compact (t : Int) : ∀ (r : List Kn) (a : Kn), readL (compactL (a :: r)) t = readL (a :: r) t
  | [], _ => rfl
  | b :: r, a => by
    obtain ⟨r', e⟩ := compactL_head b r
    have ih := readL_compact t r b
    by_cases ht : a.1 ≤ t
    · by_cases h : a = b
      · subst h
        rw [compactL, if_pos rfl, ih, readL_go ht ht]
      · rw [compactL, if_neg h, e]
        by_cases hb : b.1 ≤ t
        · rw [readL_go ht hb, readL_go ht hb, ← e, ih]
        · rw [readL_mix ht (by omega), readL_mix ht (by omega)]
    · obtain ⟨r2, e2⟩ := compactL_head a (b :: r)
      rw [e2, readL_lt (by omega), readL_lt (by omega)]
theorem compactL_sub : ∀ l : List Kn, (compactL l).Sublist l
  | [] => List.Sublist.refl _
  | [a] => List.Sublist.refl _
  | a :: b :: r => by
    rw [compactL]
    split
    · exact (compactL_sub (b :: r)).cons a
    · exact (compactL_sub (b :: r)).cons_cons a
theorem compactL_ne : ∀ (l : List Kn) (i : Nat) (h : i + 1 < (compactL l).length), (compactL l)[i] ≠ (compactL l)[i + 1]
  | [], i, h => absurd h (by simp [compactL])
  | [a], i, h => absurd h (by simp [compactL])
  | a :: b :: r, i, h => by
    by_cases hab : a = b
    · have e : compactL (a :: b :: r) = compactL (b :: r) := by rw [compactL, if_pos hab]
      have := compactL_ne (b :: r) i (by rw [← e]; exact h)
      simp only [e]; exact this
    · have e : compactL (a :: b :: r) = a :: compactL (b :: r) := by rw [compactL, if_neg hab]
      cases i with
      | zero =>
        obtain ⟨r', e'⟩ := compactL_head b r
        rw [e'] at e
        simp only [e]
        simpa using hab
      | succ i =>
        have := compactL_ne (b :: r) i (by rw [e] at h; simpa using h)
        simp only [e]
        simpa using this

/-- the knots, one glide after the other -/
def kns : List Gl → List Kn
  | [] => []
  | g :: r => kn1 g r.head? ++ kns r
theorem knAll_cons (g : Gl) (r : List Gl) (n : Nat) : knAll (g :: r) (n + 1) = kn1 g r.head? ++ knAll r n := by
  unfold knAll
  rw [List.range_succ_eq_map, List.map_cons, List.flatten_cons, List.map_map]
  congr 1
  · simp [List.head?_eq_getElem?]
theorem knAll_kns : ∀ l : List Gl, knAll l l.length = kns l
  | [] => rfl
  | g :: r => by rw [List.length_cons, knAll_cons, knAll_kns r]; rfl
theorem gl_text {g : Gl} (h : g.err = 0) : g.f = RT (rv g.f) := by
  obtain ⟨b, hb, _⟩ := glE_zero_iff h
  rw [hb, rv_RT]
theorem rv_whole (x : Int) : rv (Tx x) = (x : Rat) := by rw [← RT_int, rv_RT]
theorem mix_zero (p g : Kn) : mixL p g p.1 = RT (rv p.2) := by unfold mixL; rw [Int.sub_self, divInt_zero]; congr 1; grind
theorem mix_plain {g : Gl} {t : Int} (hg : g.err = 0) (h0 : g.st ≤ t) (h1 : t < g.st + g.ti) : mixL (g.st, g.f) (g.st + g.ti, Tx g.x) t = g.at t := by
  unfold Gl.at ofG
  rw [if_neg (by omega)]
  by_cases h : t ≤ g.st
  · obtain rfl : t = g.st := by omega
    rw [if_pos h, ← mix_zero (g.st, g.f) (g.st + g.ti, Tx g.x)]
  · rw [if_neg h]
    unfold mixL
    simp only [rv_whole]
    rw [show g.st + g.ti - g.st = g.ti by omega]
theorem mix_flat {p g : Kn} {t : Int} (h : g.2 = p.2) : mixL p g t = RT (rv p.2) := by
  unfold mixL; rw [h]; congr 1; grind
theorem divInt_chain {a b c : Int} (hb : b ≠ 0) : Rat.divInt b c * Rat.divInt a b = Rat.divInt a c := by
  rw [Rat.divInt_eq_div, Rat.divInt_eq_div, Rat.divInt_eq_div, Rat.div_def, Rat.div_def, Rat.div_def]
  have h1 : (b : Rat) ≠ 0 := by intro e; exact hb (by exact_mod_cast e)
  have h2 : (b : Rat) * (b : Rat)⁻¹ = 1 := Rat.mul_inv_cancel _ h1
  generalize (b : Rat)⁻¹ = B at *
  generalize (b : Rat) = b' at *
  grind
theorem mix_cut {g : Gl} {u t : Int} (hg : g.err = 0) (h0 : g.st ≤ t) (h1 : t < u) (h2 : u < g.st + g.ti) : mixL (g.st, g.f) (u, g.at u) t = g.at t := by
  by_cases h : t = g.st
  · subst h
    rw [mix_zero (g.st, g.f)]
    unfold Gl.at ofG
    rw [if_neg (by omega), if_pos (by omega)]
  · unfold mixL
    simp only [rv_at]
    unfold Gl.at ofG
    rw [if_neg (by omega), if_neg (by omega), if_neg (by omega), if_neg (by omega)]
    congr 1
    have e := divInt_chain (a := t - g.st) (b := u - g.st) (c := g.ti) (by omega)
    rw [← e]
    generalize Rat.divInt (u - g.st) g.ti = P
    generalize Rat.divInt (t - g.st) (u - g.st) = Q
    grind
theorem at_end {g : Gl} {t : Int} (h : g.st + g.ti ≤ t) : g.at t = Tx g.x := by unfold Gl.at ofG; rw [if_pos h, RT_int]
theorem at_before {g : Gl} {t : Int} (hg : g.err = 0) (h : t < g.st) : g.at t = g.f := by
  have hl := (Gl.lvl hg).2
  unfold Gl.at ofG
  rw [if_neg (by omega), if_pos (by omega), ← gl_text hg]
theorem kns_head (g : Gl) (r : List Gl) : ∃ r', kns (g :: r) = (g.st, g.f) :: r' := ⟨_, rfl⟩
theorem read_kns {t : Int} : ∀ (r : List Gl) (g : Gl), Facts (g :: r) → g.st ≤ t → readL (kns (g :: r)) t = valL (g :: r) t
  | [], g, hf, ht => by
    have hg := hf.1 g (by simp)
    show readL [(g.st, g.f), (g.st + g.ti, Tx g.x)] t = g.at t
    by_cases h : g.st + g.ti ≤ t
    · rw [readL_go ht h, readL_one h, at_end h]
    · rw [readL_mix ht (by show t < g.st + g.ti; omega), mix_plain hg ht (by omega)]
  | h :: r, g, hf, ht => by
    have hg := hf.1 g (by simp)
    have hl := (Gl.lvl hg).2
    obtain ⟨n1, n2⟩ := hf.next
    obtain ⟨r', e⟩ := kns_head h r
    have ih := read_kns (t := t) r h hf.tail
    rw [e] at ih
    rw [kns, List.head?_cons, e, kn1]
    unfold valL
    by_cases hend : g.st + g.ti ≤ h.st
    · rw [if_pos hend, List.cons_append, List.cons_append, List.nil_append]
      by_cases hh : h.st ≤ t
      · rw [readL_go ht (show g.st + g.ti ≤ t by omega), readL_go (show g.st + g.ti ≤ t by omega) hh, if_pos hh, ih hh]
      · rw [if_neg hh]
        by_cases he : g.st + g.ti ≤ t
        · rw [readL_go ht he, readL_mix he (show t < h.st by omega), mix_flat (by show h.f = Tx g.x; rw [n2, at_end hend]), at_end he, rv_whole, RT_int]
        · rw [readL_mix ht (show t < g.st + g.ti by omega), mix_plain hg ht (by omega)]
    · rw [if_neg hend, List.cons_append, List.nil_append]
      by_cases hh : h.st ≤ t
      · rw [readL_go ht hh, if_pos hh, ih hh]
      · rw [if_neg hh, readL_mix ht (show t < h.st by omega), n2, mix_cut hg ht (by omega) (by omega)]
theorem kns_facts : ∀ (l : List Gl), Facts l → (∀ k ∈ kns l, 0 ≤ k.1 ∧ k.1 ≤ 20000000 ∧ compE k.2 = 0 ∧ (∀ g, l.head? = some g → g.st ≤ k.1) ∧ ((∃ g ∈ l, k.2 = g.f) ∨ k.2.size ≤ 100)) ∧ (kns l).Pairwise (fun a b => a.1 ≤ b.1)
  | [], _ => ⟨fun k hk => absurd hk (by simp [kns]), by simp [kns]⟩
  | g :: r, hf => by
    have hg := hf.1 g (by simp)
    have hl := (Gl.lvl hg).2
    obtain ⟨ih1, ih2⟩ := kns_facts r hf.tail
    have hx : compE (Tx g.x) = 0 := by rw [← RT_int, compE_RT (Sh.inR (sh_lvl hl.1 hl.2.1) (by omega)), if_pos (lvlQ_int hl.1 hl.2.1)]
    have hfz : compE g.f = 0 := by
      have : glE g.f g.x g.st g.ti = 0 := hg
      unfold glE at this
      split at this
      · assumption
      · contradiction
    have hxs : (Tx g.x).size ≤ 100 := by
      obtain ⟨n, hn⟩ : ∃ n : Nat, g.x = (n : Int) := ⟨g.x.toNat, by omega⟩
      rw [hn]; exact (Tx_small (by omega)).1
    have hrest : ∀ k ∈ kns r, g.st ≤ k.1 ∧ ((g.st + g.ti ≤ k.1) ∨ ∃ h, r.head? = some h ∧ ¬ g.st + g.ti ≤ h.st) := fun k hk => by
      cases r with
      | nil => simp [kns] at hk
      | cons h r =>
        have h1 := (ih1 k hk).2.2.2.1 h rfl
        have h2 := hf.next.1
        refine ⟨by omega, ?_⟩
        by_cases he : g.st + g.ti ≤ h.st
        · exact .inl (by omega)
        · exact .inr ⟨h, rfl, he⟩
    have hk1 : ∀ k ∈ kn1 g r.head?, k = (g.st, g.f) ∨ (k = (g.st + g.ti, Tx g.x) ∧ ∀ h, r.head? = some h → g.st + g.ti ≤ h.st) := fun k hk => by
      unfold kn1 at hk
      rcases List.mem_cons.1 hk with rfl | hk
      · exact .inl rfl
      · right
        cases hh : r.head? with
        | none => rw [hh] at hk; simp at hk; exact ⟨hk, fun h e => by cases e⟩
        | some h =>
          rw [hh] at hk
          by_cases he : g.st + g.ti ≤ h.st
          · simp [he] at hk; exact ⟨hk, fun h' e => by cases e; exact he⟩
          · simp [he] at hk
    rw [kns]
    constructor
    · intro k hk
      rcases List.mem_append.1 hk with hk | hk
      · rcases hk1 k hk with rfl | ⟨rfl, -⟩
        · exact ⟨by show 0 ≤ g.st; omega, by show g.st ≤ _; omega, hfz, fun g' e => by simp at e; subst e; exact Int.le_refl _, .inl ⟨g, by simp, rfl⟩⟩
        · exact ⟨by show 0 ≤ g.st + g.ti; omega, by show g.st + g.ti ≤ _; omega, hx, fun g' e => by simp at e; subst e; show g.st ≤ g.st + g.ti; omega, .inr hxs⟩
      · obtain ⟨q1, q2, q3, q4, q5⟩ := ih1 k hk
        refine ⟨q1, q2, q3, fun g' e => by simp at e; subst e; exact (hrest k hk).1, ?_⟩
        rcases q5 with ⟨g', hg', e⟩ | q5
        · exact .inl ⟨g', by simp [hg'], e⟩
        · exact .inr q5
    · rw [List.pairwise_append]
      refine ⟨?_, ih2, ?_⟩
      · unfold kn1
        rw [List.pairwise_cons]
        constructor
        · intro k hk
          have : k ∈ kn1 g r.head? := by unfold kn1; exact List.mem_cons_of_mem _ hk
          rcases hk1 k this with rfl | ⟨rfl, -⟩
          · exact Int.le_refl _
          · show g.st ≤ g.st + g.ti; omega
        · cases r.head? with
          | none => simp
          | some h => dsimp only; split <;> simp
      · intro a ha b hb
        obtain ⟨h1, h2⟩ := hrest b hb
        rcases hk1 a ha with rfl | ⟨rfl, h3⟩
        · exact h1
        · rcases h2 with h2 | ⟨h, e, h4⟩
          · exact h2
          · exact absurd (h3 h e) h4
/-- the knots of a right chain are right, and have its level -/
theorem read_chain {l : List Gl} (h : chainE l = 0) (hne : l ≠ []) (t : Int) : readE (knL l) t = (valL l t, 0) ∧ ((∀ g ∈ l, g.f.size ≤ 1000) → FitsK (knL l)) := by
  have hF := facts_of h
  have hz := (chainE_zero h).1
  obtain ⟨f1, f2⟩ := kns_facts l hF
  have hk : knL l = compactL (kns l) := by unfold knL; rw [knAll_kns]
  have hs := compactL_sub (kns l)
  obtain ⟨g, r, rfl⟩ : ∃ g r, l = g :: r := by cases l with
    | nil => exact absurd rfl hne
    | cons g r => exact ⟨g, r, rfl⟩
  obtain ⟨r', e⟩ := kns_head g r
  obtain ⟨r2, e2⟩ := compactL_head (g.st, g.f) r'
  have hlen : (knL (g :: r)).length ≤ 512 := by
    have h1 := compactL_len (knAll (g :: r) (g :: r).length)
    have h2 := knAll_len (l := g :: r) (k := (g :: r).length) (Nat.le_refl _)
    unfold knL; omega
  have hm : ∀ k ∈ knL (g :: r), k ∈ kns (g :: r) := fun k hk' => hs.subset (by rw [hk] at hk'; exact hk')
  have hp : (knL (g :: r)).Pairwise (fun a b => a.1 ≤ b.1) := by rw [hk]; exact f2.sublist hs
  have hb : bendE (knL (g :: r)) = 0 := by
    unfold bendE
    rw [if_neg (by rw [hk, e, e2]; simp)]
    refine knsE_ok (by omega) fun j hj => ?_
    obtain ⟨q1, q2, q3, -⟩ := f1 _ (hm _ (List.getElem_mem hj))
    have hkn : knE (knL (g :: r))[j] = 0 := by rw [show knE (knL (g :: r))[j] = _ from if_neg (by omega)]; exact q3
    cases j with
    | zero => exact kstE_first hj rfl hkn
    | succ j =>
      refine kstE_in hj rfl hkn ?_
      have := List.pairwise_iff_getElem.1 hp j (j + 1) (by omega) hj (by omega)
      omega
  constructor
  · unfold readE
    rw [if_pos hb]
    congr 1
    rw [hk, e, readL_compact, ← e]
    by_cases ht : g.st ≤ t
    · exact read_kns r g hF ht
    · rw [e, readL_lt (by show t < g.st; omega)]
      show g.f = _
      cases r with
      | nil => exact (at_before (hF.1 g (by simp)) (by omega)).symm
      | cons h r =>
        unfold valL
        rw [if_neg (by have := hF.next.1; omega)]
        exact (at_before (hF.1 g (by simp)) (by omega)).symm
  · intro hsz
    refine .inr fun k hk' => ?_
    rcases (f1 k (hm k hk')).2.2.2.2 with ⟨g', hg', e'⟩ | h
    · rw [e']; exact hsz g' hg'
    · omega
theorem knL_order {l : List Gl} (h : chainE l = 0) {i : Nat} (hi : i + 1 < (knL l).length) : ((knL l)[i]).1 ≤ ((knL l)[i + 1]).1 ∧ (knL l)[i] ≠ (knL l)[i + 1] := by
  obtain ⟨f1, f2⟩ := kns_facts l (facts_of h)
  have hk : knL l = compactL (kns l) := by unfold knL; rw [knAll_kns]
  have hp : (knL l).Pairwise (fun a b => a.1 ≤ b.1) := by rw [hk]; exact f2.sublist (compactL_sub (kns l))
  refine ⟨List.pairwise_iff_getElem.1 hp i (i + 1) (by omega) hi (by omega), ?_⟩
  exact compactL_ne (knAll l l.length) i hi
end Go.Proofs.YtflkgkchoagphaaGreatDoor
