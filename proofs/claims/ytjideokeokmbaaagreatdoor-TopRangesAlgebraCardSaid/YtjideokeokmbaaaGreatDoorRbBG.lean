/- RbBG: RbB, RbC, RbD, RbE, RbF, RbG, joined. -/
import Derived.Test.YtjideokeokmbaaaGreatDoorRaXA
set_option linter.unusedVariables false
set_option linter.unusedSimpArgs false

/- Law 6: ranges as ranges of the reference: own. -/
namespace Go.Proofs.YtjideokeokmbaaaGreatDoor
open Go.RowKit Go.Shelf
open Z
theorem Tryz.infoRangeF : (Tryz.prog.info? 42).map (fun i => (i.zero, i.size, i.bytes)) = some (some (.agg #[.int .i64 0, .int .i64 0]), 2, 16) := by kernel_rfl
def OwnF (B : Nat) (w : World) (v : Value) (l : List (Int × Int)) : Prop := w.ownsRow B 42 2 v l.length (rv l)
theorem OwnF.gr {B : Nat} {w w' : World} {v : Value} {l : List (Int × Int)} (h : OwnF B w v l) (hg : Gr w w') : OwnF B w' v l := World.ownsRow.kept h (⟨hg.os, hg.tape, hg.output, hg.size, fun i hi _ => hg.block i hi⟩ : w.grownBy w' none) (by cases hv : v.ownBlock with | none => exact .inl rfl | some k => exact .inr (by simp))
theorem OwnF.nil (B : Nat) (w : World) : OwnF B w (.slice none 0 0) [] := World.ownsRow_nil _ _ _ _
theorem OwnF.shape {B : Nat} {w : World} {v : Value} {l : List (Int × Int)} (h : OwnF B w v l) : ∃ a cap, v = .slice a l.length cap ∧ RngAt w a l ∧ (a = none → cap = 0) ∧ l.length ≤ cap ∧ cap ≤ maxLen := by
  rcases id h.2 with ⟨rfl, h0⟩ | ⟨g, cap, cur, rfl, _, _, h3, h4, _⟩
  · have : l = [] := List.eq_nil_of_length_eq_zero h0
    subst this
    exact ⟨none, 0, rfl, .inl ⟨rfl, rfl⟩, fun _ => rfl, Nat.le_refl _, Nat.zero_le _⟩
  · refine ⟨_, cap, rfl, .inr ⟨g, 0, rfl, fun k hk => ?_⟩, (fun e => by cases e), h3, h4⟩
    obtain ⟨h0, h1⟩ := rv_get l k hk
    have c : ∀ j u, (rv l)[j]? = some u → w.cell? ⟨g, 0 + j, none⟩ = some u := fun j u hj => by
      have := World.ownsRow.cells h (g := g) rfl j u hj
      rwa [WideShapes.add_plain] at this
    exact ⟨c _ _ h0, c _ _ h1⟩
theorem push_f {i : TypeInfo} (hi : Tryz.prog.info? 42 = some i) (hz0 : i.zero = some (.agg #[.int .i64 0, .int .i64 0])) (hz1 : i.size = 2) (hz2 : i.bytes = 16)
    {ops : Array Oper} {rest : List Oper} {o : Oper} {a : Act} {Q : Exit → Act → World → Prop} {w0 w : World} (hgd : o.guard = none) (s x : Operand)
    (ho : o.op = .call { callee := .builtin .append, args := #[s, x], argTypes := #[41, 41] }) (v : Value) (xs : List (Int × Int)) (hs : a.eval s = v) (hown : OwnF w0.heap.size w v xs) (hg : Gr w0 w)
    (f t : Int) (N : Nat) (hN : N = w.heap.size) (hx : a.eval x = .slice (some ⟨N, 0, none⟩) 1 1) (hlen : xs.length + 1 ≤ 1000000)
    (h : ∀ v' w', Hid (OwnF w0.heap.size w' v' (xs ++ [(f, t)])) → Gr w0 w' → wpList Tryz.prog ops Q rest (a.put o.dst v') w') :
    wpList Tryz.prog ops Q (o :: rest) a (w.alloc (.cells #[.int .i64 f, .int .i64 t] 42)) := by
  have hgs := hg.size
  subst hN
  refine wpList_append_own _ hgd s x _ ho w0.heap.size 42 i (.agg #[.int .i64 0, .int .i64 0]) 2 16 Tryz.underlying41 hi hz0 hz1 hz2 rfl (by decide) v xs.length (rv xs) hs (World.ownsRow.alloc hown _) ⟨w.heap.size, 0, none⟩ 1 1 [.int .i64 f, .int .i64 t] hx rfl
    (fun j u hj => ?_) rg_one (by unfold maxLen; omega) (by omega) (by simp; omega) (fun v' w' hown' hgrow _ => h v' w' ?_ (Below.grown (hg.alloc _) hgrow (by simp; omega) (fun k hk => (World.ownsRow.lt hown k hk).1)))
  · rw [WideShapes.add_plain]
    match j, hj with
    | 0, hj => simp only [List.getElem?_cons_zero, Option.some.injEq] at hj; subst hj; rw [World.cell?_alloc_at _ _ _ _ rfl]; rfl
    | 1, hj => simp only [List.getElem?_cons_succ, List.getElem?_cons_zero, Option.some.injEq] at hj; subst hj; rw [World.cell?_alloc_at _ _ _ _ rfl]; rfl
    | j + 2, hj => simp at hj
  · show World.ownsRow _ _ _ _ _ _ _
    rw [rv_snoc, List.length_append]; exact hown'
theorem OwnF.shape2 {B : Nat} {w : World} {v : Value} {l : List (Int × Int)} (h : OwnF B w v l) : ∃ a cap, v = .slice a l.length cap ∧ RngAt w a l ∧ (a = none → cap = 0) ∧ ∀ p o, a = some ⟨p, o, none⟩ → p < w.heap.size := by
  obtain ⟨a, cap, rfl, hr, hc, -, -⟩ := id h.shape
  refine ⟨a, cap, rfl, hr, hc, fun p o e => ?_⟩
  subst e
  exact (World.ownsRow.lt h p rfl).2
end Go.Proofs.YtjideokeokmbaaaGreatDoor

/- Law 6: the reference's Same; same. -/
namespace Go.Proofs.YtjideokeokmbaaaGreatDoor
open Go.RowKit Go.Shelf
open Z
end Go.Proofs.YtjideokeokmbaaaGreatDoor

/- Law 6: the reference: right. -/
namespace Go.Proofs.YtjideokeokmbaaaGreatDoor
open Go.RowKit Go.Shelf
open Z
set_option maxHeartbeats 1000000 in
theorem r6_right (f t : Int) (w : World) : Calls Tryz.prog 25 #[.agg #[.int .i64 f, .int .i64 t]] w fun e w' => e = .returned (.bool (isRg (f, t))) ∧ Gr w w' := by
  have hcase : (isRg (f, t) = false ∧ f < 1) ∨ (isRg (f, t) = false ∧ 1 ≤ f ∧ 999 < t) ∨ (isRg (f, t) = false ∧ 1 ≤ f ∧ t ≤ 999 ∧ t < f) ∨ (isRg (f, t) = true ∧ 1 ≤ f ∧ f ≤ t ∧ t ≤ 999) := by
    by_cases h : isRg (f, t) = true
    · exact .inr (.inr (.inr ⟨h, (isRg_iff _).1 h⟩))
    · have h2 : isRg (f, t) = false := by simpa using h
      rw [isRg_iff] at h
      simp only at h
      rw [h2]
      by_cases h0 : f < 1
      · exact .inl ⟨rfl, h0⟩
      · by_cases h1 : 999 < t
        · exact .inr (.inl ⟨rfl, by omega, h1⟩)
        · exact .inr (.inr (.inl ⟨rfl, by omega, by omega, by omega⟩))
  have HX := Lib.hid (RB.new w f t 42)
  have HG := Lib.hid ((Gr.refl w).alloc (.cells #[.int .i64 f, .int .i64 t] 42))
  obtain ⟨k0, k1, -, -⟩ := id HX.out
  rcases hcase with ⟨h, h0⟩ | ⟨h, h0, h1⟩ | ⟨h, h0, h1, h2⟩ | ⟨h, h0, h1, h2⟩
  all_goals
    rw [h]; clear h
    go_enter Tryz.func25, Tryz.ntmps25
    go_wp2
    go_ret
    first
      | exact ⟨rfl, HG.out⟩
      | exact ⟨ret_bool (decide_eq_false (by omega)), HG.out⟩
      | exact ⟨ret_bool (decide_eq_true (by omega)), HG.out⟩
end Go.Proofs.YtjideokeokmbaaaGreatDoor

/- Law 6: mathematics: the normal text of a set is read back as this set. -/
namespace Go.Proofs.YtjideokeokmbaaaGreatDoor.Z
open Go
/-- the digits of a channel -/
theorem dig_ok : ∀ n, n < 1000 → (Lib.decDigits n).all isD = true ∧ (1 ≤ n → capN (Lib.decDigits n) = n) ∧ Lib.decDigits n ≠ [] ∧ (Lib.decDigits n).length ≤ 3 := by decide +kernel
theorem isD_blank {c : UInt8} (h : isD c = true) : c ≠ 32 := by rintro rfl; exact absurd h (by decide)
theorem drop_add {l a b : List UInt8} {k : Nat} (h : l.drop k = a ++ b) : l.drop (k + a.length) = b := by
  rw [← List.drop_drop, h, List.drop_left]
theorem takeWhile_rep {n : Nat} {x : List UInt8} (hx : x.head? ≠ some 32) : ((List.replicate n (32 : UInt8) ++ x).takeWhile (· == 32)).length = n := by
  have : x.takeWhile (· == 32) = [] := by
    cases x with
    | nil => rfl
    | cons c x =>
      rw [List.takeWhile_cons, if_neg]
      intro e
      exact hx (by rw [List.head?_cons, beq_iff_eq.1 e])
  rw [List.takeWhile_append_of_pos (fun c hc => by rw [List.eq_of_mem_replicate hc]; rfl), this, List.append_nil, List.length_replicate]
theorem skipB_at {l x : List UInt8} {k n : Nat} (h : l.drop k = List.replicate n 32 ++ x) (hx : x.head? ≠ some 32) : skipB l k = k + n := by
  unfold skipB; rw [h, takeWhile_rep hx]
theorem leadD_app {d x : List UInt8} (hd : d.all isD = true) (hx : ∀ c, x.head? = some c → isD c = false) : leadD (d ++ x) = d := by
  have : x.takeWhile isD = [] := by
    cases x with
    | nil => rfl
    | cons c x => rw [List.takeWhile_cons, if_neg (by rw [hx c rfl]; decide)]
  unfold leadD
  rw [List.takeWhile_append_of_pos (fun c hc => List.all_eq_true.1 hd c hc), this, List.append_nil]
theorem chan_at {l x : List UInt8} {k n f : Nat} (h1 : 1 ≤ f) (h2 : f ≤ 999) (h : l.drop k = List.replicate n 32 ++ (Lib.decDigits f ++ x)) (hx : ∀ c, x.head? = some c → isD c = false) :
    chanR l k = ((f : Int), 0, k + n + (Lib.decDigits f).length) := by
  obtain ⟨a, b, c, -⟩ := dig_ok f (by omega)
  have hs : skipB l k = k + n := skipB_at h (by
    cases hd : Lib.decDigits f with
    | nil => exact absurd hd c
    | cons d ds =>
      rw [hd] at a
      rw [List.cons_append, List.head?_cons]
      intro e
      exact isD_blank (c := d) (by simp at a; exact a.1) (by simpa using e))
  have hl : leadD (l.drop (skipB l k)) = Lib.decDigits f := by
    rw [hs, show k + n = k + (List.replicate n (32 : UInt8)).length by rw [List.length_replicate], drop_add h]
    exact leadD_app a hx
  unfold chanR
  rw [hl, if_neg c, b h1, if_pos ⟨h1, h2⟩, hs]
theorem thru_yes {l x : List UInt8} {k : Nat} (h : l.drop k = 32 :: 116 :: 104 :: 114 :: 117 :: 32 :: x) : thruR l k = (true, k + 1 + 4) := by
  have hs : skipB l k = k + 1 := skipB_at (n := 1) (x := 116 :: 104 :: 114 :: 117 :: 32 :: x) h (by simp)
  have hd : l.drop (k + 1) = 116 :: 104 :: 114 :: 117 :: 32 :: x := drop_add (a := [32]) h
  unfold thruR
  rw [hs, hd, if_pos]
  simp only [Lib.trimPrefix, Lib.hasPrefix, thruL]
  simp [longB]
  decide
theorem thru_no {l x : List UInt8} {k : Nat} (h : l.drop k = 32 :: 43 :: x) : thruR l k = (false, k + 1) := by
  have hs : skipB l k = k + 1 := skipB_at (n := 1) (x := 43 :: x) h (by simp)
  have hd : l.drop (k + 1) = 43 :: x := drop_add (a := [32]) h
  unfold thruR
  rw [hs, hd, if_neg]
  simp [Lib.hasPrefix, thruL]
theorem thru_end {l : List UInt8} {k : Nat} (h : l.drop k = []) : thruR l k = (false, k) := by
  have hs : skipB l k = k := skipB_at (n := 0) (x := []) h (by simp)
  unfold thruR
  rw [hs, h, if_neg]
  simp [Lib.hasPrefix, thruL]
/-- a term of a normal text, read -/
theorem term_at {l x : List UInt8} {k n : Nat} {r : Int × Int} (hr : isRg r = true) (hx : x = [] ∨ ∃ y, x = 32 :: 43 :: y) (h : l.drop k = List.replicate n 32 ++ (termT r ++ x)) :
    (termR l k).1 = r ∧ (termR l k).2.1 = 0 ∧ l.drop (skipB l (termR l k).2.2) = x.drop 1 := by
  obtain ⟨f, t⟩ := r
  have hb := (isRg_iff _).1 hr
  simp only at hb
  obtain ⟨F, rfl⟩ : ∃ F : Nat, f = F := ⟨f.toNat, by omega⟩
  obtain ⟨T, rfl⟩ : ∃ T : Nat, t = T := ⟨t.toNat, by omega⟩
  have hxd : ∀ c, x.head? = some c → isD c = false := by
    rcases hx with rfl | ⟨y, rfl⟩
    · simp
    · intro c hc; simp at hc; subst hc; decide
  have hend : ∀ e, l.drop e = x → l.drop (skipB l e) = x.drop 1 := fun e he => by
    rcases hx with rfl | ⟨y, rfl⟩
    · rw [skipB_at (n := 0) (x := []) he (by simp)]; simpa using he
    · rw [skipB_at (n := 1) (x := 43 :: y) he (by simp)]
      exact drop_add (a := [32]) he
  unfold termT at h
  simp only [Int.toNat_natCast] at h
  by_cases hft : (F : Int) < T
  · rw [if_pos hft] at h
    rw [List.append_assoc, List.append_assoc] at h
    have c1 := chan_at (x := [32, 116, 104, 114, 117, 32] ++ (Lib.decDigits T ++ x)) (by omega) (by omega) h (by intro c hc; simp at hc; subst hc; decide)
    have d1 : l.drop (k + n + (Lib.decDigits F).length) = [32, 116, 104, 114, 117, 32] ++ (Lib.decDigits T ++ x) := by
      have := drop_add h
      rw [List.length_replicate] at this
      exact drop_add this
    have t1 := thru_yes (x := Lib.decDigits T ++ x) d1
    have d2 : l.drop (k + n + (Lib.decDigits F).length + 1 + 4) = List.replicate 1 32 ++ (Lib.decDigits T ++ x) := by
      have := drop_add (a := [32, 116, 104, 114, 117]) (b := 32 :: (Lib.decDigits T ++ x)) (by simpa using d1)
      simpa [Nat.add_assoc] using this
    have c2 := chan_at (by omega) (by omega) d2 hxd
    have d3 : l.drop (k + n + (Lib.decDigits F).length + 1 + 4 + 1 + (Lib.decDigits T).length) = x := by
      have := drop_add d2
      rw [List.length_replicate] at this
      exact drop_add this
    unfold termR
    rw [c1]
    simp only [ne_eq, not_true_eq_false, if_false]
    rw [t1]
    simp only [if_true]
    rw [c2]
    refine ⟨?_, rfl, hend _ d3⟩
    simp only
    rw [Int.min_eq_left (by omega), Int.max_eq_right (by omega)]
  · have he : F = T := by omega
    subst he
    rw [if_neg hft, List.append_nil] at h
    have c1 := chan_at (by omega) (by omega) h hxd
    have d1 : l.drop (k + n + (Lib.decDigits F).length) = x := by
      have := drop_add h
      rw [List.length_replicate] at this
      exact drop_add this
    unfold termR
    rw [c1]
    simp only [ne_eq, not_true_eq_false, if_false]
    rcases hx with rfl | ⟨y, rfl⟩
    · rw [thru_end d1]
      exact ⟨rfl, rfl, hend _ d1⟩
    · rw [thru_no d1]
      refine ⟨rfl, rfl, ?_⟩
      have d2 : l.drop (k + n + (Lib.decDigits F).length + 1) = 43 :: y := drop_add (a := [32]) d1
      simp only [Bool.false_eq_true, if_false]
      rw [skipB_at (n := 0) (x := 43 :: y) d2 (by simp)]
      exact d2
/-- the members of a normal text -/
theorem memF_at (l : List UInt8) : ∀ (R : List (Int × Int)) (r : Int × Int) (g : Nat → Bool) (k n b : Nat), (∀ x ∈ r :: R, isRg x = true) → R.length < n →
    l.drop k = List.replicate b 32 ++ (termT r ++ Lib.joinTail [32, 43, 32] (R.map termT)) →
    (memF l n g true k).1 = (r :: R).foldl (fun g r => updM g (chans [r]) true) g ∧ (memF l n g true k).2.1 = 0
  | R, r, g, k, 0, b, hrg, hn, h => by omega
  | [], r, g, k, n + 1, b, hrg, hn, h => by
    obtain ⟨a, e, c⟩ := term_at (hrg r (by simp)) (.inl rfl) h
    unfold memF
    rw [e, if_neg (by simp), a]
    have hs : skipB l (termR l k).2.2 = l.length := by
      have h1 : l.length ≤ skipB l (termR l k).2.2 := by simpa using c
      have h2 := (skipB_le (l := l) (k := (termR l k).2.2) (termR_ok (by
        by_cases hk : k ≤ l.length
        · exact hk
        · rw [List.drop_of_length_le (by omega)] at h
          have := congrArg List.length h
          have h3 := dig_ok r.1.toNat (by have := (isRg_iff r).1 (hrg r (by simp)); omega)
          have h4 : 1 ≤ (Lib.decDigits r.1.toNat).length := Nat.pos_of_ne_zero fun e => h3.2.2.1 (List.eq_nil_of_length_eq_zero e)
          simp [termT] at this
          omega)).1).2
      omega
    rw [if_pos hs]
    exact ⟨rfl, rfl⟩
  | s :: R, r, g, k, n + 1, b, hrg, hn, h => by
    have hj : Lib.joinTail [32, 43, 32] ((s :: R).map termT) = 32 :: 43 :: 32 :: (termT s ++ Lib.joinTail [32, 43, 32] (R.map termT)) := by simp [Lib.joinTail]
    rw [hj] at h
    obtain ⟨a, e, c⟩ := term_at (hrg r (by simp)) (.inr ⟨_, rfl⟩) h
    simp only [List.drop_succ_cons, List.drop_zero] at c
    unfold memF
    rw [e, if_neg (by simp), a]
    have hs : skipB l (termR l k).2.2 ≠ l.length := fun e => by
      rw [List.drop_of_length_le (by omega)] at c
      cases c
    rw [if_neg hs, if_pos (by rw [c]; rfl)]
    have := memF_at l R s (updM g (chans [r]) true) (skipB l (termR l k).2.2 + 1) n 1 (fun x hx => hrg x (List.mem_cons_of_mem _ hx)) (by simp at hn; omega) (by
      have := drop_add (a := [43]) c
      simpa using this)
    simpa using this
theorem updM_one (g : Nat → Bool) (r : Int × Int) (k : Nat) : updM g (chans [r]) true k = (g k || hasR k r) := by
  unfold updM
  have : (k : Int) ∈ chans [r] ↔ hasR k r = true := by rw [mem_chans, hasR_iff]; simp
  by_cases h : hasR k r = true
  · rw [if_pos (this.2 h), h, Bool.or_true]
  · rw [if_neg (fun e => h (this.1 e))]
    simp at h
    rw [h, Bool.or_false]
theorem foldM (R : List (Int × Int)) : ∀ (g : Nat → Bool) (k : Nat), R.foldl (fun g r => updM g (chans [r]) true) g k = (g k || R.any (hasR k)) := by
  induction R with
  | nil => intro g k; simp
  | cons r R ih => intro g k; rw [List.foldl_cons, ih, updM_one, List.any_cons, Bool.or_assoc]
theorem joinTail_len (R : List (Int × Int)) (hR : ∀ r ∈ R, isRg r = true) : (Lib.joinTail [32, 43, 32] (R.map termT)).length ≤ 15 * R.length := by
  induction R with
  | nil => simp [Lib.joinTail]
  | cons r R ih =>
    have h1 := ih (fun x hx => hR x (List.mem_cons_of_mem _ hx))
    have hb := (isRg_iff r).1 (hR r (by simp))
    have h2 := (dig_ok r.1.toNat (by omega)).2.2.2
    have h3 := (dig_ok r.2.toNat (by omega)).2.2.2
    have h4 : (termT r).length ≤ 12 := by
      unfold termT
      split <;> simp <;> omega
    simp only [Lib.joinTail, List.map_cons, List.flatten_cons, List.length_append, List.length_cons] at h1 ⊢
    simp at h1 ⊢
    omega
theorem parse_back {R : List (Int × Int)} (hl : R.length ≤ 60) (hR : checkR R = 0) : parseR (formatR R).1 = (R, 0, 0) := by
  have hrg : ∀ r ∈ R, isRg r = true := checkL_each hR
  have hf : (formatR R).1 = Lib.join (R.map termT) [32, 43, 32] := by unfold formatR; rw [if_neg (by simp [hR])]
  rw [hf]
  cases R with
  | nil =>
    rw [List.map_nil, Lib.join_nil]
    unfold parseR membersR
    have : skipB [] 0 = 0 := rfl
    rw [if_neg (by decide), this]
    simp only [List.length_nil, if_true]
    rw [if_neg (by simp), setS_of (R := []) (g := fun _ => false) rfl rfl (fun k _ _ => rfl)]
  | cons r R =>
    rw [List.map_cons, Lib.join_cons]
    obtain ⟨l, hL⟩ : ∃ l, termT r ++ Lib.joinTail [32, 43, 32] (R.map termT) = l := ⟨_, rfl⟩
    have hb := (isRg_iff r).1 (hrg r (by simp))
    have h2 := dig_ok r.1.toNat (by omega)
    have h3 := dig_ok r.2.toNat (by omega)
    have h4 : (termT r).length ≤ 12 ∧ 1 ≤ (termT r).length := by
      have h5 : 1 ≤ (Lib.decDigits r.1.toNat).length := Nat.pos_of_ne_zero fun e => h2.2.2.1 (List.eq_nil_of_length_eq_zero e)
      unfold termT
      split <;> simp <;> omega
    have h6 := joinTail_len R (fun x hx => hrg x (List.mem_cons_of_mem _ hx))
    have hll : l.length ≤ 4096 ∧ 1 ≤ l.length := by
      rw [← hL, List.length_append]
      simp only [List.length_cons] at hl
      omega
    rw [hL]
    have hs0 : skipB l 0 = 0 := skipB_at (n := 0) (x := l) (by simp) (by
      rw [← hL]
      cases hd : Lib.decDigits r.1.toNat with
      | nil => exact absurd hd h2.2.2.1
      | cons d ds =>
        have := h2.1
        rw [hd] at this
        unfold termT
        rw [hd, List.cons_append, List.cons_append, List.head?_cons]
        intro e
        exact isD_blank (c := d) (by simp at this; exact this.1) (by simpa using e))
    have hRl : R.length < l.length + 1 := by
      rw [← hL, List.length_append]
      have : R.length ≤ (Lib.joinTail [32, 43, 32] (R.map termT)).length := by
        clear hl hR hrg hf hL h6 hll hs0
        induction R with
        | nil => simp
        | cons x R ih => simp only [Lib.joinTail, List.map_cons, List.flatten_cons, List.length_append, List.length_cons] at ih ⊢; omega
      omega
    obtain ⟨a, b⟩ := memF_at l R r (fun _ => false) 0 (l.length + 1) 0 hrg hRl (by rw [← hL]; simp)
    have hm : membersR l = memF l (l.length + 1) (fun _ => false) true 0 := by
      unfold membersR
      rw [hs0, if_neg (by omega)]
    unfold parseR
    rw [if_neg (by omega), hm, if_neg (by simp [b]), setS_of (R := r :: R) hR (by
      rw [a, foldM]
      rw [Bool.false_or, Bool.eq_false_iff]
      intro h
      obtain ⟨x, hx, h1, -⟩ := (any_iff _ _).1 h
      have := (isRg_iff x).1 (hrg x hx)
      omega) (fun k _ _ => by rw [a, foldM, Bool.false_or])]
end Go.Proofs.YtjideokeokmbaaaGreatDoor.Z

/- Law 6: mathematics: what the reference makes of lists of channels. -/
namespace Go.Proofs.YtjideokeokmbaaaGreatDoor.Z
open Go
theorem ofL_iff (L : List Int) (k : Nat) : ofL L k = true ↔ (k : Int) ∈ L := by unfold ofL updM; by_cases h : (k : Int) ∈ L <;> simp [h]
theorem ofL_eq (L : List Int) (k : Nat) : ofL L k = decide ((k : Int) ∈ L) := by rw [Bool.eq_iff_iff, ofL_iff]; simp
theorem chans_any (R : List (Int × Int)) (x : Int) : x ∈ chans R ↔ R.any (hasR x) = true := by rw [mem_chans, any_iff]
theorem chan_rng {R : List (Int × Int)} (h : checkR R = 0) {x : Int} (hx : x ∈ chans R) : 1 ≤ x ∧ x ≤ 999 :=
  chn_bound (fun r hr => (isRg_iff r).1 (checkL_each h r hr)) hx
/-- the reference's union -/
theorem united {A B : List (Int × Int)} (hA : checkR A = 0) (hB : checkR B = 0) : setS (ofL (chans A ++ chans B)) 1000 = (combR (fun x y => x || y) A B).1 := by
  rw [combR_ok hA hB]
  simp only
  generalize (1000 : Nat) = n
  refine setS_congr n fun k _ => ?_
  rw [combG_all, ofL_eq, inR_eq, inR_eq]
  by_cases h : (k : Int) ∈ chans A ++ chans B
  · rw [decide_eq_true h]
    rw [List.mem_append] at h
    have hk : 1 ≤ (k : Int) ∧ (k : Int) ≤ 999 := h.elim (chan_rng hA) (chan_rng hB)
    rw [if_pos (by omega)]
    rw [chans_any, chans_any] at h
    simpa using h
  · rw [decide_eq_false h]
    rw [List.mem_append, chans_any, chans_any] at h
    split
    · simpa using h
    · rfl
/-- the reference's difference and intersection -/
theorem keptR {A B : List (Int × Int)} (hA : checkR A = 0) (hB : checkR B = 0) (v : Bool) : setS (ofL ((chans A).filter fun c => B.any (hasR c) == v)) 1000 = (combR (fun x y => x && (y == v)) A B).1 := by
  rw [combR_ok hA hB]
  simp only
  generalize (1000 : Nat) = n
  refine setS_congr n fun k _ => ?_
  rw [combG_all, ofL_eq, inR_eq, inR_eq]
  by_cases h : (k : Int) ∈ chans A
  · have hk := chan_rng hA h
    rw [if_pos (by omega)]
    have h2 := (chans_any _ _).1 h
    rw [Bool.eq_iff_iff]
    simp [List.mem_filter, h, h2]
  · have h2 : A.any (hasR k) = false := by rw [chans_any] at h; simpa using h
    rw [decide_eq_false (fun e => h (List.mem_filter.1 e).1), h2]
    split <;> rfl
theorem ofL_zero' {L : List Int} (h : ∀ x ∈ L, 1 ≤ x) : ofL L 0 = false := by
  rw [Bool.eq_false_iff, Ne, ofL_iff]
  intro e
  have := h _ e
  omega
/-- the channels of a set ascend -/
theorem runL_sorted (r : Int × Int) : (runL r).Pairwise (· < ·) := by
  unfold runL runP
  rw [List.pairwise_map]
  exact List.pairwise_lt_range.imp fun h => by omega
theorem chans_sorted : ∀ (R : List (Int × Int)) (p : Option Int), checkL R p = 0 → (chans R).Pairwise (· < ·)
  | [], _, _ => List.Pairwise.nil
  | r :: R, p, h => by
    obtain ⟨h1, h2, h3⟩ := (checkL_zero r R p).1 h
    have ih := chans_sorted R (some r.2) h3
    have e : chans (r :: R) = runL r ++ chans R := rfl
    rw [e, List.pairwise_append]
    refine ⟨runL_sorted r, ih, fun x hx y hy => ?_⟩
    have hx2 := mem_runL.1 hx
    obtain ⟨s, hs, h4, h5⟩ := mem_chans.1 hy
    have := checkL_ge R r.2 h3 s hs
    omega
theorem sorted_len : ∀ (l : List Int) (a b : Int), l.Pairwise (· < ·) → (∀ x ∈ l, a ≤ x ∧ x ≤ b) → (l.length : Int) ≤ max 0 (b + 1 - a)
  | [], a, b, _, _ => by simp; omega
  | x :: l, a, b, hp, hb => by
    have hx := hb x (by simp)
    have ih := sorted_len l (x + 1) b hp.tail fun y hy => ⟨by have := (List.pairwise_cons.1 hp).1 y hy; omega, (hb y (List.mem_cons_of_mem _ hy)).2⟩
    rw [List.length_cons]
    omega
theorem chans_le {R : List (Int × Int)} (h : checkR R = 0) : (chans R).length ≤ 999 := by
  have := sorted_len (chans R) 1 999 (chans_sorted R none h) fun x hx => chan_rng h hx
  omega
/-- turned, and with its first one again, it is the same set -/
def turnL (L : List Int) (k : Nat) : List Int := L.drop k ++ (L.take k ++ L.take 1)
theorem mem_turnL {L : List Int} {k : Nat} {x : Int} : x ∈ turnL L k ↔ x ∈ L := by
  unfold turnL
  rw [List.mem_append, List.mem_append]
  constructor
  · rintro (h | h | h)
    · exact List.mem_of_mem_drop h
    · exact List.mem_of_mem_take h
    · exact List.mem_of_mem_take h
  · intro h
    rw [← List.take_append_drop k L, List.mem_append] at h
    rcases h with h | h
    · exact .inr (.inl h)
    · exact .inl h
theorem turn_len (L : List Int) (k : Nat) : (turnL L k).length ≤ L.length + 1 := by
  unfold turnL
  simp only [List.length_append, List.length_drop, List.length_take]
  omega
theorem of_turn {R : List (Int × Int)} (h : checkR R = 0) (L : List Int) (hm : ∀ x, x ∈ L ↔ x ∈ chans R) (hl : L.length ≤ 1000) : ofR L = (R, 0) := by
  unfold ofR
  have hb : ∀ x ∈ L, 1 ≤ x ∧ x ≤ 999 := fun x hx => chan_rng h ((hm x).1 hx)
  rw [if_neg (by omega), if_pos (List.all_eq_true.2 fun x hx => (isCh_iff x).2 (hb x hx))]
  rw [setS_of h (ofL_zero' fun x hx => (hb x hx).1) fun k _ _ => by
    rw [Bool.eq_iff_iff, ofL_iff, hm, chans_any]]
end Go.Proofs.YtjideokeokmbaaaGreatDoor.Z

/- Law 6: RangesReturns and RangesMembers as their rows ask for them. -/
namespace Go.Proofs.YtjideokeokmbaaaGreatDoor
open Go.RowKit Go.Shelf
open Z
end Go.Proofs.YtjideokeokmbaaaGreatDoor
