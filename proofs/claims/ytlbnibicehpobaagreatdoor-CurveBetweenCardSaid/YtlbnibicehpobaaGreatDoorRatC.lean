/- RatC: Rat08, Rat09, Rat10, Rat11, Rat12, joined. -/
import Derived.Test.YtlbnibicehpobaaGreatDoorRatA
import Derived.Lib.IndexMore
import Derived.Lib.Strings
import Derived.Test.YtlbnibicehpobaaGreatDoorRef01a
import Derived.Test.YtlbnibicehpobaaGreatDoorShelf
import Derived.Deep.QuietTactic
import Derived.BigQuiet
import Derived.WalkSmall
import Derived.Test.YtlbnibicehpobaaGreatDoorRatB
import Derived.Test.YtlbnibicehpobaaGreatDoorRet
import Derived.Deep.RegionHeld3
import Derived.Deep.DrawnRows
set_option linter.unusedVariables false
set_option linter.unusedSimpArgs false

/- Rational numbers: what the program's own parts return, as plain mathematics. -/
namespace Go.Proofs.YtlbnibicehpobaaGreatDoor
open Go.RowKit
open Z

theorem index_slash : ∀ l : List UInt8, Lib.index l [47] = if parted l = true then ((top l).length : Int) else -1
  | [] => rfl
  | c :: r => by
    have ih := index_slash r
    by_cases hc : c = 47
    · subst hc
      unfold Lib.index parted top
      simp [List.isPrefixOf]
    · have h1 : [47].isPrefixOf (c :: r) = false := by
        have : ¬ (47 : UInt8) = c := fun e => hc e.symm
        simp [List.isPrefixOf, this]
      have h2 : parted (c :: r) = parted r := by
        unfold parted
        have : ¬ (47 : UInt8) = c := fun e => hc e.symm
        simp [this]
      have h3 : (top (c :: r)).length = (top r).length + 1 := by
        have : (c != 47) = true := by simpa using hc
        unfold top; rw [List.takeWhile_cons, if_pos this, List.length_cons]
      unfold Lib.index
      rw [h1, ih, h2, h3]
      cases parted r with
      | false => simp
      | true =>
        have : (((top r).length : Int) == -1) = false := by rw [beq_eq_false_iff_ne]; omega
        simp [this]
theorem cut_slash (l : List UInt8) : Lib.cut l [47] = (top l, if parted l = true then bot l else [], parted l) := by
  unfold Lib.cut
  rw [index_slash]
  cases hp : parted l with
  | false =>
    rw [if_neg (by simp), (unparted_top hp).1]; simp
  | true =>
    simp only [if_true]
    rw [if_pos (by omega)]
    have h := parted_split hp
    have h1 : l.take (top l).length = top l := by conv => lhs; rw [h]; rw [List.take_left' (by
      have := congrArg (fun x => (top x).length) h; exact this)]
    have h2 : l.drop ((top l).length + 1) = bot l := by
      have e : ∀ a b : List UInt8, (a ++ 47 :: b).drop (a.length + 1) = b := by
        intro a b
        have := List.drop_left' (l₁ := a ++ [47]) (l₂ := b) (i := a.length + 1) (by simp)
        rwa [List.append_assoc] at this
      have := e (top l) (bot l)
      rw [← h] at this
      exact this
    simp [h1, h2]
/-- the first error of several -/
def firstE : List Int → Int
  | [] => 0
  | e :: r => if e = 0 then firstE r else e
theorem firstE_at : ∀ {l : List Int} {k : Nat} (hk : k < l.length), (∀ j (hj : j < l.length), j < k → l[j] = 0) → l[k] ≠ 0 → firstE l = l[k]
  | e :: r, 0, hk, _, hne => by unfold firstE; rw [if_neg (by simpa using hne)]; rfl
  | e :: r, k + 1, hk, h, hne => by
    have h0 : e = 0 := by have := h 0 (by simp) (by omega); simpa using this
    have ih := firstE_at (l := r) (k := k) (by simpa using hk) (fun j hj hjk => by have := h (j + 1) (by simpa using hj) (by omega); simpa using this) (by simpa using hne)
    unfold firstE
    rw [if_pos h0, ih]; rfl
theorem firstE_all : ∀ {l : List Int}, (∀ j (hj : j < l.length), l[j] = 0) → firstE l = 0
  | [], _ => rfl
  | e :: r, h => by
    have h0 : e = 0 := by have := h 0 (by simp); simpa using this
    unfold firstE
    rw [if_pos h0]
    exact firstE_all fun j hj => by have := h (j + 1) (by simpa using hj); simpa using this
theorem first2 (a b : Int) : firstE [a, b] = if a = 0 then b else a := by
  unfold firstE firstE firstE
  by_cases h : a = 0
  · rw [if_pos h, if_pos h]; split <;> simp_all
  · rw [if_neg h, if_neg h]
theorem first3 (a b c : Int) : firstE [a, b, c] = if a = 0 then (if b = 0 then c else b) else a := by
  rw [show firstE [a, b, c] = if a = 0 then firstE [b, c] else a from rfl, first2]
/-- a sum or a difference of two products, and the product of the denominators -/
def joinN (f : Int → Int → Int) (x y : Int) : ByteArray × Int := opR (longR x).1 (longR y).1 fun a b => longR (f a b)
def joinE (f : Int → Int → Int) (x y d : Int) : Int := firstE [firstE [(longR x).2, (longR y).2], (joinN f x y).2, (longR d).2]
theorem longR_2 (x : Int) : (longR x).2 = if lg x = true then 23 else 0 := by rw [longR_lg]; split <;> rfl
theorem join_big (f : Int → Int → Int) (x y d : Int) (h : lg x = true ∨ lg y = true) : joinE f x y d = 23 := by
  unfold joinE
  rw [first3, first2, longR_2, longR_2]
  cases hx : lg x <;> cases hy : lg y <;> simp_all
theorem join_small (f : Int → Int → Int) (x y d : Int) (hx : lg x = false) (hy : lg y = false) :
    joinN f x y = longR (f x y) ∧ joinE f x y d = (if lg (f x y) = true then 23 else if lg d = true then 23 else 0) := by
  have e1 : joinN f x y = longR (f x y) := by
    unfold joinN
    rw [longR_lg x, longR_lg y, hx, hy]
    simp only [Bool.false_eq_true, if_false]
    unfold opR
    have c1 : chk (Tx x).data.toList = 0 := by rw [chk_Tx, if_neg (by have := lg_false.1 hx; omega)]
    have c2 : chk (Tx y).data.toList = 0 := by rw [chk_Tx, if_neg (by have := lg_false.1 hy; omega)]
    have hb : both (Tx x) (Tx y) = 0 := by unfold both; rw [if_pos c1, c2]
    rw [if_pos hb, data_Tx, data_Tx, ival_itoa, ival_itoa]
  refine ⟨e1, ?_⟩
  unfold joinE
  rw [first3, first2, longR_2, longR_2, e1, longR_2, longR_2, hx, hy]
  cases lg (f x y) <;> simp
/-- .. as it is asked for in sums and differences -/
theorem add_join (a b : Rat) : (joinE (· + ·) (a.num * b.den) (b.num * a.den) ((a.den : Int) * b.den) = 23 ∧ addR a b = (⟨#[]⟩, 23)) ∨
    (joinE (· + ·) (a.num * b.den) (b.num * a.den) ((a.den : Int) * b.den) = 0 ∧ addR a b = (RT (a + b), 0) ∧ (joinN (· + ·) (a.num * b.den) (b.num * a.den)).1 = Tx (a.num * b.den + b.num * a.den) ∧ (longR ((a.den : Int) * b.den)).1 = Tx ((a.den : Int) * b.den) ∧ lg (a.num * b.den + b.num * a.den) = false ∧ lg ((a.den : Int) * b.den) = false) := by
  unfold addR crossL
  cases hx : lg (a.num * b.den)
  · cases hy : lg (b.num * a.den)
    · obtain ⟨e1, e2⟩ := join_small (· + ·) _ _ ((a.den : Int) * b.den) hx hy
      rw [e2, e1]
      simp only [longR_lg]
      cases hz : lg (a.num * b.den + b.num * a.den) <;> cases hd : lg ((a.den : Int) * b.den) <;> simp
    · left; exact ⟨join_big _ _ _ _ (.inr hy), by simp⟩
  · left; exact ⟨join_big _ _ _ _ (.inl hx), by simp⟩
theorem sub_join (a b : Rat) : (joinE (· - ·) (a.num * b.den) (b.num * a.den) ((a.den : Int) * b.den) = 23 ∧ subR a b = (⟨#[]⟩, 23)) ∨
    (joinE (· - ·) (a.num * b.den) (b.num * a.den) ((a.den : Int) * b.den) = 0 ∧ subR a b = (RT (a - b), 0) ∧ (joinN (· - ·) (a.num * b.den) (b.num * a.den)).1 = Tx (a.num * b.den - b.num * a.den) ∧ (longR ((a.den : Int) * b.den)).1 = Tx ((a.den : Int) * b.den) ∧ lg (a.num * b.den - b.num * a.den) = false ∧ lg ((a.den : Int) * b.den) = false) := by
  unfold subR crossL
  cases hx : lg (a.num * b.den)
  · cases hy : lg (b.num * a.den)
    · obtain ⟨e1, e2⟩ := join_small (· - ·) _ _ ((a.den : Int) * b.den) hx hy
      rw [e2, e1]
      simp only [longR_lg]
      cases hz : lg (a.num * b.den - b.num * a.den) <;> cases hd : lg ((a.den : Int) * b.den) <;> simp
    · left; exact ⟨join_big _ _ _ _ (.inr hy), by simp⟩
  · left; exact ⟨join_big _ _ _ _ (.inl hx), by simp⟩
/-- both parts of a product -/
def timesE (x y : Int) : Int := firstE [(longR x).2, (longR y).2]
theorem times_cases (x y : Int) : (timesE x y = 23 ∧ (lg x || lg y) = true) ∨ (timesE x y = 0 ∧ (lg x || lg y) = false ∧ (longR x).1 = Tx x ∧ (longR y).1 = Tx y ∧ lg x = false ∧ lg y = false) := by
  unfold timesE
  rw [first2, longR_2, longR_2, longR_lg, longR_lg]
  cases lg x <;> cases lg y <;> simp
theorem longR_size (x : Int) : (longR x).1.size ≤ 5000 := by
  rw [longR_lg]
  cases h : lg x
  · have := lg_false.1 h
    show (Tx x).size ≤ 5000
    rw [size_Tx, itoa_length]; split <;> omega
  · show 0 ≤ 5000; omega
theorem hasMinus (a : Int) : Lib.hasPrefix (Tx a).data.toList [45] = decide (a < 0) := by
  have h := head_itoa a
  rw [data_Tx]
  unfold Lib.hasPrefix
  cases hl : Lib.itoa a with
  | nil => rw [hl] at h; simp at h; simp; omega
  | cons c r =>
    rw [hl] at h
    simp only [List.head?_cons, Option.some.injEq] at h
    by_cases hc : c = 45
    · have := h.1 hc
      subst hc
      simp [List.isPrefixOf, this]
    · have h2 : ¬ (45 : UInt8) = c := fun e => hc e.symm
      have : ¬ a < 0 := fun e => hc (h.2 e)
      simp [List.isPrefixOf, h2, this]
/-- what the check of a fraction with a slash asks, at the codes of its two parts -/
theorem chk2_parted {l : List UInt8} (hp : parted l = true) : chk2 l =
    if chk (top l) = 3 ∨ chk (bot l) = 3 then 3 else if ival (bot l) ≤ 0 ∨ ival (bot l) = 1 then 3 else if chk (top l) ≠ 0 ∨ chk (bot l) ≠ 0 then 23 else if Nat.gcd (ival (top l)).natAbs (ival (bot l)).natAbs ≠ 1 then 3 else 0 := by
  have c3 : ∀ m : List UInt8, chk m = 3 ↔ formB m = false := by
    intro m; unfold chk
    cases formB m with
    | false => simp
    | true => simp only [if_true]; split <;> simp
  have c0 : ∀ m : List UInt8, formB m = true → (chk m ≠ 0 ↔ 4096 < (body m).length) := by
    intro m hm; unfold chk
    rw [if_pos hm]; split <;> simp_all
  unfold chk2
  by_cases h1 : formB (top l) = false ∨ formB (bot l) = false
  · rw [if_pos h1, if_pos (by rw [c3, c3]; exact h1)]
  · have hn : ¬ (chk (top l) = 3 ∨ chk (bot l) = 3) := by rw [c3, c3]; exact h1
    have f1 : formB (top l) = true := by cases h : formB (top l) <;> simp_all
    have f2 : formB (bot l) = true := by cases h : formB (bot l) <;> simp_all
    have e1 : (chk (top l) ≠ 0 ∨ chk (bot l) ≠ 0) ↔ (4096 < (body (top l)).length ∨ 4096 < (body (bot l)).length) := by rw [c0 _ f1, c0 _ f2]
    rw [if_neg h1, if_neg hn]
    simp only [hp, true_and]
    by_cases h2 : ival (bot l) ≤ 0 ∨ ival (bot l) = 1
    · rw [if_pos h2, if_pos h2]
    · rw [if_neg h2, if_neg h2]
      by_cases h3 : 4096 < (body (top l)).length ∨ 4096 < (body (bot l)).length
      · rw [if_pos h3, if_pos (e1.2 h3)]
      · rw [if_neg h3, if_neg (fun h => h3 (e1.1 h))]
theorem chk2_unparted {l : List UInt8} (hp : parted l = false) : chk2 l = chk l := by
  unfold chk2 chk
  rw [(unparted_top hp).1, (unparted_top hp).2, hp]
  have : formB [49] = true := by decide
  rw [this]
  cases formB l with
  | false => simp
  | true =>
    have : (body [49]).length = 1 := by decide
    rw [this]
    simp
end Go.Proofs.YtlbnibicehpobaaGreatDoor

/- The program's rational numbers: its smallest parts. -/
namespace Go.Proofs.YtlbnibicehpobaaGreatDoor
open Go.RowKit Go.Shelf
open Z

/-- the library's variable MaxLen is an int -/
def Mx (w : World) : Prop := ∃ m, w.cell? ⟨2, 0, none⟩ = some (.int .i64 m)
theorem cell_lt {w : World} {b o : Nat} {v : Value} (h : w.cell? ⟨b, o, none⟩ = some v) : b < w.heap.size := by
  by_cases hb : b < w.heap.size
  · exact hb
  · exfalso
    have : w.heap[b]? = none := Array.getElem?_eq_none (by omega)
    simp [World.cell?, this] at h
theorem gr_cell {W w1 : World} (h : Gr W w1) {b o : Nat} {v : Value} (hc : W.cell? ⟨b, o, none⟩ = some v) : w1.cell? ⟨b, o, none⟩ = some v :=
  (Below.cell h (p := ⟨b, o, none⟩) (cell_lt hc)).trans hc
theorem Mx.gr {w w' : World} (h : Mx w) (hg : Gr w w') : Mx w' := h.elim fun m hm => ⟨m, gr_cell hg hm⟩
/-- a fraction in a block of its own -/
structure FB (w : World) (b : Nat) (p q : ByteArray) : Prop where
  c0 : w.cell? ⟨b, 0, none⟩ = some (.string p)
  c1 : w.cell? ⟨b, 1, none⟩ = some (.string q)
  f0 : w.frozen? ⟨b, 0, none⟩ = false
  f1 : w.frozen? ⟨b, 1, none⟩ = false
theorem FB.new (w : World) (p q : ByteArray) (ty : TypeId) : FB (w.alloc (.cells #[.string p, .string q] ty)) w.heap.size p q :=
  ⟨by rw [World.cell?_alloc_at _ _ _ _ rfl]; rfl, by rw [World.cell?_alloc_at _ _ _ _ rfl]; rfl, World.frozen?_alloc_at _ _ _ _ rfl, World.frozen?_alloc_at _ _ _ _ rfl⟩
theorem FB.gr {w w' : World} {b : Nat} {p q : ByteArray} (h : FB w b p q) (hg : Gr w w') : FB w' b p q :=
  ⟨gr_cell hg h.c0, gr_cell hg h.c1, (Below.frozen hg (p := ⟨b, 0, none⟩) (cell_lt h.c0)).trans h.f0, (Below.frozen hg (p := ⟨b, 1, none⟩) (cell_lt h.c0)).trans h.f1⟩
theorem FB.alloc {w : World} {b : Nat} {p q : ByteArray} (h : FB w b p q) (o : Obj) : FB (w.alloc o) b p q := h.gr ((Gr.refl w).alloc o)
theorem FB.set {w : World} {b b' o : Nat} {p q : ByteArray} {u : Value} (h : FB w b p q) (hn : b ≠ b') : FB (w.setCell ⟨b', o, none⟩ u) b p q :=
  ⟨(World.cell?_setCell_other _ _ _ _ (by simp only [ne_eq, Addr.mk.injEq]; omega)).trans h.c0, (World.cell?_setCell_other _ _ _ _ (by simp only [ne_eq, Addr.mk.injEq]; omega)).trans h.c1, (World.frozen?_setCell _ _ _ _).trans h.f0, (World.frozen?_setCell _ _ _ _).trans h.f1⟩
/-- both cells stored anew -/
theorem FB.store {w0 w : World} {b : Nat} {p q p' q' : ByteArray} (h : FB w b p q) (hg : Gr w0 w) (hb : w0.heap.size ≤ b) :
    FB ((w.setCell ⟨b, 0, none⟩ (.string p')).setCell ⟨b, 1, none⟩ (.string q')) b p' q' ∧ Gr w0 ((w.setCell ⟨b, 0, none⟩ (.string p')).setCell ⟨b, 1, none⟩ (.string q')) := by
  have a1 : (w.setCell ⟨b, 0, none⟩ (.string p')).cell? ⟨b, 1, none⟩ = some (.string q) := (World.cell?_setCell_other _ _ _ _ (by simp)).trans h.c1
  have a0 : (w.setCell ⟨b, 0, none⟩ (.string p')).cell? ⟨b, 0, none⟩ = some (.string p') := World.cell?_setCell_same _ _ _ h.c0
  refine ⟨⟨(World.cell?_setCell_other _ _ _ _ (by simp)).trans a0, World.cell?_setCell_same _ _ _ a1, ?_, ?_⟩, (Below.setCell (Below.setCell hg hb _) hb _)⟩
  · rw [World.frozen?_setCell, World.frozen?_setCell]; exact h.f0
  · rw [World.frozen?_setCell, World.frozen?_setCell]; exact h.f1
/-- a block that holds ints -/
def Ints (w : World) (g : Nat) (l : List Int) : Prop := ∀ i (h : i < l.length), w.cell? ⟨g, i, none⟩ = some (.int .i64 l[i])
set_option maxHeartbeats 1000000 in
set_option maxRecDepth 100000 in
theorem q_first (g : Nat) (l : List Int) (w : World) (hl : l.length ≤ 100) (hc : Ints w g l) :
    Calls Tryz.prog 130 #[.slice (some ⟨g, 0, none⟩) l.length l.length] w (fun e w' => e = .returned (.int .i64 (firstE l)) ∧ w = w') := by
  have HC := Lib.hid hc
  clear hc
  go_enter Tryz.func130, Tryz.ntmps130
  go_wp2
  go_loop [2, 5] (fun _ i => ∃ k : Nat, k ≤ l.length ∧ i = .int .i64 k ∧ Hid (∀ j (h : j < l.length), j < k → l[j] = 0)) (fun _ i => l.length - (intOf i).toNat)
  case atStart => exact ⟨0, Nat.zero_le _, rfl, fun j hj h => absurd h (by omega)⟩
  case round =>
    obtain ⟨k, hk, rfl, HK⟩ := hrel
    by_cases hlt : k < l.length
    · have hcell := HC.out k hlt
      obtain ⟨c, HS⟩ : ∃ c, Hid (l[k] = c) := ⟨l[k], Lib.hid rfl⟩
      rw [HS.out] at hcell
      by_cases h0 : c = 0
      · have H0 : Hid (l[k] = 0) := HS.out.trans h0
        subst h0
        go_wp2
        go_round
        case rel =>
          refine ⟨k + 1, by omega, by go_num, fun j hj h => ?_⟩
          by_cases hjk : j = k
          · subst hjk; exact H0.out
          · exact HK.out j hj (by omega)
        case measure => simp [intOf]; omega
      · have HF : Hid (firstE l = c) := (firstE_at hlt HK.out (by rw [HS.out]; exact h0)).trans HS.out
        have hne : (c == 0) = false := beq_eq_false_iff_ne.2 h0
        clear h0
        go_wp2
        go_ret
        exact ⟨ret_int HF.out.symm, rfl⟩
    · have HF : Hid (firstE l = 0) := firstE_all fun j hj => HK.out j hj (by omega)
      go_wp2
      go_ret
      exact ⟨ret_int HF.out.symm, rfl⟩
theorem first_new2 (a b : Int) (w : World) (ty : TypeId) :
    Calls Tryz.prog 130 #[.slice (some ⟨w.heap.size, 0, none⟩) 2 2] (w.alloc (.cells #[.int .i64 a, .int .i64 b] ty)) (fun e w' => e = .returned (.int .i64 (firstE [a, b])) ∧ w.alloc (.cells #[.int .i64 a, .int .i64 b] ty) = w') := by
  refine q_first w.heap.size [a, b] _ (by simp) fun i hi => ?_
  have : i = 0 ∨ i = 1 := by simp at hi; omega
  rcases this with rfl | rfl <;> simp
theorem first_new3 (a b c : Int) (w : World) (ty : TypeId) :
    Calls Tryz.prog 130 #[.slice (some ⟨w.heap.size, 0, none⟩) 3 3] (w.alloc (.cells #[.int .i64 a, .int .i64 b, .int .i64 c] ty)) (fun e w' => e = .returned (.int .i64 (firstE [a, b, c])) ∧ w.alloc (.cells #[.int .i64 a, .int .i64 b, .int .i64 c] ty) = w') := by
  refine q_first w.heap.size [a, b, c] _ (by simp) fun i hi => ?_
  have : i = 0 ∨ i = 1 ∨ i = 2 := by simp at hi; omega
  rcases this with rfl | rfl | rfl <;> simp
theorem q_cut (s : ByteArray) (w : World) (hm : Mx w) (hs : s.size ≤ 400000) :
    Calls Tryz.prog 114 #[.string s, .string ⟨#[47]⟩] w (fun e w' => e = .returned (.tuple #[.string (str (top s.data.toList)), .string (str (if parted s.data.toList = true then bot s.data.toList else [])), .bool (parted s.data.toList)]) ∧ Gr w w') := by
  obtain ⟨m, hm⟩ := hm
  refine (Tryz.strings_Cut s ⟨#[47]⟩ m w (by omega) hm).mono ?_
  rintro e w' ⟨rfl, n, rfl⟩
  have h := cut_slash s.data.toList
  rw [show (⟨#[47]⟩ : ByteArray).data.toList = [47] from rfl, h]
  exact ⟨rfl, below_drewN (Gr.refl w) n⟩
theorem q_minus (a : Int) (w : World) : Calls Tryz.prog 134 #[.string (Tx a), .string ⟨#[45]⟩] w (fun e w' => e = .returned (.bool (decide (a < 0))) ∧ w = w') := by
  refine (Tryz.strings_HasPrefix (Tx a) ⟨#[45]⟩ w).mono ?_
  rintro e w' ⟨rfl, rfl⟩
  rw [show (⟨#[45]⟩ : ByteArray).data.toList = [45] from rfl, hasMinus]
  exact ⟨rfl, rfl⟩
end Go.Proofs.YtlbnibicehpobaaGreatDoor

/- The program's rational numbers: reading, checking and writing. -/
namespace Go.Proofs.YtlbnibicehpobaaGreatDoor
open Go.RowKit Go.Shelf
open Z

/-- from each world that has grown out of w0 the call returns v, and grows its own world -/
def RetG (w0 : World) (f : FuncId) (args : Array Value) (v : Value) : Prop :=
  ∀ w, Gr w0 w → Calls Tryz.prog f args w (fun e w' => e = .returned v ∧ Gr w w')
theorem RetG.ret {w0 : World} {f : FuncId} {args : Array Value} {v : Value} (h : RetG w0 f args v) : Ret w0 f args v := .mk h
theorem RetG.up {w0 w1 : World} {f : FuncId} {args : Array Value} {v : Value} (h : RetG w0 f args v) (hg : Gr w0 w1) : RetG w1 f args v := fun w h' => h w (Gr.trans hg h')
theorem RetG.cast {w0 : World} {f : FuncId} {args : Array Value} {v v' : Value} (h : RetG w0 f args v) (e : v = v') : RetG w0 f args v' := e ▸ h
abbrev vFr (p q : ByteArray) : Value := .agg #[.string p, .string q]
abbrev oFr (p q : ByteArray) : Obj := .cells #[.string p, .string q] 103
theorem str_len {l : List UInt8} {n : Nat} (h : l.length ≤ n) (hn : n ≤ 800000) : (str l).size ≤ maxLen := by rw [size_str']; unfold maxLen; omega
theorem is0_form {s : ByteArray} (h : formB s.data.toList = true) : (s.toList == [48]) = decide (ival s.data.toList = 0) := by
  have := Tx_is0 (ival s.data.toList); rwa [Tx_ival s h] at this
theorem is1_form {s : ByteArray} (h : formB s.data.toList = true) : (s.toList == [49]) = decide (ival s.data.toList = 1) := by
  have := Tx_is1 (ival s.data.toList); rwa [Tx_ival s h] at this
theorem chk_form3 {l : List UInt8} (h : chk l ≠ 3) : formB l = true := by
  unfold chk at h
  cases hf : formB l with
  | true => rfl
  | false => rw [hf] at h; simp at h
theorem data_str' (l : List UInt8) : (str l).data.toList = l := data_str l
theorem i_CheckQ (s : ByteArray) (hs : s.size ≤ maxLen) (w : World) : Calls Tryz.prog 96 #[.string s] w (fun e w' => e = .returned (.int .i64 (chk s.data.toList)) ∧ w' = w) :=
  (i_Check s w hs).mono fun _ _ ⟨a, b⟩ => ⟨a, b.symm⟩
theorem longR_gcd {a b : Int} (ha : In a) : longR ((Nat.gcd a.natAbs b.natAbs : Nat) : Int) = (Tx ((Nat.gcd a.natAbs b.natAbs : Nat) : Int), 0) ∨ a = 0 := by
  by_cases h : a = 0
  · exact .inr h
  · left
    refine longR_in (Nat.le_trans (nDigits_mono ?_) ha)
    rw [Int.natAbs_natCast]; exact Nat.gcd_le_left _ (by omega)
theorem gcd_in {a b : Int} (hb : In b) (h0 : b ≠ 0) : In ((Nat.gcd a.natAbs b.natAbs : Nat) : Int) := by
  refine Nat.le_trans (nDigits_mono ?_) hb
  rw [Int.natAbs_natCast]; exact Nat.gcd_le_right _ (by omega)
set_option maxHeartbeats 2000000 in
set_option maxRecDepth 100000 in
theorem q_check (s : ByteArray) (hs : s.size ≤ 400000) (hp : parted s.data.toList = true) (w : World) (htab : Tab w) :
    Calls Tryz.prog 115 #[vFr (str (top s.data.toList)) (str (bot s.data.toList))] w (fun e w' => e = .returned (.int .i64 (chkS s)) ∧ Gr w w') := by
  have hv := chk2_parted hp
  have hsz : s.data.toList.length = s.size := by simp
  have lp := str_len (n := 400000) (l := top s.data.toList) (by have := (top_len s.data.toList).1; omega) (by omega)
  have lq := str_len (n := 400001) (l := bot s.data.toList) (by have := bot_len s.data.toList; omega) (by omega)
  have C1 := Lib.hid (i_CheckQ (str (top s.data.toList)) lp)
  have C2 := Lib.hid (i_CheckQ (str (bot s.data.toList)) lq)
  rw [data_str] at C1 C2
  have hgr0 : Gr w (w.alloc (oFr (str (top s.data.toList)) (str (bot s.data.toList)))) := (Gr.refl w).alloc _
  have HTAB := Lib.hid (htab_gr htab hgr0)
  have fp : ∀ h : chk (top s.data.toList) ≠ 3, str (top s.data.toList) = Tx (ival (top s.data.toList)) := fun h => str_form _ (chk_form3 h)
  have fq : ∀ h : chk (bot s.data.toList) ≠ 3, str (bot s.data.toList) = Tx (ival (bot s.data.toList)) := fun h => str_form _ (chk_form3 h)
  have i1 : ∀ h : chk (top s.data.toList) = 0, In (ival (top s.data.toList)) := fun h => by
    obtain ⟨f, l⟩ := chk_zeroF h; unfold In; rw [← body_nd f]; exact l
  have i2 : ∀ h : chk (bot s.data.toList) = 0, In (ival (bot s.data.toList)) := fun h => by
    obtain ⟨f, l⟩ := chk_zeroF h; unfold In; rw [← body_nd f]; exact l
  have HV : chkS s = chk2 s.data.toList := rfl
  rw [HV, hv]
  clear HV hv hgr0 hp hsz hs htab
  generalize ival (top s.data.toList) = x at *
  generalize ival (bot s.data.toList) = y at *
  generalize str (top s.data.toList) = p at *
  generalize str (bot s.data.toList) = q at *
  generalize chk (top s.data.toList) = c at *
  generalize chk (bot s.data.toList) = d at *
  by_cases h3 : c = 3 ∨ d = 3
  · rw [if_pos h3]
    have hb : c = 3 ∨ (c ≠ 3 ∧ d = 3) := by omega
    clear h3 fp fq lp lq HTAB i1 i2
    rcases hb with rfl | ⟨h, rfl⟩
    · go_enter Tryz.func115, Tryz.ntmps115
      go_wp2
      go_quiet ((go_at_call 96; first | (with_reducible exact Calls.quiet_of_same (C1.out _)) | (with_reducible exact Calls.quiet_of_same (C2.out _))))
      go_wp2
      go_ret
      exact ⟨rfl, below_drewN ((Gr.refl w).alloc _) _⟩
    · have h' : (c == 3) = false := beq_eq_false_iff_ne.2 h
      clear h
      go_enter Tryz.func115, Tryz.ntmps115
      go_wp2
      go_quiet ((go_at_call 96; first | (with_reducible exact Calls.quiet_of_same (C1.out _)) | (with_reducible exact Calls.quiet_of_same (C2.out _))))
      go_wp2
      go_ret
      exact ⟨rfl, below_drewN ((Gr.refl w).alloc _) _⟩
  · rw [if_neg h3]
    have h31 : c ≠ 3 := by omega
    have h32 : d ≠ 3 := by omega
    have e1 : (c == 3) = false := beq_eq_false_iff_ne.2 h31
    have e2 : (d == 3) = false := beq_eq_false_iff_ne.2 h32
    have ep := fp h31
    have eq := fq h32
    clear fp fq h3 h31 h32
    have is0 := Tx_is0 y
    have is1 := Tx_is1 y
    have C3 := Lib.hid (q_minus y)
    rw [← eq] at is0 is1 C3
    by_cases hy : y ≤ 0 ∨ y = 1
    · rw [if_pos hy]
      have hb : y = 0 ∨ y = 1 ∨ y < 0 := by omega
      clear hy i1 i2 ep eq lp lq HTAB
      rcases hb with rfl | rfl | h
      · rw [decide_eq_true rfl] at is0
        clear is1 C3
        go_enter Tryz.func115, Tryz.ntmps115
        go_wp2
        go_quiet ((go_at_call 96; first | (with_reducible exact Calls.quiet_of_same (C1.out _)) | (with_reducible exact Calls.quiet_of_same (C2.out _))))
        go_wp2
        go_ret
        exact ⟨rfl, below_drewN ((Gr.refl w).alloc _) _⟩
      · rw [decide_eq_false (by omega)] at is0
        rw [decide_eq_true rfl] at is1
        clear C3
        go_enter Tryz.func115, Tryz.ntmps115
        go_wp2
        go_quiet ((go_at_call 96; first | (with_reducible exact Calls.quiet_of_same (C1.out _)) | (with_reducible exact Calls.quiet_of_same (C2.out _))))
        go_wp2
        go_ret
        exact ⟨rfl, below_drewN ((Gr.refl w).alloc _) _⟩
      · rw [decide_eq_false (by omega)] at is0
        rw [decide_eq_false (by omega)] at is1
        rw [decide_eq_true h] at C3
        clear h
        go_enter Tryz.func115, Tryz.ntmps115
        go_wp2
        go_quiet ((go_at_call 96; first | (with_reducible exact Calls.quiet_of_same (C1.out _)) | (with_reducible exact Calls.quiet_of_same (C2.out _))))
        go_wp2_with fail
        refine (C3.out _).mono ?_
        rintro e w' ⟨rfl, rfl⟩
        go_wp2
        go_ret
        exact ⟨rfl, below_drewN ((Gr.refl w).alloc _) _⟩
    · rw [if_neg hy]
      rw [decide_eq_false (by omega)] at is0
      rw [decide_eq_false (by omega)] at is1
      rw [decide_eq_false (by omega)] at C3
      by_cases hz : c ≠ 0 ∨ d ≠ 0
      · rw [if_pos hz]
        have hb : c ≠ 0 ∨ (c = 0 ∧ d ≠ 0) := by omega
        clear hy hz i1 i2 ep eq lp lq HTAB
        rcases hb with h | ⟨rfl, h⟩
        all_goals
          have hne := beq_eq_false_iff_ne.2 h
          clear h
          go_enter Tryz.func115, Tryz.ntmps115
          go_wp2
          go_quiet ((go_at_call 96; first | (with_reducible exact Calls.quiet_of_same (C1.out _)) | (with_reducible exact Calls.quiet_of_same (C2.out _))))
          go_wp2_with fail
          refine (C3.out _).mono ?_
          rintro e w' ⟨rfl, rfl⟩
          go_wp2
          go_ret
          exact ⟨rfl, below_drewN ((Gr.refl w).alloc _) _⟩
      · rw [if_neg hz]
        obtain ⟨rfl, rfl⟩ : c = 0 ∧ d = 0 := by omega
        have ix := i1 rfl
        have iy := i2 rfl
        have C4 : Hid (∀ w, Tab w → Calls Tryz.prog 105 #[.string p, .string q] w (fun e w' => e = .returned (.tuple #[.string (Tx ((Nat.gcd x.natAbs y.natAbs : Nat) : Int)), .int .i64 0]) ∧ Gr w w')) := by
          intro w ht
          have H := i_Gcd (Tx x) (Tx y) w ix.len iy.len ht
          rw [opR_Tx ix iy, longR_in (gcd_in iy (by omega)), ← ep, ← eq] at H
          exact H
        have isg := Tx_is1 ((Nat.gcd x.natAbs y.natAbs : Nat) : Int)
        have lg := (gcd_in (a := x) iy (by omega)).sm.len2
        clear hy hz i1 i2 ep eq lp lq ix iy
        by_cases hd : Nat.gcd x.natAbs y.natAbs = 1
        · rw [decide_eq_true (by omega)] at isg
          rw [if_neg (by omega)]
          clear hd
          generalize Tx ((Nat.gcd x.natAbs y.natAbs : Nat) : Int) = g at *
          go_enter Tryz.func115, Tryz.ntmps115
          go_wp2
          go_quiet ((go_at_call 96; first | (with_reducible exact Calls.quiet_of_same (C1.out _)) | (with_reducible exact Calls.quiet_of_same (C2.out _))))
          go_wp2_with fail
          refine (C3.out _).mono ?_
          rintro e w' ⟨rfl, rfl⟩
          go_wp2_with fail
          refine (C4.out _ (htab_gr HTAB.out (below_drewN (Gr.refl _) _))).mono ?_
          rintro e w1 ⟨rfl, hg⟩
          have HG := Lib.hid (Gr.trans (below_drewN ((Gr.refl w).alloc _) _) hg); clear hg
          go_wp2
          go_ret
          exact ⟨rfl, HG.out⟩
        · rw [decide_eq_false (by omega)] at isg
          rw [if_pos hd]
          clear hd
          generalize Tx ((Nat.gcd x.natAbs y.natAbs : Nat) : Int) = g at *
          go_enter Tryz.func115, Tryz.ntmps115
          go_wp2
          go_quiet ((go_at_call 96; first | (with_reducible exact Calls.quiet_of_same (C1.out _)) | (with_reducible exact Calls.quiet_of_same (C2.out _))))
          go_wp2_with fail
          refine (C3.out _).mono ?_
          rintro e w' ⟨rfl, rfl⟩
          go_wp2_with fail
          refine (C4.out _ (htab_gr HTAB.out (below_drewN (Gr.refl _) _))).mono ?_
          rintro e w1 ⟨rfl, hg⟩
          have HG := Lib.hid (Gr.trans (below_drewN ((Gr.refl w).alloc _) _) hg); clear hg
          go_wp2
          go_ret
          exact ⟨rfl, HG.out⟩
end Go.Proofs.YtlbnibicehpobaaGreatDoor

/- The program's rational numbers: reading and writing. -/
namespace Go.Proofs.YtlbnibicehpobaaGreatDoor
open Go.RowKit Go.Shelf
open Z
attribute [local go_sem ↓] Go.wp_at_zero Go.wp_at_succ

/-- what read returns -/
def rT (s : ByteArray) : ByteArray := if chkS s = 0 then str (top s.data.toList) else ⟨#[]⟩
def rB (s : ByteArray) : ByteArray := if chkS s = 0 then str (bot s.data.toList) else ⟨#[]⟩
theorem rT_RT {r : Rat} (h : InR r) : rT (RT r) = Tx r.num := by unfold rT; rw [if_pos (chkS_RT h), (top_RT r).1, str_itoa]
theorem rB_RT {r : Rat} (h : InR r) : rB (RT r) = Tx (r.den : Int) := by unfold rB; rw [if_pos (chkS_RT h), (top_RT r).2.1, str_itoa]
theorem str_self (s : ByteArray) : str s.data.toList = s := rfl
set_option maxHeartbeats 2000000 in
set_option maxRecDepth 100000 in
theorem q_read (s : ByteArray) (hs : s.size ≤ 400000) (w : World) (hm : Mx w) (htab : Tab w) :
    Calls Tryz.prog 94 #[.string s] w (fun e w' => e = .returned (.tuple #[vFr (rT s) (rB s), .int .i64 (chkS s)]) ∧ Gr w w') := by
  have hg0 : Gr w (w.alloc (oFr ⟨#[]⟩ ⟨#[]⟩)) := (Gr.refl w).alloc _
  have HG0 := Lib.hid hg0
  have HF0 := Lib.hid (FB.new w ⟨#[]⟩ ⟨#[]⟩ 103)
  have HTAB := Lib.hid htab
  have HC := Lib.hid (q_cut s _ (hm.gr hg0) hs)
  have HE : Hid (chkS s = chk2 s.data.toList) := rfl
  cases hp : parted s.data.toList with
  | false =>
    have hv := chk2_unparted hp
    have ht := unparted_top hp
    rw [hp, ht.1, str_self] at HC
    have C1 := Lib.hid (fun w => i_Check s w (by unfold maxLen; omega))
    have H1 : Hid (rT s = if chkS s = 0 then s else ⟨#[]⟩) := by show _ = _; unfold rT; rw [ht.1, str_self]
    have H2 : Hid (rB s = if chkS s = 0 then ⟨#[49]⟩ else ⟨#[]⟩) := by show _ = _; unfold rB; rw [ht.2]; rfl
    rw [H1.out, H2.out, HE.out, hv]
    clear H1 H2 HE hv hp ht hs hm htab hg0
    generalize chk s.data.toList = c at *
    by_cases h0 : c = 0
    · subst h0
      simp only [if_true, Bool.false_eq_true, if_false] at HC ⊢
      go_enter Tryz.func94, Tryz.ntmps94
      go_wp2_with fail
      refine (HC.out).mono ?_
      rintro e w1 ⟨rfl, hg⟩
      have hF := HF0.out.gr hg
      obtain ⟨k1, k2, k3, k4⟩ := id hF
      have HF1 := Lib.hid hF
      have HG1 := Lib.hid (Gr.trans HG0.out hg)
      clear hg hF
      go_wp2_with fail
      refine (C1.out _).mono ?_
      rintro e w' ⟨rfl, rfl⟩
      go_wp2
      obtain ⟨F, G⟩ := HF1.out.store (p' := s) (q' := ⟨#[49]⟩) HG1.out (Nat.le_refl _)
      obtain ⟨F2, G2⟩ := F.store (p' := s) (q' := ⟨#[49]⟩) G (Nat.le_refl _)
      refine bodyPost_ret (v := .tuple #[vFr s ⟨#[49]⟩, .int .i64 0]) (by simp [results, Tryz.results94, go_sem, F2.c0, F2.c1]) rfl ⟨rfl, G2⟩
    · have hne : (c == 0) = false := beq_eq_false_iff_ne.2 h0
      rw [if_neg h0, if_neg h0]
      clear h0
      simp only [Bool.false_eq_true, if_false] at HC
      go_enter Tryz.func94, Tryz.ntmps94
      go_wp2_with fail
      refine (HC.out).mono ?_
      rintro e w1 ⟨rfl, hg⟩
      have hF := HF0.out.gr hg
      obtain ⟨k1, k2, k3, k4⟩ := id hF
      have HF1 := Lib.hid hF
      have HG1 := Lib.hid (Gr.trans HG0.out hg)
      clear hg hF
      go_wp2_with fail
      refine (C1.out _).mono ?_
      rintro e w' ⟨rfl, rfl⟩
      go_wp2
      obtain ⟨F, G⟩ := HF1.out.store (p' := s) (q' := ⟨#[49]⟩) HG1.out (Nat.le_refl _)
      obtain ⟨F2, G2⟩ := F.store (p' := ⟨#[]⟩) (q' := ⟨#[]⟩) G (Nat.le_refl _)
      refine bodyPost_ret (v := .tuple #[vFr ⟨#[]⟩ ⟨#[]⟩, .int .i64 c]) (by simp [results, Tryz.results94, go_sem, F2.c0, F2.c1]) rfl ⟨rfl, G2⟩
  | true =>
    have C1 := Lib.hid (q_check s hs hp)
    rw [hp] at HC
    simp only [if_true] at HC
    unfold rT rB
    clear HE hp hs hm htab hg0
    generalize str (top s.data.toList) = p at *
    generalize str (bot s.data.toList) = q at *
    generalize chkS s = c at *
    by_cases h0 : c = 0
    · subst h0
      simp only [if_true]
      go_enter Tryz.func94, Tryz.ntmps94
      go_wp2_with fail
      refine (HC.out).mono ?_
      rintro e w1 ⟨rfl, hg⟩
      have hF := HF0.out.gr hg
      obtain ⟨k1, k2, k3, k4⟩ := id hF
      have HG1 := Lib.hid (Gr.trans HG0.out hg)
      obtain ⟨F, G⟩ := hF.store (p' := p) (q' := q) HG1.out (Nat.le_refl _)
      have HF1 := Lib.hid F
      have HG2 := Lib.hid G
      have HT := Lib.hid (htab_gr HTAB.out G)
      clear hg hF F G
      go_wp2_with fail
      refine (C1.out _ HT.out).mono ?_
      rintro e w2 ⟨rfl, hg⟩
      have hF := HF1.out.gr hg
      have HG3 := Lib.hid (Gr.trans HG2.out hg)
      have HF2 := Lib.hid hF
      clear k1 k2 k3 k4
      obtain ⟨k1, k2, k3, k4⟩ := id hF
      clear hg hF
      go_wp2
      obtain ⟨F2, G2⟩ := HF2.out.store (p' := p) (q' := q) HG3.out (Nat.le_refl _)
      refine bodyPost_ret (v := .tuple #[vFr p q, .int .i64 0]) (by simp [results, Tryz.results94, go_sem, F2.c0, F2.c1]) rfl ⟨rfl, G2⟩
    · have hne : (c == 0) = false := beq_eq_false_iff_ne.2 h0
      rw [if_neg h0, if_neg h0]
      clear h0
      go_enter Tryz.func94, Tryz.ntmps94
      go_wp2_with fail
      refine (HC.out).mono ?_
      rintro e w1 ⟨rfl, hg⟩
      have hF := HF0.out.gr hg
      obtain ⟨k1, k2, k3, k4⟩ := id hF
      have HG1 := Lib.hid (Gr.trans HG0.out hg)
      obtain ⟨F, G⟩ := hF.store (p' := p) (q' := q) HG1.out (Nat.le_refl _)
      have HF1 := Lib.hid F
      have HG2 := Lib.hid G
      have HT := Lib.hid (htab_gr HTAB.out G)
      clear hg hF F G
      go_wp2_with fail
      refine (C1.out _ HT.out).mono ?_
      rintro e w2 ⟨rfl, hg⟩
      have hF := HF1.out.gr hg
      have HG3 := Lib.hid (Gr.trans HG2.out hg)
      have HF2 := Lib.hid hF
      clear k1 k2 k3 k4
      obtain ⟨k1, k2, k3, k4⟩ := id hF
      clear hg hF
      go_wp2
      obtain ⟨F2, G2⟩ := HF2.out.store (p' := ⟨#[]⟩) (q' := ⟨#[]⟩) HG3.out (Nat.le_refl _)
      refine bodyPost_ret (v := .tuple #[vFr ⟨#[]⟩ ⟨#[]⟩, .int .i64 c]) (by simp [results, Tryz.results94, go_sem, F2.c0, F2.c1]) rfl ⟨rfl, G2⟩
end Go.Proofs.YtlbnibicehpobaaGreatDoor

/- The program's rational numbers: two at once; writing; products. -/
namespace Go.Proofs.YtlbnibicehpobaaGreatDoor
open Go.RowKit Go.Shelf
open Z
attribute [local go_sem ↓] Go.wp_at_zero Go.wp_at_succ

theorem cell_new2 (W : World) (c d : Int) (ty : TypeId) : (W.alloc (.cells #[.int .i64 c, .int .i64 d] ty)).cell? ⟨W.heap.size, 0, none⟩ = some (.int .i64 c) ∧ (W.alloc (.cells #[.int .i64 c, .int .i64 d] ty)).cell? ⟨W.heap.size, 1, none⟩ = some (.int .i64 d) := by simp
theorem first_at2 (a b : Int) (g : Nat) (w : World) (h0 : w.cell? ⟨g, 0, none⟩ = some (.int .i64 a)) (h1 : w.cell? ⟨g, 1, none⟩ = some (.int .i64 b)) :
    Calls Tryz.prog 130 #[.slice (some ⟨g, 0, none⟩) 2 2] w (fun e w' => e = .returned (.int .i64 (firstE [a, b])) ∧ w = w') := by
  refine q_first g [a, b] _ (by simp) fun i hi => ?_
  have : i = 0 ∨ i = 1 := by simp at hi; omega
  rcases this with rfl | rfl
  · exact h0
  · exact h1
theorem first_in2 (a b : Int) (g : Nat) (w W : World) (hG : Gr W w) (h0 : w.cell? ⟨g, 0, none⟩ = some (.int .i64 a)) (h1 : w.cell? ⟨g, 1, none⟩ = some (.int .i64 b)) :
    Calls Tryz.prog 130 #[.slice (some ⟨g, 0, none⟩) 2 2] w (fun e w' => e = .returned (.int .i64 (firstE [a, b])) ∧ Gr W w') :=
  (first_at2 a b g w h0 h1).mono fun _ _ ⟨e, h⟩ => ⟨e, h ▸ hG⟩
theorem first_at3 (a b c : Int) (g : Nat) (w : World) (h0 : w.cell? ⟨g, 0, none⟩ = some (.int .i64 a)) (h1 : w.cell? ⟨g, 1, none⟩ = some (.int .i64 b)) (h2 : w.cell? ⟨g, 2, none⟩ = some (.int .i64 c)) :
    Calls Tryz.prog 130 #[.slice (some ⟨g, 0, none⟩) 3 3] w (fun e w' => e = .returned (.int .i64 (firstE [a, b, c])) ∧ w = w') := by
  refine q_first g [a, b, c] _ (by simp) fun i hi => ?_
  have : i = 0 ∨ i = 1 ∨ i = 2 := by simp at hi; omega
  rcases this with rfl | rfl | rfl
  · exact h0
  · exact h1
  · exact h2
set_option maxHeartbeats 2000000 in
set_option maxRecDepth 100000 in
theorem q_readBoth (s t : ByteArray) (hs : s.size ≤ 400000) (ht : t.size ≤ 400000) (w : World) (hm : Mx w) (htab : Tab w) :
    Calls Tryz.prog 154 #[.string s, .string t] w (fun e w' => e = .returned (.tuple #[vFr (rT s) (rB s), vFr (rT t) (rB t), .int .i64 (both2 s t)]) ∧ Gr w w') := by
  have HG0 : Hid (Gr w ((w.alloc (oFr ⟨#[]⟩ ⟨#[]⟩)).alloc (oFr ⟨#[]⟩ ⟨#[]⟩))) := ((Gr.refl w).alloc _).alloc _
  have HF0 := Lib.hid ((FB.new w ⟨#[]⟩ ⟨#[]⟩ 103).alloc (oFr ⟨#[]⟩ ⟨#[]⟩))
  have HF0' := Lib.hid (FB.new (w.alloc (oFr ⟨#[]⟩ ⟨#[]⟩)) ⟨#[]⟩ ⟨#[]⟩ 103)
  rw [show (w.alloc (oFr ⟨#[]⟩ ⟨#[]⟩)).heap.size = w.heap.size + 1 by simp] at HF0'
  have HM := Lib.hid hm
  have HTAB := Lib.hid htab
  have HR1 := Lib.hid (fun w hm ht => q_read s hs w hm ht)
  have HR2 := Lib.hid (fun w hm htb => q_read t ht w hm htb)
  have HB : Hid (both2 s t = firstE [chkS s, chkS t]) := by show _ = _; rw [first2]; rfl
  rw [HB.out]
  clear HB hs ht hm htab
  generalize rT s = p at *
  generalize rB s = q at *
  generalize rT t = p' at *
  generalize rB t = q' at *
  generalize chkS s = c at *
  generalize chkS t = d at *
  go_enter Tryz.func154, Tryz.ntmps154
  go_wp2_with fail
  refine (HR1.out _ (HM.out.gr HG0.out) (htab_gr HTAB.out HG0.out)).mono ?_
  rintro e w1 ⟨rfl, hg⟩
  have hA := HF0.out.gr hg
  have hB := HF0'.out.gr hg
  obtain ⟨k1, k2, k3, k4⟩ := id hA
  obtain ⟨F, G⟩ := hA.store (p' := p) (q' := q) (Gr.trans HG0.out hg) (Nat.le_refl _)
  have HB1 := Lib.hid (hB.set (b' := w.heap.size) (o := 0) (u := .string p) (by omega))
  have HB2 := Lib.hid (HB1.out.set (b' := w.heap.size) (o := 1) (u := .string q) (by omega))
  have HA := Lib.hid F
  have HG := Lib.hid G
  clear F G hg hA hB
  go_wp2_with fail
  refine (HR2.out _ (HM.out.gr HG.out) (htab_gr HTAB.out HG.out)).mono ?_
  rintro e w2 ⟨rfl, hg⟩
  have hA := HA.out.gr hg
  have hB := HB2.out.gr hg
  clear k1 k2 k3 k4
  obtain ⟨k1, k2, k3, k4⟩ := id hB
  obtain ⟨F, G⟩ := hB.store (p' := p') (q' := q') (Gr.trans HG.out hg) (by omega)
  have HA1 := Lib.hid (hA.set (b' := w.heap.size + 1) (o := 0) (u := .string p') (by omega))
  have HA2 := Lib.hid (HA1.out.set (b' := w.heap.size + 1) (o := 1) (u := .string q') (by omega))
  have HB3 := Lib.hid F
  have HG2 := Lib.hid G
  clear F G hg hA hB HA1 HB1 HB2 HA HG0 HF0 HF0' HG
  have hneq : ¬ w.heap.size = w.heap.size + 1 := by omega
  go_wp2
  clear k1 k2 k3 k4
  obtain ⟨W, HW⟩ : ∃ W, W = (w2.setCell ⟨w.heap.size + 1, 0, none⟩ (.string p')).setCell ⟨w.heap.size + 1, 1, none⟩ (.string q') := ⟨_, rfl⟩
  rw [← HW] at HA2 HB3 HG2 ⊢
  clear HW
  have hS0 : (fun w' : World => FB w' w.heap.size p q ∧ FB w' (w.heap.size + 1) p' q') W.drew := ⟨HA2.out.gr (Gr.refl W).drew, HB3.out.gr (Gr.refl W).drew⟩
  have hD0 : Gr w W.drew := Gr.drew HG2.out
  have hlt : w.heap.size + 1 < W.heap.size := cell_lt HB3.out.c0
  refine wp_region_held (S := fun w' : World => FB w' w.heap.size p q ∧ FB w' (w.heap.size + 1) p' q') (by kernel_rfl) ?_
  refine wpAnyH_take (i := 0) (v := .agg #[.string p, .string q]) rfl (by kernel_rfl) (by kernel_rfl) (by kernel_rfl) (fun _ _ _ h => h) (Or.inl ⟨by rfl, ?_⟩) hS0 ?_
  · intro w hSw; obtain ⟨⟨p1, p2, p3, p4⟩, p5, p6, p7, p8⟩ := hSw; go_simp
  try dsimp only [Act.put]
  try simp only [List.setIfInBounds_toArray, List.set_cons_zero, List.set_cons_succ]
  refine wpAnyH_take (i := 1) (v := .agg #[.string p', .string q']) rfl (by kernel_rfl) (by kernel_rfl) (by kernel_rfl) (fun _ _ _ h => h) (Or.inl ⟨by rfl, ?_⟩) hS0 ?_
  · intro w hSw; obtain ⟨⟨p1, p2, p3, p4⟩, p5, p6, p7, p8⟩ := hSw; go_simp
  try dsimp only [Act.put]
  try simp only [List.setIfInBounds_toArray, List.set_cons_zero, List.set_cons_succ]
  refine wpAnyH_take (i := 2) (v := .int .i64 c) rfl (by kernel_rfl) (by kernel_rfl) (by kernel_rfl) (fun _ _ _ h => h) (Or.inl ⟨by rfl, ?_⟩) hS0 ?_
  · intro w hSw; obtain ⟨⟨p1, p2, p3, p4⟩, p5, p6, p7, p8⟩ := hSw; go_simp
  try dsimp only [Act.put]
  try simp only [List.setIfInBounds_toArray, List.set_cons_zero, List.set_cons_succ]
  refine wpAnyH_take (i := 3) (v := .int .i64 d) rfl (by kernel_rfl) (by kernel_rfl) (by kernel_rfl) (fun _ _ _ h => h) (Or.inl ⟨by rfl, ?_⟩) hS0 ?_
  · intro w hSw; obtain ⟨⟨p1, p2, p3, p4⟩, p5, p6, p7, p8⟩ := hSw; go_simp
  try dsimp only [Act.put]
  try simp only [List.setIfInBounds_toArray, List.set_cons_zero, List.set_cons_succ]
  refine wpAnyH_ready (rs := [4]) (by kernel_rfl) (by simp) (AllReadyH.cons rfl (fun K' hK' => ?_) AllReadyH.nil)
  go_simp
  refine hK'.out _ _ ⟨hS0.1.alloc _, hS0.2.alloc _⟩ (fun hS1 => ?_)
  clear hK' K' hS0
  try dsimp only [Act.put]
  try simp only [List.setIfInBounds_toArray, List.set_cons_zero, List.set_cons_succ]
  refine wpAnyH_ready (rs := [5]) (by kernel_rfl) (by simp) (AllReadyH.cons rfl (fun K' hK' => ?_) AllReadyH.nil)
  go_simp
  refine (first_in2 c d _ _ W (((Gr.refl W).drew).alloc _) ?_ ?_).mono ?_
  · exact (cell_new2 W.drew c d _).1
  · exact (cell_new2 W.drew c d _).2
  rintro e w3 ⟨rfl, hg3⟩
  have hx := HA2.out.gr hg3
  have hy := HB3.out.gr hg3
  have HG3 := Lib.hid (Gr.trans HG2.out hg3)
  have HX := Lib.hid hx
  have HY := Lib.hid hy
  obtain ⟨x1, x2, x3, x4⟩ := id hx
  obtain ⟨y1, y2, y3, y4⟩ := id hy
  refine hK'.out _ _ ⟨hx, hy⟩ (fun hS2 => ?_)
  clear hK' K' hS1 hg3 hx hy
  try dsimp only [Act.put]
  try simp only [List.setIfInBounds_toArray, List.set_cons_zero, List.set_cons_succ]
  refine wpAnyH_ready (rs := [6]) (by kernel_rfl) (by simp) (AllReadyH.cons rfl (fun K' hK' => ?_) AllReadyH.nil)
  go_simp
  obtain ⟨F, G⟩ := HX.out.store (p' := p) (q' := q) HG3.out (Nat.le_refl _)
  have hY1 := (HY.out.set (b' := w.heap.size) (o := 0) (u := .string p) (by omega)).set (b' := w.heap.size) (o := 1) (u := .string q) (by omega)
  have HX1 := Lib.hid F
  have HY1 := Lib.hid hY1
  have HG4 := Lib.hid G
  refine hK'.out _ _ ⟨F, hY1⟩ (fun hS3 => ?_)
  clear hK' K' hS2 F G hY1 x1 x2 x3 x4 y1 y2 y3 y4
  obtain ⟨y1, y2, y3, y4⟩ := id HY1.out
  try dsimp only [Act.put]
  try simp only [List.setIfInBounds_toArray, List.set_cons_zero, List.set_cons_succ]
  refine wpAnyH_ready (rs := [7]) (by kernel_rfl) (by simp) (AllReadyH.cons rfl (fun K' hK' => ?_) AllReadyH.nil)
  go_simp
  obtain ⟨F2, G2⟩ := HY1.out.store (p' := p') (q' := q') HG4.out (by omega)
  have hX2 := (HX1.out.set (b' := w.heap.size + 1) (o := 0) (u := .string p') (by omega)).set (b' := w.heap.size + 1) (o := 1) (u := .string q') (by omega)
  refine hK'.out _ _ ⟨hX2, F2⟩ (fun hS4 => ?_)
  clear hK' K' hS3
  try dsimp only [Act.put]
  try simp only [List.setIfInBounds_toArray, List.set_cons_zero, List.set_cons_succ]
  refine wpAnyH_ready (rs := [8]) (by kernel_rfl) (by simp) (AllReadyH.cons rfl (fun K' hK' => ?_) AllReadyH.nil)
  go_simp
  refine hK'.out _ _ ⟨hX2, F2⟩ (fun hS5 => wpAnyH_done (by kernel_rfl) ?_ _)
  go_wp2
  refine bodyPost_ret (v := .tuple #[vFr p q, vFr p' q', .int .i64 (firstE [c, d])]) (by simp [results, Tryz.results154, go_sem, hX2.c0, hX2.c1, F2.c0, F2.c1]) rfl ⟨rfl, G2⟩
end Go.Proofs.YtlbnibicehpobaaGreatDoor
