/- Plain mathematics of lists of records: all records of a text, and records one behind the other. No program. -/
import Derived.Test.YtlcpfhgobfjioaaDoorRcM
set_option linter.unusedVariables false
set_option linter.unusedSimpArgs false
namespace Go.Proofs.YtlcpfhgobfjioaaDoor.Rc
open Go

theorem nx_ok {r : List UInt8} (h : (nx r).2.2 = 0) : 5 ≤ (nx r).2.1 ∧ (nx r).2.1 ≤ r.length := by
  unfold nx at h ⊢
  by_cases h1 : r.length < 5
  · rw [if_pos h1] at h; cases h
  · rw [if_neg h1] at h ⊢
    by_cases h2 : r.length < 5 + (256 * bt r 1 + bt r 2)
    · simp only [if_pos h2] at h; cases h
    · simp only [if_neg h2] at h ⊢
      split at h
      · cases h
      · rename_i h3; rw [if_neg h3]; simp only []; omega
theorem nx_nz {r : List UInt8} (h : (nx r).2.2 ≠ 0) : nx r = ((0, .empty), 0, (nx r).2.2) ∧ ((nx r).2.2 = 20 ∨ (nx r).2.2 = 17) := by
  unfold nx at h ⊢
  by_cases h1 : r.length < 5
  · rw [if_pos h1] at h ⊢; exact ⟨rfl, .inl rfl⟩
  · rw [if_neg h1] at h ⊢
    by_cases h2 : r.length < 5 + (256 * bt r 1 + bt r 2)
    · simp only [if_pos h2] at h ⊢; exact ⟨trivial, .inl trivial⟩
    · simp only [if_neg h2] at h ⊢
      split at h
      · rename_i h3; rw [if_pos h3]; exact ⟨rfl, .inr rfl⟩
      · exact absurd rfl h

def alF : Nat → List UInt8 → List E × Nat × Int
  | 0, _ => ([], 0, 0)
  | f + 1, r => if r = [] then ([], 0, 0) else if (nx r).2.2 ≠ 0 then ([], 0, (nx r).2.2)
    else ((nx r).1 :: (alF f (r.drop (nx r).2.1)).1, (nx r).2.1 + (alF f (r.drop (nx r).2.1)).2.1, (alF f (r.drop (nx r).2.1)).2.2)
/-- the records of a text, up to the first error; where that is; its number -/
def al (r : List UInt8) : List E × Nat × Int := alF r.length r
theorem alF_more : ∀ (f g : Nat) (r : List UInt8), r.length ≤ f → r.length ≤ g → alF f r = alF g r := by
  intro f
  induction f with
  | zero =>
    intro g r hf hg
    have : r = [] := List.length_eq_zero_iff.1 (by omega)
    subst this
    cases g <;> simp [alF]
  | succ f ih =>
    intro g r hf hg
    by_cases hr : r = []
    · subst hr; cases g <;> simp [alF]
    · have hp : 0 < r.length := List.length_pos_iff.2 hr
      cases g with
      | zero => omega
      | succ g =>
        simp only [alF, hr, if_false]
        by_cases he : (nx r).2.2 = 0
        · have := nx_ok he
          have hl : (r.drop (nx r).2.1).length = r.length - (nx r).2.1 := List.length_drop
          simp only [he, ne_eq, not_true_eq_false, if_false]
          rw [ih g (r.drop (nx r).2.1) (by omega) (by omega)]
        · simp only [ne_eq, he, not_false_eq_true, if_true]
theorem al_nil : al [] = ([], 0, 0) := rfl
theorem al_err {r : List UInt8} (h0 : r ≠ []) (h : (nx r).2.2 ≠ 0) : al r = ([], 0, (nx r).2.2) := by
  have hp : 0 < r.length := List.length_pos_iff.2 h0
  unfold al
  obtain ⟨m, hm⟩ : ∃ m, r.length = m + 1 := ⟨r.length - 1, by omega⟩
  rw [hm]; simp only [alF, h0, if_false]; rw [if_pos h]
theorem al_cons {r : List UInt8} (h0 : r ≠ []) (h : (nx r).2.2 = 0) : al r = ((nx r).1 :: (al (r.drop (nx r).2.1)).1, (nx r).2.1 + (al (r.drop (nx r).2.1)).2.1, (al (r.drop (nx r).2.1)).2.2) := by
  have hp : 0 < r.length := List.length_pos_iff.2 h0
  have := nx_ok h
  have hl : (r.drop (nx r).2.1).length = r.length - (nx r).2.1 := List.length_drop
  obtain ⟨m, hm⟩ : ∃ m, r.length = m + 1 := ⟨r.length - 1, by omega⟩
  rw [al, hm]; simp only [alF, h0, if_false]
  rw [if_neg (by simp [h]), alF_more m _ (r.drop (nx r).2.1) (by omega) (Nat.le_refl _)]; rfl

/-- the number of the error of the first wrong record -/
def joE : List E → Int
  | [] => 0
  | x :: l => if chkE x ≠ 0 then chkE x else joE l
def joB (l : List E) : List UInt8 := (l.map pkE).flatten
theorem joB_cons (x : E) (l : List E) : joB (x :: l) = pkE x ++ joB l := by simp [joB]
theorem joB_append (a b : List E) : joB (a ++ b) = joB a ++ joB b := by simp [joB]
theorem joE_append (a b : List E) (h : joE a = 0) : joE (a ++ b) = joE b := by
  induction a with
  | nil => rfl
  | cons x l ih =>
    simp only [joE, List.cons_append] at h ⊢
    by_cases hx : chkE x = 0
    · simp only [hx, ne_eq, not_true_eq_false, if_false] at h ⊢; exact ih h
    · simp only [ne_eq, hx, not_false_eq_true, if_true] at h
theorem joE_ok {l : List E} : joE l = 0 ↔ ∀ x ∈ l, chkE x = 0 := by
  induction l with
  | nil => simp [joE]
  | cons x l ih =>
    simp only [joE, List.mem_cons, forall_eq_or_imp]
    by_cases hx : chkE x = 0
    · simp [hx, ih]
    · simp [hx]
theorem chkE_ok {x : E} : chkE x = 0 ↔ (0 ≤ x.1 ∧ x.1 ≤ 255) ∧ x.2.size ≤ 65535 := by
  unfold chkE
  by_cases h1 : x.1 < 0 ∨ 255 < x.1
  · rw [if_pos h1]; simp; omega
  · rw [if_neg h1]
    by_cases h2 : 65535 < x.2.size
    · rw [if_pos h2]; simp; omega
    · rw [if_neg h2]; simp; omega
theorem bs_data (b : ByteArray) : bs b.data.toList = b := by cases b; simp [bs]
theorem nx_pkE {x : E} (t : List UInt8) (h : chkE x = 0) : nx (pkE x ++ t) = (x, 5 + x.2.size, 0) := by
  obtain ⟨⟨h1, h2⟩, h3⟩ := chkE_ok.1 h
  unfold pkE
  rw [nx_pk _ _ t (by omega) (by rw [sz]; exact h3), bs_data, sz, show ((x.1.toNat : Nat) : Int) = x.1 by omega]
theorem pkE_len (x : E) : (pkE x).length = 5 + x.2.size := by unfold pkE; rw [pk_len, sz]
theorem pkE_ne (x : E) (t : List UInt8) : pkE x ++ t ≠ [] := by
  intro e; have := congrArg List.length e; simp [pkE_len] at this
theorem al_join (l : List E) (t : List UInt8) (h : ∀ x ∈ l, chkE x = 0) : al (joB l ++ t) = (l ++ (al t).1, (joB l).length + (al t).2.1, (al t).2.2) := by
  induction l with
  | nil => simp [joB]
  | cons x l ih =>
    have hx := h x (by simp)
    have e : joB (x :: l) ++ t = pkE x ++ (joB l ++ t) := by rw [joB_cons, List.append_assoc]
    have hn := nx_pkE (joB l ++ t) hx
    rw [e, al_cons (pkE_ne _ _) (by rw [hn])]
    simp only [hn]
    rw [List.drop_left' (pkE_len x), ih (fun y hy => h y (by simp [hy])), joB_cons, List.length_append, pkE_len]
    simp only [List.cons_append, Nat.add_assoc]
theorem al_join0 (l : List E) (h : ∀ x ∈ l, chkE x = 0) : al (joB l) = (l, (joB l).length, 0) := by
  have := al_join l [] h
  simpa [al_nil] using this
/-- where bytes are missing at the end, the records before are read -/
theorem al_torn (l : List E) (h : ∀ x ∈ l, chkE x = 0) : ∀ (m : Nat), m ≤ (joB l).length →
    ∃ j, j ≤ l.length ∧ (joB (l.take j)).length ≤ m ∧ al ((joB l).take m) = (l.take j, (joB (l.take j)).length, if (joB (l.take j)).length = m then 0 else 20) := by
  induction l with
  | nil => intro m hm; simp [joB] at hm; subst hm; exact ⟨0, by simp, by simp [joB], by simp [joB, al_nil]⟩
  | cons x l ih =>
    intro m hm
    have hx := h x (by simp)
    rw [joB_cons] at hm ⊢
    have hl := pkE_len x
    rw [List.length_append, hl] at hm
    by_cases hk : m < 5 + x.2.size
    · refine ⟨0, by simp, by simp [joB], ?_⟩
      by_cases h0 : m = 0
      · subst h0; simp [joB, al_nil]
      · obtain ⟨⟨h1, h2⟩, h3⟩ := chkE_ok.1 hx
        have hn : nx ((pkE x ++ joB l).take m) = ((0, .empty), 0, 20) := nx_torn _ _ _ (by rw [sz]; exact h3) (by rw [sz]; exact hk) (by omega)
        have hne : (pkE x ++ joB l).take m ≠ [] := by
          intro e; have := congrArg List.length e; simp [hl] at this; omega
        rw [al_err hne (by rw [hn]; simp), hn]
        simp [joB]; omega
    · obtain ⟨j, hj, hb, he⟩ := ih (fun y hy => h y (by simp [hy])) (m - (5 + x.2.size)) (by omega)
      have e : (pkE x ++ joB l).take m = pkE x ++ (joB l).take (m - (5 + x.2.size)) := by rw [List.take_append, hl, List.take_of_length_le (by omega)]
      have hn := nx_pkE ((joB l).take (m - (5 + x.2.size))) hx
      refine ⟨j + 1, by simp; omega, by rw [List.take_succ_cons, joB_cons, List.length_append, hl]; omega, ?_⟩
      rw [e, al_cons (pkE_ne _ _) (by rw [hn])]
      simp only [hn]
      rw [List.drop_left' hl, he, List.take_succ_cons, joB_cons, List.length_append, hl]
      simp only [Prod.mk.injEq, true_and]
      by_cases hq : (joB (l.take j)).length = m - (5 + x.2.size)
      · rw [if_pos hq, if_pos (by omega)]
      · rw [if_neg hq, if_neg (by omega)]
theorem bt_lt (l : List UInt8) (i : Nat) : bt l i < 256 := UInt8.toNat_lt _
theorem by8_bt {l : List UInt8} {i : Nat} (h : i < l.length) : by8 (bt l i) = l[i] := by
  unfold bt; rw [List.getD_eq_getElem?_getD, List.getElem?_eq_getElem h]; exact by8_back _
theorem take_drop3 {l : List UInt8} {m : Nat} (h : 3 ≤ m) (hm : m ≤ l.length) : l.take m = by8 (bt l 0) :: by8 (bt l 1) :: by8 (bt l 2) :: (l.take m).drop 3 := by
  rw [by8_bt (i := 0) (by omega), by8_bt (i := 1) (by omega), by8_bt (i := 2) (by omega)]
  match l, hm with
  | a :: b :: c :: t, hm =>
    obtain ⟨m, rfl⟩ : ∃ k, m = k + 3 := ⟨m - 3, by omega⟩
    simp
  | [], hm => simp at hm; omega
  | [_], hm => simp at hm; omega
  | [_, _], hm => simp at hm; omega
/-- what is read as a record has the bytes of it -/
theorem nx_back {r : List UInt8} (h : (nx r).2.2 = 0) : r.take (nx r).2.1 = pkE (nx r).1 ∧ chkE (nx r).1 = 0 ∧ (nx r).2.1 = 5 + (nx r).1.2.size := by
  obtain ⟨g1, g2⟩ := nx_ok h
  unfold nx at h g1 g2 ⊢
  by_cases h1 : r.length < 5
  · rw [if_pos h1] at h; cases h
  · rw [if_neg h1] at h g1 g2 ⊢
    have hb0 := bt_lt r 0
    have hb1 := bt_lt r 1
    have hb2 := bt_lt r 2
    by_cases h2 : r.length < 5 + (256 * bt r 1 + bt r 2)
    · simp only [if_pos h2] at h; cases h
    · simp only [if_neg h2] at h g1 g2 ⊢
      split at h
      · cases h
      · rename_i h3
        rw [if_neg h3] at g1 g2 ⊢
        simp only [] at g1 g2 ⊢
        have h3' : 256 * bt r (3 + (256 * bt r 1 + bt r 2)) + bt r (4 + (256 * bt r 1 + bt r 2)) = sm (r.take (3 + (256 * bt r 1 + bt r 2))) := by omega
        clear h h3
        have n256 : by8 ((256 * bt r 1 + bt r 2) / 256) = by8 (bt r 1) ∧ by8 ((256 * bt r 1 + bt r 2) % 256) = by8 (bt r 2) := ⟨by congr 1; omega, by congr 1; omega⟩
        generalize hn : 256 * bt r 1 + bt r 2 = n at *
        have hd1 : ((r.take (3 + n)).drop 3).length = n := by simp; omega
        have hsz : (bs ((r.take (3 + n)).drop 3)).size = n := by rw [← sz, data_bs, hd1]
        have hh : hd (bt r 0) ((r.take (3 + n)).drop 3) = r.take (3 + n) := by
          unfold hd two
          rw [hd1, n256.1, n256.2]
          exact (take_drop3 (by omega) (by omega)).symm
        refine ⟨?_, chkE_ok.2 ⟨⟨by simp, by simp; omega⟩, by rw [hsz]; omega⟩, by rw [hsz]⟩
        unfold pkE pk
        simp only [Int.toNat_natCast, data_bs, hh]
        rw [← h3']
        unfold two
        have a1 := bt_lt r (3 + n)
        have a2 := bt_lt r (4 + n)
        rw [show (256 * bt r (3 + n) + bt r (4 + n)) / 256 = bt r (3 + n) by omega, show (256 * bt r (3 + n) + bt r (4 + n)) % 256 = bt r (4 + n) by omega, by8_bt (by omega), by8_bt (by omega)]
        rw [show 5 + n = (3 + n) + 1 + 1 by omega, List.take_succ_eq_append_getElem (by omega), List.take_succ_eq_append_getElem (by omega)]
        simp only [List.append_assoc, List.cons_append, List.nil_append]
        congr 3
        congr 1; omega
theorem al_back : ∀ (n : Nat) (r : List UInt8), r.length ≤ n → r.take (al r).2.1 = joB (al r).1 ∧ (al r).2.1 ≤ r.length ∧ ∀ x ∈ (al r).1, chkE x = 0 := by
  intro n
  induction n with
  | zero => intro r h; rw [List.length_eq_zero_iff.1 (by omega : r.length = 0)]; simp [al_nil, joB]
  | succ n ih =>
    intro r h
    by_cases h0 : r = []
    · subst h0; simp [al_nil, joB]
    · by_cases he : (nx r).2.2 = 0
      · obtain ⟨b1, b2, b3⟩ := nx_back he
        obtain ⟨o1, o2⟩ := nx_ok he
        obtain ⟨c1, c2, c3⟩ := ih (r.drop (nx r).2.1) (by rw [List.length_drop]; omega)
        rw [List.length_drop] at c2
        rw [al_cons h0 he]
        refine ⟨?_, by simp only []; omega, ?_⟩
        · simp only []
          rw [joB_cons, ← b1, ← c1, List.take_add]
        · simp only [List.mem_cons, forall_eq_or_imp]; exact ⟨b2, c3⟩
      · rw [al_err h0 he]; simp [joB]
/-- another byte in the data is found -/
theorem nx_spoilt (x : E) (t p q : List UInt8) (b c : UInt8) (h : chkE x = 0) (hs : x.2.data.toList = p ++ b :: q) (hne : c ≠ b) (hm : ¬ (c.toNat + b.toNat = 255 ∧ (c.toNat = 0 ∨ b.toNat = 0))) :
    nx (by8 x.1.toNat :: (two x.2.size ++ (p ++ c :: q)) ++ two (sm (hd x.1.toNat x.2.data.toList)) ++ t) = ((0, .empty), 0, 17) := by
  obtain ⟨⟨h1, h2⟩, h3⟩ := chkE_ok.1 h
  have hl0 : (p ++ b :: q).length = x.2.size := by rw [← hs, sz]
  have hl1 : (p ++ c :: q).length = x.2.size := by rw [← hl0]; simp
  have e : by8 x.1.toNat :: (two x.2.size ++ (p ++ c :: q)) = hd x.1.toNat (p ++ c :: q) := by unfold hd; rw [hl1]
  rw [e, hs]
  have hl := hd_len x.1.toNat (p ++ c :: q)
  rw [hl1] at hl
  obtain ⟨b0, b1⟩ := hd_bt x.1.toNat (p ++ c :: q) (by omega) (by omega)
  rw [hl1] at b1
  have hs1 := sm_lt (hd x.1.toNat (p ++ b :: q))
  have hne2 : sm (hd x.1.toNat (p ++ b :: q)) ≠ sm (hd x.1.toNat (p ++ c :: q)) := by
    have e1 : hd x.1.toNat (p ++ b :: q) = (by8 x.1.toNat :: two x.2.size ++ p) ++ ([b] ++ q) := by unfold hd; rw [hl0]; simp
    have e2 : hd x.1.toNat (p ++ c :: q) = (by8 x.1.toNat :: two x.2.size ++ p) ++ ([c] ++ q) := by unfold hd; rw [hl1]; simp
    rw [e1, e2]
    generalize by8 x.1.toNat :: two x.2.size ++ p = P
    have f : ∀ b : UInt8, (sP (P ++ ([b] ++ q))).1 = ((sP P).1 + b.toNat + (sP q).1) % 255 := fun b => by
      rw [(sP_append _ _).1, (sP_append _ _).1]
      have : (sP [b]).1 = b.toNat % 255 := by simp [sP]
      rw [this]; omega
    have g1 := sP_lt (P ++ ([b] ++ q))
    have g2 := sP_lt (P ++ ([c] ++ q))
    intro hh
    unfold sm at hh
    have := f b
    have := f c
    have hb := UInt8.toNat_lt b
    have hc := UInt8.toNat_lt c
    have hnn : c.toNat ≠ b.toNat := fun e => hne (UInt8.toNat_inj.1 e)
    omega
  generalize sm (hd x.1.toNat (p ++ b :: q)) = S at hs1 hne2
  generalize hH : hd x.1.toNat (p ++ c :: q) = H at *
  have g : ∀ i, i < 3 → bt (H ++ two S ++ t) i = bt H i := fun i hi => by rw [List.append_assoc, bt_append _ _ (by omega)]
  have g3 : bt (H ++ two S ++ t) (3 + x.2.size) = bt (two S) 0 := by
    rw [List.append_assoc, bt_right _ _ (by omega), hl, Nat.sub_self, bt_append _ _ (by simp [two])]
  have g4 : bt (H ++ two S ++ t) (4 + x.2.size) = bt (two S) 1 := by
    rw [List.append_assoc, bt_right _ _ (by omega), hl, show 4 + x.2.size - (3 + x.2.size) = 1 by omega, bt_append _ _ (by simp [two])]
  have tk : (H ++ two S ++ t).take (3 + x.2.size) = H := by rw [List.append_assoc, List.take_left' hl]
  have hlen : (H ++ two S ++ t).length = 5 + x.2.size + t.length := by simp [hl, two]; omega
  unfold nx
  rw [hlen]
  simp only [g 1 (by omega), g 2 (by omega), b1, g3, g4, tk, two_bt hs1]
  rw [if_neg (by omega), if_neg (by omega), if_pos hne2]
end Go.Proofs.YtlcpfhgobfjioaaDoor.Rc
