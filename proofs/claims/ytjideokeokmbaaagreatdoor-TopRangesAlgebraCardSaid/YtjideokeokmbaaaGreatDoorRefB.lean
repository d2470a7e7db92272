/- RefB: Ref01b, Ref01c, Ref01d, Ref01e, Ref01f, Ref01g, Ref01h, Ref01i, Ref01j, Ref01k, Div, Ref01l, Ref01m, Ref01n, Ref01o, joined. -/
import Derived.Test.YtjideokeokmbaaaGreatDoorRef01a
import Derived.Deep.QuietTactic
import Derived.BigQuiet
import Derived.Test.YtjideokeokmbaaaGreatDoorMath
set_option linter.unusedVariables false
set_option linter.unusedSimpArgs false

/- Contracts of the reference's functions on integers that have loops over a text. -/
namespace Go.Proofs.YtjideokeokmbaaaGreatDoor
open Go.RowKit
open Z

theorem chk_bad0 {l : List UInt8} (h : (body l).length = 0) : chk l = 3 := by
  unfold chk
  rw [if_neg]
  intro h2
  simp only [formB, Bool.and_eq_true, Bool.not_eq_true'] at h2
  have : body l = [] := List.eq_nil_of_length_eq_zero h
  rw [this] at h2; simp at h2
theorem chk_bad1 {l : List UInt8} (h : (body l).head? = some 48) (h1 : 1 < l.length) : chk l = 3 := by
  unfold chk
  rw [if_neg]
  intro h2
  simp [formB, h, h1] at h2
theorem chk_bad2 {l : List UInt8} {c : UInt8} (h : c ∈ body l) (h1 : ¬ (48 ≤ c.toNat ∧ c.toNat ≤ 57)) : chk l = 3 := by
  unfold chk
  rw [if_neg]
  intro h2
  simp only [formB, Bool.and_eq_true, List.all_eq_true] at h2
  exact h1 (isD_iff.1 (h2.1.1 c h))
theorem chk_right {l : List UInt8} (h0 : (body l).length ≠ 0) (h1 : ¬ ((body l).head? = some 48 ∧ 1 < l.length)) (h2 : ∀ c ∈ body l, 48 ≤ c.toNat ∧ c.toNat ≤ 57) : chk l = if 4096 < (body l).length then 23 else 0 := by
  unfold chk
  rw [if_pos]
  simp only [formB, Bool.and_eq_true, List.all_eq_true, Bool.not_eq_true', Bool.and_eq_false_iff, beq_eq_false_iff_ne, decide_eq_false_iff_not]
  refine ⟨⟨fun c hc => isD_iff.2 (h2 c hc), ?_⟩, ?_⟩
  · cases hb : body l with
    | nil => rw [hb] at h0; exact absurd rfl h0
    | cons => rfl
  · by_cases h3 : (body l).head? = some 48
    · exact .inr (fun h4 => h1 ⟨h3, h4⟩)
    · exact .inl h3

theorem head_of {t : ByteArray} {l : List UInt8} (h : t.data.toList = l) (hz : 0 < t.size) : l.head? = some t[0] := by
  subst h
  rw [List.head?_eq_getElem?, List.getElem?_eq_getElem (by simpa using hz)]; rfl
theorem mem_of {t : ByteArray} {l : List UInt8} (h : t.data.toList = l) {i : Nat} (hz : i < t.size) : t[i] ∈ l := by
  subst h
  rw [get_data]; exact List.getElem_mem _

/-- the integers of texts: ref.number -/
theorem take_snoc (l : List UInt8) (k : Nat) (h : k < l.length) : l.take (k + 1) = l.take k ++ [l[k]] := by
  rw [List.take_succ_eq_append_getElem h]
theorem dec_take_le (l : List UInt8) (k : Nat) (h : l.all isD = true) : dec (l.take k) < 10 ^ k := by
  have h1 : (l.take k).all isD = true := by
    rw [List.all_eq_true] at h ⊢
    exact fun x hx => h x (List.mem_of_mem_take hx)
  have := dec_lt _ h1
  have h2 : 10 ^ (l.take k).length ≤ 10 ^ k := Nat.pow_le_pow_right (by decide) (List.length_take_le _ _)
  omega
theorem pow17 {k : Nat} (h : k ≤ 17) : 10 ^ k ≤ 100000000000000000 := by
  have := Nat.pow_le_pow_right (show 0 < 10 by decide) h
  simpa using this
/-- ref.compare of two texts of digits -/
theorem dec_cmp (a b : List UInt8) (ha : a.all isD = true) (hb : b.all isD = true) (i : Nat) (hi : i < a.length) (hl : a.length = b.length) (hp : a.take i = b.take i) (hlt : a[i].toNat < (b[i]'(by omega)).toNat) : dec a < dec b := by
  have e1 : a = a.take i ++ a[i] :: a.drop (i + 1) := by rw [List.getElem_cons_drop, List.take_append_drop]
  have e2 : b = b.take i ++ (b[i]'(by omega)) :: b.drop (i + 1) := by rw [List.getElem_cons_drop, List.take_append_drop]
  rw [e1, e2, dec_append, dec_append, dec_cons, dec_cons, hp]
  rw [List.all_eq_true] at ha hb
  have h1 : (a.drop (i + 1)).all isD = true := by rw [List.all_eq_true]; exact fun x hx => ha x (List.mem_of_mem_drop hx)
  have h2 := dec_lt _ h1
  have h3 := isD_iff.1 (ha _ (List.getElem_mem hi))
  have h4 := isD_iff.1 (hb _ (List.getElem_mem (show i < b.length by omega)))
  have hL : (a.drop (i + 1)).length = (b.drop (i + 1)).length := by simp [hl]
  rw [hL] at h2 ⊢
  simp only [List.length_cons, hL]
  have h5 : dv a[i] + 1 ≤ dv (b[i]'(by omega)) := by unfold dv; omega
  have h6 : (dv a[i] + 1) * 10 ^ (b.drop (i + 1)).length ≤ dv (b[i]'(by omega)) * 10 ^ (b.drop (i + 1)).length := Nat.mul_le_mul_right _ h5
  rw [Nat.add_mul] at h6
  omega
def cmpN (n m : Nat) : Int := if n < m then -1 else if m < n then 1 else 0
theorem cmpN_lt {n m : Nat} (h : n < m) : cmpN n m = -1 := by unfold cmpN; rw [if_pos h]
theorem cmpN_gt {n m : Nat} (h : m < n) : cmpN n m = 1 := by unfold cmpN; rw [if_neg (by omega), if_pos h]
theorem cmpN_eq {n m : Nat} (h : n = m) : cmpN n m = 0 := by unfold cmpN; rw [if_neg (by omega), if_neg (by omega)]
theorem lt_of_digits {n m : Nat} (h : Lib.nDigits n < Lib.nDigits m) : n < m := by
  rcases Nat.lt_or_ge n m with h1 | h1
  · exact h1
  · exfalso
    have h2 := (nDigits_le_iff n (Lib.nDigits n) (Lib.nDigits_pos n)).1 (Nat.le_refl _)
    have h3 := (nDigits_le_iff m (Lib.nDigits n) (Lib.nDigits_pos n)).2 (by omega)
    omega
/-- what the walks know of the text of a natural number -/
theorem nat_text (n : Nat) : (Tx (n : Int)).data.toList = Lib.decDigits n := by rw [data_Tx]; unfold Lib.itoa; rw [if_neg (by omega)]; simp
theorem nat_digit (n : Nat) (i : Nat) (h : i < (Tx (n : Int)).size) : 48 ≤ (Tx (n : Int))[i].toNat ∧ (Tx (n : Int))[i].toNat ≤ 57 := by
  have hall := (dec_decDigits n).2.1
  rw [List.all_eq_true] at hall
  rw [get_data]
  simp only [nat_text]
  exact isD_iff.1 (hall _ (List.getElem_mem _))
theorem nat_cmp {s t : ByteArray} {n m : Nat} (hs : s = Tx (n : Int)) (ht : t = Tx (m : Int)) (hl : s.size = t.size) (i : Nat) (hi : i < s.size) (hi' : i < t.size)
    (hp : ∀ j (h1 : j < s.size) (h2 : j < t.size), j < i → s[j].toNat = t[j].toNat)
    (hlt : s[i].toNat < t[i].toNat) : n < m := by
  have hn := dec_decDigits n
  have hm := dec_decDigits m
  have es : s.data.toList = Lib.decDigits n := by rw [hs, nat_text]
  have et : t.data.toList = Lib.decDigits m := by rw [ht, nat_text]
  clear hs ht
  rw [← hn.1, ← hm.1]
  have ls : s.size = (Lib.decDigits n).length := by rw [← es]; simp
  have lt : t.size = (Lib.decDigits m).length := by rw [← et]; simp
  refine dec_cmp _ _ hn.2.1 hm.2.1 i (by omega) (by omega) ?_ ?_
  · apply List.ext_getElem
    · simp only [List.length_take]; omega
    · intro j h1 h2
      simp only [List.length_take] at h1 h2
      have := hp j (by omega) (by omega) (by omega)
      rw [get_data, get_data] at this
      simp only [es, et] at this
      simp only [List.getElem_take]
      exact UInt8.toNat_inj.1 this
  · rw [get_data, get_data] at hlt
    simp only [es, et] at hlt
    exact hlt
theorem nat_same {s t : ByteArray} {n m : Nat} (hs : s = Tx (n : Int)) (ht : t = Tx (m : Int)) (hl : s.size = t.size)
    (hp : ∀ j (h1 : j < s.size) (h2 : j < t.size), s[j].toNat = t[j].toNat) : n = m := by
  have h : s = t := by
    apply ba_ext
    apply List.ext_getElem
    · simpa using hl
    · intro j h1 h2
      have := hp j (by simpa using h1) (by simpa using h2)
      rw [get_data, get_data] at this
      exact UInt8.toNat_inj.1 this
  rw [hs, ht] at h
  have := Tx_inj h
  omega

end Go.Proofs.YtjideokeokmbaaaGreatDoor

/- Contracts of the reference's Whole, words and text. -/
namespace Go.Proofs.YtjideokeokmbaaaGreatDoor
open Go.RowKit
open Z

def ntx0 (u : Nat) : List UInt8 := if u = 0 then [] else Lib.decDigits u
theorem ntx0_step {u : Nat} (h : u ≠ 0) : ntx0 u = ntx0 (u / 10) ++ [UInt8.ofNat (48 + u % 10)] := by
  unfold ntx0
  rw [if_neg h]
  by_cases h1 : u < 10
  · rw [if_pos (by omega), Lib.decDigits, dif_pos h1, show u % 10 = u by omega]; rfl
  · rw [if_neg (by omega), Lib.decDigits, dif_neg h1]

theorem Tx_zero : Tx 0 = ⟨#[48]⟩ := by unfold Tx; rw [itoa_zero]
@[local go_sem] theorem conv1 (v : Int) (w : World) : (convert 82 9 (.slice (some ⟨w.heap.size, 0, none⟩) 1 1)).run Tryz.prog (w.alloc (.cells #[.int .u8 v] 5)) = .ok (.string ⟨#[UInt8.ofNat v.toNat]⟩) (w.alloc (.cells #[.int .u8 v] 5)) := by
  rw [run_convert_bytes_string _ 82 9 5 _ _ _ (by kernel_rfl) (by kernel_rfl) (by kernel_rfl)]
  have hl := run_loadCells_list (P := Tryz.prog) (w.alloc (.cells #[.int .u8 v] 5)) ⟨w.heap.size, 0, none⟩ ([v].map (Value.int .u8)) (fun j u hj => by
    match j, hj with
    | 0, hj => simp at hj; subst hj; simp [Addr.add, World.cell?_alloc_at])
  rw [run_bytesToString _ _ 1 1 [v] hl]
  rfl
theorem ntx0_itoa {n : Int} {l : List UInt8} (h0 : n ≠ 0) (h : ntx0 0 ++ l = ntx0 n.natAbs) : l = Lib.decDigits n.natAbs := by
  unfold ntx0 at h
  rw [if_pos rfl, if_neg (by omega)] at h
  simpa using h
theorem ntx0_push {u v : Nat} {t : ByteArray} {c : UInt8} {l : List UInt8} (h : ntx0 u ++ t.data.toList = l) (hu : u ≠ 0) (hv : v = u / 10) (hc : c = UInt8.ofNat (48 + u % 10)) :
    ntx0 v ++ ((⟨#[c]⟩ : ByteArray) ++ t).data.toList = l := by
  rw [← h, ntx0_step hu, hv, hc]
  simp [ByteArray.data_append]
theorem ntx0_room {u n : Nat} {t : ByteArray} (h : ntx0 u ++ t.data.toList = ntx0 n) (hn : n < 10000000000000000000) (hu : u ≠ 0) : t.size ≤ 18 := by
  have h1 := congrArg List.length h
  rw [List.length_append] at h1
  have h2 : t.data.toList.length = t.size := by simp
  rw [h2] at h1
  have h3 : (ntx0 n).length ≤ 19 := by
    unfold ntx0; split
    · simp
    · rw [Lib.decDigits_length]; exact (nDigits_le_iff n 19 (by omega)).2 (by omega)
  have h4 : 1 ≤ (ntx0 u).length := by
    unfold ntx0; rw [if_neg hu, Lib.decDigits_length]; exact Lib.nDigits_pos u
  omega
theorem size_push1 {t : ByteArray} {c : UInt8} {k : Nat} (h : t.size ≤ k) : ((⟨#[c]⟩ : ByteArray) ++ t).size ≤ k + 1 := by
  rw [ByteArray.size_append]
  have : (⟨#[c]⟩ : ByteArray).size = 1 := rfl
  omega
theorem neg_div10 {q : Int} (h : q < 0) : ∃ r d : Int, q.tmod 10 = -r ∧ q.tdiv 10 = -d ∧ 0 ≤ r ∧ r ≤ 9 ∧ 0 ≤ d ∧ Hid (r = ((q.natAbs % 10 : Nat) : Int)) ∧ Hid (d = ((q.natAbs / 10 : Nat) : Int)) := by
  obtain ⟨m, rfl⟩ : ∃ m : Nat, q = -(m : Int) := ⟨q.natAbs, by omega⟩
  refine ⟨((m % 10 : Nat) : Int), ((m / 10 : Nat) : Int), ?_, ?_, by omega, by omega, by omega, ?_, ?_⟩
  · rw [Int.neg_tmod]; rfl
  · rw [Int.neg_tdiv]; rfl
  · show _ = _; rw [Int.natAbs_neg, Int.natAbs_natCast]
  · show _ = _; rw [Int.natAbs_neg, Int.natAbs_natCast]
end Go.Proofs.YtjideokeokmbaaaGreatDoor

/- Contracts of the reference's words and text. -/
namespace Go.Proofs.YtjideokeokmbaaaGreatDoor
open Go.RowKit
open Z

/-- the value of words, the lowest first -/
def wv (B : Nat) : List Nat → Nat
  | [] => 0
  | x :: xs => x + B * wv B xs
theorem wv_append (B : Nat) (a b : List Nat) : wv B (a ++ b) = wv B a + B ^ a.length * wv B b := by
  induction a with
  | nil => simp [wv]
  | cons x a ih => simp only [List.cons_append, wv, ih, List.length_cons, Nat.pow_succ, Nat.mul_add]; rw [Nat.mul_comm (B ^ a.length) B, Nat.mul_assoc]; omega
theorem wv_snoc (B : Nat) (a : List Nat) (x : Nat) : wv B (a ++ [x]) = wv B a + B ^ a.length * x := by simp [wv_append, wv]
def small (B : Nat) (l : List Nat) : Prop := ∀ x ∈ l, x < B
theorem small_snoc {B : Nat} {l : List Nat} {x : Nat} (h : small B l) (hx : x < B) : small B (l ++ [x]) := by
  intro y hy; simp only [List.mem_append, List.mem_singleton] at hy; rcases hy with hy | hy
  · exact h y hy
  · omega
theorem wv_lt {B : Nat} {l : List Nat} (h : small B l) : wv B l < B ^ l.length := by
  induction l with
  | nil => simp [wv]
  | cons x l ih =>
    have h1 : x < B := h x (by simp)
    have h2 := ih (fun y hy => h y (by simp [hy]))
    simp only [wv, List.length_cons, Nat.pow_succ]
    have h3 : B * wv B l + B ≤ B * B ^ l.length := by rw [← Nat.mul_succ]; exact Nat.mul_le_mul_left _ h2
    rw [Nat.mul_comm (B ^ l.length) B]
    omega
def iv (k : IntKind) (l : List Nat) : List Value := l.map (fun (x : Nat) => Value.int k (x : Int))
theorem iv_length (k : IntKind) (l : List Nat) : (iv k l).length = l.length := by simp [iv]
theorem iv_snoc (k : IntKind) (l : List Nat) (x : Nat) : iv k (l ++ [x]) = iv k l ++ [.int k x] := by simp [iv]
/-- a slice of numbers that the call has made -/
def Own (e : TypeId) (k : IntKind) (B : Nat) (w : World) (v : Value) (xs : List Nat) : Prop := w.ownsRow B e 1 v xs.length (iv k xs)

theorem Own.nil (e : TypeId) (k : IntKind) (B : Nat) (w : World) : Own e k B w (.slice none 0 0) [] := World.ownsRow_nil _ _ _ _
def seg (l : List UInt8) (a b : Nat) : List UInt8 := (l.drop a).take (b - a)
theorem seg_self (l : List UInt8) (a : Nat) : seg l a a = [] := by simp [seg]
theorem seg_snoc (l : List UInt8) (a b : Nat) (h : a ≤ b) (hb : b < l.length) : seg l a (b + 1) = seg l a b ++ [l[b]] := by
  unfold seg
  rw [show b + 1 - a = (b - a) + 1 by omega, List.take_succ_eq_append_getElem (by simp; omega)]
  congr 2
  simp only [List.getElem_drop]
  congr 1; omega
theorem seg_drop (l : List UInt8) (a b : Nat) (h : a ≤ b) : l.drop a = seg l a b ++ l.drop b := by
  unfold seg
  have h1 := (List.take_append_drop (b - a) (l.drop a)).symm
  rw [List.drop_drop, show a + (b - a) = b by omega] at h1
  exact h1
theorem seg_all (l : List UInt8) (a b : Nat) (h : l.all isD = true) : (seg l a b).all isD = true := by
  rw [List.all_eq_true] at h ⊢
  exact fun x hx => h x (List.mem_of_mem_drop (List.mem_of_mem_take hx))
theorem seg_lt (l : List UInt8) (a b : Nat) (h : l.all isD = true) : dec (seg l a b) < 10 ^ (b - a) := by
  have h1 := dec_lt _ (seg_all l a b h)
  have h2 : 10 ^ (seg l a b).length ≤ 10 ^ (b - a) := Nat.pow_le_pow_right (by decide) (by unfold seg; exact List.length_take_le _ _)
  omega
theorem pow10_4 (n : Nat) : 10 ^ (4 * n) = 10000 ^ n := by rw [Nat.pow_mul]
theorem words_step {l : List UInt8} {xs : List Nat} {i lo : Nat} (hall : l.all isD = true) (hlo : lo ≤ i) (hi : i ≤ l.length) (hx : wv 10000 xs = dec (l.drop i)) (hn : l.length - i = 4 * xs.length) :
    wv 10000 (xs ++ [dec (seg l lo i)]) = dec (l.drop lo) := by
  rw [wv_snoc, hx, seg_drop l lo i hlo, dec_append, List.length_drop, hn, pow10_4, Nat.mul_comm]; omega

theorem Tryz.infoInt : (Tryz.prog.info? 3).map (fun i => (i.zero, i.size, i.bytes)) = some (some (.int .i64 0), 1, 8) := by kernel_rfl
def WordsRet (n k B : Nat) (w w' : World) (e : Ending) : Prop :=
  ∃ v xs, e = .returned v ∧ Own 3 .i64 B w' v xs ∧ wv 10000 xs = n ∧ small 10000 xs ∧ xs.length ≤ k ∧ Gr w w'

end Go.Proofs.YtjideokeokmbaaaGreatDoor

/- The contract of the reference's text. -/
namespace Go.Proofs.YtjideokeokmbaaaGreatDoor
open Go.RowKit
open Z

/-- a slice that reads as numbers -/
def Rd (k : IntKind) (w : World) (v : Value) (xs : List Nat) : Prop :=
  ∃ a cap, v = .slice a xs.length cap ∧ (xs.length ≤ cap ∧ cap ≤ maxLen) ∧ (xs = [] ∨ ∃ g off, a = some ⟨g, off, none⟩ ∧ g < w.heap.size ∧ ∀ i (h : i < xs.length), w.cell? ⟨g, off + i, none⟩ = some (.int k (xs[i] : Nat)))
theorem Own.form {e : TypeId} {k : IntKind} {B : Nat} {w : World} {v : Value} {xs : List Nat} (h : Own e k B w v xs) :
    ∃ a cap, v = .slice a xs.length cap ∧ (xs.length ≤ cap ∧ cap ≤ maxLen) ∧ (xs = [] ∨ ∃ g, a = some ⟨g, 0, none⟩ ∧ B ≤ g ∧ g < w.heap.size ∧ ∀ i (h : i < xs.length), w.cell? ⟨g, i, none⟩ = some (.int k (xs[i] : Nat))) := by
  have h1 := h.2
  rcases h1 with ⟨rfl, h2⟩ | ⟨g, cap, cur, rfl, hB, hg, hn1, hn2, _⟩
  · have : xs = [] := List.eq_nil_of_length_eq_zero h2
    subst this
    exact ⟨none, 0, rfl, ⟨by simp, by unfold maxLen; omega⟩, .inl rfl⟩
  · refine ⟨_, cap, rfl, ⟨hn1, hn2⟩, .inr ⟨g, rfl, hB, (Array.getElem?_eq_some_iff.1 hg).1, fun i hi => ?_⟩⟩
    have := World.ownsRow.cellAt h i (by omega)
    rw [this]
    simp [iv, hi]
theorem Own.rd {e : TypeId} {k : IntKind} {B : Nat} {w : World} {v : Value} {xs : List Nat} (h : Own e k B w v xs) : Rd k w v xs := by
  obtain ⟨a, cap, rfl, h0, h1⟩ := h.form
  refine ⟨a, cap, rfl, h0, ?_⟩
  rcases h1 with h1 | ⟨g, rfl, _, hg, hc⟩
  · exact .inl h1
  · exact .inr ⟨g, 0, rfl, hg, fun i hi => by rw [Nat.zero_add]; exact hc i hi⟩
theorem Rd.gr {k : IntKind} {w w' : World} {v : Value} {xs : List Nat} (h : Rd k w v xs) (hg : Gr w w') : Rd k w' v xs := by
  obtain ⟨a, cap, rfl, h0, h1⟩ := h
  refine ⟨a, cap, rfl, h0, ?_⟩
  rcases h1 with h1 | ⟨g, off, rfl, hg', hc⟩
  · exact .inl h1
  · exact .inr ⟨g, off, rfl, Nat.lt_of_lt_of_le hg' hg.size, fun i hi => (Below.cell hg (p := ⟨g, off + i, none⟩) hg').trans (hc i hi)⟩
/-- bytes that the call has made -/
def OwnB (B : Nat) (w : World) (v : Value) (l : List UInt8) : Prop := w.ownsRow B 5 1 v l.length (l.map fun c => Value.int .u8 (c.toNat : Int))
theorem OwnB.form {B : Nat} {w : World} {v : Value} {l : List UInt8} (h : OwnB B w v l) : ∃ a cap, v = .slice a l.length cap := by
  have h1 := h.2
  rcases h1 with ⟨rfl, h2⟩ | ⟨g, cap, cur, rfl, _⟩
  · exact ⟨none, 0, by rw [h2]⟩
  · exact ⟨_, cap, rfl⟩
theorem OwnB.convert {B : Nat} {w : World} {v : Value} {l : List UInt8} (h : OwnB B w v l) (hl : l ≠ []) :
    (convert 82 9 v).run Tryz.prog w = .ok (.string ⟨l.toArray⟩) w := by
  have h1 := h.2
  rcases h1 with ⟨rfl, h2⟩ | ⟨g, cap, cur, rfl, _⟩
  · exact absurd (List.eq_nil_of_length_eq_zero h2) hl
  · refine run_convert_bytes_back w 82 9 5 ⟨g, 0, none⟩ cap l (by kernel_rfl) (by kernel_rfl) (by kernel_rfl) (fun j hj => ?_)
    have := World.ownsRow.cells h (g := g) rfl j (.int .u8 (l[j].toNat : Int)) (by simp [hj])
    exact this
theorem Tryz.infoU8 : (Tryz.prog.info? 5).map (fun i => (i.zero, i.size, i.bytes)) = some (some (.int .u8 0), 1, 1) := by kernel_rfl

theorem ntx0_digit {V d : Nat} (hd : d < 10) (h : d ≠ 0 ∨ V ≠ 0) : ntx0 (10 * V + d) = ntx0 V ++ [UInt8.ofNat (48 + d)] := by
  rw [ntx0_step (show 10 * V + d ≠ 0 by omega), show (10 * V + d) / 10 = V by omega, show (10 * V + d) % 10 = d by omega]
theorem ntx0_nil {V : Nat} : (ntx0 V).length = 0 ↔ V = 0 := by
  unfold ntx0; split
  · simp [*]
  · rw [Lib.decDigits_length]; have := Lib.nDigits_pos V; omega
theorem ntx0_text (V : Nat) : (if V = 0 then (⟨#[48]⟩ : ByteArray) else ⟨(ntx0 V).toArray⟩) = Tx (V : Int) := by
  unfold ntx0
  split
  · rename_i h; subst h; exact Tx_zero.symm
  · apply ba_ext; rw [nat_text]
theorem wv_drop {l : List Nat} {i : Nat} (h : i < l.length) : wv 10000 (l.drop i) = l[i] + 10000 * wv 10000 (l.drop (i + 1)) := by
  rw [← List.getElem_cons_drop (h := h)]; rfl
theorem digits_le {a b k : Nat} (h : a ≤ b) (hb : Lib.nDigits b ≤ k) : Lib.nDigits a ≤ k := by
  have hk : 1 ≤ k := Nat.le_trans (Lib.nDigits_pos b) hb
  rw [nDigits_le_iff _ _ hk] at hb ⊢; omega
theorem ntx0_len (V k : Nat) (h : Lib.nDigits V ≤ k) : (ntx0 V).length ≤ k := by
  unfold ntx0; split
  · simp
  · rw [Lib.decDigits_length]; exact h

def TextRel (B : Nat) (T : Nat) (w : World) (v : Value) (wr : World) : Prop := OwnB B wr v (ntx0 T) ∧ Gr w wr

theorem one1 (x : Value) (h : x.oneCell' = true) : ∀ u ∈ [x], u.oneCell' = true := fun u hu => by simp at hu; subst hu; exact h
theorem split_dm {p m : Nat} (h : m < 10 * p) (hp : 0 < p) : ∃ d r : Nat, (m : Int).tdiv p = d ∧ (m : Int).tmod p = r ∧ Hid (m = p * d + r ∧ r < p) ∧ d < 10 ∧ r < p := by
  refine ⟨m / p, m % p, rfl, rfl, ⟨(Nat.div_add_mod m p).symm, Nat.mod_lt _ hp⟩, ?_, Nat.mod_lt _ hp⟩
  exact (Nat.div_lt_iff_lt_mul hp).2 h
theorem OwnB.push {B : Nat} {w : World} {v : Value} {V d : Nat} (hd : d < 10) (hne : d ≠ 0 ∨ V ≠ 0)
    (h : w.ownsRow B 5 1 v ((ntx0 V).length + 1) ((ntx0 V).map (fun c => Value.int .u8 (c.toNat : Int)) ++ [.int .u8 (48 + (d : Int))])) : OwnB B w v (ntx0 (10 * V + d)) := by
  unfold OwnB
  rw [ntx0_digit hd hne, List.length_append, List.map_append]
  have : ((UInt8.ofNat (48 + d)).toNat : Int) = 48 + (d : Int) := by rw [UInt8.toNat_ofNat']; omega
  simp only [List.map_cons, List.map_nil, this]
  exact h
end Go.Proofs.YtjideokeokmbaaaGreatDoor

/- Contracts of the reference's plus and minus. -/
namespace Go.Proofs.YtjideokeokmbaaaGreatDoor
open Go.RowKit
open Z

/-- append of one new number to a slice that the call has made -/
theorem push_own {e t : TypeId} {k : IntKind} {bytes : Nat} {i : TypeInfo} (hi : Tryz.prog.info? e = some i) (hz0 : i.zero = some (.int k 0)) (hz1 : i.size = 1) (hz2 : i.bytes = bytes) (hb : bytes ≤ 8)
    (ht : Tryz.prog.underlying t = some (.slice e)) {ops : Array Oper} {rest : List Oper} {o : Oper} {a : Act} {Q : Exit → Act → World → Prop} {w0 w : World} (hgd : o.guard = none) (s x : Operand)
    (ho : o.op = .call { callee := .builtin .append, args := #[s, x], argTypes := #[t, t] }) (v : Value) (xs : List Nat) (hs : a.eval s = v) (hown : Own e k w0.heap.size w v xs) (hg : Gr w0 w)
    (z : Int) (n : Nat) (hz : z = n) (hx : a.eval x = .slice (some ⟨w.heap.size, 0, none⟩) 1 1) (hlen : xs.length ≤ 3000000)
    (h : ∀ v' w', Hid (Own e k w0.heap.size w' v' (xs ++ [n])) → Gr w0 w' → wpList Tryz.prog ops Q rest (a.put o.dst v') w') :
    wpList Tryz.prog ops Q (o :: rest) a (w.alloc (.cells #[.int k z] e)) := by
  have hgs := hg.size
  refine wpList_append_own _ hgd s x t ho w0.heap.size e i (.int k 0) 1 bytes ht hi hz0 hz1 hz2 rfl (by decide) v xs.length (iv k xs) hs (World.ownsRow.alloc hown _) ⟨w.heap.size, 0, none⟩ 1 1 [.int k z] hx rfl (cell_one_new _ _ _) (one1 _ rfl)
    (by unfold maxLen; omega) (by have : (xs.length + 1) * bytes ≤ (xs.length + 1) * 8 := Nat.mul_le_mul_left _ hb
                                  omega) (by simp; omega) (fun v' w' hown' hgrow _ => h v' w' ?_ ?_)
  · show World.ownsRow _ _ _ _ _ _ _
    rw [iv_snoc, List.length_append, ← hz]; exact hown'
  · exact Below.grown (hg.alloc _) hgrow (by simp; omega) (fun k hk => (World.ownsRow.lt hown k hk).1)

theorem wv_take_succ (B : Nat) (l : List Nat) (i : Nat) : wv B (l.take (i + 1)) = wv B (l.take i) + B ^ i * l.getD i 0 := by
  by_cases h : i < l.length
  · rw [List.take_succ_eq_append_getElem h, wv_snoc, List.length_take, Nat.min_eq_left (by omega)]
    simp [h]
  · rw [List.take_of_length_le (by omega), List.take_of_length_le (by omega)]
    simp [h]
theorem small_getD {B : Nat} {l : List Nat} (hB : 0 < B) (h : small B l) (i : Nat) : l.getD i 0 < B := by
  by_cases hi : i < l.length
  · simp [hi]; exact h _ (List.getElem_mem hi)
  · simp [hi]; exact hB
/-- a number of a slice -/
theorem Rd.at {k : IntKind} {w w' : World} {a : Option Addr} {n cap : Nat} {xs : List Nat} (h : Rd k w (.slice a n cap) xs) (hg : Gr w w') (i : Nat) (hi : i < xs.length) :
    ∃ g off, a = some ⟨g, off, none⟩ ∧ w'.cell? ⟨g, off + i, none⟩ = some (.int k (xs.getD i 0 : Nat)) := by
  obtain ⟨a', cap', he, -, h1⟩ := h
  simp only [Value.slice.injEq] at he
  obtain ⟨rfl, -, -⟩ := he
  rcases h1 with h1 | ⟨g, off, rfl, hg', hc⟩
  · subst h1; simp at hi
  · refine ⟨g, off, rfl, ?_⟩
    rw [Below.cell hg (p := ⟨g, off + i, none⟩) hg', hc i hi]
    simp [hi]
theorem plus_step {T c x y i : Nat} {out : List Nat} {V : Nat} (hl : out.length = i) (h : wv 10000 out + 10000 ^ i * c = V) (hT : T = c + x + y) :
    wv 10000 (out ++ [T % 10000]) + 10000 ^ (i + 1) * (T / 10000) = V + 10000 ^ i * x + 10000 ^ i * y := by
  rw [wv_snoc, hl, ← h, Nat.pow_succ, Nat.mul_assoc, Nat.add_assoc, ← Nat.mul_add, Nat.mod_add_div, hT, Nat.mul_add, Nat.mul_add]
  omega
theorem Sm.add {k k' : Nat} {n m : Nat} (hn : Sm k n) (hm : Sm k' m) (h : max k k' + 1 ≤ 1000000) : Sm (max k k' + 1) ((n + m : Nat) : Int) := by
  refine ⟨?_, h⟩
  have h1 := hn.1
  have h2 := hm.1
  simp only [Int.natAbs_natCast] at h1 h2 ⊢
  have h1' := (nDigits_le_iff n (max k k') (by have := Lib.nDigits_pos n; omega)).1 (by omega)
  have h2' := (nDigits_le_iff m (max k k') (by have := Lib.nDigits_pos m; omega)).1 (by omega)
  rw [nDigits_le_iff _ _ (by omega), Nat.pow_succ]
  omega
theorem getD_out {l : List Nat} {i : Nat} (h : l.length ≤ i) : l.getD i 0 = 0 := by rw [List.getD_eq_getElem?_getD, List.getElem?_eq_none h]; rfl
end Go.Proofs.YtjideokeokmbaaaGreatDoor

/- The contract of the reference's minus. -/
namespace Go.Proofs.YtjideokeokmbaaaGreatDoor
open Go.RowKit
open Z

theorem minus_step {d b x y bo i : Nat} {out : List Nat} {V W : Nat} (hl : out.length = i) (h : wv 10000 out + V = W + 10000 ^ i * bo) (hT : d + y + bo = x + 10000 * b) :
    wv 10000 (out ++ [d]) + (V + 10000 ^ i * y) = (W + 10000 ^ i * x) + 10000 ^ (i + 1) * b := by
  have h1 : 10000 ^ i * (d + y + bo) = 10000 ^ i * (x + 10000 * b) := by rw [hT]
  rw [Nat.mul_add, Nat.mul_add, Nat.mul_add, ← Nat.mul_assoc] at h1
  rw [wv_snoc, hl, Nat.pow_succ]
  omega
theorem minus_end {out xa xb : List Nat} {n m bo : Nat} (hso : small 10000 out) (hl : out.length = xa.length) (ha : wv 10000 xa = n) (hb : wv 10000 xb = m) (hle : m ≤ n) (hsa : small 10000 xa)
    (h : wv 10000 out + wv 10000 (xb.take xa.length) = wv 10000 (xa.take xa.length) + 10000 ^ xa.length * bo) : wv 10000 out = n - m := by
  have h1 := wv_lt hso
  have h2 := wv_lt hsa
  have h3 := wv_append 10000 (xb.take xa.length) (xb.drop xa.length)
  rw [List.take_append_drop, hb] at h3
  rw [List.take_length, ha] at h
  rw [ha] at h2
  rw [hl] at h1
  rcases Nat.eq_zero_or_pos bo with hb0 | hb0
  · subst hb0
    simp only [Nat.mul_zero, Nat.add_zero] at h
    by_cases hd : wv 10000 (xb.drop xa.length) = 0
    · rw [hd] at h3; simp only [Nat.mul_zero, Nat.add_zero] at h3; omega
    · exfalso
      rcases Nat.lt_or_ge xb.length xa.length with h4 | h4
      · rw [List.drop_of_length_le (by omega)] at hd; exact hd rfl
      · rw [List.length_take, Nat.min_eq_left h4] at h3
        have h5 : 10000 ^ xa.length * 1 ≤ 10000 ^ xa.length * wv 10000 (xb.drop xa.length) := Nat.mul_le_mul_left _ (by omega)
        omega
  · exfalso
    have h5 : 10000 ^ xa.length * 1 ≤ 10000 ^ xa.length * bo := Nat.mul_le_mul_left _ hb0
    omega
theorem Sm.le {k : Nat} {n m : Nat} (hn : Sm k n) (h : m ≤ n) : Sm k (m : Int) := by
  refine ⟨?_, hn.2⟩
  have h1 := hn.1
  simp only [Int.natAbs_natCast] at h1 ⊢
  exact digits_le h h1

end Go.Proofs.YtjideokeokmbaaaGreatDoor

/- Contracts of the reference's Order, Sum and Diff. -/
namespace Go.Proofs.YtjideokeokmbaaaGreatDoor
open Go.RowKit
open Z

def cmpZ (a b : Int) : Int := if a < b then -1 else if b < a then 1 else 0
theorem cmpZ_lt {a b : Int} (h : a < b) : cmpZ a b = -1 := by unfold cmpZ; rw [if_pos h]
theorem cmpZ_gt {a b : Int} (h : b < a) : cmpZ a b = 1 := by unfold cmpZ; rw [if_neg (by omega), if_pos h]
theorem cmpN_nat (a b : Int) (ha : 0 ≤ a) (hb : 0 ≤ b) : cmpN a.natAbs b.natAbs = cmpZ a b := by unfold cmpN cmpZ; repeat' split <;> omega
theorem cmpN_neg (a b : Int) (ha : a < 0) (hb : b < 0) : cmpN b.natAbs a.natAbs = cmpZ a b := by unfold cmpN cmpZ; repeat' split <;> omega

theorem Calls.gr {P : Program} {f : FuncId} {args : Array Value} {w w0 : World} {v : Ending} (h : Calls P f args w fun e w' => e = v ∧ Gr w w') (hg : Gr w0 w) : Calls P f args w fun e w' => e = v ∧ Gr w0 w' :=
  Calls.mono h fun _ _ ⟨a, b⟩ => ⟨a, hg.trans b⟩
theorem Sm17 {a : Int} (h : (Tx a).size ≤ 17) : Sm 17 a := by
  rw [size_Tx, itoa_length] at h
  exact ⟨by omega, by omega⟩
theorem bd17 {a : Int} (h : (Tx a).size ≤ 17) : -100000000000000000 < a ∧ a < 100000000000000000 := by
  have h1 := (Sm17 h).1
  have h2 := (nDigits_le_iff a.natAbs 17 (by omega)).1 h1
  have h3 : 10 ^ 17 = 100000000000000000 := rfl
  omega
theorem Sm.addZ {k k' : Nat} {a b : Int} (ha : Sm k a) (hb : Sm k' b) (h : max k k' + 1 ≤ 1000000) : Sm (max k k' + 1) (a + b) := by
  have h1 := Sm.add (n := a.natAbs) (m := b.natAbs) ha.abs hb.abs h
  refine ⟨?_, h⟩
  have h2 := h1.1
  simp only [Int.natAbs_natCast] at h2
  exact digits_le (Int.natAbs_add_le a b) h2
theorem natAbs_add_same {a b : Int} (h : decide (a < 0) = decide (b < 0)) : (a + b).natAbs = a.natAbs + b.natAbs := by
  by_cases h1 : a < 0 <;> by_cases h2 : b < 0 <;> simp [h1, h2] at h <;> omega
theorem natCast_of_natAbs {a : Int} (h : 0 ≤ a) : (a.natAbs : Int) = a := by omega
end Go.Proofs.YtjideokeokmbaaaGreatDoor

/- The contract of the reference's times. -/
namespace Go.Proofs.YtjideokeokmbaaaGreatDoor
open Go.RowKit
open Z

theorem wv_set {B : Nat} {l : List Nat} {j d : Nat} (h : j < l.length) : wv B (l.set j d) + B ^ j * l.getD j 0 = wv B l + B ^ j * d := by
  induction l generalizing j with
  | nil => simp at h
  | cons x l ih =>
    cases j with
    | zero => simp [wv]; omega
    | succ j =>
      have := ih (j := j) (by simpa using h)
      simp only [List.set_cons_succ, wv, List.getD_cons_succ, Nat.pow_succ]
      have e1 : B ^ j * B * l.getD j 0 = B * (B ^ j * l.getD j 0) := by rw [Nat.mul_comm (B ^ j) B, Nat.mul_assoc]
      have e2 : B ^ j * B * d = B * (B ^ j * d) := by rw [Nat.mul_comm (B ^ j) B, Nat.mul_assoc]
      rw [e1, e2, Nat.add_assoc, ← Nat.mul_add, this, Nat.mul_add]; omega
theorem small_set {B : Nat} {l : List Nat} {j d : Nat} (h : small B l) (hd : d < B) : small B (l.set j d) := by
  intro x hx
  rcases List.mem_or_eq_of_mem_set hx with h1 | h1
  · exact h x h1
  · omega
theorem getD_set {l : List Nat} {j d i : Nat} (h : j < l.length) : (l.set j d).getD i 0 = if i = j then d else l.getD i 0 := by
  rw [List.getD_eq_getElem?_getD, List.getD_eq_getElem?_getD, List.getElem?_set]
  by_cases hij : j = i
  · subst hij; simp [h]
  · rw [if_neg hij, if_neg (fun e => hij e.symm)]
theorem wv_ge {B : Nat} {l : List Nat} {j : Nat} : B ^ j * l.getD j 0 ≤ wv B l := by
  induction l generalizing j with
  | nil => simp [wv]
  | cons x l ih =>
    cases j with
    | zero => simp [wv]
    | succ j =>
      have := ih (j := j)
      simp only [List.getD_cons_succ, wv, Nat.pow_succ]
      have e1 : B ^ j * B * l.getD j 0 = B * (B ^ j * l.getD j 0) := by rw [Nat.mul_comm (B ^ j) B, Nat.mul_assoc]
      have := Nat.mul_le_mul_left B this
      omega
theorem high_zero {B : Nat} {l : List Nat} {j : Nat} (h : wv B l < B ^ j) : l.getD j 0 = 0 := by
  have h1 := wv_ge (B := B) (l := l) (j := j)
  rcases Nat.eq_zero_or_pos (l.getD j 0) with h2 | h2
  · exact h2
  · have : B ^ j * 1 ≤ B ^ j * l.getD j 0 := Nat.mul_le_mul_left _ h2
    omega
theorem iv_set (k : IntKind) (l : List Nat) (j d : Nat) : iv k (l.set j d) = (iv k l).set j (.int k d) := by simp [iv, List.map_set]
/-- a slice of numbers that the call has made, at a known place -/
def OwnAt (e : TypeId) (k : IntKind) (g len cap : Nat) (w : World) (xs : List Nat) : Prop := xs.length = len ∧ w.ownsRow g e 1 (.slice (some ⟨g, 0, none⟩) len cap) len (iv k xs)
theorem OwnAt.cell {e : TypeId} {k : IntKind} {g len cap : Nat} {w : World} {xs : List Nat} (h : OwnAt e k g len cap w xs) (j : Nat) (hj : j < len) :
    w.cell? ⟨g, j, none⟩ = some (.int k (xs.getD j 0 : Nat)) ∧ w.frozen? ⟨g, j, none⟩ = false := by
  refine ⟨?_, World.ownsRow.frozenAt h.2 j⟩
  have := h.1
  rw [World.ownsRow.cellAt h.2 j (by omega)]
  have hj' : j < xs.length := by omega
  simp [iv, hj']
theorem OwnAt.set {e : TypeId} {k : IntKind} {g len cap : Nat} {w w0 : World} {xs : List Nat} (h : OwnAt e k g len cap w xs) (hg : Gr w0 w) (hb : w0.heap.size ≤ g) (j : Nat) (z : Int) (d : Nat) (hz : z = d) :
    OwnAt e k g len cap (w.setCell ⟨g, j, none⟩ (.int k z)) (xs.set j d) ∧ Gr w0 (w.setCell ⟨g, j, none⟩ (.int k z)) := by
  subst hz
  have h1 := World.ownsRow.stored h.2 j (.int k d)
  refine ⟨⟨by rw [List.length_set]; exact h.1, ?_⟩, Below.setCell hg hb _⟩
  rw [iv_set]
  exact h1.1
theorem OwnAt.rd {e : TypeId} {k : IntKind} {g len cap : Nat} {w : World} {xs : List Nat} (h : OwnAt e k g len cap w xs) : Rd k w (.slice (some ⟨g, 0, none⟩) len cap) xs := by
  obtain ⟨rfl, h⟩ := h
  exact Own.rd (e := e) (B := g) h
theorem OwnAt.drewN {e : TypeId} {k : IntKind} {g len cap : Nat} {w : World} {xs : List Nat} (h : OwnAt e k g len cap w xs) (n : Nat) : OwnAt e k g len cap (w.drewN n) xs := h
theorem iv_zeros (k : IntKind) (n : Nat) : (madeCells (Value.int k 0).cells (n * 1)).toList = iv k (List.replicate n 0) := by
  rw [Nat.mul_one]
  show (madeCells #[Value.int k 0] n).toList = _
  rw [toList_madeCells_one]; simp [iv]
theorem wv_zeros (B n : Nat) : wv B (List.replicate n 0) = 0 := by
  induction n with
  | zero => rfl
  | succ n ih => simp [List.replicate_succ, wv, ih]
theorem small_zeros {B : Nat} (n : Nat) (hB : 0 < B) : small B (List.replicate n 0) := by
  intro x hx; rw [List.eq_of_mem_replicate hx]; exact hB
theorem times_step {B i k c x y V Y T : Nat} {o : List Nat} (hj : i + k < o.length) (h : wv B o + c * B ^ (i + k) = V + x * Y * B ^ i) (hT : T = o.getD (i + k) 0 + c + x * y) :
    wv B (o.set (i + k) (T % B)) + T / B * B ^ (i + k + 1) = V + x * (Y + B ^ k * y) * B ^ i := by
  have h1 := wv_set (B := B) (d := T % B) hj
  have h2 : B ^ (i + k) * T = B ^ (i + k) * (o.getD (i + k) 0 + c + x * y) := by rw [hT]
  rw [Nat.mul_add, Nat.mul_add] at h2
  have h3 : B ^ (i + k) * T = B ^ (i + k) * (T % B) + T / B * B ^ (i + k + 1) := by
    rw [Nat.pow_succ, Nat.mul_comm (B ^ (i + k)) B, ← Nat.mul_assoc, Nat.mul_comm (T / B * B), ← Nat.mul_add, Nat.mul_comm (T / B) B, Nat.mod_add_div]
  have h4 : x * (Y + B ^ k * y) * B ^ i = x * Y * B ^ i + B ^ (i + k) * (x * y) := by
    rw [Nat.mul_add, Nat.add_mul, Nat.pow_add]
    congr 1
    ac_rfl
  have h5 : B ^ (i + k) * c = c * B ^ (i + k) := Nat.mul_comm _ _
  omega
theorem Sm.mul {k k' : Nat} {n m : Nat} (hn : Sm k n) (hm : Sm k' m) (h : k + k' ≤ 1000000) : Sm (k + k') ((n * m : Nat) : Int) := by
  refine ⟨?_, h⟩
  have h1 := hn.1
  have h2 := hm.1
  simp only [Int.natAbs_natCast] at h1 h2 ⊢
  have p1 := Lib.nDigits_pos n
  have p2 := Lib.nDigits_pos m
  have h1' := (nDigits_le_iff n k (by omega)).1 h1
  have h2' := (nDigits_le_iff m k' (by omega)).1 h2
  rw [nDigits_le_iff _ _ (by omega), Nat.pow_add]
  exact Nat.mul_lt_mul'' h1' h2'

theorem w_mul {z c x y B : Nat} (hB : 0 < B ∧ B ≤ 1000000000) (hz : z < B) (hc : c < B) (hx : x < B) (hy : y < B) :
    (wrap64 ((z : Int) + c + wrap64 ((x : Int) * y))).tdiv B = (((z + c + x * y) / B : Nat) : Int) ∧ wrap64 ((wrap64 ((z : Int) + c + wrap64 ((x : Int) * y))).tdiv B) = (((z + c + x * y) / B : Nat) : Int) ∧
      (wrap64 ((z : Int) + c + wrap64 ((x : Int) * y))).tmod B = (((z + c + x * y) % B : Nat) : Int) := by
  have h1 : x * y ≤ 1000000000 * 1000000000 := Nat.mul_le_mul (by omega) (by omega)
  have h2 : ((x : Int) * y) = ((x * y : Nat) : Int) := by rw [Int.natCast_mul]
  rw [h2]
  generalize x * y = p at h1
  have h3 : wrap64 (p : Int) = p := by simp only [wrap64]; omega
  have h4 : wrap64 ((z : Int) + c + p) = ((z + c + p : Nat) : Int) := by simp only [wrap64]; omega
  have h5 : (((z + c + p : Nat) : Int)).tdiv B = (((z + c + p) / B : Nat) : Int) := rfl
  have h6 : (((z + c + p : Nat) : Int)).tmod B = (((z + c + p) % B : Nat) : Int) := rfl
  have h7 : (z + c + p) / B ≤ z + c + p := Nat.div_le_self _ _
  rw [h3, h4, h5, h6]
  refine ⟨rfl, ?_, rfl⟩
  clear h5
  generalize (z + c + p) / B = q at h7
  simp only [wrap64]; omega
theorem mul_lt_pow {A : Nat} {l l' : List Nat} {i : Nat} (h : small A l) (h' : small A l') (hA : 0 < A) (hi : i ≤ l.length) : wv A (l.take i) * wv A l' < A ^ (i + l'.length) := by
  rw [Nat.pow_add]
  have h1 : wv A (l.take i) < A ^ (l.take i).length := wv_lt (fun x hx => h x (List.mem_of_mem_take hx))
  rw [List.length_take, Nat.min_eq_left hi] at h1
  exact Nat.mul_lt_mul'' h1 (wv_lt h')
end Go.Proofs.YtjideokeokmbaaaGreatDoor

/- The contract of the reference's divided. -/
namespace Go.Proofs.YtjideokeokmbaaaGreatDoor
open Go.RowKit
open Z

theorem Tx_digit (c : Nat) (h : c < 10) : Tx (c : Int) = ⟨#[UInt8.ofNat (48 + c)]⟩ := by
  apply ba_ext; rw [nat_text, Lib.decDigits, dif_pos h]
theorem Tx_snoc (r c : Nat) (hr : 0 < r) (hc : c < 10) : Tx (r : Int) ++ Tx (c : Int) = Tx ((10 * r + c : Nat) : Int) := by
  apply ba_ext
  rw [ByteArray.data_append, Array.toList_append, nat_text, nat_text, nat_text, Lib.decDigits.eq_1 c, dif_pos hc, Lib.decDigits.eq_1 (10 * r + c), dif_neg (by omega), show (10 * r + c) / 10 = r by omega, show (10 * r + c) % 10 = c by omega]
theorem extract_one (s : ByteArray) (i : Nat) (h : i < s.size) (c : Nat) (hc : s[i].toNat = 48 + c) (h10 : c < 10) : s.extract i (i + 1) = Tx (c : Int) := by
  rw [Tx_digit c h10]
  apply ba_ext
  rw [Lib.extract_data]
  have h1 : i < s.data.toList.length := by simpa using h
  rw [List.drop_eq_getElem_cons h1, show i + 1 - i = 1 by omega]
  simp only [List.take_succ_cons, List.take_zero, List.cons.injEq, and_true]
  rw [get_data] at hc
  have h3 : (UInt8.ofNat (48 + c)).toNat = 48 + c := by rw [UInt8.toNat_ofNat']; omega
  exact UInt8.toNat_inj.1 (hc.trans h3.symm)
theorem Sm.mk' {k n : Nat} (h : n < 10 ^ k) (hk : 1 ≤ k ∧ k ≤ 1000000) : Sm k (n : Int) := ⟨by simp only [Int.natAbs_natCast]; exact (nDigits_le_iff n k hk.1).2 h, hk.2⟩
theorem div_step {m Q r c R dd r' V : Nat} (h : V = Q * m + r) (hR : R = 10 * r + c) (hd : R = dd * m + r') : 10 * V + c = (10 * Q + dd) * m + r' := by
  rw [Nat.add_mul, Nat.mul_assoc, h, Nat.mul_add]; omega

theorem ownsRow_gr {w w' : World} {base : Nat} {e : TypeId} {size : Nat} {v : Value} {n : Nat} {xs : List Value} (h : w.ownsRow base e size v n xs) (hg : Gr w w') : w'.ownsRow base e size v n xs :=
  h.kept ⟨hg.os, hg.tape, hg.output, hg.size, fun k hk _ => hg.block k hk⟩ (row := none) (by cases hv : v.ownBlock <;> simp)
theorem OwnB.gr {B : Nat} {w w' : World} {v : Value} {l : List UInt8} (h : OwnB B w v l) (hg : Gr w w') : OwnB B w' v l := ownsRow_gr h hg
theorem Own.gr {e : TypeId} {k : IntKind} {B : Nat} {w w' : World} {v : Value} {xs : List Nat} (h : Own e k B w v xs) (hg : Gr w w') : Own e k B w' v xs := ownsRow_gr h hg
theorem ret_ss {s s' t t' : ByteArray} (h : s = s') (h' : t = t') : Ending.returned (.tuple #[.string s, .string t]) = .returned (.tuple #[.string s', .string t']) := by rw [h, h']
def DivRet (n m : Nat) (w w' : World) (e : Ending) : Prop := e = .returned (.tuple #[.string (Tx ((n / m : Nat) : Int)), .string (Tx ((n % m : Nat) : Int))]) ∧ Gr w w'

end Go.Proofs.YtjideokeokmbaaaGreatDoor

/- Contracts of the reference's Product, Floor, Rest, Common, Int and the functions with errors. -/
namespace Go.Proofs.YtjideokeokmbaaaGreatDoor
open Go.RowKit
open Z

theorem Sm.mulZ {k k' : Nat} {a b : Int} (ha : Sm k a) (hb : Sm k' b) (h : k + k' ≤ 1000000) : Sm (k + k') (a * b) := by
  have h1 := Sm.mul (n := a.natAbs) (m := b.natAbs) ha.abs hb.abs h
  refine ⟨?_, h⟩
  have h2 := h1.1
  rw [Int.natAbs_natCast] at h2
  rw [Int.natAbs_mul]
  exact h2
theorem signed_mul (a b : Int) : (if (decide (a < 0) != decide (b < 0)) then -((a.natAbs * b.natAbs : Nat) : Int) else ((a.natAbs * b.natAbs : Nat) : Int)) = a * b := by
  by_cases h1 : a < 0 <;> by_cases h2 : b < 0
  · obtain ⟨x, rfl⟩ : ∃ x : Nat, a = -x := ⟨a.natAbs, by omega⟩
    obtain ⟨y, rfl⟩ : ∃ y : Nat, b = -y := ⟨b.natAbs, by omega⟩
    simp only [h1, h2, bne_self_eq_false, Bool.false_eq_true, if_false, Int.natAbs_neg, Int.natAbs_natCast, Int.natCast_mul, Int.neg_mul_neg]
  · obtain ⟨x, rfl⟩ : ∃ x : Nat, a = -x := ⟨a.natAbs, by omega⟩
    obtain ⟨y, rfl⟩ : ∃ y : Nat, b = y := ⟨b.natAbs, by omega⟩
    simp only [h1, h2, decide_true, decide_false, Bool.bne_false, if_true, Int.natAbs_neg, Int.natAbs_natCast, Int.natCast_mul, Int.neg_mul]
  · obtain ⟨x, rfl⟩ : ∃ x : Nat, a = x := ⟨a.natAbs, by omega⟩
    obtain ⟨y, rfl⟩ : ∃ y : Nat, b = -y := ⟨b.natAbs, by omega⟩
    simp only [h1, h2, decide_true, decide_false, Bool.bne_true, Bool.not_false, if_true, Int.natAbs_neg, Int.natAbs_natCast, Int.natCast_mul, Int.mul_neg]
  · obtain ⟨x, rfl⟩ : ∃ x : Nat, a = x := ⟨a.natAbs, by omega⟩
    obtain ⟨y, rfl⟩ : ∃ y : Nat, b = y := ⟨b.natAbs, by omega⟩
    simp only [h1, h2, bne_self_eq_false, Bool.false_eq_true, if_false, Int.natAbs_natCast, Int.natCast_mul]
theorem short_mul {a b : Int} (h : (Tx a).size + (Tx b).size ≤ 17) : Sm 17 a ∧ Sm 17 b ∧ -100000000000000000 < a * b ∧ a * b < 100000000000000000 := by
  have s1 := size_Tx a
  have s2 := size_Tx b
  rw [itoa_length] at s1 s2
  have hb1 : Sm (Lib.nDigits a.natAbs) a := ⟨Nat.le_refl _, by omega⟩
  have hb2 : Sm (Lib.nDigits b.natAbs) b := ⟨Nat.le_refl _, by omega⟩
  have h3 := (Sm.mulZ hb1 hb2 (by omega)).1
  have h4 := (nDigits_le_iff (a * b).natAbs 17 (by omega)).1 (by omega)
  have h5 : 10 ^ 17 = 100000000000000000 := rfl
  refine ⟨⟨by omega, by omega⟩, ⟨by omega, by omega⟩, by omega, by omega⟩

end Go.Proofs.YtjideokeokmbaaaGreatDoor

/- Plain mathematics of division, rounded down, and of greatest common divisors. No program. -/
namespace Go.Proofs.YtjideokeokmbaaaGreatDoor.Z
open Go

theorem fdiv_pp (x m : Nat) : ((x : Int)).fdiv m = ((x / m : Nat) : Int) := by
  rw [Int.fdiv_eq_ediv_of_nonneg _ (by omega)]; rfl
theorem fdiv_np (x m : Nat) (hm : 0 < m) : (-(x : Int)).fdiv m = if x % m = 0 then -((x / m : Nat) : Int) else -((x / m : Nat) : Int) - 1 := by
  rw [Int.fdiv_eq_ediv_of_nonneg _ (by omega), Int.neg_ediv]
  have hs : (m : Int).sign = 1 := Int.sign_eq_one_of_pos (by omega)
  have hd : ((m : Int) ∣ (x : Int)) ↔ x % m = 0 := by rw [Int.natCast_dvd_natCast]; exact Nat.dvd_iff_mod_eq_zero
  by_cases h : x % m = 0
  · rw [if_pos (hd.2 h), if_pos h]; simp
  · rw [if_neg (fun e => h (hd.1 e)), if_neg h, hs]; rfl
/-- the quotient, rounded down, by magnitudes -/
theorem fdiv_by_abs (a b : Int) (hb : b ≠ 0) : a.fdiv b =
    if (decide (a < 0) != decide (b < 0)) then (if a.natAbs % b.natAbs = 0 then -((a.natAbs / b.natAbs : Nat) : Int) else -((a.natAbs / b.natAbs + 1 : Nat) : Int)) else ((a.natAbs / b.natAbs : Nat) : Int) := by
  by_cases h1 : a < 0 <;> by_cases h2 : b < 0
  · obtain ⟨x, rfl⟩ : ∃ x : Nat, a = -x := ⟨a.natAbs, by omega⟩
    obtain ⟨y, rfl⟩ : ∃ y : Nat, b = -y := ⟨b.natAbs, by omega⟩
    rw [Int.neg_fdiv_neg, fdiv_pp]
    simp only [h1, h2, bne_self_eq_false, Bool.false_eq_true, if_false, Int.natAbs_neg, Int.natAbs_natCast]
  · obtain ⟨x, rfl⟩ : ∃ x : Nat, a = -x := ⟨a.natAbs, by omega⟩
    obtain ⟨y, rfl⟩ : ∃ y : Nat, b = y := ⟨b.natAbs, by omega⟩
    rw [fdiv_np _ _ (by omega)]
    simp only [h1, h2, decide_true, decide_false, Bool.bne_false, if_true, Int.natAbs_neg, Int.natAbs_natCast]
    split <;> omega
  · obtain ⟨x, rfl⟩ : ∃ x : Nat, a = x := ⟨a.natAbs, by omega⟩
    obtain ⟨y, rfl⟩ : ∃ y : Nat, b = -y := ⟨b.natAbs, by omega⟩
    have h3 : ((x : Int)).fdiv (-(y : Int)) = (-(x : Int)).fdiv y := by
      have := Int.neg_fdiv_neg (-(x : Int)) (y : Int)
      rw [Int.neg_neg] at this; exact this
    rw [h3, fdiv_np _ _ (by omega)]
    simp only [h1, h2, decide_true, decide_false, Bool.bne_true, Bool.not_false, if_true, Int.natAbs_neg, Int.natAbs_natCast]
    split <;> omega
  · obtain ⟨x, rfl⟩ : ∃ x : Nat, a = x := ⟨a.natAbs, by omega⟩
    obtain ⟨y, rfl⟩ : ∃ y : Nat, b = y := ⟨b.natAbs, by omega⟩
    rw [fdiv_pp]
    simp only [h1, h2, bne_self_eq_false, Bool.false_eq_true, if_false, Int.natAbs_natCast]
theorem tdiv_abs (a b : Int) : a.tdiv b = if (decide (a < 0) != decide (b < 0)) then -((a.natAbs / b.natAbs : Nat) : Int) else ((a.natAbs / b.natAbs : Nat) : Int) := by
  by_cases h1 : a < 0 <;> by_cases h2 : b < 0
  · obtain ⟨x, rfl⟩ : ∃ x : Nat, a = -x := ⟨a.natAbs, by omega⟩
    obtain ⟨y, rfl⟩ : ∃ y : Nat, b = -y := ⟨b.natAbs, by omega⟩
    rw [Int.neg_tdiv_neg]
    simp only [h1, h2, bne_self_eq_false, Bool.false_eq_true, if_false, Int.natAbs_neg, Int.natAbs_natCast]; rfl
  · obtain ⟨x, rfl⟩ : ∃ x : Nat, a = -x := ⟨a.natAbs, by omega⟩
    obtain ⟨y, rfl⟩ : ∃ y : Nat, b = y := ⟨b.natAbs, by omega⟩
    rw [Int.neg_tdiv]
    simp only [h1, h2, decide_true, decide_false, Bool.bne_false, if_true, Int.natAbs_neg, Int.natAbs_natCast]; rfl
  · obtain ⟨x, rfl⟩ : ∃ x : Nat, a = x := ⟨a.natAbs, by omega⟩
    obtain ⟨y, rfl⟩ : ∃ y : Nat, b = -y := ⟨b.natAbs, by omega⟩
    rw [Int.tdiv_neg]
    simp only [h1, h2, decide_true, decide_false, Bool.bne_true, Bool.not_false, if_true, Int.natAbs_neg, Int.natAbs_natCast]; rfl
  · obtain ⟨x, rfl⟩ : ∃ x : Nat, a = x := ⟨a.natAbs, by omega⟩
    obtain ⟨y, rfl⟩ : ∃ y : Nat, b = y := ⟨b.natAbs, by omega⟩
    simp only [h1, h2, bne_self_eq_false, Bool.false_eq_true, if_false, Int.natAbs_natCast]; rfl
theorem tmod_zero (a b : Int) : a.tmod b = 0 ↔ a.natAbs % b.natAbs = 0 := by
  rw [← Int.dvd_iff_tmod_eq_zero, ← Nat.dvd_iff_mod_eq_zero, Int.natAbs_dvd_natAbs]
theorem fdiv_natAbs_le (a b : Int) (hb : b ≠ 0) : (a.fdiv b).natAbs ≤ a.natAbs := by
  rw [fdiv_by_abs a b hb]
  have h0 : 1 ≤ b.natAbs := by omega
  have h1 : a.natAbs / b.natAbs ≤ a.natAbs := Nat.div_le_self _ _
  have h5 : a.natAbs % b.natAbs ≠ 0 → a.natAbs / b.natAbs + 1 ≤ a.natAbs := by
    intro h2
    rcases Nat.lt_or_ge 1 b.natAbs with h | h
    · have h4 : a.natAbs ≠ 0 := fun e => by rw [e] at h2; simp at h2
      have := Nat.div_lt_self (by omega : 0 < a.natAbs) h
      omega
    · have : b.natAbs = 1 := by omega
      rw [this] at h2; exact absurd (Nat.mod_one _) h2
  generalize a.natAbs / b.natAbs = q at h1 h5
  split
  · split
    · omega
    · rename_i h2
      have := h5 h2
      omega
  · omega
theorem fmod_def' (a b : Int) : a - b * a.fdiv b = a.fmod b := by have := Int.mul_fdiv_add_fmod a b; omega
theorem fmod_natAbs_le (a b : Int) (hb : b ≠ 0) : (a.fmod b).natAbs < b.natAbs := by
  rcases Int.lt_or_gt_of_ne hb with h | h
  · have h1 := Int.neg_fmod_neg a b
    obtain ⟨y, rfl⟩ : ∃ y : Nat, b = -y := ⟨b.natAbs, by omega⟩
    have h2 := Int.fmod_nonneg_of_pos (-a) (show (0 : Int) < y by omega)
    have h3 := Int.fmod_lt_of_pos (-a) (show (0 : Int) < y by omega)
    have h4 := Int.neg_fmod_neg (-a) (y : Int)
    rw [Int.neg_neg] at h4
    rw [h4]; omega
  · have h2 := Int.fmod_nonneg_of_pos a h
    have h3 := Int.fmod_lt_of_pos a h
    omega
theorem fmod_pp (x m : Nat) : ((x : Int)).fmod m = ((x % m : Nat) : Int) := by
  rw [Int.fmod_eq_emod_of_nonneg _ (by omega)]; rfl
theorem gcd_step (n m : Nat) : Nat.gcd n m = Nat.gcd m (n % m) := by rw [Nat.gcd_comm m, ← Nat.gcd_rec, Nat.gcd_comm]
end Go.Proofs.YtjideokeokmbaaaGreatDoor.Z

/- Contracts of the reference's Floor, Rest, Common, Int and the functions with errors. -/
namespace Go.Proofs.YtjideokeokmbaaaGreatDoor
open Go.RowKit
open Z

theorem Sm.of_le {k : Nat} {a b : Int} (ha : Sm k a) (h : b.natAbs ≤ a.natAbs) : Sm k b := ⟨digits_le h ha.1, ha.2⟩
theorem Sm.one : Sm 1 ((1 : Nat) : Int) := ⟨by rw [Int.natAbs_natCast, Lib.nDigits_small (by omega)]; exact Nat.le_refl _, by omega⟩
theorem Sm.mono {k k' : Nat} {a : Int} (h : Sm k a) (hk : k ≤ k') (hk' : k' ≤ 1000000) : Sm k' a := ⟨Nat.le_trans h.1 hk, hk'⟩
theorem Tx_one : Tx ((1 : Nat) : Int) = ⟨#[49]⟩ := by
  rw [Tx_digit 1 (by omega)]; rfl

end Go.Proofs.YtjideokeokmbaaaGreatDoor

/- Contracts of the reference's Rest, Common, Int and the functions with errors. -/
namespace Go.Proofs.YtjideokeokmbaaaGreatDoor
open Go.RowKit
open Z

end Go.Proofs.YtjideokeokmbaaaGreatDoor

/- Contracts of the reference's functions with errors. -/
namespace Go.Proofs.YtjideokeokmbaaaGreatDoor
open Go.RowKit
open Z

theorem chk_cases (s : ByteArray) : (chk s.data.toList == 0) = false ∨ (∃ a : Int, s = Tx a ∧ Sm 4096 a ∧ chk s.data.toList = 0) := by
  rcases cases_text s with ⟨a, rfl⟩ | h
  · rw [chk_Tx]
    by_cases h : 4096 < Lib.nDigits a.natAbs
    · rw [if_pos h]; exact .inl rfl
    · rw [if_neg h]; exact .inr ⟨a, rfl, ⟨by omega, by omega⟩, rfl⟩
  · left; unfold chk; rw [h]; rfl
theorem chk_val (l : List UInt8) : chk l = 0 ∨ chk l = 3 ∨ chk l = 23 := by
  unfold chk; split
  · split
    · exact .inr (.inr rfl)
    · exact .inl rfl
  · exact .inr (.inl rfl)
/-- a result, or the error of too many digits -/
def longR (x : Int) : ByteArray × Int := if 4096 < Lib.nDigits x.natAbs then (⟨#[]⟩, 23) else (Tx x, 0)
def both (s t : ByteArray) : Int := if chk s.data.toList = 0 then chk t.data.toList else chk s.data.toList
/-- the result of an operation on two texts -/
def opR (s t : ByteArray) (f : Int → Int → ByteArray × Int) : ByteArray × Int :=
  if both s t = 0 then f (ival s.data.toList) (ival t.data.toList) else (⟨#[]⟩, both s t)
def retR (k : IntKind) (p : ByteArray × Int) : Ending := .returned (.tuple #[.string p.1, .int k p.2])
theorem opR_err {s t : ByteArray} {f : Int → Int → ByteArray × Int} (h : (both s t == 0) = false) : opR s t f = (⟨#[]⟩, both s t) := by
  unfold opR; rw [if_neg (by simpa using h)]
theorem opR_ok {s t : ByteArray} {f : Int → Int → ByteArray × Int} {a b : Int} (hs : s = Tx a) (ht : t = Tx b) (h : both s t = 0) : opR s t f = f a b := by
  unfold opR; rw [if_pos h, hs, ht, data_Tx, data_Tx, ival_itoa, ival_itoa]
theorem both_cases (s t : ByteArray) : (both s t == 0) = false ∨ (∃ a b : Int, s = Tx a ∧ t = Tx b ∧ Sm 4096 a ∧ Sm 4096 b ∧ both s t = 0) := by
  unfold both
  rcases chk_cases s with h | ⟨a, h1, h2, h3⟩
  · left; rw [if_neg (by simpa using h)]; exact h
  · rw [if_pos h3]
    rcases chk_cases t with h | ⟨b, h4, h5, h6⟩
    · exact .inl h
    · exact .inr ⟨a, b, h1, h4, h2, h5, h6⟩

theorem retR_mk {k : IntKind} {s : ByteArray} {z : Int} {p : ByteArray × Int} (h : p = (s, z)) : Ending.returned (.tuple #[.string s, .int k z]) = retR k p := by rw [h]; rfl
end Go.Proofs.YtjideokeokmbaaaGreatDoor

/- Contracts of the reference's Int, Small and Few. -/
namespace Go.Proofs.YtjideokeokmbaaaGreatDoor
open Go.RowKit
open Z

def minI : Int := -9223372036854775808
def maxI : Int := 9223372036854775807
def inI (a : Int) : Bool := decide (minI ≤ a) && decide (a ≤ maxI)
theorem Sm_minI : Sm 19 (-9223372036854775808 : Int) := ⟨(nDigits_le_iff _ 19 (by omega)).2 (by decide), by omega⟩
theorem Sm_maxI : Sm 19 (9223372036854775807 : Int) := ⟨(nDigits_le_iff _ 19 (by omega)).2 (by decide), by omega⟩
/-- the loop of ref.Int over the digits, from below -/
theorem int_bd {a : Int} (h : inI a = true) : -9223372036854775808 ≤ a ∧ a ≤ 9223372036854775807 := by
  unfold inI minI maxI at h
  rw [Bool.and_eq_true] at h
  exact ⟨of_decide_eq_true h.1, of_decide_eq_true h.2⟩
theorem cmp_min {a : Int} : (cmpZ a (-9223372036854775808) < 0) ↔ ¬ minI ≤ a := by unfold cmpZ minI; repeat' split <;> omega
theorem cmp_max {a : Int} : (0 < cmpZ a 9223372036854775807) ↔ ¬ a ≤ maxI := by unfold cmpZ maxI; repeat' split <;> omega
theorem ret_ib {x y : Int} {b : Bool} {k : IntKind} (h : x = y) : Ending.returned (.tuple #[.int k x, .bool b]) = .returned (.tuple #[.int k y, .bool b]) := by rw [h]
theorem ret_ii {x y x' y' : Int} {k k' : IntKind} (h : x = y) (h' : x' = y') : Ending.returned (.tuple #[.int k x, .int k' x']) = .returned (.tuple #[.int k y, .int k' y']) := by rw [h, h']
theorem dec_take_mono (l : List UInt8) (k : Nat) : dec (l.take k) ≤ dec l := by
  have h2 := dec_append (l.take k) (l.drop k)
  rw [List.take_append_drop] at h2
  have h3 : 1 ≤ 10 ^ (l.drop k).length := Nat.one_le_pow _ _ (by decide)
  have h4 : dec (l.take k) * 1 ≤ dec (l.take k) * 10 ^ (l.drop k).length := Nat.mul_le_mul_left _ h3
  omega
/-- the int of a text, or an error -/
def smallR (s : ByteArray) : Int × Int := if chk s.data.toList = 0 then (if inI (ival s.data.toList) then (ival s.data.toList, 0) else (0, 2)) else (0, chk s.data.toList)
end Go.Proofs.YtjideokeokmbaaaGreatDoor
