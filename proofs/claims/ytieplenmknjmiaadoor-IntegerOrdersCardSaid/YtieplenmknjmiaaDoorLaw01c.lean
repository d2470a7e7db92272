/- What the calls of the laws of layer 1 return, each from whatever world that has grown. -/
import Derived.Test.YtieplenmknjmiaaDoorLaw01a
import Derived.Test.YtieplenmknjmiaaDoorLaw01b
import Derived.Test.YtieplenmknjmiaaDoorInt06a
set_option linter.unusedVariables false
set_option linter.unusedSimpArgs false
namespace Go.Proofs.YtieplenmknjmiaaDoor
open Go.RowKit Go.Shelf
open Z

/-- from each world that has grown out of w0 the call returns v, and the world has only grown -/
def Ret (w0 : World) (f : FuncId) (args : Array Value) (v : Value) : Prop :=
  ∀ w, Gr w0 w → Calls Tryd.prog f args w (fun e w' => e = .returned v ∧ Gr w0 w')
theorem Ret.mk {w0 : World} {f : FuncId} {args : Array Value} {v : Value} (h : ∀ w, Gr w0 w → Calls Tryd.prog f args w (fun e w' => e = .returned v ∧ Gr w w')) : Ret w0 f args v :=
  fun w hg => (h w hg).mono fun _ _ ⟨h1, h2⟩ => ⟨h1, Gr.trans hg h2⟩
theorem Ret.same {w0 : World} {f : FuncId} {args : Array Value} {v : Value} (h : ∀ w, Calls Tryd.prog f args w (fun e w' => e = .returned v ∧ w = w')) : Ret w0 f args v :=
  fun w hg => (h w).mono fun _ _ ⟨h1, h2⟩ => ⟨h1, h2 ▸ hg⟩
theorem Ret.cast {w0 : World} {f : FuncId} {args : Array Value} {v v' : Value} (h : Ret w0 f args v) (e : v = v') : Ret w0 f args v' := e ▸ h
/-- a pair of a text and an int; two ints -/
def vSI (p : ByteArray × Int) : Value := .tuple #[.string p.1, .int .i64 p.2]
def vII (p : Int × Int) : Value := .tuple #[.int .i64 p.1, .int .i64 p.2]
theorem ret_awake {w0 : World} (ht : Tab w0) : Ret w0 13 #[] (.bool true) := .mk fun w hg => l1_awake w (htab_gr ht hg)

/-- an int of up to 4096 digits -/
def In (a : Int) : Prop := Lib.nDigits a.natAbs ≤ 4096
theorem In.sm {a : Int} (h : In a) : Sm 4096 a := ⟨h, by omega⟩
theorem Sm.in {k : Nat} {a : Int} (h : Sm k a) (hk : k ≤ 4096) : In a := Nat.le_trans h.1 hk
theorem In.chk {a : Int} (h : In a) : chk (Tx a).data.toList = 0 := by rw [chk_Tx, if_neg (by unfold In at h; omega)]
theorem In.both {a b : Int} (ha : In a) (hb : In b) : both (Tx a) (Tx b) = 0 := by unfold Go.Proofs.YtieplenmknjmiaaDoor.both; rw [if_pos ha.chk, hb.chk]
theorem opR_Tx {a b : Int} {f : Int → Int → ByteArray × Int} (ha : In a) (hb : In b) : opR (Tx a) (Tx b) f = f a b := opR_ok rfl rfl (ha.both hb)
theorem longR_in {x : Int} (h : In x) : longR x = (Tx x, 0) := longR_ok h
theorem In.len {a : Int} (h : In a) : (Tx a).size ≤ maxLen := h.sm.len
theorem cmpR_Tx {a b : Int} (ha : In a) (hb : In b) : cmpR (Tx a) (Tx b) = (cmpZ a b, 0) := by
  unfold cmpR; rw [if_pos (ha.both hb), data_Tx, data_Tx, ival_itoa, ival_itoa]
theorem In.zero : In 0 := by unfold In; rw [Lib.nDigits_small (by decide)]; omega
theorem In.lit {x : Int} (h : x.natAbs < 10 ^ 100) : In x := Nat.le_trans ((nDigits_le_iff _ 100 (by omega)).2 h) (by omega)

section
variable {w0 : World} (ht : Tab w0)
include ht
theorem ret_Add {a b : Int} (ha : In a) (hb : In b) (hr : In (a + b)) : Ret w0 27 #[.string (Tx a), .string (Tx b)] (.tuple #[.string (Tx (a + b)), .int .i64 0]) := .mk fun w hg => by
  have H := i_Add (Tx a) (Tx b) w ha.len hb.len (htab_gr ht hg)
  rw [opR_Tx ha hb, longR_in hr] at H; exact H
theorem ret_Sub {a b : Int} (ha : In a) (hb : In b) (hr : In (a - b)) : Ret w0 29 #[.string (Tx a), .string (Tx b)] (.tuple #[.string (Tx (a - b)), .int .i64 0]) := .mk fun w hg => by
  have H := i_Sub (Tx a) (Tx b) w ha.len hb.len (htab_gr ht hg)
  rw [opR_Tx ha hb, longR_in hr] at H; exact H
theorem ret_Mul {a b : Int} (ha : In a) (hb : In b) (hr : In (a * b)) : Ret w0 35 #[.string (Tx a), .string (Tx b)] (.tuple #[.string (Tx (a * b)), .int .i64 0]) := .mk fun w hg => by
  have H := i_Mul (Tx a) (Tx b) w ha.len hb.len (htab_gr ht hg)
  rw [opR_Tx ha hb, longR_in hr] at H; exact H
theorem ret_Gcd {a b : Int} (ha : In a) (hb : In b) (hr : In ((Nat.gcd a.natAbs b.natAbs : Nat) : Int)) : Ret w0 41 #[.string (Tx a), .string (Tx b)] (.tuple #[.string (Tx ((Nat.gcd a.natAbs b.natAbs : Nat) : Int)), .int .i64 0]) := .mk fun w hg => by
  have H := i_Gcd (Tx a) (Tx b) w ha.len hb.len (htab_gr ht hg)
  rw [opR_Tx ha hb, longR_in hr] at H; exact H
theorem ret_Quo {a b : Int} (ha : In a) (hb : In b) (h0 : b ≠ 0) (hr : In (a.fdiv b)) : Ret w0 37 #[.string (Tx a), .string (Tx b)] (.tuple #[.string (Tx (a.fdiv b)), .int .i64 0]) := .mk fun w hg => by
  have H := i_Quo (Tx a) (Tx b) w ha.len hb.len (htab_gr ht hg)
  rw [opR_Tx ha hb, if_neg h0, longR_in hr] at H; exact H
theorem ret_Rem {a b : Int} (ha : In a) (hb : In b) (h0 : b ≠ 0) (hr : In (a.fmod b)) : Ret w0 39 #[.string (Tx a), .string (Tx b)] (.tuple #[.string (Tx (a.fmod b)), .int .i64 0]) := .mk fun w hg => by
  have H := i_Rem (Tx a) (Tx b) w ha.len hb.len (htab_gr ht hg)
  rw [opR_Tx ha hb, if_neg h0, longR_in hr] at H; exact H
theorem ret_Neg {a : Int} (ha : In a) : Ret w0 31 #[.string (Tx a)] (.tuple #[.string (Tx (-a)), .int .i64 0]) := .mk fun w hg => by
  have H := i_Neg (Tx a) w ha.len (htab_gr ht hg)
  have hr : In (-a) := ha.sm.neg.in (Nat.le_refl _)
  rw [← Tx_zero, opR_Tx In.zero ha, Int.zero_sub, longR_in hr] at H; exact H
theorem ret_Of {n : Int} (h0 : -9223372036854775808 ≤ n) (h1 : n ≤ 9223372036854775807) : Ret w0 24 #[.int .i64 n] (.string (Tx n)) := .mk fun w hg => i_Of n w h0 h1 (htab_gr ht hg)
omit ht
theorem ret_Compare {a b : Int} (ha : In a) (hb : In b) : Ret w0 22 #[.string (Tx a), .string (Tx b)] (.tuple #[.int .i64 (cmpZ a b), .int .i64 0]) := .mk fun w _ => by
  have H := i_Compare (Tx a) (Tx b) w ha.len hb.len
  rw [cmpR_Tx ha hb] at H; exact H
theorem ret_Sign {a : Int} (ha : In a) : Ret w0 18 #[.string (Tx a)] (.tuple #[.int .i64 (cmpZ a 0), .int .i64 0]) := .mk fun w _ => by
  have H := i_Sign (Tx a) w ha.len
  rw [← Tx_zero, cmpR_Tx ha In.zero] at H; exact H
theorem ret_Abs {a : Int} (ha : In a) : Ret w0 32 #[.string (Tx a)] (.tuple #[.string (Tx (a.natAbs : Int)), .int .i64 0]) := .same fun w => by
  have H := i_Abs (Tx a) w ha.len
  unfold absR at H
  rw [if_pos ha.chk, str_body_Tx] at H; exact H
theorem ret_Check {s : ByteArray} (hs : s.size ≤ maxLen) : Ret w0 19 #[.string s] (.int .i64 (chk s.data.toList)) := .same fun w => i_Check s w hs
theorem ret_Small {s : ByteArray} (hs : s.size ≤ maxLen) (he : ErrR w0) : Ret w0 15 #[.string s] (vII (smallR s)) := .mk fun w hg => i_Small s w hs (he.gr hg)
end
/-- the new list of texts that a law hands to few and right -/
theorem strs_new1 (s : ByteArray) (w : World) (t : TypeId) : Strs (w.alloc (.cells #[.string s] t)) w.heap.size [s] := strs_one (by simp)
theorem strs_new2 (s t : ByteArray) (w : World) (ty : TypeId) : Strs (w.alloc (.cells #[.string s, .string t] ty)) w.heap.size [s, t] := strs_two (by simp) (by simp)
theorem strs_new3 (s t u : ByteArray) (w : World) (ty : TypeId) : Strs (w.alloc (.cells #[.string s, .string t, .string u] ty)) w.heap.size [s, t, u] := strs_three (by simp) (by simp) (by simp)
theorem mem1 {s : ByteArray} (hs : s.size ≤ maxLen) : ∀ x ∈ [s], x.size ≤ maxLen := fun x hx => by
  simp only [List.mem_singleton] at hx; subst hx; exact hs
theorem mem2 {s t : ByteArray} (hs : s.size ≤ maxLen) (ht : t.size ≤ maxLen) : ∀ x ∈ [s, t], x.size ≤ maxLen := fun x hx => by
  simp only [List.mem_cons, List.not_mem_nil, or_false] at hx
  rcases hx with rfl | rfl
  · exact hs
  · exact ht
theorem mem3 {s t u : ByteArray} (hs : s.size ≤ maxLen) (ht : t.size ≤ maxLen) (hu : u.size ≤ maxLen) : ∀ x ∈ [s, t, u], x.size ≤ maxLen := fun x hx => by
  simp only [List.mem_cons, List.not_mem_nil, or_false] at hx
  rcases hx with rfl | rfl | rfl
  · exact hs
  · exact ht
  · exact hu
theorem few_new1 (s : ByteArray) (w0 w : World) (ty : TypeId) (hg : Gr w0 w) (hs : s.size ≤ maxLen) :
    Calls Tryd.prog 12 #[.slice (some ⟨w.heap.size, 0, none⟩) 1 1] (w.alloc (.cells #[.string s] ty)) (fun e w' => e = .returned (.bool (fewB s)) ∧ Gr w0 w') := by
  refine (l1_few w.heap.size [s] 1 _ (by simp) (by simp) (strs_new1 s w ty) (mem1 hs)).mono ?_
  rintro e w' ⟨rfl, rfl⟩
  exact ⟨by simp, hg.alloc _⟩
theorem few_new2 (s t : ByteArray) (w0 w : World) (ty : TypeId) (hg : Gr w0 w) (hs : s.size ≤ maxLen) (ht : t.size ≤ maxLen) :
    Calls Tryd.prog 12 #[.slice (some ⟨w.heap.size, 0, none⟩) 2 2] (w.alloc (.cells #[.string s, .string t] ty)) (fun e w' => e = .returned (.bool (fewB s && fewB t)) ∧ Gr w0 w') := by
  refine (l1_few w.heap.size [s, t] 2 _ (by simp) (by simp) (strs_new2 s t w ty) (mem2 hs ht)).mono ?_
  rintro e w' ⟨rfl, rfl⟩
  exact ⟨by simp, hg.alloc _⟩
theorem right_new2 (s t : ByteArray) (w0 w : World) (ty : TypeId) (hg : Gr w0 w) (hs : s.size ≤ maxLen) (ht : t.size ≤ maxLen) :
    Calls Tryd.prog 44 #[.slice (some ⟨w.heap.size, 0, none⟩) 2 2] (w.alloc (.cells #[.string s, .string t] ty)) (fun e w' => e = .returned (.bool (rightB s && rightB t)) ∧ Gr w0 w') := by
  refine (l1_right w.heap.size [s, t] 2 _ (by simp) (by simp) (strs_new2 s t w ty) (mem2 hs ht)).mono ?_
  rintro e w' ⟨rfl, rfl⟩
  exact ⟨by simp, hg.alloc _⟩
theorem right_new3 (s t u : ByteArray) (w0 w : World) (ty : TypeId) (hg : Gr w0 w) (hs : s.size ≤ maxLen) (ht : t.size ≤ maxLen) (hu : u.size ≤ maxLen) :
    Calls Tryd.prog 44 #[.slice (some ⟨w.heap.size, 0, none⟩) 3 3] (w.alloc (.cells #[.string s, .string t, .string u] ty)) (fun e w' => e = .returned (.bool (rightB s && rightB t && rightB u)) ∧ Gr w0 w') := by
  refine (l1_right w.heap.size [s, t, u] 3 _ (by simp) (by simp) (strs_new3 s t u w ty) (mem3 hs ht hu)).mono ?_
  rintro e w' ⟨rfl, rfl⟩
  exact ⟨by simp [Bool.and_assoc], hg.alloc _⟩
/-- a right text is that of an int of up to 400 digits -/
theorem right_Tx {s : ByteArray} (h : rightB s = true) : ∃ a : Int, s = Tx a ∧ Sm 400 a := by
  unfold rightB at h
  rw [Bool.and_eq_true] at h
  have h1 : s.size ≤ 400 := of_decide_eq_true h.1
  have h2 : chk s.data.toList = 0 := by simpa using h.2
  rcases chk_cases s with h3 | ⟨a, rfl, _, _⟩
  · rw [h2] at h3; simp at h3
  · refine ⟨a, rfl, ?_, by omega⟩
    rw [size_Tx, itoa_length] at h1
    omega
end Go.Proofs.YtieplenmknjmiaaDoor
