/- What calls return from whatever world that has grown, and the operations of integers in this form. -/
import Derived.Test.YtlbnibicehpobaaGreatDoorRet0
import Derived.Test.YtlbnibicehpobaaGreatDoorIntH
import Derived.Test.YtlbnibicehpobaaGreatDoorInt06a
set_option linter.unusedVariables false
set_option linter.unusedSimpArgs false
namespace Go.Proofs.YtlbnibicehpobaaGreatDoor
open Go.RowKit Go.Shelf
open Z

theorem longR_ok {x : Int} (h : Lib.nDigits x.natAbs ≤ 4096) : longR x = (Tx x, 0) := by unfold longR; rw [if_neg (by omega)]
theorem longR_lit {x : Int} (h : x.natAbs < 10 ^ 100) : longR x = (Tx x, 0) :=
  longR_ok (Nat.le_trans ((nDigits_le_iff _ 100 (by omega)).2 h) (by omega))
theorem opR_lit {s t r : ByteArray} {f : Int → Int → ByteArray × Int} {x : Int} (h : both s t = 0) (hf : f (ival s.data.toList) (ival t.data.toList) = longR x) (hx : x.natAbs < 10 ^ 100)
    (hr : formB r.data.toList = true) (hrx : ival r.data.toList = x) : opR s t f = (r, 0) := by
  unfold opR; rw [if_pos h, hf, longR_lit hx, ← hrx, Tx_ival r hr]
theorem lit_len {s : ByteArray} (h : s.size ≤ 100) : s.size ≤ maxLen := by unfold maxLen; omega
theorem lit_Quo {s t r : ByteArray} {a b x : Int} (h : both s t = 0) (ha : ival s.data.toList = a) (hb : ival t.data.toList = b) (h0 : b ≠ 0) (hq : a.fdiv b = x) (hx : x.natAbs < 10 ^ 100)
    (hr : formB r.data.toList = true) (hrx : ival r.data.toList = x) (hs : s.size ≤ 100) (ht : t.size ≤ 100) (w : World) (htab : Tab w) :
    Calls Tryz.prog 95 #[.string s, .string t] w (fun e w' => e = .returned (.tuple #[.string r, .int .i64 0]) ∧ Gr w w') := by
  have H := i_Quo s t w (lit_len hs) (lit_len ht) htab
  rw [opR_lit (x := x) h (by rw [ha, hb]; simp only [if_neg h0, hq]) hx hr hrx] at H
  exact H
theorem lit_Rem {s t r : ByteArray} {a b x : Int} (h : both s t = 0) (ha : ival s.data.toList = a) (hb : ival t.data.toList = b) (h0 : b ≠ 0) (hq : a.fmod b = x) (hx : x.natAbs < 10 ^ 100)
    (hr : formB r.data.toList = true) (hrx : ival r.data.toList = x) (hs : s.size ≤ 100) (ht : t.size ≤ 100) (w : World) (htab : Tab w) :
    Calls Tryz.prog 123 #[.string s, .string t] w (fun e w' => e = .returned (.tuple #[.string r, .int .i64 0]) ∧ Gr w w') := by
  have H := i_Rem s t w (lit_len hs) (lit_len ht) htab
  rw [opR_lit (x := x) h (by rw [ha, hb]; simp only [if_neg h0, hq]) hx hr hrx] at H
  exact H
theorem lit_Gcd {s t r : ByteArray} {a b x : Int} (h : both s t = 0) (ha : ival s.data.toList = a) (hb : ival t.data.toList = b) (hq : ((Nat.gcd a.natAbs b.natAbs : Nat) : Int) = x) (hx : x.natAbs < 10 ^ 100)
    (hr : formB r.data.toList = true) (hrx : ival r.data.toList = x) (hs : s.size ≤ 100) (ht : t.size ≤ 100) (w : World) (htab : Tab w) :
    Calls Tryz.prog 105 #[.string s, .string t] w (fun e w' => e = .returned (.tuple #[.string r, .int .i64 0]) ∧ Gr w w') := by
  have H := i_Gcd s t w (lit_len hs) (lit_len ht) htab
  rw [opR_lit (x := x) h (by rw [ha, hb]; simp only [hq]) hx hr hrx] at H
  exact H
theorem lit_Add {s t r : ByteArray} {a b x : Int} (h : both s t = 0) (ha : ival s.data.toList = a) (hb : ival t.data.toList = b) (hq : a + b = x) (hx : x.natAbs < 10 ^ 100)
    (hr : formB r.data.toList = true) (hrx : ival r.data.toList = x) (hs : s.size ≤ 100) (ht : t.size ≤ 100) (w : World) (htab : Tab w) :
    Calls Tryz.prog 106 #[.string s, .string t] w (fun e w' => e = .returned (.tuple #[.string r, .int .i64 0]) ∧ Gr w w') := by
  have H := i_Add s t w (lit_len hs) (lit_len ht) htab
  rw [opR_lit (x := x) h (by rw [ha, hb]; simp only [hq]) hx hr hrx] at H
  exact H
theorem lit_Check {s : ByteArray} {c : Int} (h : chk s.data.toList = c) (hs : s.size ≤ 100) (w : World) :
    Calls Tryz.prog 96 #[.string s] w (fun e w' => e = .returned (.int .i64 c) ∧ w = w') := by
  have H := i_Check s w (lit_len hs)
  rw [h] at H; exact H


/-- an int of up to 4096 digits -/
def In (a : Int) : Prop := Lib.nDigits a.natAbs ≤ 4096
theorem In.sm {a : Int} (h : In a) : Sm 4096 a := ⟨h, by omega⟩
theorem Sm.in {k : Nat} {a : Int} (h : Sm k a) (hk : k ≤ 4096) : In a := Nat.le_trans h.1 hk
theorem In.chk {a : Int} (h : In a) : chk (Tx a).data.toList = 0 := by rw [chk_Tx, if_neg (by unfold In at h; omega)]
theorem In.both {a b : Int} (ha : In a) (hb : In b) : both (Tx a) (Tx b) = 0 := by unfold Go.Proofs.YtlbnibicehpobaaGreatDoor.both; rw [if_pos ha.chk, hb.chk]
theorem opR_Tx {a b : Int} {f : Int → Int → ByteArray × Int} (ha : In a) (hb : In b) : opR (Tx a) (Tx b) f = f a b := opR_ok rfl rfl (ha.both hb)
theorem longR_in {x : Int} (h : In x) : longR x = (Tx x, 0) := longR_ok h
theorem In.len {a : Int} (h : In a) : (Tx a).size ≤ maxLen := h.sm.len
theorem cmpR_Tx {a b : Int} (ha : In a) (hb : In b) : cmpR (Tx a) (Tx b) = (cmpZ a b, 0) := by
  unfold cmpR; rw [if_pos (ha.both hb), data_Tx, data_Tx, ival_itoa, ival_itoa]
theorem In.zero : In 0 := by unfold In; rw [Lib.nDigits_small (by decide)]; omega
theorem In.lit {x : Int} (h : x.natAbs < 10 ^ 100) : In x := Nat.le_trans ((nDigits_le_iff _ 100 (by omega)).2 h) (by omega)

section
variable {w0 : World} (ht : Tab w0)
include ht
theorem ret_Add {a b : Int} (ha : In a) (hb : In b) (hr : In (a + b)) : Ret w0 106 #[.string (Tx a), .string (Tx b)] (.tuple #[.string (Tx (a + b)), .int .i64 0]) := .mk fun w hg => by
  have H := i_Add (Tx a) (Tx b) w ha.len hb.len (htab_gr ht hg)
  rw [opR_Tx ha hb, longR_in hr] at H; exact H
theorem ret_Sub {a b : Int} (ha : In a) (hb : In b) (hr : In (a - b)) : Ret w0 104 #[.string (Tx a), .string (Tx b)] (.tuple #[.string (Tx (a - b)), .int .i64 0]) := .mk fun w hg => by
  have H := i_Sub (Tx a) (Tx b) w ha.len hb.len (htab_gr ht hg)
  rw [opR_Tx ha hb, longR_in hr] at H; exact H
theorem ret_Mul {a b : Int} (ha : In a) (hb : In b) (hr : In (a * b)) : Ret w0 107 #[.string (Tx a), .string (Tx b)] (.tuple #[.string (Tx (a * b)), .int .i64 0]) := .mk fun w hg => by
  have H := i_Mul (Tx a) (Tx b) w ha.len hb.len (htab_gr ht hg)
  rw [opR_Tx ha hb, longR_in hr] at H; exact H
theorem ret_Gcd {a b : Int} (ha : In a) (hb : In b) (hr : In ((Nat.gcd a.natAbs b.natAbs : Nat) : Int)) : Ret w0 105 #[.string (Tx a), .string (Tx b)] (.tuple #[.string (Tx ((Nat.gcd a.natAbs b.natAbs : Nat) : Int)), .int .i64 0]) := .mk fun w hg => by
  have H := i_Gcd (Tx a) (Tx b) w ha.len hb.len (htab_gr ht hg)
  rw [opR_Tx ha hb, longR_in hr] at H; exact H
theorem ret_Quo {a b : Int} (ha : In a) (hb : In b) (h0 : b ≠ 0) (hr : In (a.fdiv b)) : Ret w0 95 #[.string (Tx a), .string (Tx b)] (.tuple #[.string (Tx (a.fdiv b)), .int .i64 0]) := .mk fun w hg => by
  have H := i_Quo (Tx a) (Tx b) w ha.len hb.len (htab_gr ht hg)
  rw [opR_Tx ha hb, if_neg h0, longR_in hr] at H; exact H
theorem ret_Rem {a b : Int} (ha : In a) (hb : In b) (h0 : b ≠ 0) (hr : In (a.fmod b)) : Ret w0 123 #[.string (Tx a), .string (Tx b)] (.tuple #[.string (Tx (a.fmod b)), .int .i64 0]) := .mk fun w hg => by
  have H := i_Rem (Tx a) (Tx b) w ha.len hb.len (htab_gr ht hg)
  rw [opR_Tx ha hb, if_neg h0, longR_in hr] at H; exact H
theorem ret_Of {n : Int} (h0 : -9223372036854775808 ≤ n) (h1 : n ≤ 9223372036854775807) : Ret w0 102 #[.int .i64 n] (.string (Tx n)) := .mk fun w hg => i_Of n w h0 h1 (htab_gr ht hg)
omit ht
theorem ret_Check {s : ByteArray} (hs : s.size ≤ maxLen) : Ret w0 96 #[.string s] (.int .i64 (chk s.data.toList)) := .same fun w => i_Check s w hs
theorem ret_Small {s : ByteArray} (hs : s.size ≤ maxLen) (he : ErrR w0) : Ret w0 70 #[.string s] (vII (smallR s)) := .mk fun w hg => i_Small s w hs (he.gr hg)
end
end Go.Proofs.YtlbnibicehpobaaGreatDoor
