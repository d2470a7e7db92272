/- Law 7: the classes of the lexer; the reader's next and run. -/
import Derived.Test.YtlcpfhgobfjioaaDoorLxB
set_option linter.unusedVariables false
set_option linter.unusedSimpArgs false
namespace Go.Proofs.YtlcpfhgobfjioaaDoor.Z
open Go
def letP (c : UInt8) : Bool := (decide (97 ≤ c.toNat) && decide (c.toNat ≤ 122)) || (decide (65 ≤ c.toNat) && decide (c.toNat ≤ 90))
def wordP (c : UInt8) : Bool := (letP c || isD c) || c == 95
def plainP (c : UInt8) : Bool := (decide (32 ≤ c.toNat) && decide (c.toNat ≤ 126)) && !(c == 34)
def signL : List UInt8 := [43, 45, 47, 46, 44, 64, 58, 61, 37, 40, 41]
def signP (c : UInt8) : Bool := signL.contains c
theorem all_byte {P : UInt8 → Prop} (h : ∀ n, n < 256 → P (UInt8.ofNat n)) (c : UInt8) : P c := by
  have := h c.toNat c.toNat_lt
  rwa [UInt8.ofNat_toNat] at this
theorem idx95 : ∀ n, n < 256 → decide (0 ≤ Lib.indexByte [95] (UInt8.ofNat n)) = (UInt8.ofNat n == 95) := by decide +kernel
theorem idx34 : ∀ n, n < 256 → decide (0 ≤ Lib.indexByte [34] (UInt8.ofNat n)) = (UInt8.ofNat n == 34) := by decide +kernel
theorem idx32 : ∀ n, n < 256 → decide (0 ≤ Lib.indexByte [32] (UInt8.ofNat n)) = (UInt8.ofNat n == 32) := by decide +kernel
theorem idx46 : ∀ n, n < 256 → decide (0 ≤ Lib.indexByte [46] (UInt8.ofNat n)) = (UInt8.ofNat n == 46) := by decide +kernel
theorem idxS : ∀ n, n < 256 → decide (0 ≤ Lib.indexByte signL (UInt8.ofNat n)) = signP (UInt8.ofNat n) := by decide +kernel
/-- how far the bytes of a class reach -/
def runK (p : UInt8 → Bool) (l : List UInt8) (k : Nat) : Nat := k + ((l.drop k).takeWhile p).length
theorem runK_in {p : UInt8 → Bool} {l : List UInt8} {k : Nat} (hk : k < l.length) (h : p l[k] = true) : runK p l k = runK p l (k + 1) := by
  unfold runK
  rw [List.drop_eq_getElem_cons hk, List.takeWhile_cons, h]
  simp; omega
theorem runK_out {p : UInt8 → Bool} {l : List UInt8} {k : Nat} (h : ∀ hk : k < l.length, p l[k] = false) : runK p l k = k := by
  unfold runK
  by_cases hk : k < l.length
  · rw [List.drop_eq_getElem_cons hk, List.takeWhile_cons, if_neg (by rw [h hk]; decide)]; rfl
  · rw [List.drop_of_length_le (by omega)]; rfl
theorem runK_le {p : UInt8 → Bool} {l : List UInt8} {k : Nat} (hk : k ≤ l.length) : k ≤ runK p l k ∧ runK p l k ≤ l.length := by
  unfold runK
  have := (List.takeWhile_sublist (l := l.drop k) p).length_le
  rw [List.length_drop] at this
  omega
end Go.Proofs.YtlcpfhgobfjioaaDoor.Z
namespace Go.Proofs.YtlcpfhgobfjioaaDoor
open Go.RowKit Go.Shelf
open Z
theorem ClsAt.congr {b : Nat} {w : World} {v : Value} {p q : UInt8 → Bool} (h : ClsAt b w v p) (e : ∀ c, p c = q c) : ClsAt b w v q := by
  have : p = q := funext e
  rwa [← this]
theorem lx_one_us (b : Nat) (w : World) (hb : b < w.heap.size) : Calls Tryd.prog 57 #[.string ⟨#[95]⟩] w fun e w' => ∃ v, e = .returned v ∧ ClsAt b w' v (fun c => c == 95) ∧ Gr w w' :=
  (lx_oneOf b ⟨#[95]⟩ w hb).mono fun e w' ⟨v, he, hc, hg⟩ => ⟨v, he, hc.congr (all_byte idx95), hg⟩
theorem lx_one_quote (b : Nat) (w : World) (hb : b < w.heap.size) : Calls Tryd.prog 57 #[.string ⟨#[34]⟩] w fun e w' => ∃ v, e = .returned v ∧ ClsAt b w' v (fun c => c == 34) ∧ Gr w w' :=
  (lx_oneOf b ⟨#[34]⟩ w hb).mono fun e w' ⟨v, he, hc, hg⟩ => ⟨v, he, hc.congr (all_byte idx34), hg⟩
theorem lx_one_blank (b : Nat) (w : World) (hb : b < w.heap.size) : Calls Tryd.prog 57 #[.string ⟨#[32]⟩] w fun e w' => ∃ v, e = .returned v ∧ ClsAt b w' v (fun c => c == 32) ∧ Gr w w' :=
  (lx_oneOf b ⟨#[32]⟩ w hb).mono fun e w' ⟨v, he, hc, hg⟩ => ⟨v, he, hc.congr (all_byte idx32), hg⟩
theorem lx_one_point (b : Nat) (w : World) (hb : b < w.heap.size) : Calls Tryd.prog 57 #[.string ⟨#[46]⟩] w fun e w' => ∃ v, e = .returned v ∧ ClsAt b w' v (fun c => c == 46) ∧ Gr w w' :=
  (lx_oneOf b ⟨#[46]⟩ w hb).mono fun e w' ⟨v, he, hc, hg⟩ => ⟨v, he, hc.congr (all_byte idx46), hg⟩
theorem lx_one_signs (b : Nat) (w : World) (hb : b < w.heap.size) : Calls Tryd.prog 57 #[.string ⟨#[43, 45, 47, 46, 44, 64, 58, 61, 37, 40, 41]⟩] w fun e w' => ∃ v, e = .returned v ∧ ClsAt b w' v (signP) ∧ Gr w w' :=
  (lx_oneOf b ⟨#[43, 45, 47, 46, 44, 64, 58, 61, 37, 40, 41]⟩ w hb).mono fun e w' ⟨v, he, hc, hg⟩ => ⟨v, he, hc.congr (all_byte idxS), hg⟩
set_option maxRecDepth 100000 in
set_option maxHeartbeats 1000000 in
theorem lx_digit (b : Nat) (w : World) (hb : b < w.heap.size) : Calls Tryd.prog 80 #[] w fun e w' => ∃ v, e = .returned v ∧ ClsAt b w' v isD ∧ Gr w w' := by
  have C : Hid (Calls Tryd.prog 88 #[.int .u8 48, .int .u8 57] w fun e w' => ∃ v, e = .returned v ∧ ClsAt b w' v isD ∧ Gr w w') := Lib.hid (lx_between b 48 57 w hb)
  go_enter Tryd.func80, Tryd.ntmps80
  go_wp2_with fail
  refine C.out.mono ?_; rintro e w1 ⟨v, rfl, hc, hg⟩
  have HC := Lib.hid hc
  have HG := Lib.hid hg
  clear hc hg
  go_wp2
  go_ret
  exact ⟨_, rfl, HC.out, HG.out⟩
set_option maxRecDepth 100000 in
set_option maxHeartbeats 1000000 in
theorem lx_letter (b : Nat) (w : World) (hb : b < w.heap.size) : Calls Tryd.prog 77 #[] w fun e w' => ∃ v, e = .returned v ∧ ClsAt b w' v letP ∧ Gr w w' := by
  have C : Hid (Calls Tryd.prog 88 #[.int .u8 97, .int .u8 122] w fun e w' => ∃ v, e = .returned v ∧ ClsAt b w' v (fun c => decide (97 ≤ c.toNat) && decide (c.toNat ≤ 122)) ∧ Gr w w') := Lib.hid (lx_between b 97 122 w hb)
  have D : Hid (∀ w1, Gr w w1 → Calls Tryd.prog 88 #[.int .u8 65, .int .u8 90] w1 fun e w' => ∃ v, e = .returned v ∧ ClsAt b w' v (fun c => decide (65 ≤ c.toNat) && decide (c.toNat ≤ 90)) ∧ Gr w1 w') := Lib.hid fun w1 hg => lx_between b 65 90 w1 (Nat.lt_of_lt_of_le hb hg.size)
  go_enter Tryd.func77, Tryd.ntmps77
  go_wp2_with fail
  refine C.out.mono ?_; rintro e w1 ⟨v, rfl, hc, hg⟩
  have HC := Lib.hid hc
  have HG := Lib.hid hg
  clear hc hg
  go_wp2_with fail
  refine (D.out _ HG.out).mono ?_; rintro e w2 ⟨u, rfl, hc, hg⟩
  have HC1 := Lib.hid (HC.out.upd (Upd.of_gr hg))
  have HC2 := Lib.hid hc
  have HG2 := Lib.hid (Gr.trans HG.out hg)
  have O := Lib.hid (lx_or b v u _ _ w2 HC1.out hc (Nat.lt_of_lt_of_le hb HG2.out.size))
  clear hc hg
  go_wp2_with fail
  refine O.out.mono ?_; rintro e w3 ⟨x, rfl, hc, hg⟩
  have HC3 := Lib.hid hc
  have HG3 := Lib.hid (Gr.trans HG2.out hg)
  clear hc hg
  go_wp2
  go_ret
  exact ⟨_, rfl, HC3.out, HG3.out⟩
set_option maxRecDepth 100000 in
set_option maxHeartbeats 1000000 in
theorem lx_behindLetter (b : Nat) (w : World) (hb : b < w.heap.size) : Calls Tryd.prog 78 #[] w fun e w' => ∃ v, e = .returned v ∧ ClsAt b w' v wordP ∧ Gr w w' := by
  have C := Lib.hid (lx_letter b w hb)
  have D := Lib.hid (fun w1 (hg : Gr w w1) => lx_digit b w1 (Nat.lt_of_lt_of_le hb hg.size))
  have E := Lib.hid (fun w1 (hg : Gr w w1) => lx_one_us b w1 (Nat.lt_of_lt_of_le hb hg.size))
  go_enter Tryd.func78, Tryd.ntmps78
  go_wp2_with fail
  refine C.out.mono ?_; rintro e w1 ⟨v, rfl, hc, hg⟩
  have HC := Lib.hid hc
  have HG := Lib.hid hg
  clear hc hg
  go_wp2_with fail
  refine (D.out _ HG.out).mono ?_; rintro e w2 ⟨u, rfl, hc, hg⟩
  have HG2 := Lib.hid (Gr.trans HG.out hg)
  have O := Lib.hid (lx_or b v u _ _ w2 (HC.out.upd (Upd.of_gr hg)) hc (Nat.lt_of_lt_of_le hb HG2.out.size))
  clear hc hg
  go_wp2_with fail
  refine O.out.mono ?_; rintro e w3 ⟨x, rfl, hc, hg⟩
  have HC3 := Lib.hid hc
  have HG3 := Lib.hid (Gr.trans HG2.out hg)
  clear hc hg
  go_wp2_with fail
  refine (E.out _ HG3.out).mono ?_; rintro e w4 ⟨y, rfl, hc, hg⟩
  have HG4 := Lib.hid (Gr.trans HG3.out hg)
  have O := Lib.hid (lx_or b x y _ _ w4 (HC3.out.upd (Upd.of_gr hg)) hc (Nat.lt_of_lt_of_le hb HG4.out.size))
  clear hc hg
  go_wp2_with fail
  refine O.out.mono ?_; rintro e w5 ⟨z, rfl, hc, hg⟩
  have HC5 := Lib.hid hc
  have HG5 := Lib.hid (Gr.trans HG4.out hg)
  clear hc hg
  go_wp2
  go_ret
  exact ⟨_, rfl, HC5.out, HG5.out⟩
set_option maxRecDepth 100000 in
set_option maxHeartbeats 1000000 in
theorem lx_insideQuotes (b : Nat) (w : World) (hb : b < w.heap.size) : Calls Tryd.prog 79 #[] w fun e w' => ∃ v, e = .returned v ∧ ClsAt b w' v plainP ∧ Gr w w' := by
  have C : Hid (Calls Tryd.prog 88 #[.int .u8 32, .int .u8 126] w fun e w' => ∃ v, e = .returned v ∧ ClsAt b w' v (fun c => decide (32 ≤ c.toNat) && decide (c.toNat ≤ 126)) ∧ Gr w w') := Lib.hid (lx_between b 32 126 w hb)
  have D := Lib.hid (fun w1 (hg : Gr w w1) => lx_one_quote b w1 (Nat.lt_of_lt_of_le hb hg.size))
  go_enter Tryd.func79, Tryd.ntmps79
  go_wp2_with fail
  refine C.out.mono ?_; rintro e w1 ⟨v, rfl, hc, hg⟩
  have HC := Lib.hid hc
  have HG := Lib.hid hg
  clear hc hg
  go_wp2_with fail
  refine (D.out _ HG.out).mono ?_; rintro e w2 ⟨u, rfl, hc, hg⟩
  have HG2 := Lib.hid (Gr.trans HG.out hg)
  have O := Lib.hid (lx_but b v u _ _ w2 (HC.out.upd (Upd.of_gr hg)) hc (Nat.lt_of_lt_of_le hb HG2.out.size))
  clear hc hg
  go_wp2_with fail
  refine O.out.mono ?_; rintro e w3 ⟨x, rfl, hc, hg⟩
  have HC3 := Lib.hid hc
  have HG3 := Lib.hid (Gr.trans HG2.out hg)
  clear hc hg
  go_wp2
  go_ret
  exact ⟨_, rfl, HC3.out, HG3.out⟩
set_option maxRecDepth 100000 in
set_option maxHeartbeats 4000000 in
theorem lx_next_end (b : Nat) (s : ByteArray) (k : Nat) (v : Value) (p : UInt8 → Bool) (w : World) (hr : RdrAt w b s k) (hc : ClsAt b w v p) (hs : s.size ≤ 100000) (hk : k = s.size) :
    Calls Tryd.prog 74 #[.pointer (some ⟨b, 0, none⟩), v] w fun e w' => e = .returned (.bool false) ∧ RdrAt w' b s k ∧ Upd b w w' := by
  obtain ⟨id, caps, rfl, -⟩ := hc
  have HR := Lib.hid hr
  obtain ⟨c0, c1, f1⟩ := hr
  have hz : ((k : Int) == (s.size : Int)) = true := by simp [hk]
  clear hk
  go_enter Tryd.func74, Tryd.ntmps74
  go_wp2_with fail
  have hS0 : (fun w' : World => w'.cell? ⟨b, 0, none⟩ = some (.string s) ∧ w'.cell? ⟨b, 1, none⟩ = some (.int .i64 (k : Nat))) w.drew := ⟨c0, c1⟩
  refine wp_region_held (S := fun w' : World => w'.cell? ⟨b, 0, none⟩ = some (.string s) ∧ w'.cell? ⟨b, 1, none⟩ = some (.int .i64 (k : Nat))) (by kernel_rfl) ?_
  refine wpAnyH_take (i := 0) (v := .pointer (some ⟨b, 0, none⟩)) rfl (by kernel_rfl) (by kernel_rfl) (by kernel_rfl) (fun _ _ _ h => h) (Or.inl ⟨by rfl, ?_⟩) hS0 ?_
  · intro w hSw; obtain ⟨s0, s1⟩ := hSw; go_simp
  try simp only [Act.put, List.getElem_toArray, List.getElem_cons_succ, List.getElem_cons_zero, List.setIfInBounds_toArray, List.set_cons_zero, List.set_cons_succ]
  refine wpAnyH_take (i := 1) (v := .pointer (some ⟨b, 0, none⟩)) rfl (by kernel_rfl) (by kernel_rfl) (by kernel_rfl) (fun _ _ _ h => h) (Or.inl ⟨by rfl, ?_⟩) hS0 ?_
  · intro w hSw; obtain ⟨s0, s1⟩ := hSw; go_simp
  try simp only [Act.put, List.getElem_toArray, List.getElem_cons_succ, List.getElem_cons_zero, List.setIfInBounds_toArray, List.set_cons_zero, List.set_cons_succ]
  refine wpAnyH_take (i := 2) (v := .pointer (some ⟨b, 1, none⟩)) rfl (by kernel_rfl) (by kernel_rfl) (by kernel_rfl) (fun _ _ _ h => h) (Or.inl ⟨by rfl, ?_⟩) hS0 ?_
  · intro w hSw; obtain ⟨s0, s1⟩ := hSw; go_simp
  try simp only [Act.put, List.getElem_toArray, List.getElem_cons_succ, List.getElem_cons_zero, List.setIfInBounds_toArray, List.set_cons_zero, List.set_cons_succ]
  refine wpAnyH_take (i := 3) (v := .int .i64 (k : Nat)) rfl (by kernel_rfl) (by kernel_rfl) (by kernel_rfl) (fun _ _ _ h => h) (Or.inl ⟨by rfl, ?_⟩) hS0 ?_
  · intro w hSw; obtain ⟨s0, s1⟩ := hSw; go_simp
  try simp only [Act.put, List.getElem_toArray, List.getElem_cons_succ, List.getElem_cons_zero, List.setIfInBounds_toArray, List.set_cons_zero, List.set_cons_succ]
  refine wpAnyH_take (i := 4) (v := .pointer (some ⟨b, 0, none⟩)) rfl (by kernel_rfl) (by kernel_rfl) (by kernel_rfl) (fun _ _ _ h => h) (Or.inl ⟨by rfl, ?_⟩) hS0 ?_
  · intro w hSw; obtain ⟨s0, s1⟩ := hSw; go_simp
  try simp only [Act.put, List.getElem_toArray, List.getElem_cons_succ, List.getElem_cons_zero, List.setIfInBounds_toArray, List.set_cons_zero, List.set_cons_succ]
  refine wpAnyH_take (i := 5) (v := .pointer (some ⟨b, 0, none⟩)) rfl (by kernel_rfl) (by kernel_rfl) (by kernel_rfl) (fun _ _ _ h => h) (Or.inl ⟨by rfl, ?_⟩) hS0 ?_
  · intro w hSw; obtain ⟨s0, s1⟩ := hSw; go_simp
  try simp only [Act.put, List.getElem_toArray, List.getElem_cons_succ, List.getElem_cons_zero, List.setIfInBounds_toArray, List.set_cons_zero, List.set_cons_succ]
  refine wpAnyH_take (i := 6) (v := .pointer (some ⟨b, 0, none⟩)) rfl (by kernel_rfl) (by kernel_rfl) (by kernel_rfl) (fun _ _ _ h => h) (Or.inl ⟨by rfl, ?_⟩) hS0 ?_
  · intro w hSw; obtain ⟨s0, s1⟩ := hSw; go_simp
  try simp only [Act.put, List.getElem_toArray, List.getElem_cons_succ, List.getElem_cons_zero, List.setIfInBounds_toArray, List.set_cons_zero, List.set_cons_succ]
  refine wpAnyH_take (i := 7) (v := .string s) rfl (by kernel_rfl) (by kernel_rfl) (by kernel_rfl) (fun _ _ _ h => h) (Or.inl ⟨by rfl, ?_⟩) hS0 ?_
  · intro w hSw; obtain ⟨s0, s1⟩ := hSw; go_simp
  try simp only [Act.put, List.getElem_toArray, List.getElem_cons_succ, List.getElem_cons_zero, List.setIfInBounds_toArray, List.set_cons_zero, List.set_cons_succ]
  refine wpAnyH_take (i := 8) (v := .int .i64 (s.size : Nat)) rfl (by kernel_rfl) (by kernel_rfl) (by kernel_rfl) (fun _ _ _ h => h) (Or.inl ⟨by rfl, ?_⟩) hS0 ?_
  · intro w hSw; obtain ⟨s0, s1⟩ := hSw; go_simp
  try simp only [Act.put, List.getElem_toArray, List.getElem_cons_succ, List.getElem_cons_zero, List.setIfInBounds_toArray, List.set_cons_zero, List.set_cons_succ]
  refine wpAnyH_take (i := 9) (v := .bool true) rfl (by kernel_rfl) (by kernel_rfl) (by kernel_rfl) (fun _ _ _ h => h) (Or.inl ⟨by rfl, ?_⟩) hS0 ?_
  · intro w hSw; obtain ⟨s0, s1⟩ := hSw; go_simp
  try simp only [Act.put, List.getElem_toArray, List.getElem_cons_succ, List.getElem_cons_zero, List.setIfInBounds_toArray, List.set_cons_zero, List.set_cons_succ]
  refine wpAnyH_take (i := 10) (v := .bool true) rfl (by kernel_rfl) (by kernel_rfl) (by kernel_rfl) (fun _ _ _ h => h) (Or.inl ⟨by rfl, ?_⟩) hS0 ?_
  · intro w hSw; obtain ⟨s0, s1⟩ := hSw; go_simp
  try simp only [Act.put, List.getElem_toArray, List.getElem_cons_succ, List.getElem_cons_zero, List.setIfInBounds_toArray, List.set_cons_zero, List.set_cons_succ]
  refine wpAnyH_take (i := 11) (v := undef) rfl (by kernel_rfl) (by kernel_rfl) (by kernel_rfl) (fun _ _ _ h => h) (Or.inr ⟨by kernel_rfl, rfl⟩) hS0 ?_
  try simp only [Act.put, List.getElem_toArray, List.getElem_cons_succ, List.getElem_cons_zero, List.setIfInBounds_toArray, List.set_cons_zero, List.set_cons_succ]
  refine wpAnyH_take (i := 12) (v := undef) rfl (by kernel_rfl) (by kernel_rfl) (by kernel_rfl) (fun _ _ _ h => h) (Or.inr ⟨by kernel_rfl, rfl⟩) hS0 ?_
  try simp only [Act.put, List.getElem_toArray, List.getElem_cons_succ, List.getElem_cons_zero, List.setIfInBounds_toArray, List.set_cons_zero, List.set_cons_succ]
  refine wpAnyH_take (i := 13) (v := undef) rfl (by kernel_rfl) (by kernel_rfl) (by kernel_rfl) (fun _ _ _ h => h) (Or.inr ⟨by kernel_rfl, rfl⟩) hS0 ?_
  try simp only [Act.put, List.getElem_toArray, List.getElem_cons_succ, List.getElem_cons_zero, List.setIfInBounds_toArray, List.set_cons_zero, List.set_cons_succ]
  refine wpAnyH_take (i := 14) (v := undef) rfl (by kernel_rfl) (by kernel_rfl) (by kernel_rfl) (fun _ _ _ h => h) (Or.inr ⟨by kernel_rfl, rfl⟩) hS0 ?_
  try simp only [Act.put, List.getElem_toArray, List.getElem_cons_succ, List.getElem_cons_zero, List.setIfInBounds_toArray, List.set_cons_zero, List.set_cons_succ]
  refine wpAnyH_take (i := 15) (v := undef) rfl (by kernel_rfl) (by kernel_rfl) (by kernel_rfl) (fun _ _ _ h => h) (Or.inr ⟨by kernel_rfl, rfl⟩) hS0 ?_
  try simp only [Act.put, List.getElem_toArray, List.getElem_cons_succ, List.getElem_cons_zero, List.setIfInBounds_toArray, List.set_cons_zero, List.set_cons_succ]
  refine wpAnyH_take (i := 16) (v := undef) rfl (by kernel_rfl) (by kernel_rfl) (by kernel_rfl) (fun _ _ _ h => h) (Or.inr ⟨by kernel_rfl, rfl⟩) hS0 ?_
  try simp only [Act.put, List.getElem_toArray, List.getElem_cons_succ, List.getElem_cons_zero, List.setIfInBounds_toArray, List.set_cons_zero, List.set_cons_succ]
  refine wpAnyH_take (i := 17) (v := undef) rfl (by kernel_rfl) (by kernel_rfl) (by kernel_rfl) (fun _ _ _ h => h) (Or.inr ⟨by kernel_rfl, rfl⟩) hS0 ?_
  try simp only [Act.put, List.getElem_toArray, List.getElem_cons_succ, List.getElem_cons_zero, List.setIfInBounds_toArray, List.set_cons_zero, List.set_cons_succ]
  refine wpAnyH_take (i := 18) (v := undef) rfl (by kernel_rfl) (by kernel_rfl) (by kernel_rfl) (fun _ _ _ h => h) (Or.inr ⟨by kernel_rfl, rfl⟩) hS0 ?_
  try simp only [Act.put, List.getElem_toArray, List.getElem_cons_succ, List.getElem_cons_zero, List.setIfInBounds_toArray, List.set_cons_zero, List.set_cons_succ]
  refine wpAnyH_take (i := 19) (v := undef) rfl (by kernel_rfl) (by kernel_rfl) (by kernel_rfl) (fun _ _ _ h => h) (Or.inr ⟨by kernel_rfl, rfl⟩) hS0 ?_
  try simp only [Act.put, List.getElem_toArray, List.getElem_cons_succ, List.getElem_cons_zero, List.setIfInBounds_toArray, List.set_cons_zero, List.set_cons_succ]
  refine wpAnyH_take (i := 20) (v := undef) rfl (by kernel_rfl) (by kernel_rfl) (by kernel_rfl) (fun _ _ _ h => h) (Or.inr ⟨by kernel_rfl, rfl⟩) hS0 ?_
  try simp only [Act.put, List.getElem_toArray, List.getElem_cons_succ, List.getElem_cons_zero, List.setIfInBounds_toArray, List.set_cons_zero, List.set_cons_succ]
  refine wpAnyH_take (i := 21) (v := undef) rfl (by kernel_rfl) (by kernel_rfl) (by kernel_rfl) (fun _ _ _ h => h) (Or.inr ⟨by kernel_rfl, rfl⟩) hS0 ?_
  try simp only [Act.put, List.getElem_toArray, List.getElem_cons_succ, List.getElem_cons_zero, List.setIfInBounds_toArray, List.set_cons_zero, List.set_cons_succ]
  refine wpAnyH_take (i := 22) (v := undef) rfl (by kernel_rfl) (by kernel_rfl) (by kernel_rfl) (fun _ _ _ h => h) (Or.inr ⟨by kernel_rfl, rfl⟩) hS0 ?_
  try simp only [Act.put, List.getElem_toArray, List.getElem_cons_succ, List.getElem_cons_zero, List.setIfInBounds_toArray, List.set_cons_zero, List.set_cons_succ]
  refine wpAnyH_take (i := 23) (v := .bool true) rfl (by kernel_rfl) (by kernel_rfl) (by kernel_rfl) (fun _ _ _ h => h) (Or.inl ⟨by rfl, ?_⟩) hS0 ?_
  · intro w hSw; obtain ⟨s0, s1⟩ := hSw; go_simp
  try simp only [Act.put, List.getElem_toArray, List.getElem_cons_succ, List.getElem_cons_zero, List.setIfInBounds_toArray, List.set_cons_zero, List.set_cons_succ]
  refine wpAnyH_done (by kernel_rfl) ?_ _
  have HRd := Lib.hid (HR.out.gr ((Gr.refl w).drew))
  have HUd := Lib.hid (Upd.of_gr (b := b) ((Gr.refl w).drew))
  clear HR c0 c1 f1 hS0
  go_wp2
  go_ret
  exact ⟨rfl, HRd.out, HUd.out⟩
set_option maxRecDepth 100000 in
set_option maxHeartbeats 4000000 in
theorem lx_next_no (b : Nat) (s : ByteArray) (k : Nat) (v : Value) (p : UInt8 → Bool) (w : World) (hr : RdrAt w b s k) (hc : ClsAt b w v p) (hs : s.size ≤ 100000) (hk : k < s.size) (hp : p s[k] = false) :
    Calls Tryd.prog 74 #[.pointer (some ⟨b, 0, none⟩), v] w fun e w' => e = .returned (.bool false) ∧ RdrAt w' b s k ∧ Upd b w w' := by
  obtain ⟨id, caps, rfl, ent, run⟩ := hc
  have HR := Lib.hid (fun w' (hg : Gr w w') => run w' (Upd.of_gr hg) s[k])
  rw [hp] at HR
  have HRR := Lib.hid hr
  obtain ⟨c0, c1, f1⟩ := hr
  have hz : ((k : Int) == (s.size : Int)) = false := by rw [beq_eq_false_iff_ne]; omega
  clear run hp
  generalize hch : s[k] = ch at *
  have HGd := Lib.hid ((Gr.refl w).drew)
  go_enter Tryd.func74, Tryd.ntmps74
  go_wp2_with fail
  have hS0 : (fun w' : World => w'.cell? ⟨b, 0, none⟩ = some (.string s) ∧ w'.cell? ⟨b, 1, none⟩ = some (.int .i64 (k : Nat))) w.drew := ⟨c0, c1⟩
  refine wp_region_held (S := fun w' : World => w'.cell? ⟨b, 0, none⟩ = some (.string s) ∧ w'.cell? ⟨b, 1, none⟩ = some (.int .i64 (k : Nat))) (by kernel_rfl) ?_
  refine wpAnyH_take (i := 0) (v := .pointer (some ⟨b, 0, none⟩)) rfl (by kernel_rfl) (by kernel_rfl) (by kernel_rfl) (fun _ _ _ h => h) (Or.inl ⟨by rfl, ?_⟩) hS0 ?_
  · intro w hSw; obtain ⟨s0, s1⟩ := hSw; go_simp
  try simp only [Act.put, List.getElem_toArray, List.getElem_cons_succ, List.getElem_cons_zero, List.setIfInBounds_toArray, List.set_cons_zero, List.set_cons_succ]
  refine wpAnyH_take (i := 1) (v := .pointer (some ⟨b, 0, none⟩)) rfl (by kernel_rfl) (by kernel_rfl) (by kernel_rfl) (fun _ _ _ h => h) (Or.inl ⟨by rfl, ?_⟩) hS0 ?_
  · intro w hSw; obtain ⟨s0, s1⟩ := hSw; go_simp
  try simp only [Act.put, List.getElem_toArray, List.getElem_cons_succ, List.getElem_cons_zero, List.setIfInBounds_toArray, List.set_cons_zero, List.set_cons_succ]
  refine wpAnyH_take (i := 2) (v := .pointer (some ⟨b, 1, none⟩)) rfl (by kernel_rfl) (by kernel_rfl) (by kernel_rfl) (fun _ _ _ h => h) (Or.inl ⟨by rfl, ?_⟩) hS0 ?_
  · intro w hSw; obtain ⟨s0, s1⟩ := hSw; go_simp
  try simp only [Act.put, List.getElem_toArray, List.getElem_cons_succ, List.getElem_cons_zero, List.setIfInBounds_toArray, List.set_cons_zero, List.set_cons_succ]
  refine wpAnyH_take (i := 3) (v := .int .i64 (k : Nat)) rfl (by kernel_rfl) (by kernel_rfl) (by kernel_rfl) (fun _ _ _ h => h) (Or.inl ⟨by rfl, ?_⟩) hS0 ?_
  · intro w hSw; obtain ⟨s0, s1⟩ := hSw; go_simp
  try simp only [Act.put, List.getElem_toArray, List.getElem_cons_succ, List.getElem_cons_zero, List.setIfInBounds_toArray, List.set_cons_zero, List.set_cons_succ]
  refine wpAnyH_take (i := 4) (v := .pointer (some ⟨b, 0, none⟩)) rfl (by kernel_rfl) (by kernel_rfl) (by kernel_rfl) (fun _ _ _ h => h) (Or.inl ⟨by rfl, ?_⟩) hS0 ?_
  · intro w hSw; obtain ⟨s0, s1⟩ := hSw; go_simp
  try simp only [Act.put, List.getElem_toArray, List.getElem_cons_succ, List.getElem_cons_zero, List.setIfInBounds_toArray, List.set_cons_zero, List.set_cons_succ]
  refine wpAnyH_take (i := 5) (v := .pointer (some ⟨b, 0, none⟩)) rfl (by kernel_rfl) (by kernel_rfl) (by kernel_rfl) (fun _ _ _ h => h) (Or.inl ⟨by rfl, ?_⟩) hS0 ?_
  · intro w hSw; obtain ⟨s0, s1⟩ := hSw; go_simp
  try simp only [Act.put, List.getElem_toArray, List.getElem_cons_succ, List.getElem_cons_zero, List.setIfInBounds_toArray, List.set_cons_zero, List.set_cons_succ]
  refine wpAnyH_take (i := 6) (v := .pointer (some ⟨b, 0, none⟩)) rfl (by kernel_rfl) (by kernel_rfl) (by kernel_rfl) (fun _ _ _ h => h) (Or.inl ⟨by rfl, ?_⟩) hS0 ?_
  · intro w hSw; obtain ⟨s0, s1⟩ := hSw; go_simp
  try simp only [Act.put, List.getElem_toArray, List.getElem_cons_succ, List.getElem_cons_zero, List.setIfInBounds_toArray, List.set_cons_zero, List.set_cons_succ]
  refine wpAnyH_take (i := 7) (v := .string s) rfl (by kernel_rfl) (by kernel_rfl) (by kernel_rfl) (fun _ _ _ h => h) (Or.inl ⟨by rfl, ?_⟩) hS0 ?_
  · intro w hSw; obtain ⟨s0, s1⟩ := hSw; go_simp
  try simp only [Act.put, List.getElem_toArray, List.getElem_cons_succ, List.getElem_cons_zero, List.setIfInBounds_toArray, List.set_cons_zero, List.set_cons_succ]
  refine wpAnyH_take (i := 8) (v := .int .i64 (s.size : Nat)) rfl (by kernel_rfl) (by kernel_rfl) (by kernel_rfl) (fun _ _ _ h => h) (Or.inl ⟨by rfl, ?_⟩) hS0 ?_
  · intro w hSw; obtain ⟨s0, s1⟩ := hSw; go_simp
  try simp only [Act.put, List.getElem_toArray, List.getElem_cons_succ, List.getElem_cons_zero, List.setIfInBounds_toArray, List.set_cons_zero, List.set_cons_succ]
  refine wpAnyH_take (i := 9) (v := .bool false) rfl (by kernel_rfl) (by kernel_rfl) (by kernel_rfl) (fun _ _ _ h => h) (Or.inl ⟨by rfl, ?_⟩) hS0 ?_
  · intro w hSw; obtain ⟨s0, s1⟩ := hSw; go_simp
  try simp only [Act.put, List.getElem_toArray, List.getElem_cons_succ, List.getElem_cons_zero, List.setIfInBounds_toArray, List.set_cons_zero, List.set_cons_succ]
  refine wpAnyH_take (i := 10) (v := .bool false) rfl (by kernel_rfl) (by kernel_rfl) (by kernel_rfl) (fun _ _ _ h => h) (Or.inl ⟨by rfl, ?_⟩) hS0 ?_
  · intro w hSw; obtain ⟨s0, s1⟩ := hSw; go_simp
  try simp only [Act.put, List.getElem_toArray, List.getElem_cons_succ, List.getElem_cons_zero, List.setIfInBounds_toArray, List.set_cons_zero, List.set_cons_succ]
  refine wpAnyH_take (i := 11) (v := .func (.func id) #[] caps) rfl (by kernel_rfl) (by kernel_rfl) (by kernel_rfl) (fun _ _ _ h => h) (Or.inl ⟨by rfl, ?_⟩) hS0 ?_
  · intro w hSw; obtain ⟨s0, s1⟩ := hSw; go_simp
  try simp only [Act.put, List.getElem_toArray, List.getElem_cons_succ, List.getElem_cons_zero, List.setIfInBounds_toArray, List.set_cons_zero, List.set_cons_succ]
  refine wpAnyH_take (i := 12) (v := .pointer (some ⟨b, 0, none⟩)) rfl (by kernel_rfl) (by kernel_rfl) (by kernel_rfl) (fun _ _ _ h => h) (Or.inl ⟨by rfl, ?_⟩) hS0 ?_
  · intro w hSw; obtain ⟨s0, s1⟩ := hSw; go_simp
  try simp only [Act.put, List.getElem_toArray, List.getElem_cons_succ, List.getElem_cons_zero, List.setIfInBounds_toArray, List.set_cons_zero, List.set_cons_succ]
  refine wpAnyH_take (i := 13) (v := .pointer (some ⟨b, 0, none⟩)) rfl (by kernel_rfl) (by kernel_rfl) (by kernel_rfl) (fun _ _ _ h => h) (Or.inl ⟨by rfl, ?_⟩) hS0 ?_
  · intro w hSw; obtain ⟨s0, s1⟩ := hSw; go_simp
  try simp only [Act.put, List.getElem_toArray, List.getElem_cons_succ, List.getElem_cons_zero, List.setIfInBounds_toArray, List.set_cons_zero, List.set_cons_succ]
  refine wpAnyH_take (i := 14) (v := .pointer (some ⟨b, 0, none⟩)) rfl (by kernel_rfl) (by kernel_rfl) (by kernel_rfl) (fun _ _ _ h => h) (Or.inl ⟨by rfl, ?_⟩) hS0 ?_
  · intro w hSw; obtain ⟨s0, s1⟩ := hSw; go_simp
  try simp only [Act.put, List.getElem_toArray, List.getElem_cons_succ, List.getElem_cons_zero, List.setIfInBounds_toArray, List.set_cons_zero, List.set_cons_succ]
  refine wpAnyH_take (i := 15) (v := .string s) rfl (by kernel_rfl) (by kernel_rfl) (by kernel_rfl) (fun _ _ _ h => h) (Or.inl ⟨by rfl, ?_⟩) hS0 ?_
  · intro w hSw; obtain ⟨s0, s1⟩ := hSw; go_simp
  try simp only [Act.put, List.getElem_toArray, List.getElem_cons_succ, List.getElem_cons_zero, List.setIfInBounds_toArray, List.set_cons_zero, List.set_cons_succ]
  refine wpAnyH_take (i := 16) (v := .pointer (some ⟨b, 0, none⟩)) rfl (by kernel_rfl) (by kernel_rfl) (by kernel_rfl) (fun _ _ _ h => h) (Or.inl ⟨by rfl, ?_⟩) hS0 ?_
  · intro w hSw; obtain ⟨s0, s1⟩ := hSw; go_simp
  try simp only [Act.put, List.getElem_toArray, List.getElem_cons_succ, List.getElem_cons_zero, List.setIfInBounds_toArray, List.set_cons_zero, List.set_cons_succ]
  refine wpAnyH_take (i := 17) (v := .pointer (some ⟨b, 0, none⟩)) rfl (by kernel_rfl) (by kernel_rfl) (by kernel_rfl) (fun _ _ _ h => h) (Or.inl ⟨by rfl, ?_⟩) hS0 ?_
  · intro w hSw; obtain ⟨s0, s1⟩ := hSw; go_simp
  try simp only [Act.put, List.getElem_toArray, List.getElem_cons_succ, List.getElem_cons_zero, List.setIfInBounds_toArray, List.set_cons_zero, List.set_cons_succ]
  refine wpAnyH_take (i := 18) (v := .pointer (some ⟨b, 1, none⟩)) rfl (by kernel_rfl) (by kernel_rfl) (by kernel_rfl) (fun _ _ _ h => h) (Or.inl ⟨by rfl, ?_⟩) hS0 ?_
  · intro w hSw; obtain ⟨s0, s1⟩ := hSw; go_simp
  try simp only [Act.put, List.getElem_toArray, List.getElem_cons_succ, List.getElem_cons_zero, List.setIfInBounds_toArray, List.set_cons_zero, List.set_cons_succ]
  refine wpAnyH_take (i := 19) (v := .int .i64 (k : Nat)) rfl (by kernel_rfl) (by kernel_rfl) (by kernel_rfl) (fun _ _ _ h => h) (Or.inl ⟨by rfl, ?_⟩) hS0 ?_
  · intro w hSw; obtain ⟨s0, s1⟩ := hSw; go_simp
  try simp only [Act.put, List.getElem_toArray, List.getElem_cons_succ, List.getElem_cons_zero, List.setIfInBounds_toArray, List.set_cons_zero, List.set_cons_succ]
  refine wpAnyH_take (i := 20) (v := .int .u8 (ch.toNat : Int)) rfl (by kernel_rfl) (by kernel_rfl) (by kernel_rfl) (fun _ _ _ h => h) (Or.inl ⟨by rfl, ?_⟩) hS0 ?_
  · intro w hSw; obtain ⟨s0, s1⟩ := hSw; go_simp
  try simp only [Act.put, List.getElem_toArray, List.getElem_cons_succ, List.getElem_cons_zero, List.setIfInBounds_toArray, List.set_cons_zero, List.set_cons_succ]
  refine wpAnyH_ready (rs := [21]) (by kernel_rfl) (by simp) (AllReadyH.cons rfl (fun K' hK' => ?_) AllReadyH.nil)
  go_simp
  refine (HR.out _ HGd.out).mono ?_; rintro e w6 ⟨rfl, hg6⟩
  have hS3 : w6.cell? ⟨b, 0, none⟩ = some (.string s) ∧ w6.cell? ⟨b, 1, none⟩ = some (.int .i64 (k : Nat)) := ⟨cell_gr hg6 hS0.1, cell_gr hg6 hS0.2⟩
  have HG6 := Lib.hid (Gr.trans HGd.out hg6)
  clear hg6
  refine hK'.out _ _ hS3 (fun hS1 => ?_)
  clear hK' K'
  try simp only [Act.put, List.getElem_toArray, List.getElem_cons_succ, List.getElem_cons_zero, List.setIfInBounds_toArray, List.set_cons_zero, List.set_cons_succ]
  refine wpAnyH_take (i := 22) (v := .bool true) rfl (by kernel_rfl) (by kernel_rfl) (by kernel_rfl) (fun _ _ _ h => h) (Or.inl ⟨by rfl, ?_⟩) hS1 ?_
  · intro w hSw; obtain ⟨s0, s1⟩ := hSw; go_simp
  try simp only [Act.put, List.getElem_toArray, List.getElem_cons_succ, List.getElem_cons_zero, List.setIfInBounds_toArray, List.set_cons_zero, List.set_cons_succ]
  refine wpAnyH_take (i := 23) (v := .bool true) rfl (by kernel_rfl) (by kernel_rfl) (by kernel_rfl) (fun _ _ _ h => h) (Or.inl ⟨by rfl, ?_⟩) hS1 ?_
  · intro w hSw; obtain ⟨s0, s1⟩ := hSw; go_simp
  try simp only [Act.put, List.getElem_toArray, List.getElem_cons_succ, List.getElem_cons_zero, List.setIfInBounds_toArray, List.set_cons_zero, List.set_cons_succ]
  refine wpAnyH_done (by kernel_rfl) ?_ _
  have HR6 := Lib.hid (HRR.out.gr HG6.out)
  have HU6 := Lib.hid (Upd.of_gr (b := b) HG6.out)
  clear HR HRR c0 c1 f1 hS0 hS3 HG6 HGd
  go_wp2
  go_ret
  exact ⟨rfl, HR6.out, HU6.out⟩
set_option maxRecDepth 100000 in
set_option maxHeartbeats 4000000 in
theorem lx_next_yes (b : Nat) (s : ByteArray) (k : Nat) (v : Value) (p : UInt8 → Bool) (w : World) (hr : RdrAt w b s k) (hc : ClsAt b w v p) (hs : s.size ≤ 100000) (hk : k < s.size) (hp : p s[k] = true) :
    Calls Tryd.prog 74 #[.pointer (some ⟨b, 0, none⟩), v] w fun e w' => e = .returned (.bool true) ∧ RdrAt w' b s (k + 1) ∧ Upd b w w' := by
  obtain ⟨id, caps, rfl, ent, run⟩ := hc
  have HR := Lib.hid (fun w' (hg : Gr w w') => run w' (Upd.of_gr hg) s[k])
  rw [hp] at HR
  have HRR := Lib.hid hr
  obtain ⟨c0, c1, f1⟩ := hr
  have hz : ((k : Int) == (s.size : Int)) = false := by rw [beq_eq_false_iff_ne]; omega
  clear run hp
  generalize hch : s[k] = ch at *
  have HGd := Lib.hid ((Gr.refl w).drew)
  go_enter Tryd.func74, Tryd.ntmps74
  go_wp2_with fail
  have hS0 : (fun w' : World => w'.cell? ⟨b, 0, none⟩ = some (.string s) ∧ w'.cell? ⟨b, 1, none⟩ = some (.int .i64 (k : Nat))) w.drew := ⟨c0, c1⟩
  refine wp_region_held (S := fun w' : World => w'.cell? ⟨b, 0, none⟩ = some (.string s) ∧ w'.cell? ⟨b, 1, none⟩ = some (.int .i64 (k : Nat))) (by kernel_rfl) ?_
  refine wpAnyH_take (i := 0) (v := .pointer (some ⟨b, 0, none⟩)) rfl (by kernel_rfl) (by kernel_rfl) (by kernel_rfl) (fun _ _ _ h => h) (Or.inl ⟨by rfl, ?_⟩) hS0 ?_
  · intro w hSw; obtain ⟨s0, s1⟩ := hSw; go_simp
  try simp only [Act.put, List.getElem_toArray, List.getElem_cons_succ, List.getElem_cons_zero, List.setIfInBounds_toArray, List.set_cons_zero, List.set_cons_succ]
  refine wpAnyH_take (i := 1) (v := .pointer (some ⟨b, 0, none⟩)) rfl (by kernel_rfl) (by kernel_rfl) (by kernel_rfl) (fun _ _ _ h => h) (Or.inl ⟨by rfl, ?_⟩) hS0 ?_
  · intro w hSw; obtain ⟨s0, s1⟩ := hSw; go_simp
  try simp only [Act.put, List.getElem_toArray, List.getElem_cons_succ, List.getElem_cons_zero, List.setIfInBounds_toArray, List.set_cons_zero, List.set_cons_succ]
  refine wpAnyH_take (i := 2) (v := .pointer (some ⟨b, 1, none⟩)) rfl (by kernel_rfl) (by kernel_rfl) (by kernel_rfl) (fun _ _ _ h => h) (Or.inl ⟨by rfl, ?_⟩) hS0 ?_
  · intro w hSw; obtain ⟨s0, s1⟩ := hSw; go_simp
  try simp only [Act.put, List.getElem_toArray, List.getElem_cons_succ, List.getElem_cons_zero, List.setIfInBounds_toArray, List.set_cons_zero, List.set_cons_succ]
  refine wpAnyH_take (i := 3) (v := .int .i64 (k : Nat)) rfl (by kernel_rfl) (by kernel_rfl) (by kernel_rfl) (fun _ _ _ h => h) (Or.inl ⟨by rfl, ?_⟩) hS0 ?_
  · intro w hSw; obtain ⟨s0, s1⟩ := hSw; go_simp
  try simp only [Act.put, List.getElem_toArray, List.getElem_cons_succ, List.getElem_cons_zero, List.setIfInBounds_toArray, List.set_cons_zero, List.set_cons_succ]
  refine wpAnyH_take (i := 4) (v := .pointer (some ⟨b, 0, none⟩)) rfl (by kernel_rfl) (by kernel_rfl) (by kernel_rfl) (fun _ _ _ h => h) (Or.inl ⟨by rfl, ?_⟩) hS0 ?_
  · intro w hSw; obtain ⟨s0, s1⟩ := hSw; go_simp
  try simp only [Act.put, List.getElem_toArray, List.getElem_cons_succ, List.getElem_cons_zero, List.setIfInBounds_toArray, List.set_cons_zero, List.set_cons_succ]
  refine wpAnyH_take (i := 5) (v := .pointer (some ⟨b, 0, none⟩)) rfl (by kernel_rfl) (by kernel_rfl) (by kernel_rfl) (fun _ _ _ h => h) (Or.inl ⟨by rfl, ?_⟩) hS0 ?_
  · intro w hSw; obtain ⟨s0, s1⟩ := hSw; go_simp
  try simp only [Act.put, List.getElem_toArray, List.getElem_cons_succ, List.getElem_cons_zero, List.setIfInBounds_toArray, List.set_cons_zero, List.set_cons_succ]
  refine wpAnyH_take (i := 6) (v := .pointer (some ⟨b, 0, none⟩)) rfl (by kernel_rfl) (by kernel_rfl) (by kernel_rfl) (fun _ _ _ h => h) (Or.inl ⟨by rfl, ?_⟩) hS0 ?_
  · intro w hSw; obtain ⟨s0, s1⟩ := hSw; go_simp
  try simp only [Act.put, List.getElem_toArray, List.getElem_cons_succ, List.getElem_cons_zero, List.setIfInBounds_toArray, List.set_cons_zero, List.set_cons_succ]
  refine wpAnyH_take (i := 7) (v := .string s) rfl (by kernel_rfl) (by kernel_rfl) (by kernel_rfl) (fun _ _ _ h => h) (Or.inl ⟨by rfl, ?_⟩) hS0 ?_
  · intro w hSw; obtain ⟨s0, s1⟩ := hSw; go_simp
  try simp only [Act.put, List.getElem_toArray, List.getElem_cons_succ, List.getElem_cons_zero, List.setIfInBounds_toArray, List.set_cons_zero, List.set_cons_succ]
  refine wpAnyH_take (i := 8) (v := .int .i64 (s.size : Nat)) rfl (by kernel_rfl) (by kernel_rfl) (by kernel_rfl) (fun _ _ _ h => h) (Or.inl ⟨by rfl, ?_⟩) hS0 ?_
  · intro w hSw; obtain ⟨s0, s1⟩ := hSw; go_simp
  try simp only [Act.put, List.getElem_toArray, List.getElem_cons_succ, List.getElem_cons_zero, List.setIfInBounds_toArray, List.set_cons_zero, List.set_cons_succ]
  refine wpAnyH_take (i := 9) (v := .bool false) rfl (by kernel_rfl) (by kernel_rfl) (by kernel_rfl) (fun _ _ _ h => h) (Or.inl ⟨by rfl, ?_⟩) hS0 ?_
  · intro w hSw; obtain ⟨s0, s1⟩ := hSw; go_simp
  try simp only [Act.put, List.getElem_toArray, List.getElem_cons_succ, List.getElem_cons_zero, List.setIfInBounds_toArray, List.set_cons_zero, List.set_cons_succ]
  refine wpAnyH_take (i := 10) (v := .bool false) rfl (by kernel_rfl) (by kernel_rfl) (by kernel_rfl) (fun _ _ _ h => h) (Or.inl ⟨by rfl, ?_⟩) hS0 ?_
  · intro w hSw; obtain ⟨s0, s1⟩ := hSw; go_simp
  try simp only [Act.put, List.getElem_toArray, List.getElem_cons_succ, List.getElem_cons_zero, List.setIfInBounds_toArray, List.set_cons_zero, List.set_cons_succ]
  refine wpAnyH_take (i := 11) (v := .func (.func id) #[] caps) rfl (by kernel_rfl) (by kernel_rfl) (by kernel_rfl) (fun _ _ _ h => h) (Or.inl ⟨by rfl, ?_⟩) hS0 ?_
  · intro w hSw; obtain ⟨s0, s1⟩ := hSw; go_simp
  try simp only [Act.put, List.getElem_toArray, List.getElem_cons_succ, List.getElem_cons_zero, List.setIfInBounds_toArray, List.set_cons_zero, List.set_cons_succ]
  refine wpAnyH_take (i := 12) (v := .pointer (some ⟨b, 0, none⟩)) rfl (by kernel_rfl) (by kernel_rfl) (by kernel_rfl) (fun _ _ _ h => h) (Or.inl ⟨by rfl, ?_⟩) hS0 ?_
  · intro w hSw; obtain ⟨s0, s1⟩ := hSw; go_simp
  try simp only [Act.put, List.getElem_toArray, List.getElem_cons_succ, List.getElem_cons_zero, List.setIfInBounds_toArray, List.set_cons_zero, List.set_cons_succ]
  refine wpAnyH_take (i := 13) (v := .pointer (some ⟨b, 0, none⟩)) rfl (by kernel_rfl) (by kernel_rfl) (by kernel_rfl) (fun _ _ _ h => h) (Or.inl ⟨by rfl, ?_⟩) hS0 ?_
  · intro w hSw; obtain ⟨s0, s1⟩ := hSw; go_simp
  try simp only [Act.put, List.getElem_toArray, List.getElem_cons_succ, List.getElem_cons_zero, List.setIfInBounds_toArray, List.set_cons_zero, List.set_cons_succ]
  refine wpAnyH_take (i := 14) (v := .pointer (some ⟨b, 0, none⟩)) rfl (by kernel_rfl) (by kernel_rfl) (by kernel_rfl) (fun _ _ _ h => h) (Or.inl ⟨by rfl, ?_⟩) hS0 ?_
  · intro w hSw; obtain ⟨s0, s1⟩ := hSw; go_simp
  try simp only [Act.put, List.getElem_toArray, List.getElem_cons_succ, List.getElem_cons_zero, List.setIfInBounds_toArray, List.set_cons_zero, List.set_cons_succ]
  refine wpAnyH_take (i := 15) (v := .string s) rfl (by kernel_rfl) (by kernel_rfl) (by kernel_rfl) (fun _ _ _ h => h) (Or.inl ⟨by rfl, ?_⟩) hS0 ?_
  · intro w hSw; obtain ⟨s0, s1⟩ := hSw; go_simp
  try simp only [Act.put, List.getElem_toArray, List.getElem_cons_succ, List.getElem_cons_zero, List.setIfInBounds_toArray, List.set_cons_zero, List.set_cons_succ]
  refine wpAnyH_take (i := 16) (v := .pointer (some ⟨b, 0, none⟩)) rfl (by kernel_rfl) (by kernel_rfl) (by kernel_rfl) (fun _ _ _ h => h) (Or.inl ⟨by rfl, ?_⟩) hS0 ?_
  · intro w hSw; obtain ⟨s0, s1⟩ := hSw; go_simp
  try simp only [Act.put, List.getElem_toArray, List.getElem_cons_succ, List.getElem_cons_zero, List.setIfInBounds_toArray, List.set_cons_zero, List.set_cons_succ]
  refine wpAnyH_take (i := 17) (v := .pointer (some ⟨b, 0, none⟩)) rfl (by kernel_rfl) (by kernel_rfl) (by kernel_rfl) (fun _ _ _ h => h) (Or.inl ⟨by rfl, ?_⟩) hS0 ?_
  · intro w hSw; obtain ⟨s0, s1⟩ := hSw; go_simp
  try simp only [Act.put, List.getElem_toArray, List.getElem_cons_succ, List.getElem_cons_zero, List.setIfInBounds_toArray, List.set_cons_zero, List.set_cons_succ]
  refine wpAnyH_take (i := 18) (v := .pointer (some ⟨b, 1, none⟩)) rfl (by kernel_rfl) (by kernel_rfl) (by kernel_rfl) (fun _ _ _ h => h) (Or.inl ⟨by rfl, ?_⟩) hS0 ?_
  · intro w hSw; obtain ⟨s0, s1⟩ := hSw; go_simp
  try simp only [Act.put, List.getElem_toArray, List.getElem_cons_succ, List.getElem_cons_zero, List.setIfInBounds_toArray, List.set_cons_zero, List.set_cons_succ]
  refine wpAnyH_take (i := 19) (v := .int .i64 (k : Nat)) rfl (by kernel_rfl) (by kernel_rfl) (by kernel_rfl) (fun _ _ _ h => h) (Or.inl ⟨by rfl, ?_⟩) hS0 ?_
  · intro w hSw; obtain ⟨s0, s1⟩ := hSw; go_simp
  try simp only [Act.put, List.getElem_toArray, List.getElem_cons_succ, List.getElem_cons_zero, List.setIfInBounds_toArray, List.set_cons_zero, List.set_cons_succ]
  refine wpAnyH_take (i := 20) (v := .int .u8 (ch.toNat : Int)) rfl (by kernel_rfl) (by kernel_rfl) (by kernel_rfl) (fun _ _ _ h => h) (Or.inl ⟨by rfl, ?_⟩) hS0 ?_
  · intro w hSw; obtain ⟨s0, s1⟩ := hSw; go_simp
  try simp only [Act.put, List.getElem_toArray, List.getElem_cons_succ, List.getElem_cons_zero, List.setIfInBounds_toArray, List.set_cons_zero, List.set_cons_succ]
  refine wpAnyH_ready (rs := [21]) (by kernel_rfl) (by simp) (AllReadyH.cons rfl (fun K' hK' => ?_) AllReadyH.nil)
  go_simp
  refine (HR.out _ HGd.out).mono ?_; rintro e w6 ⟨rfl, hg6⟩
  have hS3 : w6.cell? ⟨b, 0, none⟩ = some (.string s) ∧ w6.cell? ⟨b, 1, none⟩ = some (.int .i64 (k : Nat)) := ⟨cell_gr hg6 hS0.1, cell_gr hg6 hS0.2⟩
  have HG6 := Lib.hid (Gr.trans HGd.out hg6)
  clear hg6
  refine hK'.out _ _ hS3 (fun hS1 => ?_)
  clear hK' K'
  try simp only [Act.put, List.getElem_toArray, List.getElem_cons_succ, List.getElem_cons_zero, List.setIfInBounds_toArray, List.set_cons_zero, List.set_cons_succ]
  refine wpAnyH_take (i := 22) (v := .bool false) rfl (by kernel_rfl) (by kernel_rfl) (by kernel_rfl) (fun _ _ _ h => h) (Or.inl ⟨by rfl, ?_⟩) hS1 ?_
  · intro w hSw; obtain ⟨s0, s1⟩ := hSw; go_simp
  try simp only [Act.put, List.getElem_toArray, List.getElem_cons_succ, List.getElem_cons_zero, List.setIfInBounds_toArray, List.set_cons_zero, List.set_cons_succ]
  refine wpAnyH_take (i := 23) (v := .bool false) rfl (by kernel_rfl) (by kernel_rfl) (by kernel_rfl) (fun _ _ _ h => h) (Or.inl ⟨by rfl, ?_⟩) hS1 ?_
  · intro w hSw; obtain ⟨s0, s1⟩ := hSw; go_simp
  try simp only [Act.put, List.getElem_toArray, List.getElem_cons_succ, List.getElem_cons_zero, List.setIfInBounds_toArray, List.set_cons_zero, List.set_cons_succ]
  refine wpAnyH_done (by kernel_rfl) ?_ _
  have HR6 := Lib.hid (HRR.out.gr HG6.out)
  have HU6 := Lib.hid (Upd.of_gr (b := b) HG6.out)
  clear HR HRR c0 c1 f1 hS0 hS3 HG6 HGd
  obtain ⟨c0, c1, f1⟩ := HR6.out
  have HR7 := Lib.hid (HR6.out.set (k + 1))
  have HU7 := Lib.hid (HU6.out.trans (Upd.set (b := b) (o := 1) w6 (.int .i64 ((k + 1 : Nat) : Int))))
  go_wp2
  go_ret
  exact ⟨rfl, HR7.out, HU7.out⟩
end Go.Proofs.YtlcpfhgobfjioaaDoor
