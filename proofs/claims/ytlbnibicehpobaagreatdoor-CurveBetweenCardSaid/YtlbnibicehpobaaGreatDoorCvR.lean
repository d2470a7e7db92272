/- Curves: sheets (do, sum, split), parts of rational numbers. -/
import Derived.Test.YtlbnibicehpobaaGreatDoorCvQ
import Derived.Test.YtlbnibicehpobaaGreatDoorCvE
set_option linter.unusedVariables false
set_option linter.unusedSimpArgs false
namespace Go.Proofs.YtlbnibicehpobaaGreatDoor
open Go.RowKit Go.Shelf
open Z
theorem cv_setSelf {w : World} {b o : Nat} {v : Value} (h : w.cell? ⟨b, o, none⟩ = some v) : w.setCell ⟨b, o, none⟩ v = w := by
  unfold World.cell? at h
  unfold World.setCell
  have e : ∀ (l : Array Obj) (f : Obj → Obj), (∀ x, l[b]? = some x → f x = x) → l.modify b f = l := fun l f hf => by
    refine Array.ext_getElem? fun j => ?_
    rw [Array.getElem?_modify]
    split
    · rename_i hj; subst hj
      cases hx : l[b]? with
      | none => rfl
      | some x => simp [hf x hx]
    · rfl
  rw [e]
  intro x hx
  simp only [hx] at h
  cases x <;> simp_all
  rename_i c e f
  refine Array.ext_getElem? fun j => ?_
  rw [Array.getElem?_setIfInBounds]
  split
  · rename_i hj; subst hj
    obtain ⟨h1, h2⟩ := Array.getElem?_eq_some_iff.1 h
    rw [if_pos h1, h]
  · rfl
/-- a sheet without an error -/
structure Pen (w : World) (p : Nat) : Prop where
  c0 : w.cell? ⟨p, 0, none⟩ = some (.int .i64 0)
  f0 : w.frozen? ⟨p, 0, none⟩ = false
theorem Pen.gr {w w' : World} {p : Nat} (h : Pen w p) (hg : Gr w w') : Pen w' p := ⟨cv_cell hg h.c0, (Below.frozen hg (p := ⟨p, 0, none⟩) (cell_lt h.c0)).trans h.f0⟩
section
variable {w0 : World}
set_option maxHeartbeats 1000000 in
set_option maxRecDepth 100000 in
theorem cv_doSub {a b r : ByteArray} {p : Nat} (hp : Pen w0 p) (H : RetG w0 104 #[.string a, .string b] (.tuple #[.string r, .int .i64 0])) :
    RetG w0 103 #[.pointer (some ⟨p, 0, none⟩), .func (.func 104) #[] #[], .string a, .string b] (.string r) := by
  intro w hg
  have HG := Lib.hid hg
  have HP := Lib.hid hp
  have HC := Lib.hid H
  obtain ⟨k0, -⟩ := hp.gr hg
  clear hg hp H
  go_enter Tryz.func103, Tryz.ntmps103
  go_wp2_with fail
  refine (HC.out _ HG.out).mono ?_
  rintro e w1 ⟨rfl, hg⟩
  have HG1 := Lib.hid hg
  obtain ⟨k1, k2⟩ := HP.out.gr (Gr.trans HG.out hg)
  have hself := cv_setSelf k1
  clear hg k0
  go_wp2
  go_ret
  exact ⟨rfl, HG1.out⟩
set_option maxHeartbeats 1000000 in
set_option maxRecDepth 100000 in
theorem cv_doGcd {a b r : ByteArray} {p : Nat} (hp : Pen w0 p) (H : RetG w0 105 #[.string a, .string b] (.tuple #[.string r, .int .i64 0])) :
    RetG w0 103 #[.pointer (some ⟨p, 0, none⟩), .func (.func 105) #[] #[], .string a, .string b] (.string r) := by
  intro w hg
  have HG := Lib.hid hg
  have HP := Lib.hid hp
  have HC := Lib.hid H
  obtain ⟨k0, -⟩ := hp.gr hg
  clear hg hp H
  go_enter Tryz.func103, Tryz.ntmps103
  go_wp2_with fail
  refine (HC.out _ HG.out).mono ?_
  rintro e w1 ⟨rfl, hg⟩
  have HG1 := Lib.hid hg
  obtain ⟨k1, k2⟩ := HP.out.gr (Gr.trans HG.out hg)
  have hself := cv_setSelf k1
  clear hg k0
  go_wp2
  go_ret
  exact ⟨rfl, HG1.out⟩
set_option maxHeartbeats 1000000 in
set_option maxRecDepth 100000 in
theorem cv_doAdd {a b r : ByteArray} {p : Nat} (hp : Pen w0 p) (H : RetG w0 106 #[.string a, .string b] (.tuple #[.string r, .int .i64 0])) :
    RetG w0 103 #[.pointer (some ⟨p, 0, none⟩), .func (.func 106) #[] #[], .string a, .string b] (.string r) := by
  intro w hg
  have HG := Lib.hid hg
  have HP := Lib.hid hp
  have HC := Lib.hid H
  obtain ⟨k0, -⟩ := hp.gr hg
  clear hg hp H
  go_enter Tryz.func103, Tryz.ntmps103
  go_wp2_with fail
  refine (HC.out _ HG.out).mono ?_
  rintro e w1 ⟨rfl, hg⟩
  have HG1 := Lib.hid hg
  obtain ⟨k1, k2⟩ := HP.out.gr (Gr.trans HG.out hg)
  have hself := cv_setSelf k1
  clear hg k0
  go_wp2
  go_ret
  exact ⟨rfl, HG1.out⟩
set_option maxHeartbeats 1000000 in
set_option maxRecDepth 100000 in
theorem cv_doQuo {a b r : ByteArray} {p : Nat} (hp : Pen w0 p) (H : RetG w0 95 #[.string a, .string b] (.tuple #[.string r, .int .i64 0])) :
    RetG w0 103 #[.pointer (some ⟨p, 0, none⟩), .func (.func 95) #[] #[], .string a, .string b] (.string r) := by
  intro w hg
  have HG := Lib.hid hg
  have HP := Lib.hid hp
  have HC := Lib.hid H
  obtain ⟨k0, -⟩ := hp.gr hg
  clear hg hp H
  go_enter Tryz.func103, Tryz.ntmps103
  go_wp2_with fail
  refine (HC.out _ HG.out).mono ?_
  rintro e w1 ⟨rfl, hg⟩
  have HG1 := Lib.hid hg
  obtain ⟨k1, k2⟩ := HP.out.gr (Gr.trans HG.out hg)
  have hself := cv_setSelf k1
  clear hg k0
  go_wp2
  go_ret
  exact ⟨rfl, HG1.out⟩
set_option maxHeartbeats 1000000 in
set_option maxRecDepth 100000 in
theorem cv_doRem {a b r : ByteArray} {p : Nat} (hp : Pen w0 p) (H : RetG w0 123 #[.string a, .string b] (.tuple #[.string r, .int .i64 0])) :
    RetG w0 103 #[.pointer (some ⟨p, 0, none⟩), .func (.func 123) #[] #[], .string a, .string b] (.string r) := by
  intro w hg
  have HG := Lib.hid hg
  have HP := Lib.hid hp
  have HC := Lib.hid H
  obtain ⟨k0, -⟩ := hp.gr hg
  clear hg hp H
  go_enter Tryz.func103, Tryz.ntmps103
  go_wp2_with fail
  refine (HC.out _ HG.out).mono ?_
  rintro e w1 ⟨rfl, hg⟩
  have HG1 := Lib.hid hg
  obtain ⟨k1, k2⟩ := HP.out.gr (Gr.trans HG.out hg)
  have hself := cv_setSelf k1
  clear hg k0
  go_wp2
  go_ret
  exact ⟨rfl, HG1.out⟩
set_option maxHeartbeats 1000000 in
set_option maxRecDepth 100000 in
theorem cv_doMul {a b r : ByteArray} {p : Nat} (hp : Pen w0 p) (H : RetG w0 107 #[.string a, .string b] (.tuple #[.string r, .int .i64 0])) :
    RetG w0 103 #[.pointer (some ⟨p, 0, none⟩), .func (.func 107) #[] #[], .string a, .string b] (.string r) := by
  intro w hg
  have HG := Lib.hid hg
  have HP := Lib.hid hp
  have HC := Lib.hid H
  obtain ⟨k0, -⟩ := hp.gr hg
  clear hg hp H
  go_enter Tryz.func103, Tryz.ntmps103
  go_wp2_with fail
  refine (HC.out _ HG.out).mono ?_
  rintro e w1 ⟨rfl, hg⟩
  have HG1 := Lib.hid hg
  obtain ⟨k1, k2⟩ := HP.out.gr (Gr.trans HG.out hg)
  have hself := cv_setSelf k1
  clear hg k0
  go_wp2
  go_ret
  exact ⟨rfl, HG1.out⟩
set_option maxHeartbeats 1000000 in
set_option maxRecDepth 100000 in
theorem cv_sum {a b c d x y r : ByteArray} {p : Nat} (hp : Pen w0 p) (H1 : RetG w0 107 #[.string a, .string b] (.tuple #[.string x, .int .i64 0])) (H2 : RetG w0 107 #[.string c, .string d] (.tuple #[.string y, .int .i64 0])) (H3 : RetG w0 106 #[.string x, .string y] (.tuple #[.string r, .int .i64 0])) :
    RetG w0 101 #[.pointer (some ⟨p, 0, none⟩), .string a, .string b, .string c, .string d] (.string r) := by
  intro w hg
  have HG := Lib.hid hg
  have HG0 := Lib.hid (Gr.refl w)
  have HC1 := Lib.hid (cv_doMul hp H1)
  have HC2 := Lib.hid (cv_doMul hp H2)
  have HC3 := Lib.hid (cv_doAdd hp H3)
  clear hg hp H1 H2 H3
  go_enter Tryz.func101, Tryz.ntmps101
  go_wp2_with fail
  refine (HC1.out _ (Gr.trans HG.out HG0.out)).mono ?_
  rintro e w1 ⟨rfl, hg⟩
  have HG1 := Lib.hid (Gr.trans HG0.out hg)
  clear hg
  go_wp2_with fail
  refine (HC2.out _ (Gr.trans HG.out HG1.out)).mono ?_
  rintro e w2 ⟨rfl, hg⟩
  have HG2 := Lib.hid (Gr.trans HG1.out hg)
  clear hg
  go_wp2_with fail
  refine (HC3.out _ (Gr.trans HG.out HG2.out)).mono ?_
  rintro e w3 ⟨rfl, hg⟩
  have HG3 := Lib.hid (Gr.trans HG2.out hg)
  clear hg
  go_wp2
  go_ret
  exact ⟨rfl, HG3.out⟩
set_option maxHeartbeats 1000000 in
set_option maxRecDepth 100000 in
theorem cv_split {a b q r : ByteArray} {p : Nat} (hp : Pen w0 p) (H1 : RetG w0 95 #[.string a, .string b] (.tuple #[.string q, .int .i64 0])) (H2 : RetG w0 123 #[.string a, .string b] (.tuple #[.string r, .int .i64 0])) :
    RetG w0 100 #[.pointer (some ⟨p, 0, none⟩), .string a, .string b] (.tuple #[.string q, .string r]) := by
  intro w hg
  have HG := Lib.hid hg
  have HG0 := Lib.hid (Gr.refl w)
  have HC1 := Lib.hid (cv_doQuo hp H1)
  have HC2 := Lib.hid (cv_doRem hp H2)
  clear hg hp H1 H2
  go_enter Tryz.func100, Tryz.ntmps100
  go_wp2_with fail
  refine (HC1.out _ (Gr.trans HG.out HG0.out)).mono ?_
  rintro e w1 ⟨rfl, hg⟩
  have HG1 := Lib.hid (Gr.trans HG0.out hg)
  clear hg
  go_wp2_with fail
  refine (HC2.out _ (Gr.trans HG.out HG1.out)).mono ?_
  rintro e w2 ⟨rfl, hg⟩
  have HG2 := Lib.hid (Gr.trans HG1.out hg)
  clear hg
  go_wp2
  go_ret2
  exact ⟨rfl, HG2.out⟩
set_option maxHeartbeats 1000000 in
set_option maxRecDepth 100000 in
theorem retG_QNum (htab : Tab w0) (hmx : Mx w0) {s : ByteArray} (hs : s.size ≤ 400000) : RetG w0 121 #[.string s] (.tuple #[.string (rT s), .int .i64 (chkS s)]) := by
  have C1 := Lib.hid (retG_read htab hmx hs)
  clear hs htab hmx
  generalize rT s = p at *
  generalize rB s = q at *
  generalize chkS s = c at *
  intro w hg
  have HG := Lib.hid hg
  have HG0 := Lib.hid (Gr.refl w)
  clear hg
  go_enter Tryz.func121, Tryz.ntmps121
  go_wp2_with fail
  refine (C1.out _ HG.out).mono ?_
  rintro e w1 ⟨rfl, hg⟩
  have HG1 := Lib.hid hg
  clear hg
  go_wp2
  go_ret2
  exact ⟨rfl, HG1.out.alloc _⟩
set_option maxHeartbeats 1000000 in
set_option maxRecDepth 100000 in
theorem retG_QDen (htab : Tab w0) (hmx : Mx w0) {s : ByteArray} (hs : s.size ≤ 400000) : RetG w0 122 #[.string s] (.tuple #[.string (rB s), .int .i64 (chkS s)]) := by
  have C1 := Lib.hid (retG_read htab hmx hs)
  clear hs htab hmx
  generalize rT s = p at *
  generalize rB s = q at *
  generalize chkS s = c at *
  intro w hg
  have HG := Lib.hid hg
  have HG0 := Lib.hid (Gr.refl w)
  clear hg
  go_enter Tryz.func122, Tryz.ntmps122
  go_wp2_with fail
  refine (C1.out _ HG.out).mono ?_
  rintro e w1 ⟨rfl, hg⟩
  have HG1 := Lib.hid hg
  clear hg
  go_wp2
  go_ret2
  exact ⟨rfl, HG1.out.alloc _⟩
set_option maxHeartbeats 1000000 in
set_option maxRecDepth 100000 in
theorem cv_parts (htab : Tab w0) (hmx : Mx w0) {r : Rat} (hr : InR r) : RetG w0 99 #[.string (RT r)] (.tuple #[.string (Tx r.num), .string (Tx (r.den : Int))]) := by
  have C1 := retG_QNum htab hmx (RT_small hr)
  have C2 := retG_QDen htab hmx (RT_small hr)
  rw [rT_RT hr, chkS_RT hr] at C1
  rw [rB_RT hr, chkS_RT hr] at C2
  have HC1 := Lib.hid C1
  have HC2 := Lib.hid C2
  clear htab hmx hr C1 C2
  generalize RT r = s at *
  generalize Tx r.num = p at *
  generalize Tx (r.den : Int) = q at *
  intro w hg
  have HG := Lib.hid hg
  have HG0 := Lib.hid (Gr.refl w)
  clear hg
  go_enter Tryz.func99, Tryz.ntmps99
  go_wp2_with fail
  refine (HC1.out _ (Gr.trans HG.out HG0.out)).mono ?_
  rintro e w1 ⟨rfl, hg⟩
  have HG1 := Lib.hid (Gr.trans HG0.out hg)
  clear hg
  go_wp2_with fail
  refine (HC2.out _ (Gr.trans HG.out HG1.out)).mono ?_
  rintro e w2 ⟨rfl, hg⟩
  have HG2 := Lib.hid (Gr.trans HG1.out hg)
  clear hg
  go_wp2
  go_ret2
  exact ⟨rfl, HG2.out⟩
end
end Go.Proofs.YtlbnibicehpobaaGreatDoor
