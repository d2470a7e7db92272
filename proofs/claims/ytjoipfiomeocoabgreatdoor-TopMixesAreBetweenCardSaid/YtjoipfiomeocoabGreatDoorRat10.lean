/- The program's rational numbers: reading, checking and writing. -/
import Derived.Test.YtjoipfiomeocoabGreatDoorRat09
import Derived.Test.YtjoipfiomeocoabGreatDoorRat05
import Derived.Test.YtjoipfiomeocoabGreatDoorRet
set_option linter.unusedVariables false
set_option linter.unusedSimpArgs false
namespace Go.Proofs.YtjoipfiomeocoabGreatDoor
open Go.RowKit Go.Shelf
open Z

/-- from each world that has grown out of w0 the call returns v, and grows its own world -/
def RetG (w0 : World) (f : FuncId) (args : Array Value) (v : Value) : Prop :=
  ∀ w, Gr w0 w → Calls Tryz.prog f args w (fun e w' => e = .returned v ∧ Gr w w')
theorem RetG.ret {w0 : World} {f : FuncId} {args : Array Value} {v : Value} (h : RetG w0 f args v) : Ret w0 f args v := .mk h
theorem RetG.up {w0 w1 : World} {f : FuncId} {args : Array Value} {v : Value} (h : RetG w0 f args v) (hg : Gr w0 w1) : RetG w1 f args v := fun w h' => h w (Gr.trans hg h')
theorem RetG.cast {w0 : World} {f : FuncId} {args : Array Value} {v v' : Value} (h : RetG w0 f args v) (e : v = v') : RetG w0 f args v' := e ▸ h
abbrev vFr (p q : ByteArray) : Value := .agg #[.string p, .string q]
abbrev oFr (p q : ByteArray) : Obj := .cells #[.string p, .string q] 64
theorem str_len {l : List UInt8} {n : Nat} (h : l.length ≤ n) (hn : n ≤ 800000) : (str l).size ≤ maxLen := by rw [size_str']; unfold maxLen; omega
theorem is0_form {s : ByteArray} (h : formB s.data.toList = true) : (s.toList == [48]) = decide (ival s.data.toList = 0) := by
  have := Tx_is0 (ival s.data.toList); rwa [Tx_ival s h] at this
theorem is1_form {s : ByteArray} (h : formB s.data.toList = true) : (s.toList == [49]) = decide (ival s.data.toList = 1) := by
  have := Tx_is1 (ival s.data.toList); rwa [Tx_ival s h] at this
theorem chk_form3 {l : List UInt8} (h : chk l ≠ 3) : formB l = true := by
  unfold chk at h
  cases hf : formB l with
  | true => rfl
  | false => rw [hf] at h; simp at h
theorem data_str' (l : List UInt8) : (str l).data.toList = l := data_str l
theorem i_CheckQ (s : ByteArray) (hs : s.size ≤ maxLen) (w : World) : Calls Tryz.prog 45 #[.string s] w (fun e w' => e = .returned (.int .i64 (chk s.data.toList)) ∧ w' = w) :=
  (i_Check s w hs).mono fun _ _ ⟨a, b⟩ => ⟨a, b.symm⟩
theorem longR_gcd {a b : Int} (ha : In a) : longR ((Nat.gcd a.natAbs b.natAbs : Nat) : Int) = (Tx ((Nat.gcd a.natAbs b.natAbs : Nat) : Int), 0) ∨ a = 0 := by
  by_cases h : a = 0
  · exact .inr h
  · left
    refine longR_in (Nat.le_trans (nDigits_mono ?_) ha)
    rw [Int.natAbs_natCast]; exact Nat.gcd_le_left _ (by omega)
theorem gcd_in {a b : Int} (hb : In b) (h0 : b ≠ 0) : In ((Nat.gcd a.natAbs b.natAbs : Nat) : Int) := by
  refine Nat.le_trans (nDigits_mono ?_) hb
  rw [Int.natAbs_natCast]; exact Nat.gcd_le_right _ (by omega)
set_option maxHeartbeats 2000000 in
set_option maxRecDepth 100000 in
theorem q_check (s : ByteArray) (hs : s.size ≤ 400000) (hp : parted s.data.toList = true) (w : World) (htab : Tab w) :
    Calls Tryz.prog 92 #[vFr (str (top s.data.toList)) (str (bot s.data.toList))] w (fun e w' => e = .returned (.int .i64 (chkS s)) ∧ Gr w w') := by
  have hv := chk2_parted hp
  have hsz : s.data.toList.length = s.size := by simp
  have lp := str_len (n := 400000) (l := top s.data.toList) (by have := (top_len s.data.toList).1; omega) (by omega)
  have lq := str_len (n := 400001) (l := bot s.data.toList) (by have := bot_len s.data.toList; omega) (by omega)
  have C1 := Lib.hid (i_CheckQ (str (top s.data.toList)) lp)
  have C2 := Lib.hid (i_CheckQ (str (bot s.data.toList)) lq)
  rw [data_str] at C1 C2
  have hgr0 : Gr w (w.alloc (oFr (str (top s.data.toList)) (str (bot s.data.toList)))) := (Gr.refl w).alloc _
  have HTAB := Lib.hid (htab_gr htab hgr0)
  have fp : ∀ h : chk (top s.data.toList) ≠ 3, str (top s.data.toList) = Tx (ival (top s.data.toList)) := fun h => str_form _ (chk_form3 h)
  have fq : ∀ h : chk (bot s.data.toList) ≠ 3, str (bot s.data.toList) = Tx (ival (bot s.data.toList)) := fun h => str_form _ (chk_form3 h)
  have i1 : ∀ h : chk (top s.data.toList) = 0, In (ival (top s.data.toList)) := fun h => by
    obtain ⟨f, l⟩ := chk_zeroF h; unfold In; rw [← body_nd f]; exact l
  have i2 : ∀ h : chk (bot s.data.toList) = 0, In (ival (bot s.data.toList)) := fun h => by
    obtain ⟨f, l⟩ := chk_zeroF h; unfold In; rw [← body_nd f]; exact l
  have HV : chkS s = chk2 s.data.toList := rfl
  rw [HV, hv]
  clear HV hv hgr0 hp hsz hs htab
  generalize ival (top s.data.toList) = x at *
  generalize ival (bot s.data.toList) = y at *
  generalize str (top s.data.toList) = p at *
  generalize str (bot s.data.toList) = q at *
  generalize chk (top s.data.toList) = c at *
  generalize chk (bot s.data.toList) = d at *
  by_cases h3 : c = 3 ∨ d = 3
  · rw [if_pos h3]
    have hb : c = 3 ∨ (c ≠ 3 ∧ d = 3) := by omega
    clear h3 fp fq lp lq HTAB i1 i2
    rcases hb with rfl | ⟨h, rfl⟩
    · go_enter Tryz.func92, Tryz.ntmps92
      go_wp2
      go_quiet ((go_at_call 45; first | (with_reducible exact Calls.quiet_of_same (C1.out _)) | (with_reducible exact Calls.quiet_of_same (C2.out _))))
      go_wp2
      go_ret
      exact ⟨rfl, below_drewN ((Gr.refl w).alloc _) _⟩
    · have h' : (c == 3) = false := beq_eq_false_iff_ne.2 h
      clear h
      go_enter Tryz.func92, Tryz.ntmps92
      go_wp2
      go_quiet ((go_at_call 45; first | (with_reducible exact Calls.quiet_of_same (C1.out _)) | (with_reducible exact Calls.quiet_of_same (C2.out _))))
      go_wp2
      go_ret
      exact ⟨rfl, below_drewN ((Gr.refl w).alloc _) _⟩
  · rw [if_neg h3]
    have h31 : c ≠ 3 := by omega
    have h32 : d ≠ 3 := by omega
    have e1 : (c == 3) = false := beq_eq_false_iff_ne.2 h31
    have e2 : (d == 3) = false := beq_eq_false_iff_ne.2 h32
    have ep := fp h31
    have eq := fq h32
    clear fp fq h3 h31 h32
    have is0 := Tx_is0 y
    have is1 := Tx_is1 y
    have C3 := Lib.hid (q_minus y)
    rw [← eq] at is0 is1 C3
    by_cases hy : y ≤ 0 ∨ y = 1
    · rw [if_pos hy]
      have hb : y = 0 ∨ y = 1 ∨ y < 0 := by omega
      clear hy i1 i2 ep eq lp lq HTAB
      rcases hb with rfl | rfl | h
      · rw [decide_eq_true rfl] at is0
        clear is1 C3
        go_enter Tryz.func92, Tryz.ntmps92
        go_wp2
        go_quiet ((go_at_call 45; first | (with_reducible exact Calls.quiet_of_same (C1.out _)) | (with_reducible exact Calls.quiet_of_same (C2.out _))))
        go_wp2
        go_ret
        exact ⟨rfl, below_drewN ((Gr.refl w).alloc _) _⟩
      · rw [decide_eq_false (by omega)] at is0
        rw [decide_eq_true rfl] at is1
        clear C3
        go_enter Tryz.func92, Tryz.ntmps92
        go_wp2
        go_quiet ((go_at_call 45; first | (with_reducible exact Calls.quiet_of_same (C1.out _)) | (with_reducible exact Calls.quiet_of_same (C2.out _))))
        go_wp2
        go_ret
        exact ⟨rfl, below_drewN ((Gr.refl w).alloc _) _⟩
      · rw [decide_eq_false (by omega)] at is0
        rw [decide_eq_false (by omega)] at is1
        rw [decide_eq_true h] at C3
        clear h
        go_enter Tryz.func92, Tryz.ntmps92
        go_wp2
        go_quiet ((go_at_call 45; first | (with_reducible exact Calls.quiet_of_same (C1.out _)) | (with_reducible exact Calls.quiet_of_same (C2.out _))))
        go_wp2_with fail
        refine (C3.out _).mono ?_
        rintro e w' ⟨rfl, rfl⟩
        go_wp2
        go_ret
        exact ⟨rfl, below_drewN ((Gr.refl w).alloc _) _⟩
    · rw [if_neg hy]
      rw [decide_eq_false (by omega)] at is0
      rw [decide_eq_false (by omega)] at is1
      rw [decide_eq_false (by omega)] at C3
      by_cases hz : c ≠ 0 ∨ d ≠ 0
      · rw [if_pos hz]
        have hb : c ≠ 0 ∨ (c = 0 ∧ d ≠ 0) := by omega
        clear hy hz i1 i2 ep eq lp lq HTAB
        rcases hb with h | ⟨rfl, h⟩
        all_goals
          have hne := beq_eq_false_iff_ne.2 h
          clear h
          go_enter Tryz.func92, Tryz.ntmps92
          go_wp2
          go_quiet ((go_at_call 45; first | (with_reducible exact Calls.quiet_of_same (C1.out _)) | (with_reducible exact Calls.quiet_of_same (C2.out _))))
          go_wp2_with fail
          refine (C3.out _).mono ?_
          rintro e w' ⟨rfl, rfl⟩
          go_wp2
          go_ret
          exact ⟨rfl, below_drewN ((Gr.refl w).alloc _) _⟩
      · rw [if_neg hz]
        obtain ⟨rfl, rfl⟩ : c = 0 ∧ d = 0 := by omega
        have ix := i1 rfl
        have iy := i2 rfl
        have C4 : Hid (∀ w, Tab w → Calls Tryz.prog 81 #[.string p, .string q] w (fun e w' => e = .returned (.tuple #[.string (Tx ((Nat.gcd x.natAbs y.natAbs : Nat) : Int)), .int .i64 0]) ∧ Gr w w')) := by
          intro w ht
          have H := i_Gcd (Tx x) (Tx y) w ix.len iy.len ht
          rw [opR_Tx ix iy, longR_in (gcd_in iy (by omega)), ← ep, ← eq] at H
          exact H
        have isg := Tx_is1 ((Nat.gcd x.natAbs y.natAbs : Nat) : Int)
        have lg := (gcd_in (a := x) iy (by omega)).sm.len2
        clear hy hz i1 i2 ep eq lp lq ix iy
        by_cases hd : Nat.gcd x.natAbs y.natAbs = 1
        · rw [decide_eq_true (by omega)] at isg
          rw [if_neg (by omega)]
          clear hd
          generalize Tx ((Nat.gcd x.natAbs y.natAbs : Nat) : Int) = g at *
          go_enter Tryz.func92, Tryz.ntmps92
          go_wp2
          go_quiet ((go_at_call 45; first | (with_reducible exact Calls.quiet_of_same (C1.out _)) | (with_reducible exact Calls.quiet_of_same (C2.out _))))
          go_wp2_with fail
          refine (C3.out _).mono ?_
          rintro e w' ⟨rfl, rfl⟩
          go_wp2_with fail
          refine (C4.out _ (htab_gr HTAB.out (below_drewN (Gr.refl _) _))).mono ?_
          rintro e w1 ⟨rfl, hg⟩
          have HG := Lib.hid (Gr.trans (below_drewN ((Gr.refl w).alloc _) _) hg); clear hg
          go_wp2
          go_ret
          exact ⟨rfl, HG.out⟩
        · rw [decide_eq_false (by omega)] at isg
          rw [if_pos hd]
          clear hd
          generalize Tx ((Nat.gcd x.natAbs y.natAbs : Nat) : Int) = g at *
          go_enter Tryz.func92, Tryz.ntmps92
          go_wp2
          go_quiet ((go_at_call 45; first | (with_reducible exact Calls.quiet_of_same (C1.out _)) | (with_reducible exact Calls.quiet_of_same (C2.out _))))
          go_wp2_with fail
          refine (C3.out _).mono ?_
          rintro e w' ⟨rfl, rfl⟩
          go_wp2_with fail
          refine (C4.out _ (htab_gr HTAB.out (below_drewN (Gr.refl _) _))).mono ?_
          rintro e w1 ⟨rfl, hg⟩
          have HG := Lib.hid (Gr.trans (below_drewN ((Gr.refl w).alloc _) _) hg); clear hg
          go_wp2
          go_ret
          exact ⟨rfl, HG.out⟩
end Go.Proofs.YtjoipfiomeocoabGreatDoor
