/- Records: Join, both sides. -/
import Derived.Test.YtlcpfhgobfjioaaDoorRcT
import Derived.Test.YtlcpfhgobfjioaaDoorRcJ
set_option linter.unusedVariables false
set_option linter.unusedSimpArgs false
namespace Go.Proofs.YtlcpfhgobfjioaaDoor
open Go.RowKit Go.Shelf
open Z Rc

theorem SB.gr {B b : Nat} {l : List UInt8} {w w' : World} (h : SB B b l w) (hg : Gr w w') : SB B b l w' := by
  have one : ∀ p, Lib.BuilderAtF 37 5 B b p (Lib.byteCells l) w → Lib.BuilderAtF 37 5 B b p (Lib.byteCells l) w' := fun p ⟨hB, v, hb, hown, hne⟩ => by
    have hlt : b < w.heap.size := (Array.getElem?_eq_some_iff.1 hb).1
    refine ⟨hB, v, (hg.block b hlt).trans hb, hown.kept (row := none) ⟨hg.os, hg.tape, hg.output, hg.size, fun k hk _ => hg.block k hk⟩ ?_, hne⟩
    cases hv : v.ownBlock <;> simp
  exact h.elim (fun x => .inl (one _ x)) (fun x => .inr (one _ x))
theorem SB.new (w : World) : SB w.heap.size w.heap.size [] (w.alloc (.cells #[.pointer none, .slice none 0 0] 37)) := Lib.IsBuilderF.of (Lib.fresh_isBuilder _ _ w)
def joinE (l : List E) : List UInt8 × Int := if joE l ≠ 0 then ([], joE l) else (joB l, 0)
theorem joE_at {l : List E} {k : Nat} (h : joE (l.take k) = 0) (hk : k < l.length) : joE l = if chkE l[k] ≠ 0 then chkE l[k] else joE (l.drop (k + 1)) := by
  have e : joE l = joE (l.drop k) := by
    conv => lhs; rw [← List.take_append_drop k l]
    exact joE_append _ _ h
  rw [e, ← List.getElem_cons_drop (h := hk)]; rfl
theorem joE_take {l : List E} {k : Nat} (h : joE (l.take k) = 0) (hk : k < l.length) (hx : chkE l[k] = 0) : joE (l.take (k + 1)) = 0 := by
  rw [List.take_succ_eq_append_getElem hk, joE_append _ _ h]
  simp [joE, hx]
theorem joB_take {l : List E} {k : Nat} (hk : k < l.length) : joB (l.take (k + 1)) = joB (l.take k) ++ pkE l[k] := by
  rw [List.take_succ_eq_append_getElem hk, joB_append]; simp [joB]
theorem joB_bound {l : List E} (h : ∀ x ∈ l, chkE x = 0) : (joB l).length ≤ 65540 * l.length := by
  induction l with
  | nil => simp [joB]
  | cons x l ih =>
    have h1 := (chkE_ok.1 (h x (by simp))).2
    have h2 := ih (fun y hy => h y (by simp [hy]))
    rw [joB_cons, List.length_append, pkE_len, List.length_cons]; omega
set_option maxHeartbeats 4000000 in
set_option maxRecDepth 100000 in
theorem rc_Join (a : Option Addr) (l : List E) (cap : Nat) (w : World) (hr : RdE w a l) (hl : l.length ≤ 20) (hz : ∀ x ∈ l, x.2.size ≤ maxLen) :
    Calls Tryd.prog 27 #[.slice a l.length cap] w fun e w' => e = .returned (xV (joinE l)) ∧ Gr w w' := by
  have HR := Lib.hid hr
  have HZ := Lib.hid hz
  obtain ⟨J, HJ⟩ : ∃ J, Hid (joinE l = J) := ⟨_, Lib.hid rfl⟩
  rw [HJ.out]
  have HB0 := Lib.hid (SB.new w)
  have HG0 := Lib.hid ((Gr.refl w).alloc (.cells #[.pointer none, .slice none 0 0] 37))
  clear hr hz
  obtain ⟨j0, j1⟩ := J
  unfold xV
  simp only []
  go_enter Tryd.func27, Tryd.ntmps27
  go_wp2
  go_loopw [11] (fun i wr => ∃ k : Nat, i = .int .i64 k ∧ k ≤ l.length ∧ Hid (SB w.heap.size w.heap.size (joB (l.take k)) wr) ∧ Hid (Gr w wr) ∧ Hid (joE (l.take k) = 0)) (fun i _ => l.length - (intOf i).toNat)
  case atStart => exact ⟨0, rfl, by omega, HB0.out, HG0.out, rfl⟩
  case round =>
    obtain ⟨k, rfl, hk, HB, HG, HE⟩ := hrel
    clear HB0 HG0
    by_cases hlt : k < l.length
    · obtain ⟨b, o, rfl, c0, c1⟩ := (HR.out.gr HG.out) k hlt
      have hxz := HZ.out l[k] (List.getElem_mem hlt)
      have HA1 := Lib.hid (joE_at HE.out hlt)
      have HA2 := Lib.hid (joE_take HE.out hlt)
      have HA3 := Lib.hid (joB_take hlt)
      have hbd := joB_bound (joE_ok.1 HE.out)
      rw [List.length_take] at hbd
      generalize hx : l[k] = x at *
      clear hx
      obtain ⟨t, f⟩ := x
      simp only [] at c0 c1 hxz
      have C := Lib.hid (fun w => rc_Pack (t, f) w hxz)
      unfold xV packE vE at C
      by_cases hch : chkE (t, f) = 0
      · rw [hch, if_neg (by decide)] at C
        have hps : (str (pkE (t, f))).size ≤ 65540 := by
          have := (chkE_ok.1 hch).2
          rw [str_sz, pkE_len]; simp only [] at this ⊢; omega
        have HE' := Lib.hid (HA2.out hch)
        have hcl : (joB (l.take k)).length ≤ 1400000 := by omega
        have HJ3 : Hid (joB (l.take (k + 1)) = joB (l.take k) ++ (str (pkE (t, f))).data.toList) := by show _ = _; rw [data_str]; exact HA3.out
        simp only [] at C
        generalize str (pkE (t, f)) = S at *
        generalize joB (l.take k) = acc at *
        clear HA1 HA2 HA3 HE hbd hch hxz
        have hbl : b < wr.heap.size := cell_lt c0
        go_wp2_with fail
        refine (C.out _).mono ?_; rintro e w2 ⟨rfl, hg2⟩
        have HB2 := Lib.hid ((HB.out.gr ((Gr.refl wr).alloc (.cells #[.int .i64 t, .string f] 54))).gr hg2)
        have HG2 := Lib.hid (Gr.trans (HG.out.alloc (.cells #[.int .i64 t, .string f] 54)) hg2)
        clear hg2 HB HG c0 c1
        go_wp2_with fail
        refine (sb_WriteString _ _ acc S _ HB2.out (by omega) HG2.out.size).mono ?_; rintro e w3 ⟨rfl, hb3, hg3, -⟩
        have HB3 := Lib.hid hb3
        have HG3 := Lib.hid (Below.trans HG2.out hg3)
        clear hb3 hg3 HB2 HG2
        go_wp2
        go_roundw
        case rel => exact ⟨k + 1, by go_num, by omega, by rw [HJ3.out]; exact HB3.out, HG3.out, HE'.out⟩
        case measure => simp [intOf]; omega
      · rw [if_pos hch] at C
        rw [if_pos hch] at HA1
        have hJ : joinE l = ([], chkE (t, f)) := by unfold joinE; rw [HA1.out, if_pos hch]
        have HJJ := HJ.out
        rw [hJ] at HJJ
        obtain ⟨rfl, rfl⟩ : [] = j0 ∧ chkE (t, f) = j1 := by simpa using HJJ
        have hcb : (chkE (t, f) != 0) = true := by simpa using hch
        simp only [] at C
        clear HA1 HA2 HA3 HE hbd hch hxz hJ HJJ HB
        go_wp2_with fail
        refine (C.out _).mono ?_; rintro e w2 ⟨rfl, hg2⟩
        have HG2 := Lib.hid (Gr.trans (HG.out.alloc (.cells #[.int .i64 t, .string f] 54)) hg2)
        clear hg2 HG c0 c1
        go_wp2
        go_ret2
        exact ⟨rfl, HG2.out⟩
    · have hkl : k = l.length := by omega
      subst hkl
      rw [List.take_length] at HB HE
      have hJ : joinE l = (joB l, 0) := by unfold joinE; rw [HE.out, if_neg (by decide)]
      have HJJ := HJ.out
      rw [hJ] at HJJ
      obtain ⟨rfl, rfl⟩ : joB l = j0 ∧ (0 : Int) = j1 := by simpa using HJJ
      clear HE hJ HJJ
      go_wp2_with fail
      refine (Tryd.Builder_String_any_f _ _ (joB l) _ HB.out HG.out.size).mono ?_; rintro e w2 ⟨rfl, -, hg2⟩
      have HG2 := Lib.hid (Below.trans HG.out hg2)
      clear hg2 HG HB
      go_wp2
      go_ret2
      exact ⟨rfl, HG2.out⟩
end Go.Proofs.YtlcpfhgobfjioaaDoor
