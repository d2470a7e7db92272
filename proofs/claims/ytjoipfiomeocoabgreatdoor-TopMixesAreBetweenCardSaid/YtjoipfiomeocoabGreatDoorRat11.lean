/- The program's rational numbers: reading and writing. -/
import Derived.Test.YtjoipfiomeocoabGreatDoorRat10
import Derived.Deep.RegionHeld3
import Derived.Deep.DrawnRows
set_option linter.unusedVariables false
set_option linter.unusedSimpArgs false
namespace Go.Proofs.YtjoipfiomeocoabGreatDoor
open Go.RowKit Go.Shelf
open Z
attribute [local go_sem ↓] Go.wp_at_zero Go.wp_at_succ

/-- what read returns -/
def rT (s : ByteArray) : ByteArray := if chkS s = 0 then str (top s.data.toList) else ⟨#[]⟩
def rB (s : ByteArray) : ByteArray := if chkS s = 0 then str (bot s.data.toList) else ⟨#[]⟩
theorem rT_RT {r : Rat} (h : InR r) : rT (RT r) = Tx r.num := by unfold rT; rw [if_pos (chkS_RT h), (top_RT r).1, str_itoa]
theorem rB_RT {r : Rat} (h : InR r) : rB (RT r) = Tx (r.den : Int) := by unfold rB; rw [if_pos (chkS_RT h), (top_RT r).2.1, str_itoa]
theorem str_self (s : ByteArray) : str s.data.toList = s := rfl
set_option maxHeartbeats 2000000 in
set_option maxRecDepth 100000 in
theorem q_read (s : ByteArray) (hs : s.size ≤ 400000) (w : World) (hm : Mx w) (htab : Tab w) :
    Calls Tryz.prog 51 #[.string s] w (fun e w' => e = .returned (.tuple #[vFr (rT s) (rB s), .int .i64 (chkS s)]) ∧ Gr w w') := by
  have hg0 : Gr w (w.alloc (oFr ⟨#[]⟩ ⟨#[]⟩)) := (Gr.refl w).alloc _
  have HG0 := Lib.hid hg0
  have HF0 := Lib.hid (FB.new w ⟨#[]⟩ ⟨#[]⟩ 64)
  have HTAB := Lib.hid htab
  have HC := Lib.hid (q_cut s _ (hm.gr hg0) hs)
  have HE : Hid (chkS s = chk2 s.data.toList) := rfl
  cases hp : parted s.data.toList with
  | false =>
    have hv := chk2_unparted hp
    have ht := unparted_top hp
    rw [hp, ht.1, str_self] at HC
    have C1 := Lib.hid (fun w => i_Check s w (by unfold maxLen; omega))
    have H1 : Hid (rT s = if chkS s = 0 then s else ⟨#[]⟩) := by show _ = _; unfold rT; rw [ht.1, str_self]
    have H2 : Hid (rB s = if chkS s = 0 then ⟨#[49]⟩ else ⟨#[]⟩) := by show _ = _; unfold rB; rw [ht.2]; rfl
    rw [H1.out, H2.out, HE.out, hv]
    clear H1 H2 HE hv hp ht hs hm htab hg0
    generalize chk s.data.toList = c at *
    by_cases h0 : c = 0
    · subst h0
      simp only [if_true, Bool.false_eq_true, if_false] at HC ⊢
      go_enter Tryz.func51, Tryz.ntmps51
      go_wp2_with fail
      refine (HC.out).mono ?_
      rintro e w1 ⟨rfl, hg⟩
      have hF := HF0.out.gr hg
      obtain ⟨k1, k2, k3, k4⟩ := id hF
      have HF1 := Lib.hid hF
      have HG1 := Lib.hid (Gr.trans HG0.out hg)
      clear hg hF
      go_wp2_with fail
      refine (C1.out _).mono ?_
      rintro e w' ⟨rfl, rfl⟩
      go_wp2
      obtain ⟨F, G⟩ := HF1.out.store (p' := s) (q' := ⟨#[49]⟩) HG1.out (Nat.le_refl _)
      obtain ⟨F2, G2⟩ := F.store (p' := s) (q' := ⟨#[49]⟩) G (Nat.le_refl _)
      refine bodyPost_ret (v := .tuple #[vFr s ⟨#[49]⟩, .int .i64 0]) (by simp [results, Tryz.results51, go_sem, F2.c0, F2.c1]) rfl ⟨rfl, G2⟩
    · have hne : (c == 0) = false := beq_eq_false_iff_ne.2 h0
      rw [if_neg h0, if_neg h0]
      clear h0
      simp only [Bool.false_eq_true, if_false] at HC
      go_enter Tryz.func51, Tryz.ntmps51
      go_wp2_with fail
      refine (HC.out).mono ?_
      rintro e w1 ⟨rfl, hg⟩
      have hF := HF0.out.gr hg
      obtain ⟨k1, k2, k3, k4⟩ := id hF
      have HF1 := Lib.hid hF
      have HG1 := Lib.hid (Gr.trans HG0.out hg)
      clear hg hF
      go_wp2_with fail
      refine (C1.out _).mono ?_
      rintro e w' ⟨rfl, rfl⟩
      go_wp2
      obtain ⟨F, G⟩ := HF1.out.store (p' := s) (q' := ⟨#[49]⟩) HG1.out (Nat.le_refl _)
      obtain ⟨F2, G2⟩ := F.store (p' := ⟨#[]⟩) (q' := ⟨#[]⟩) G (Nat.le_refl _)
      refine bodyPost_ret (v := .tuple #[vFr ⟨#[]⟩ ⟨#[]⟩, .int .i64 c]) (by simp [results, Tryz.results51, go_sem, F2.c0, F2.c1]) rfl ⟨rfl, G2⟩
  | true =>
    have C1 := Lib.hid (q_check s hs hp)
    rw [hp] at HC
    simp only [if_true] at HC
    unfold rT rB
    clear HE hp hs hm htab hg0
    generalize str (top s.data.toList) = p at *
    generalize str (bot s.data.toList) = q at *
    generalize chkS s = c at *
    by_cases h0 : c = 0
    · subst h0
      simp only [if_true]
      go_enter Tryz.func51, Tryz.ntmps51
      go_wp2_with fail
      refine (HC.out).mono ?_
      rintro e w1 ⟨rfl, hg⟩
      have hF := HF0.out.gr hg
      obtain ⟨k1, k2, k3, k4⟩ := id hF
      have HG1 := Lib.hid (Gr.trans HG0.out hg)
      obtain ⟨F, G⟩ := hF.store (p' := p) (q' := q) HG1.out (Nat.le_refl _)
      have HF1 := Lib.hid F
      have HG2 := Lib.hid G
      have HT := Lib.hid (htab_gr HTAB.out G)
      clear hg hF F G
      go_wp2_with fail
      refine (C1.out _ HT.out).mono ?_
      rintro e w2 ⟨rfl, hg⟩
      have hF := HF1.out.gr hg
      have HG3 := Lib.hid (Gr.trans HG2.out hg)
      have HF2 := Lib.hid hF
      clear k1 k2 k3 k4
      obtain ⟨k1, k2, k3, k4⟩ := id hF
      clear hg hF
      go_wp2
      obtain ⟨F2, G2⟩ := HF2.out.store (p' := p) (q' := q) HG3.out (Nat.le_refl _)
      refine bodyPost_ret (v := .tuple #[vFr p q, .int .i64 0]) (by simp [results, Tryz.results51, go_sem, F2.c0, F2.c1]) rfl ⟨rfl, G2⟩
    · have hne : (c == 0) = false := beq_eq_false_iff_ne.2 h0
      rw [if_neg h0, if_neg h0]
      clear h0
      go_enter Tryz.func51, Tryz.ntmps51
      go_wp2_with fail
      refine (HC.out).mono ?_
      rintro e w1 ⟨rfl, hg⟩
      have hF := HF0.out.gr hg
      obtain ⟨k1, k2, k3, k4⟩ := id hF
      have HG1 := Lib.hid (Gr.trans HG0.out hg)
      obtain ⟨F, G⟩ := hF.store (p' := p) (q' := q) HG1.out (Nat.le_refl _)
      have HF1 := Lib.hid F
      have HG2 := Lib.hid G
      have HT := Lib.hid (htab_gr HTAB.out G)
      clear hg hF F G
      go_wp2_with fail
      refine (C1.out _ HT.out).mono ?_
      rintro e w2 ⟨rfl, hg⟩
      have hF := HF1.out.gr hg
      have HG3 := Lib.hid (Gr.trans HG2.out hg)
      have HF2 := Lib.hid hF
      clear k1 k2 k3 k4
      obtain ⟨k1, k2, k3, k4⟩ := id hF
      clear hg hF
      go_wp2
      obtain ⟨F2, G2⟩ := HF2.out.store (p' := ⟨#[]⟩) (q' := ⟨#[]⟩) HG3.out (Nat.le_refl _)
      refine bodyPost_ret (v := .tuple #[vFr ⟨#[]⟩ ⟨#[]⟩, .int .i64 c]) (by simp [results, Tryz.results51, go_sem, F2.c0, F2.c1]) rfl ⟨rfl, G2⟩
end Go.Proofs.YtjoipfiomeocoabGreatDoor
