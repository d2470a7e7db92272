/- IntH: Int04e, Int04f, Int04g, Int04h, Int05a, Int05b, Int05c, Int05d, Int05e, Int05f, joined. -/
import Derived.Test.YtlbnibicehpobaaGreatDoorIntG
set_option linter.unusedVariables false
set_option linter.unusedSimpArgs false

/- Numbers: write, read. -/
namespace Go.Proofs.YtlbnibicehpobaaGreatDoor
open Go.RowKit Go.Shelf
open Z

theorem Tx_nat (n : Nat) : Tx (n : Int) = str (Lib.decDigits n) := by
  apply ba_ext
  rw [data_Tx, data_str]
  have h := body_itoa (n : Int)
  have h2 : ¬ (Lib.itoa (n : Int)).head? = some 45 := fun h => by have := (head_itoa (n : Int)).1 h; omega
  unfold body at h
  rw [if_neg h2] at h
  simpa using h
theorem size_str (l : List UInt8) : (str l).size = l.length := by simp [str, ByteArray.size]
theorem ret_R {k : IntKind} {p q : ByteArray × Int} (h : p = q) : retR k p = retR k q := by rw [h]
set_option maxHeartbeats 2000000 in
set_option maxRecDepth 100000 in
theorem i_write {K : Nat} (v : Value) (a : Int) (w : World) (h : NV w v a) (ha : a.natAbs < 1000000000 ^ K) (hK : K ≤ 1000000) (htab : Tab w) :
    Calls Tryz.prog 146 #[v] w (fun e w' => e = retR .i64 (longR a) ∧ Gr w w') := by
  obtain ⟨aa, na, ca, rfl, ra⟩ := h.form
  obtain ⟨s, HS⟩ : ∃ s, Hid (s = decide (a < 0)) := ⟨_, rfl⟩
  obtain ⟨tx, HT⟩ : ∃ tx, Hid (tx = str (Lib.decDigits a.natAbs)) := ⟨_, rfl⟩
  rw [← HS.out]
  have hg0 : Gr w (w.alloc (.cells #[.bool s, .slice aa na ca] 138)) := (Gr.refl w).alloc _
  have hx0 : Box2 (w.alloc (.cells #[.bool s, .slice aa na ca] 138)) w.heap.size s (.slice aa na ca) := Box2.new _ _ _ _
  have HTX : Hid (∀ w', Gr w w' → Calls Tryz.prog 165 #[.slice aa na ca] w' (fun e w'' => e = .returned (.string tx) ∧ Gr w' w'')) := by
    intro w' hg
    rw [HT.out]; exact i_text _ _ w' (ra.gr hg) ha hK (htab_gr htab hg)
  have HL : Hid (tx.size = Lib.nDigits a.natAbs) := by show _ = _; rw [HT.out, size_str, Lib.decDigits_length]
  have hlen : tx.size ≤ 9000000 := by
    rw [HL.out]
    have : a.natAbs < 10 ^ (9 * K) := by rw [pow10_9]; exact ha
    rcases Nat.eq_zero_or_pos K with h0 | h0
    · subst h0; exact Nat.le_trans ((nDigits_le_iff _ 1 (by omega)).2 (by omega)) (by omega)
    · exact Nat.le_trans ((nDigits_le_iff _ (9 * K) (by omega)).2 this) (by omega)
  have HG0 := Lib.hid hg0
  have HX0 := Lib.hid hx0
  clear hg0 hx0 ra h ha htab
  by_cases h1 : (4096 : Int) < (tx.size : Int)
  · have HR : Hid (longR a = (⟨#[]⟩, 23)) := by show longR a = _; unfold longR; rw [if_pos (by rw [← HL.out]; omega)]
    rw [HR.out]
    go_enter Tryz.func146, Tryz.ntmps146
    go_wp2_with fail
    refine (HTX.out _ HG0.out).mono ?_
    rintro e w2 ⟨rfl, hg2⟩
    have HG2 := Lib.hid (Gr.trans HG0.out hg2)
    clear hg2
    go_wp2
    go_ret2
    exact ⟨rfl, HG2.out⟩
  · by_cases h2 : s = true
    · have HR : Hid (longR a = ((⟨#[45]⟩ : ByteArray) ++ tx, 0)) := by
        show longR a = _
        have hlt : a < 0 := by have := HS.out; rw [h2] at this; simpa using this.symm
        unfold longR
        rw [if_neg (by rw [← HL.out]; omega), HT.out, ← Tx_nat, Tx_minus _ (by omega)]
        congr 2; omega
      rw [HR.out]
      subst h2
      go_enter Tryz.func146, Tryz.ntmps146
      go_wp2_with fail
      refine (HTX.out _ HG0.out).mono ?_
      rintro e w2 ⟨rfl, hg2⟩
      have HG2 := Lib.hid (Gr.trans HG0.out hg2)
      obtain ⟨p1, p2⟩ := HX0.out.gr hg2 (by simp)
      clear hg2
      go_wp2
      go_ret2
      exact ⟨rfl, HG2.out⟩
    · have h2' : s = false := by cases s <;> simp_all
      have HR : Hid (longR a = (tx, 0)) := by
        show longR a = _
        have hlt : ¬ a < 0 := by have := HS.out; rw [h2'] at this; simpa using this.symm
        unfold longR
        rw [if_neg (by rw [← HL.out]; omega), HT.out, ← Tx_nat]
        congr 2; omega
      rw [HR.out]
      subst h2'
      clear h2
      go_enter Tryz.func146, Tryz.ntmps146
      go_wp2_with fail
      refine (HTX.out _ HG0.out).mono ?_
      rintro e w2 ⟨rfl, hg2⟩
      have HG2 := Lib.hid (Gr.trans HG0.out hg2)
      obtain ⟨p1, p2⟩ := HX0.out.gr hg2 (by simp)
      clear hg2
      go_wp2
      go_ret2
      exact ⟨rfl, HG2.out⟩

theorem cut_body (l : List UInt8) : Lib.trimPrefix l [45] = body l ∧ Lib.hasPrefix l [45] = decide (l.head? = some 45) := by
  unfold Lib.trimPrefix Lib.hasPrefix body
  cases l with
  | nil => simp
  | cons c t =>
    by_cases h : c = 45
    · subst h; simp
    · have : ¬ (45 : UInt8) = c := fun e => h e.symm
      have h2 : [45].isPrefixOf (c :: t) = false := by simp [List.isPrefixOf, this]
      simp [h, h2]
theorem ival_abs (l : List UInt8) : (ival l).natAbs = dec (body l) := by unfold ival; split <;> simp
theorem ival_neg {l : List UInt8} (h : formB l = true) : decide (l.head? = some 45) = decide (ival l < 0) := by
  have h1 := head_itoa (ival l)
  rw [itoa_ival l h] at h1
  rw [decide_eq_decide]; exact h1
theorem form_all {l : List UInt8} (h : formB l = true) : (body l).all isD = true := by
  unfold formB at h
  simp only [Bool.and_eq_true] at h
  exact h.1.1
theorem body_len (l : List UInt8) : (body l).length ≤ l.length := by unfold body; split <;> simp
set_option maxHeartbeats 2000000 in
set_option maxRecDepth 100000 in
theorem i_read (s : ByteArray) (w : World) (hf : formB s.data.toList = true) (hs : s.size ≤ 1000000) :
    Calls Tryz.prog 145 #[.string s] w (fun e w' => NRet (ival s.data.toList) w w' e) := by
  obtain ⟨d, HD⟩ : ∃ d, Hid (d = str (body s.data.toList)) := ⟨_, rfl⟩
  obtain ⟨b, HB⟩ : ∃ b, Hid (b = decide (ival s.data.toList < 0)) := ⟨_, rfl⟩
  obtain ⟨a, HA⟩ : ∃ a, Hid (ival s.data.toList = a) := ⟨_, rfl⟩
  have HCP : Hid (∀ w, Calls Tryz.prog 118 #[.string s, .string ⟨#[45]⟩] w (fun e w' => e = .returned (.tuple #[.string d, .bool b]) ∧ w = w')) := by
    intro w
    refine (Tryz.strings_CutPrefix s ⟨#[45]⟩ w).mono ?_
    rintro e w' ⟨rfl, rfl⟩
    have h1 := cut_body s.data.toList
    rw [show (⟨#[45]⟩ : ByteArray).data.toList = [45] from rfl, h1.1, h1.2, ival_neg hf, HD.out, HB.out]
    exact ⟨rfl, rfl⟩
  have HRW : Hid (∀ w, Calls Tryz.prog 164 #[.string d] w (fun e w' => WRet a.natAbs w w' e)) := by
    intro w
    have h1 : d.data.toList = body s.data.toList := by rw [HD.out, data_str]
    have := i_readWords d w (by rw [HD.out, size_str]; have := body_len s.data.toList; rw [show s.data.toList.length = s.size by simp] at this; omega) (by rw [h1]; exact form_all hf)
    rw [h1, ← ival_abs, HA.out] at this; exact this
  rw [HA.out]
  have HBA : Hid (b = decide (a < 0)) := by show b = _; rw [HB.out, HA.out]
  have hg0 : Gr w (w.alloc (.cells #[.bool false, .slice none 0 0] 138)) := (Gr.refl w).alloc _
  have hf0 := Fresh.new w 138
  have HG0 := Lib.hid hg0
  have HF0 := Lib.hid hf0
  clear hg0 hf0 hf
  go_enter Tryz.func145, Tryz.ntmps145
  go_wp2_with fail
  refine (HCP.out _).mono ?_
  rintro e w1 ⟨rfl, rfl⟩
  go_wp2_with fail
  refine (HRW.out _).mono ?_
  rintro e w3 ⟨v3, rfl, hw3, hg3⟩
  obtain ⟨a3, n3, c3, rfl⟩ := hw3.sh
  have HW3 := Lib.hid hw3
  have HG3 := Lib.hid (Gr.trans HG0.out hg3)
  have hf3 := HF0.out.gr hg3 (by simp)
  obtain ⟨k1, k2, f1, f2⟩ := id hf3
  have HF3 := Lib.hid hf3
  clear hw3 hg3 hf3
  go_wp2
  obtain ⟨g1, g2, g3, g4⟩ := NV.store (b := w.heap.size) HG3.out (by omega) HW3.out HF3.out
  rw [← HBA.out] at g1 g2 g3 g4
  refine bodyPost_ret (v := .agg #[.bool b, .slice a3 n3 c3]) (by simp [results, Tryz.results145, go_sem, g3, g4]) rfl ⟨_, rfl, g2, g1⟩
end Go.Proofs.YtlbnibicehpobaaGreatDoor

/- Numbers: what the floored quotient and remainder are by magnitudes. Of no program. -/
namespace Go.Proofs.YtlbnibicehpobaaGreatDoor
open Go.RowKit Go.Shelf
open Z

theorem fmod_by_abs (a b : Int) (hb : b ≠ 0) : a.fmod b =
    if (decide (a < 0) != decide (b < 0)) then (if a.natAbs % b.natAbs = 0 then 0 else sg (decide (b < 0)) (b.natAbs - a.natAbs % b.natAbs)) else sg (decide (b < 0)) (a.natAbs % b.natAbs) := by
  rw [Int.fmod_def, fdiv_by_abs a b hb]
  have hlt : a.natAbs % b.natAbs < b.natAbs := Nat.mod_lt _ (by omega)
  by_cases h1 : a < 0 <;> by_cases h2 : b < 0
  · obtain ⟨x, rfl⟩ : ∃ x : Nat, a = -x := ⟨a.natAbs, by omega⟩
    obtain ⟨y, rfl⟩ : ∃ y : Nat, b = -y := ⟨b.natAbs, by omega⟩
    simp only [h1, h2, bne_self_eq_false, Bool.false_eq_true, if_false, Int.natAbs_neg, Int.natAbs_natCast, decide_true, sg, if_true] at hlt ⊢
    have e := Nat.div_add_mod x y
    have e' : (y : Int) * ((x / y : Nat) : Int) + ((x % y : Nat) : Int) = (x : Int) := by rw [← Int.natCast_mul, ← Int.natCast_add, e]
    rw [Int.neg_mul]; omega
  · obtain ⟨x, rfl⟩ : ∃ x : Nat, a = -x := ⟨a.natAbs, by omega⟩
    obtain ⟨y, rfl⟩ : ∃ y : Nat, b = y := ⟨b.natAbs, by omega⟩
    simp only [h1, h2, decide_true, decide_false, Bool.bne_false, if_true, Int.natAbs_neg, Int.natAbs_natCast, sg, Bool.false_eq_true, if_false] at hlt ⊢
    have e := Nat.div_add_mod x y
    have e' : (y : Int) * ((x / y : Nat) : Int) + ((x % y : Nat) : Int) = (x : Int) := by rw [← Int.natCast_mul, ← Int.natCast_add, e]
    by_cases hz : x % y = 0
    · rw [if_pos hz, if_pos hz, Int.mul_neg]; omega
    · rw [if_neg hz, if_neg hz, Int.mul_neg, Int.natCast_add, Int.mul_add]; omega
  · obtain ⟨x, rfl⟩ : ∃ x : Nat, a = x := ⟨a.natAbs, by omega⟩
    obtain ⟨y, rfl⟩ : ∃ y : Nat, b = -y := ⟨b.natAbs, by omega⟩
    simp only [h1, h2, decide_true, decide_false, Bool.bne_true, Bool.not_false, if_true, Int.natAbs_neg, Int.natAbs_natCast, sg] at hlt ⊢
    have e := Nat.div_add_mod x y
    have e' : (y : Int) * ((x / y : Nat) : Int) + ((x % y : Nat) : Int) = (x : Int) := by rw [← Int.natCast_mul, ← Int.natCast_add, e]
    by_cases hz : x % y = 0
    · rw [if_pos hz, if_pos hz, Int.neg_mul_neg]; omega
    · rw [if_neg hz, if_neg hz, Int.neg_mul_neg, Int.natCast_add, Int.mul_add]; omega
  · obtain ⟨x, rfl⟩ : ∃ x : Nat, a = x := ⟨a.natAbs, by omega⟩
    obtain ⟨y, rfl⟩ : ∃ y : Nat, b = y := ⟨b.natAbs, by omega⟩
    simp only [h1, h2, bne_self_eq_false, Bool.false_eq_true, if_false, Int.natAbs_natCast, decide_false, sg] at hlt ⊢
    have e := Nat.div_add_mod x y
    have e' : (y : Int) * ((x / y : Nat) : Int) + ((x % y : Nat) : Int) = (x : Int) := by rw [← Int.natCast_mul, ← Int.natCast_add, e]
    omega
/-- the sizes of both results -/
def qsz (a b : Int) : Nat := if (decide (a < 0) != decide (b < 0)) = true ∧ a.natAbs % b.natAbs ≠ 0 then a.natAbs / b.natAbs + 1 else a.natAbs / b.natAbs
def rsz (a b : Int) : Nat := if (decide (a < 0) != decide (b < 0)) = true ∧ a.natAbs % b.natAbs ≠ 0 then b.natAbs - a.natAbs % b.natAbs else a.natAbs % b.natAbs
theorem sg_qsz (a b : Int) (hb : b ≠ 0) : sg (decide (a < 0) != decide (b < 0)) (qsz a b) = a.fdiv b := by
  rw [fdiv_by_abs a b hb]
  unfold qsz sg
  by_cases h : (decide (a < 0) != decide (b < 0)) = true
  · rw [if_pos h, if_pos h]
    by_cases hz : a.natAbs % b.natAbs = 0
    · rw [if_neg (by simp [hz]), if_pos hz]
    · rw [if_pos ⟨h, hz⟩, if_neg hz]
  · rw [if_neg h, if_neg h, if_neg (by simp [h])]
theorem sg_rsz (a b : Int) (hb : b ≠ 0) : sg (decide (b < 0)) (rsz a b) = a.fmod b := by
  rw [fmod_by_abs a b hb]
  unfold rsz
  by_cases h : (decide (a < 0) != decide (b < 0)) = true
  · rw [if_pos h]
    by_cases hz : a.natAbs % b.natAbs = 0
    · rw [if_neg (by simp [hz]), if_pos hz, hz]; unfold sg; split <;> rfl
    · rw [if_pos ⟨h, hz⟩, if_neg hz]
  · rw [if_neg h, if_neg (by simp [h])]
end Go.Proofs.YtlbnibicehpobaaGreatDoor

/- Numbers: divide. -/
namespace Go.Proofs.YtlbnibicehpobaaGreatDoor
open Go.RowKit Go.Shelf
open Z

theorem Fresh.set {w : World} {b b' o : Nat} {u : Value} (h : Fresh w b) (hn : b ≠ b') : Fresh (w.setCell ⟨b', o, none⟩ u) b :=
  ⟨(World.cell?_setCell_other _ _ _ _ (by simp only [ne_eq, Addr.mk.injEq]; omega)).trans h.c0, (World.cell?_setCell_other _ _ _ _ (by simp only [ne_eq, Addr.mk.injEq]; omega)).trans h.c1, (World.frozen?_setCell _ _ _ _).trans h.f0, (World.frozen?_setCell _ _ _ _).trans h.f1⟩
/-- two numbers that were stored into the blocks of two results -/
theorem two_store {w w3 : World} {b b' n3 c3 n4 c4 n n' : Nat} {a3 a4 : Option Addr} {t t' : Bool} (hG : Gr w w3) (hb : w.heap.size ≤ b) (hb' : w.heap.size ≤ b') (hne : b ≠ b') (hw : WD w3 (.slice a3 n3 c3) n) (hw' : WD w3 (.slice a4 n4 c4) n') (hf : Fresh w3 b) (hf' : Fresh w3 b') :
    let W := (((w3.setCell ⟨b, 0, none⟩ (.bool t)).setCell ⟨b, 1, none⟩ (.slice a3 n3 c3)).setCell ⟨b', 0, none⟩ (.bool t')).setCell ⟨b', 1, none⟩ (.slice a4 n4 c4)
    Gr w W ∧ WD W (.slice a3 n3 c3) n ∧ WD W (.slice a4 n4 c4) n' ∧ W.cell? ⟨b, 0, none⟩ = some (.bool t) ∧ W.cell? ⟨b, 1, none⟩ = some (.slice a3 n3 c3) ∧ W.cell? ⟨b', 0, none⟩ = some (.bool t') ∧ W.cell? ⟨b', 1, none⟩ = some (.slice a4 n4 c4) := by
  obtain ⟨g1, g2, g3, g4⟩ := nv_store (t := t) hG hb hw hf.c0 (by simp) hf.c1 (by simp)
  have e1 : (w3.setCell ⟨b, 0, none⟩ (.bool t)).cell? ⟨b, 1, none⟩ = some (.slice none 0 0) := (World.cell?_setCell_other _ _ _ _ (by simp)).trans hf.c1
  have hw2 : WD ((w3.setCell ⟨b, 0, none⟩ (.bool t)).setCell ⟨b, 1, none⟩ (.slice a3 n3 c3)) (.slice a4 n4 c4) n' := (hw'.setNot hf.c0 (by simp)).setNot e1 (by simp)
  have hf2 : Fresh ((w3.setCell ⟨b, 0, none⟩ (.bool t)).setCell ⟨b, 1, none⟩ (.slice a3 n3 c3)) b' := (hf'.set (Ne.symm hne)).set (Ne.symm hne)
  obtain ⟨q1, q2, q3, q4⟩ := nv_store (t := t') g1 hb' hw2 hf2.c0 (by simp) hf2.c1 (by simp)
  have e2 : (((w3.setCell ⟨b, 0, none⟩ (.bool t)).setCell ⟨b, 1, none⟩ (.slice a3 n3 c3)).setCell ⟨b', 0, none⟩ (.bool t')).cell? ⟨b', 1, none⟩ = some (.slice none 0 0) := (World.cell?_setCell_other _ _ _ _ (by simp)).trans hf2.c1
  refine ⟨q1, (g2.setNot hf2.c0 (by simp)).setNot e2 (by simp), q2, ?_, ?_, q3, q4⟩
  · rw [World.cell?_setCell_other _ _ _ _ (by simp only [ne_eq, Addr.mk.injEq]; omega), World.cell?_setCell_other _ _ _ _ (by simp only [ne_eq, Addr.mk.injEq]; omega)]; exact g3
  · rw [World.cell?_setCell_other _ _ _ _ (by simp only [ne_eq, Addr.mk.injEq]; omega), World.cell?_setCell_other _ _ _ _ (by simp only [ne_eq, Addr.mk.injEq]; omega)]; exact g4
def DRet (a b : Int) (w w' : World) (e : Ending) : Prop := ∃ v v', e = .returned (.tuple #[v, v']) ∧ NV w' v (a.fdiv b) ∧ NV w' v' (a.fmod b) ∧ Gr w w'
set_option maxHeartbeats 4000000 in
set_option maxRecDepth 100000 in
theorem i_ndivide {K : Nat} (v v' : Value) (a b : Int) (w : World) (h : NV w v a) (h' : NV w v' b) (ha : a.natAbs < 1000000000 ^ K) (hb : b.natAbs < 1000000000 ^ K) (hK : K ≤ 999999) (hb0 : b ≠ 0) :
    Calls Tryz.prog 136 #[v, v'] w (fun e w' => DRet a b w w' e) := by
  obtain ⟨aa, na, ca, rfl, ra⟩ := h.form
  obtain ⟨ab, nb, cb, rfl, rb⟩ := h'.form
  obtain ⟨s, HS⟩ : ∃ s, Hid (s = decide (a < 0)) := ⟨_, rfl⟩
  obtain ⟨t, HT⟩ : ∃ t, Hid (t = decide (b < 0)) := ⟨_, rfl⟩
  rw [← HS.out, ← HT.out]
  have HDV : Hid (∀ w', Gr w w' → Calls Tryz.prog 158 #[.slice aa na ca, .slice ab nb cb] w' (fun e w'' => DWRet (a.natAbs / b.natAbs) (a.natAbs % b.natAbs) w' w'' e)) := fun w' hg => i_divide (K := K) _ _ _ _ w' (ra.gr hg) (rb.gr hg) ha hb (by omega) (by omega)
  have hW0 : ∃ W0, W0 = (((w.alloc (.cells #[.bool s, .slice aa na ca] 138)).alloc (.cells #[.bool t, .slice ab nb cb] 138)).alloc (.cells #[.bool false, .slice none 0 0] 138)).alloc (.cells #[.bool false, .slice none 0 0] 138) := ⟨_, rfl⟩
  obtain ⟨W0, hW0⟩ := hW0
  have hg0 : Gr w W0 := by rw [hW0]; exact ((((Gr.refl w).alloc _).alloc _).alloc _).alloc _
  have hz0 : w.heap.size + 3 < W0.heap.size := by rw [hW0]; simp
  have hx0 : Box2 W0 w.heap.size s (.slice aa na ca) := by
    rw [hW0]; exact (Box2.new w s (.slice aa na ca) 138).gr ((((Gr.refl _).alloc _).alloc _).alloc _) (by simp)
  have hx1 : Box2 W0 (w.heap.size + 1) t (.slice ab nb cb) := by
    have := Box2.new (w.alloc (.cells #[.bool s, .slice aa na ca] 138)) t (.slice ab nb cb) 138
    rw [World.size_alloc] at this
    rw [hW0]; exact this.gr (((Gr.refl _).alloc _).alloc _) (by simp)
  have hf2 : Fresh W0 (w.heap.size + 2) := by
    have := Fresh.new ((w.alloc (.cells #[.bool s, .slice aa na ca] 138)).alloc (.cells #[.bool t, .slice ab nb cb] 138)) 138
    rw [World.size_alloc, World.size_alloc] at this
    rw [hW0]; exact this.gr ((Gr.refl _).alloc _) (by simp)
  have hf3 : Fresh W0 (w.heap.size + 3) := by
    have := Fresh.new (((w.alloc (.cells #[.bool s, .slice aa na ca] 138)).alloc (.cells #[.bool t, .slice ab nb cb] 138)).alloc (.cells #[.bool false, .slice none 0 0] 138)) 138
    rw [World.size_alloc, World.size_alloc, World.size_alloc] at this
    rw [hW0]; exact this
  have HG0 := Lib.hid hg0
  have HW0 := Lib.hid hW0
  have HZ0 := Lib.hid hz0
  have HX0 := Lib.hid hx0
  have HX1 := Lib.hid hx1
  have HF2 := Lib.hid hf2
  have HF3 := Lib.hid hf3
  have HB0 := Lib.hid hb0
  have HB := Lib.hid rb
  have HAK := Lib.hid ha
  have HBK := Lib.hid hb
  clear hg0 hW0 hz0 hx0 hx1 hf2 hf3 ra rb h h' ha hb hb0
  by_cases e1 : s = t
  · have hbt : (s == t) = true := by rw [e1]; exact beq_self_eq_true t
    have HQ : Hid (sg false (a.natAbs / b.natAbs) = a.fdiv b) := by
      have h := sg_qsz a b HB0.out
      rw [show (decide (a < 0) != decide (b < 0)) = false by rw [← HS.out, ← HT.out, e1]; simp] at h
      rw [← h]; unfold qsz; rw [if_neg (by rw [← HS.out, ← HT.out, e1]; simp)]; rfl
    have HR : Hid (sg t (a.natAbs % b.natAbs) = a.fmod b) := by
      have h := sg_rsz a b HB0.out
      rw [← h, HT.out]; unfold rsz; rw [if_neg (by rw [← HS.out, ← HT.out, e1]; simp)]; rfl
    clear e1
    go_enter Tryz.func136, Tryz.ntmps136
    go_wp2_with fail
    rw [← HW0.out]
    refine (HDV.out _ HG0.out).mono ?_
    rintro e w2 ⟨v5, v6, rfl, h5, h6, hg2⟩
    have H5 := Lib.hid h5
    have H6 := Lib.hid h6
    obtain ⟨a5, n5, c5, rfl⟩ := h5.sh
    obtain ⟨a6, n6, c6, rfl⟩ := h6.sh
    have HG2 := Lib.hid (Gr.trans HG0.out hg2)
    obtain ⟨p1, p2⟩ := HX0.out.gr hg2 (by have := HZ0.out; omega)
    obtain ⟨p3, p4⟩ := HX1.out.gr hg2 (by have := HZ0.out; omega)
    have hf2 := HF2.out.gr hg2 (by have := HZ0.out; omega)
    have hf3 := HF3.out.gr hg2 HZ0.out
    have HF22 := Lib.hid hf2
    have HF32 := Lib.hid hf3
    obtain ⟨k1, k2, f1, f2⟩ := hf2
    obtain ⟨k3, k4, f3, f4⟩ := hf3
    clear h5 h6 hg2
    go_wp2
    all_goals rename_i ht
    · obtain ⟨g1, g2, g3, g4, g5, g6, g7⟩ := two_store (b := w.heap.size + 1 + 1) (b' := w.heap.size + 1 + 1 + 1) (t := false) (t' := decide (0 < n6)) HG2.out (by omega) (by omega) (by omega) H5.out H6.out HF22.out HF32.out
      refine bodyPost_ret (v := .tuple #[.agg #[.bool (false), .slice a5 n5 c5], .agg #[.bool (decide (0 < n6)), .slice a6 n6 c6]]) (by simp [results, Tryz.results136, go_sem, g4, g5, g6, g7]) rfl ⟨_, _, rfl, ?_, ?_, g1⟩
      · have h := nv_agg (neg := false) g2
        rw [HQ.out] at h; simpa using h
      · have h := nv_agg (neg := t) g3
        rw [HR.out, ht, Bool.true_and] at h; exact h
    · obtain ⟨g1, g2, g3, g4, g5, g6, g7⟩ := two_store (b := w.heap.size + 1 + 1) (b' := w.heap.size + 1 + 1 + 1) (t := false) (t' := false) HG2.out (by omega) (by omega) (by omega) H5.out H6.out HF22.out HF32.out
      refine bodyPost_ret (v := .tuple #[.agg #[.bool (false), .slice a5 n5 c5], .agg #[.bool false, .slice a6 n6 c6]]) (by simp [results, Tryz.results136, go_sem, g4, g5, g6, g7]) rfl ⟨_, _, rfl, ?_, ?_, g1⟩
      · have h := nv_agg (neg := false) g2
        rw [HQ.out] at h; simpa using h
      · have h := nv_agg (neg := t) g3
        have htf : t = false := by cases t <;> simp_all
        rw [HR.out, htf, Bool.false_and] at h; exact h
  · have hbt : (s == t) = false := by cases s <;> cases t <;> simp_all
    have hop : (decide (a < 0) != decide (b < 0)) = true := by rw [← HS.out, ← HT.out]; cases s <;> cases t <;> simp_all
    clear e1
    by_cases e2 : a.natAbs % b.natAbs = 0
    · have HQ : Hid (sg true (a.natAbs / b.natAbs) = a.fdiv b) := by
        have h := sg_qsz a b HB0.out
        rw [hop] at h
        rw [← h]; unfold qsz; rw [if_neg (by simp [e2])]; rfl
      have HR : Hid (sg t (a.natAbs % b.natAbs) = a.fmod b) := by
        have h := sg_rsz a b HB0.out
        rw [← h, HT.out]; unfold rsz; rw [if_neg (by simp [e2])]; rfl
      have HE2 := Lib.hid e2
      clear e2 hop
      go_enter Tryz.func136, Tryz.ntmps136
      go_wp2_with fail
      rw [← HW0.out]
      refine (HDV.out _ HG0.out).mono ?_
      rintro e w2 ⟨v5, v6, rfl, h5, h6, hg2⟩
      have H5 := Lib.hid h5
      have H6 := Lib.hid h6
      obtain ⟨a5, n5, c5, rfl⟩ := h5.sh
      obtain ⟨a6, n6, c6, rfl⟩ := h6.sh
      have hn6 : n6 = 0 := H6.out.zero.2 HE2.out
      subst hn6
      have HG2 := Lib.hid (Gr.trans HG0.out hg2)
      obtain ⟨p1, p2⟩ := HX0.out.gr hg2 (by have := HZ0.out; omega)
      obtain ⟨p3, p4⟩ := HX1.out.gr hg2 (by have := HZ0.out; omega)
      have hf2 := HF2.out.gr hg2 (by have := HZ0.out; omega)
      have hf3 := HF3.out.gr hg2 HZ0.out
      have HF22 := Lib.hid hf2
      have HF32 := Lib.hid hf3
      obtain ⟨k1, k2, f1, f2⟩ := hf2
      obtain ⟨k3, k4, f3, f4⟩ := hf3
      clear h5 h6 hg2
      go_wp2
      all_goals
        obtain ⟨g1, g2, g3, g4, g5, g6, g7⟩ := two_store (b := w.heap.size + 1 + 1) (b' := w.heap.size + 1 + 1 + 1) (t := decide (0 < n5)) (t' := false) HG2.out (by omega) (by omega) (by omega) H5.out H6.out HF22.out HF32.out
        refine bodyPost_ret (v := .tuple #[.agg #[.bool (decide (0 < n5)), .slice a5 n5 c5], .agg #[.bool false, .slice a6 0 c6]]) (by simp [results, Tryz.results136, go_sem, g4, g5, g6, g7]) rfl ⟨_, _, rfl, ?_, ?_, g1⟩
        · have h := nv_agg (neg := true) g2
          rw [HQ.out, Bool.true_and] at h; exact h
        · have h := nv_agg (neg := t) g3
          rw [HR.out] at h; simpa using h
    · have HQ : Hid (sg true (a.natAbs / b.natAbs + 1) = a.fdiv b) := by
        have h := sg_qsz a b HB0.out
        rw [hop] at h
        rw [← h]; unfold qsz; rw [if_pos ⟨hop, e2⟩]; rfl
      have HR : Hid (sg t (b.natAbs - a.natAbs % b.natAbs) = a.fmod b) := by
        have h := sg_rsz a b HB0.out
        rw [← h, HT.out]; unfold rsz; rw [if_pos ⟨hop, e2⟩]; rfl
      have HE2 : Hid (a.natAbs % b.natAbs ≠ 0) := e2
      clear e2 hop
      go_enter Tryz.func136, Tryz.ntmps136
      go_wp2_with fail
      rw [← HW0.out]
      refine (HDV.out _ HG0.out).mono ?_
      rintro e w2 ⟨v5, v6, rfl, h5, h6, hg2⟩
      have H5 := Lib.hid h5
      have H6 := Lib.hid h6
      obtain ⟨a5, n5, c5, rfl⟩ := h5.sh
      obtain ⟨a6, n6, c6, rfl⟩ := h6.sh
      have hn6 : 0 < n6 := Nat.pos_of_ne_zero (fun h => HE2.out (H6.out.zero.1 h))
      have HG2 := Lib.hid (Gr.trans HG0.out hg2)
      obtain ⟨p1, p2⟩ := HX0.out.gr hg2 (by have := HZ0.out; omega)
      obtain ⟨p3, p4⟩ := HX1.out.gr hg2 (by have := HZ0.out; omega)
      have hf2 := HF2.out.gr hg2 (by have := HZ0.out; omega)
      have hf3 := HF3.out.gr hg2 HZ0.out
      have HF22 := Lib.hid hf2
      have HF32 := Lib.hid hf3
      obtain ⟨k1, k2, f1, f2⟩ := hf2
      obtain ⟨k3, k4, f3, f4⟩ := hf3
      have HGS := Lib.hid hg2
      clear h5 h6 hg2
      go_wp2
      have hS0 : (fun w' : World => w'.cell? ⟨w.heap.size + 1, 1, none⟩ = some (.slice ab nb cb)) w2.drew := p4
      have hD0 : Gr w2 w2.drew := Gr.drew (Gr.refl _)
      refine wp_region_held (S := fun w' : World => w'.cell? ⟨w.heap.size + 1, 1, none⟩ = some (.slice ab nb cb)) (by kernel_rfl) ?_
      refine wpAnyH_take (i := 0) (v := .slice a5 n5 c5) rfl (by kernel_rfl) (by kernel_rfl) (by kernel_rfl) (fun _ _ _ h => h) (Or.inl ⟨by rfl, ?_⟩) hS0 ?_
      · intro w hSw; go_simp
      try dsimp only [Act.put]
      try simp only [List.setIfInBounds_toArray, List.set_cons_zero, List.set_cons_succ]
      refine wpAnyH_take (i := 3) (v := .pointer (some ⟨w.heap.size + 1, 1, none⟩)) rfl (by kernel_rfl) (by kernel_rfl) (by kernel_rfl) (fun _ _ _ h => h) (Or.inl ⟨by rfl, ?_⟩) hS0 ?_
      · intro w hSw; go_simp
      try dsimp only [Act.put]
      try simp only [List.setIfInBounds_toArray, List.set_cons_zero, List.set_cons_succ]
      refine wpAnyH_take (i := 4) (v := .slice ab nb cb) rfl (by kernel_rfl) (by kernel_rfl) (by kernel_rfl) (fun _ _ _ h => h) (Or.inl ⟨by rfl, ?_⟩) hS0 ?_
      · intro w hSw; go_simp
      try dsimp only [Act.put]
      try simp only [List.setIfInBounds_toArray, List.set_cons_zero, List.set_cons_succ]
      refine wpAnyH_take (i := 5) (v := .slice a6 n6 c6) rfl (by kernel_rfl) (by kernel_rfl) (by kernel_rfl) (fun _ _ _ h => h) (Or.inl ⟨by rfl, ?_⟩) hS0 ?_
      · intro w hSw; go_simp
      try dsimp only [Act.put]
      try simp only [List.setIfInBounds_toArray, List.set_cons_zero, List.set_cons_succ]
      refine wpAnyH_ready (rs := [1]) (by kernel_rfl) (by simp) (AllReadyH.cons rfl (fun K' hK' => ?_) AllReadyH.nil)
      go_simp
      have hGa : Gr w2 (w2.alloc (.cells #[.int .u32 1] 173)).drew := ((Gr.refl _).alloc _).drew
      have hR1 : WD (w2.alloc (.cells #[.int .u32 1] 173)).drew (.slice (some ⟨w2.heap.size, 0, none⟩) 1 1) 1 := ⟨[1], rd_newD w2 1 _, ⟨by intro x hx; simp at hx; omega, by simp⟩, rfl⟩
      have hz2 : w.heap.size + 3 < w2.heap.size := Nat.lt_of_lt_of_le HZ0.out HGS.out.size
      have q4 : (w2.alloc (.cells #[.int .u32 1] 173)).drew.cell? ⟨w.heap.size + 1, 1, none⟩ = some (.slice ab nb cb) := (Below.cell hGa (p := ⟨w.heap.size + 1, 1, none⟩) (by show w.heap.size + 1 < _; omega)).trans p4
      refine hK'.out _ _ q4 (fun hS1 => ?_)
      clear hK' K' hS0
      try dsimp only [Act.put]
      try simp only [List.setIfInBounds_toArray, List.set_cons_zero, List.set_cons_succ]
      refine wpAnyH_ready (rs := [2]) (by kernel_rfl) (by simp) (AllReadyH.cons rfl (fun K' hK' => ?_) AllReadyH.nil)
      go_simp
      have hKp : 1000000000 ^ K ≤ 1000000000 ^ (K + 1) := Nat.pow_le_pow_right (by omega) (by omega)
      have h1K : 1 < 1000000000 ^ (K + 1) := by rw [Nat.pow_succ]; have : 0 < 1000000000 ^ K := Nat.pow_pos (by omega); omega
      refine (i_plus (K := K + 1) _ _ _ 1 _ (H5.out.gr hGa) hR1 (Nat.lt_of_le_of_lt (Nat.div_le_self _ _) (Nat.lt_of_lt_of_le HAK.out hKp)) h1K (by omega)).mono ?_
      rintro e w7 ⟨v7, rfl, h7, hg7⟩
      have hG7 : Gr w2 w7 := Gr.trans hGa hg7
      obtain ⟨a7, n7, c7, rfl⟩ := h7.sh
      have H7 := Lib.hid h7
      have r4 : w7.cell? ⟨w.heap.size + 1, 1, none⟩ = some (.slice ab nb cb) := (Below.cell hG7 (p := ⟨w.heap.size + 1, 1, none⟩) (by show w.heap.size + 1 < _; omega)).trans p4
      refine hK'.out _ _ r4 (fun hS2 => ?_)
      clear hK' K' hS1 h7 hg7
      try dsimp only [Act.put]
      try simp only [List.setIfInBounds_toArray, List.set_cons_zero, List.set_cons_succ]
      refine wpAnyH_ready (rs := [6]) (by kernel_rfl) (by simp) (AllReadyH.cons rfl (fun K' hK' => ?_) AllReadyH.nil)
      go_simp
      refine (i_minus (K := K) _ _ _ _ _ ((HB.out.gr (Gr.trans HG2.out hG7))) (H6.out.gr hG7) HBK.out (Nat.le_of_lt (Nat.mod_lt _ (by have := HB0.out; omega))) (by omega)).mono ?_
      rintro e w8 ⟨v8, rfl, h8, hg8⟩
      have hG8 : Gr w2 w8 := Gr.trans hG7 hg8
      obtain ⟨a8, n8, c8, rfl⟩ := h8.sh
      have H8 := Lib.hid h8
      have H78 := Lib.hid (H7.out.gr hg8)
      have s4 : w8.cell? ⟨w.heap.size + 1, 1, none⟩ = some (.slice ab nb cb) := (Below.cell hG8 (p := ⟨w.heap.size + 1, 1, none⟩) (by show w.heap.size + 1 < _; omega)).trans p4
      have s3 : w8.cell? ⟨w.heap.size + 1, 0, none⟩ = some (.bool t) := (Below.cell hG8 (p := ⟨w.heap.size + 1, 0, none⟩) (by show w.heap.size + 1 < _; omega)).trans p3
      have hf28 := HF22.out.gr hG8 (by omega)
      have hf38 := HF32.out.gr hG8 (by omega)
      have HF28 := Lib.hid hf28
      have HF38 := Lib.hid hf38
      have HG8 := Lib.hid (Gr.trans HG2.out hG8)
      refine hK'.out _ _ s4 (fun hS3 => ?_)
      clear hK' K' hS2 h8 hg8
      try dsimp only [Act.put]
      try simp only [List.setIfInBounds_toArray, List.set_cons_zero, List.set_cons_succ]
      refine wpAnyH_ready (rs := [7]) (by kernel_rfl) (by simp) (AllReadyH.cons rfl (fun K' hK' => ?_) AllReadyH.nil)
      go_simp
      refine hK'.out _ _ s4 (fun hS4 => ?_)
      clear hK' K' hS3
      try dsimp only [Act.put]
      try simp only [List.setIfInBounds_toArray, List.set_cons_zero, List.set_cons_succ]
      refine wpAnyH_ready (rs := [8]) (by kernel_rfl) (by simp) (AllReadyH.cons rfl (fun K' hK' => ?_) AllReadyH.nil)
      go_simp
      refine hK'.out _ _ s4 (fun hS5 => ?_)
      clear hK' K' hS4
      try dsimp only [Act.put]
      try simp only [List.setIfInBounds_toArray, List.set_cons_zero, List.set_cons_succ]
      refine wpAnyH_done (by kernel_rfl) ?_ _
      obtain ⟨m1, m2, m3, m4⟩ := hf28
      obtain ⟨m5, m6, m7, m8⟩ := hf38
      clear hS5 q4 r4 k1 k2 k3 k4 f1 f2 f3 f4 hGa hG7 hG8 hD0 hR1 hKp h1K p1 p2 p3 p4
      go_wp2
      all_goals rename_i ht
      · obtain ⟨g1, g2, g3, g4, g5, g6, g7⟩ := two_store (b := w.heap.size + 1 + 1) (b' := w.heap.size + 1 + 1 + 1) (t := decide (0 < n7)) (t' := decide (0 < n8)) HG8.out (by omega) (by omega) (by omega) H78.out H8.out HF28.out HF38.out
        refine bodyPost_ret (v := .tuple #[.agg #[.bool (decide (0 < n7)), .slice a7 n7 c7], .agg #[.bool (decide (0 < n8)), .slice a8 n8 c8]]) (by simp [results, Tryz.results136, go_sem, g4, g5, g6, g7]) rfl ⟨_, _, rfl, ?_, ?_, g1⟩
        · have h := nv_agg (neg := true) g2
          rw [HQ.out, Bool.true_and] at h; exact h
        · have h := nv_agg (neg := t) g3
          rw [HR.out, ht, Bool.true_and] at h; exact h
      · obtain ⟨g1, g2, g3, g4, g5, g6, g7⟩ := two_store (b := w.heap.size + 1 + 1) (b' := w.heap.size + 1 + 1 + 1) (t := decide (0 < n7)) (t' := false) HG8.out (by omega) (by omega) (by omega) H78.out H8.out HF28.out HF38.out
        refine bodyPost_ret (v := .tuple #[.agg #[.bool (decide (0 < n7)), .slice a7 n7 c7], .agg #[.bool false, .slice a8 n8 c8]]) (by simp [results, Tryz.results136, go_sem, g4, g5, g6, g7]) rfl ⟨_, _, rfl, ?_, ?_, g1⟩
        · have h := nv_agg (neg := true) g2
          rw [HQ.out, Bool.true_and] at h; exact h
        · have h := nv_agg (neg := t) g3
          have htf : t = false := by cases t <;> simp_all
          rw [HR.out, htf, Bool.false_and] at h; exact h
end Go.Proofs.YtlbnibicehpobaaGreatDoor

/- Numbers: quotient, remainder. -/
namespace Go.Proofs.YtlbnibicehpobaaGreatDoor
open Go.RowKit Go.Shelf
open Z

set_option maxHeartbeats 4000000 in
set_option maxRecDepth 100000 in
theorem i_quotient {K : Nat} (v v' : Value) (a b : Int) (w : World) (h : NV w v a) (h' : NV w v' b) (ha : a.natAbs < 1000000000 ^ K) (hb : b.natAbs < 1000000000 ^ K) (hK : K ≤ 999999) (hb0 : b ≠ 0) :
    Calls Tryz.prog 117 #[v, v'] w (fun e w' => NRet (a.fdiv b) w w' e) := by
  have HD : Hid (∀ w', Gr w w' → Calls Tryz.prog 136 #[v, v'] w' (fun e w'' => DRet a b w' w'' e)) := fun w' hg => i_ndivide v v' a b w' (h.gr hg) (h'.gr hg) ha hb hK hb0
  obtain ⟨aa, na, ca, rfl, ra⟩ := h.form
  obtain ⟨ab, nb, cb, rfl, rb⟩ := h'.form
  obtain ⟨s, HS⟩ : ∃ s, Hid (s = decide (a < 0)) := ⟨_, rfl⟩
  obtain ⟨t, HT⟩ : ∃ t, Hid (t = decide (b < 0)) := ⟨_, rfl⟩
  rw [← HS.out, ← HT.out] at HD ⊢
  have hW0 : ∃ W0, W0 = ((w.alloc (.cells #[.bool s, .slice aa na ca] 138)).alloc (.cells #[.bool t, .slice ab nb cb] 138)).alloc (.cells #[.bool false, .slice none 0 0] 138) := ⟨_, rfl⟩
  obtain ⟨W0, hW0⟩ := hW0
  have hg0 : Gr w W0 := by rw [hW0]; exact (((Gr.refl w).alloc _).alloc _).alloc _
  have hf0 : Fresh W0 (w.heap.size + 2) := by
    have := Fresh.new ((w.alloc (.cells #[.bool s, .slice aa na ca] 138)).alloc (.cells #[.bool t, .slice ab nb cb] 138)) 138
    rw [World.size_alloc, World.size_alloc] at this
    rw [hW0]; exact this
  have hz0 : w.heap.size + 2 < W0.heap.size := by rw [hW0]; simp
  have HG0 := Lib.hid hg0
  have HF0 := Lib.hid hf0
  have HW0 := Lib.hid hW0
  have HZ0 := Lib.hid hz0
  clear hg0 hf0 hW0 hz0 ra rb h h' ha hb
  go_enter Tryz.func117, Tryz.ntmps117
  go_wp2_with fail
  rw [← HW0.out]
  refine (HD.out _ HG0.out).mono ?_
  rintro e w3 ⟨v5, v6, rfl, hn5, hn6, hg3⟩
  have HN5 := Lib.hid hn5
  have HN6 := Lib.hid hn6
  obtain ⟨u5, a5, n5, c5, rfl⟩ : ∃ u a n c, v5 = .agg #[.bool u, .slice a n c] := by obtain ⟨a, n, c, h, -⟩ := hn5.form; exact ⟨_, a, n, c, h⟩
  obtain ⟨u6, a6, n6, c6, rfl⟩ : ∃ u a n c, v6 = .agg #[.bool u, .slice a n c] := by obtain ⟨a, n, c, h, -⟩ := hn6.form; exact ⟨_, a, n, c, h⟩
  have hG3 := Gr.trans HG0.out hg3
  have hf3 := HF0.out.gr hg3 HZ0.out
  have hz3 : w.heap.size + 2 < w3.heap.size := Nat.lt_of_lt_of_le HZ0.out hg3.size
  have HG3 := Lib.hid hG3
  have HZ3 := Lib.hid hz3
  have HF3 := Lib.hid hf3
  have hf4 : ∀ o o', Fresh ((w3.alloc o).alloc o') (w.heap.size + 2) := fun o o' => hf3.gr (((Gr.refl w3).alloc o).alloc o') hz3
  have k1 : ∀ o o', ((w3.alloc o).alloc o').cell? ⟨w.heap.size + 1 + 1, 0, none⟩ = some (.bool false) := fun o o' => (hf4 o o').c0
  have k2 : ∀ o o', ((w3.alloc o).alloc o').cell? ⟨w.heap.size + 1 + 1, 1, none⟩ = some (.slice none 0 0) := fun o o' => (hf4 o o').c1
  have f1 : ∀ o o', ((w3.alloc o).alloc o').frozen? ⟨w.heap.size + 1 + 1, 0, none⟩ = false := fun o o' => (hf4 o o').f0
  have f2 : ∀ o o', ((w3.alloc o).alloc o').frozen? ⟨w.heap.size + 1 + 1, 1, none⟩ = false := fun o o' => (hf4 o o').f1
  clear hn5 hn6 hg3 hG3 hf3 hf4
  go_wp2
  have hgA : Gr w3 ((w3.alloc (.cells #[.bool u5, .slice a5 n5 c5] 138)).alloc (.cells #[.bool u6, .slice a6 n6 c6] 138)) := ((Gr.refl w3).alloc _).alloc _
  obtain ⟨sl, hsl, hwd⟩ := HN5.out.gr hgA
  simp only [Value.agg.injEq, Array.mk.injEq, List.cons.injEq, Value.bool.injEq, and_true] at hsl
  obtain ⟨hu, rfl⟩ := hsl
  have hfA := HF3.out.gr hgA HZ3.out
  obtain ⟨g1, g2, g3, g4⟩ := nv_store (t := u5) (b := w.heap.size + 1 + 1) (Gr.trans HG3.out hgA) (by omega) hwd hfA.c0 (by simp) hfA.c1 (by simp)
  refine bodyPost_ret (v := .agg #[.bool u5, .slice a5 n5 c5]) (by simp [results, Tryz.results117, go_sem, g3, g4]) rfl ⟨_, rfl, ⟨_, by rw [hu], g2⟩, g1⟩

set_option maxHeartbeats 4000000 in
set_option maxRecDepth 100000 in
theorem i_remainder {K : Nat} (v v' : Value) (a b : Int) (w : World) (h : NV w v a) (h' : NV w v' b) (ha : a.natAbs < 1000000000 ^ K) (hb : b.natAbs < 1000000000 ^ K) (hK : K ≤ 999999) (hb0 : b ≠ 0) :
    Calls Tryz.prog 143 #[v, v'] w (fun e w' => NRet (a.fmod b) w w' e) := by
  have HD : Hid (∀ w', Gr w w' → Calls Tryz.prog 136 #[v, v'] w' (fun e w'' => DRet a b w' w'' e)) := fun w' hg => i_ndivide v v' a b w' (h.gr hg) (h'.gr hg) ha hb hK hb0
  obtain ⟨aa, na, ca, rfl, ra⟩ := h.form
  obtain ⟨ab, nb, cb, rfl, rb⟩ := h'.form
  obtain ⟨s, HS⟩ : ∃ s, Hid (s = decide (a < 0)) := ⟨_, rfl⟩
  obtain ⟨t, HT⟩ : ∃ t, Hid (t = decide (b < 0)) := ⟨_, rfl⟩
  rw [← HS.out, ← HT.out] at HD ⊢
  have hW0 : ∃ W0, W0 = ((w.alloc (.cells #[.bool s, .slice aa na ca] 138)).alloc (.cells #[.bool t, .slice ab nb cb] 138)).alloc (.cells #[.bool false, .slice none 0 0] 138) := ⟨_, rfl⟩
  obtain ⟨W0, hW0⟩ := hW0
  have hg0 : Gr w W0 := by rw [hW0]; exact (((Gr.refl w).alloc _).alloc _).alloc _
  have hf0 : Fresh W0 (w.heap.size + 2) := by
    have := Fresh.new ((w.alloc (.cells #[.bool s, .slice aa na ca] 138)).alloc (.cells #[.bool t, .slice ab nb cb] 138)) 138
    rw [World.size_alloc, World.size_alloc] at this
    rw [hW0]; exact this
  have hz0 : w.heap.size + 2 < W0.heap.size := by rw [hW0]; simp
  have HG0 := Lib.hid hg0
  have HF0 := Lib.hid hf0
  have HW0 := Lib.hid hW0
  have HZ0 := Lib.hid hz0
  clear hg0 hf0 hW0 hz0 ra rb h h' ha hb
  go_enter Tryz.func143, Tryz.ntmps143
  go_wp2_with fail
  rw [← HW0.out]
  refine (HD.out _ HG0.out).mono ?_
  rintro e w3 ⟨v5, v6, rfl, hn5, hn6, hg3⟩
  have HN5 := Lib.hid hn5
  have HN6 := Lib.hid hn6
  obtain ⟨u5, a5, n5, c5, rfl⟩ : ∃ u a n c, v5 = .agg #[.bool u, .slice a n c] := by obtain ⟨a, n, c, h, -⟩ := hn5.form; exact ⟨_, a, n, c, h⟩
  obtain ⟨u6, a6, n6, c6, rfl⟩ : ∃ u a n c, v6 = .agg #[.bool u, .slice a n c] := by obtain ⟨a, n, c, h, -⟩ := hn6.form; exact ⟨_, a, n, c, h⟩
  have hG3 := Gr.trans HG0.out hg3
  have hf3 := HF0.out.gr hg3 HZ0.out
  have hz3 : w.heap.size + 2 < w3.heap.size := Nat.lt_of_lt_of_le HZ0.out hg3.size
  have HG3 := Lib.hid hG3
  have HZ3 := Lib.hid hz3
  have HF3 := Lib.hid hf3
  have hf4 : ∀ o o', Fresh ((w3.alloc o).alloc o') (w.heap.size + 2) := fun o o' => hf3.gr (((Gr.refl w3).alloc o).alloc o') hz3
  have k1 : ∀ o o', ((w3.alloc o).alloc o').cell? ⟨w.heap.size + 1 + 1, 0, none⟩ = some (.bool false) := fun o o' => (hf4 o o').c0
  have k2 : ∀ o o', ((w3.alloc o).alloc o').cell? ⟨w.heap.size + 1 + 1, 1, none⟩ = some (.slice none 0 0) := fun o o' => (hf4 o o').c1
  have f1 : ∀ o o', ((w3.alloc o).alloc o').frozen? ⟨w.heap.size + 1 + 1, 0, none⟩ = false := fun o o' => (hf4 o o').f0
  have f2 : ∀ o o', ((w3.alloc o).alloc o').frozen? ⟨w.heap.size + 1 + 1, 1, none⟩ = false := fun o o' => (hf4 o o').f1
  clear hn5 hn6 hg3 hG3 hf3 hf4
  go_wp2
  have hgA : Gr w3 ((w3.alloc (.cells #[.bool u5, .slice a5 n5 c5] 138)).alloc (.cells #[.bool u6, .slice a6 n6 c6] 138)) := ((Gr.refl w3).alloc _).alloc _
  obtain ⟨sl, hsl, hwd⟩ := HN6.out.gr hgA
  simp only [Value.agg.injEq, Array.mk.injEq, List.cons.injEq, Value.bool.injEq, and_true] at hsl
  obtain ⟨hu, rfl⟩ := hsl
  have hfA := HF3.out.gr hgA HZ3.out
  obtain ⟨g1, g2, g3, g4⟩ := nv_store (t := u6) (b := w.heap.size + 1 + 1) (Gr.trans HG3.out hgA) (by omega) hwd hfA.c0 (by simp) hfA.c1 (by simp)
  refine bodyPost_ret (v := .agg #[.bool u6, .slice a6 n6 c6]) (by simp [results, Tryz.results143, go_sem, g3, g4]) rfl ⟨_, rfl, ⟨_, by rw [hu], g2⟩, g1⟩

end Go.Proofs.YtlbnibicehpobaaGreatDoor

/- integer.Check. -/
namespace Go.Proofs.YtlbnibicehpobaaGreatDoor
open Go.RowKit Go.Shelf
open Z

theorem chk_form (l : List UInt8) (h : (body l).all isD = false) : chk l = 3 := by
  unfold chk formB; rw [h]; simp
theorem len_body {s : ByteArray} {d : ByteArray} (hd : d.data.toList = body s.data.toList) (h0 : 0 < d.size) : (decide (s.data.toList.head? = some 45) = true ∨ 1 < d.size) ↔ 1 < s.data.toList.length := by
  have h1 : d.size = (body s.data.toList).length := by rw [← hd]; simp
  rw [h1] at h0 ⊢
  unfold body at h0 ⊢
  by_cases h : s.data.toList.head? = some 45
  · rw [if_pos h] at h0 ⊢
    simp only [h, decide_true, true_or, true_iff]
    rw [List.length_tail] at h0; omega
  · rw [if_neg h] at h0 ⊢
    simp only [h, decide_false, Bool.false_eq_true, false_or]
set_option maxHeartbeats 4000000 in
set_option maxRecDepth 100000 in
theorem i_Check (s : ByteArray) (w : World) (hs : s.size ≤ maxLen) :
    Calls Tryz.prog 96 #[.string s] w (fun e w' => e = .returned (.int .i64 (chk s.data.toList)) ∧ w = w') := by
  obtain ⟨t, ht⟩ : ∃ t, t = str (body s.data.toList) := ⟨_, rfl⟩
  obtain ⟨b, hb⟩ : ∃ b, b = decide (s.data.toList.head? = some 45) := ⟨_, rfl⟩
  have HCP : Hid (∀ w, Calls Tryz.prog 118 #[.string s, .string ⟨#[45]⟩] w (fun e w' => e = .returned (.tuple #[.string t, .bool b]) ∧ w = w')) := by
    intro w
    refine (Tryz.strings_CutPrefix s ⟨#[45]⟩ w).mono ?_
    rintro e w' ⟨rfl, rfl⟩
    have h1 := cut_body s.data.toList
    rw [show (⟨#[45]⟩ : ByteArray).data.toList = [45] from rfl, h1.1, h1.2, ht, hb]
    exact ⟨rfl, rfl⟩
  have hd : t.data.toList = body s.data.toList := by rw [ht, data_str]
  have hts : t.size ≤ s.size := by
    rw [ht, size_str]; have := body_len s.data.toList; rw [show s.data.toList.length = s.size by simp] at this; omega
  have HLB : Hid (0 < t.size → ((b = true ∨ 1 < t.size) ↔ 1 < s.data.toList.length)) := fun h => by rw [hb]; exact len_body hd h
  have HL : Hid (t.size = (body s.data.toList).length) := by show _ = _; rw [← hd]; simp
  have HD := Lib.hid hd
  clear hd ht hb
  unfold maxLen at hs
  go_enter Tryz.func96, Tryz.ntmps96
  go_wp2_with fail
  refine (HCP.out _).mono ?_
  rintro e w1 ⟨rfl, rfl⟩
  go_wp2
  go_loop [5, 13] (fun z i => ∃ k : Nat, k ≤ t.size ∧ i = .int .i64 k ∧ Hid (∀ j (hj : j < t.size), j < k → 48 ≤ t[j].toNat ∧ t[j].toNat ≤ 57)) (fun _ i => t.size - (intOf i).toNat)
  case atStart => exact ⟨0, Nat.zero_le _, rfl, fun j hj h => absurd h (by omega)⟩
  case round =>
    obtain ⟨k, hk, rfl, HK⟩ := hrel
    by_cases hlt : k < t.size
    · by_cases hdig : 48 ≤ t[k].toNat ∧ t[k].toNat ≤ 57
      · have hd1 : decide ((t[k].toNat : Int) < 48) = false := decide_eq_false (by omega)
        have hd2 : decide ((57 : Int) < (t[k].toNat : Int)) = false := decide_eq_false (by omega)
        have HG := Lib.hid hdig; clear hdig
        go_wp2
        go_round
        case rel =>
          refine ⟨k + 1, by omega, by go_num, fun j hj h => ?_⟩
          by_cases hjk : j = k
          · subst hjk; exact HG.out
          · exact HK.out j hj (by omega)
        case measure => simp [intOf]; omega
      · have hfin : Hid (chk s.data.toList = 3) := chk_bad2 (mem_of HD.out hlt) hdig
        go_wp2
        all_goals (go_ret; exact ⟨ret_int hfin.out.symm, rfl⟩)
    · have hall : ∀ c ∈ body s.data.toList, 48 ≤ c.toNat ∧ c.toNat ≤ 57 := by
        intro c hc
        rw [← HD.out] at hc
        obtain ⟨j, hj, rfl⟩ := List.getElem_of_mem hc
        exact HK.out j (by simpa using hj) (by have : j < t.size := by simpa using hj
                                               omega)
      have HALL := Lib.hid hall
      clear hall HK
      by_cases h0 : t.size = 0
      · have h0' : (t.toList == []) = true := by
          have : t.data.toList = [] := List.eq_nil_of_length_eq_zero (by rw [show t.data.toList.length = t.size by simp]; exact h0)
          rw [ByteArray.toList_eq, this]; rfl
        have hfin := Lib.hid (chk_bad0 (HL.out.symm.trans h0))
        go_wp2
        go_ret
        exact ⟨ret_int hfin.out.symm, rfl⟩
      · have hz : 0 < t.size := by omega
        have h0' : (t.toList == []) = false := by
          rw [ByteArray.toList_eq]
          cases hh : t.data.toList with
          | nil => have h9 : t.data.toList.length = 0 := by rw [hh]; rfl
                   rw [show t.data.toList.length = t.size by simp] at h9; omega
          | cons c l => rfl
        have HLB2 := Lib.hid (HLB.out hz)
        have h48 : ((t[0].toNat : Int) == 48) = true → t[0] = 48 := fun h => by
          have h1 : (t[0].toNat : Int) = 48 := by simpa using h
          exact UInt8.toNat_inj.1 (by have : ((48 : UInt8).toNat : Int) = 48 := rfl; omega)
        have HC : Hid ((((t[0].toNat : Int) == 48) = true ∧ (b = true ∨ 1 < t.size)) → chk s.data.toList = 3) := fun ⟨h1, h2⟩ =>
          chk_bad1 ((head_of HD.out hz).trans (by rw [h48 h1])) (HLB2.out.1 h2)
        have HN : Hid (¬ (((t[0].toNat : Int) == 48) = true ∧ (b = true ∨ 1 < t.size)) → chk s.data.toList = if 4096 < t.size then 23 else 0) := fun h => by
          rw [HL.out]
          refine chk_right (fun e => h0 (HL.out.trans e)) ?_ HALL.out
          rintro ⟨h3, h4⟩
          refine h ⟨?_, HLB2.out.2 h4⟩
          rw [head_of HD.out hz] at h3
          simp only [Option.some.injEq] at h3
          rw [h3]; rfl
        clear h48 HALL HLB HL h0
        cases hh : ((t[0].toNat : Int) == 48)
        · have hfin := Lib.hid (HN.out (by rw [hh]; simp))
          clear HC HN
          by_cases hbig : 4096 < t.size
          · go_wp2
            all_goals (go_ret; exact ⟨ret_int (by rw [hfin.out, if_pos hbig]), rfl⟩)
          · go_wp2
            all_goals (go_ret; exact ⟨ret_int (by rw [hfin.out, if_neg hbig]), rfl⟩)
        · cases b with
          | true =>
            have hfin := Lib.hid (HC.out ⟨hh, .inl rfl⟩)
            clear HC HN
            go_wp2
            all_goals (go_ret; exact ⟨ret_int hfin.out.symm, rfl⟩)
          | false =>
            by_cases h1 : 1 < t.size
            · have hfin := Lib.hid (HC.out ⟨hh, .inr h1⟩)
              clear HC HN
              go_wp2
              all_goals (go_ret; exact ⟨ret_int hfin.out.symm, rfl⟩)
            · have hfin := Lib.hid (HN.out (by simp; omega))
              clear HC HN
              have hbig : ¬ 4096 < t.size := by omega
              go_wp2
              all_goals (go_ret; exact ⟨ret_int (by rw [hfin.out, if_neg hbig]), rfl⟩)
end Go.Proofs.YtlbnibicehpobaaGreatDoor

/- integer.checkBoth, combine. -/
namespace Go.Proofs.YtlbnibicehpobaaGreatDoor
open Go.RowKit Go.Shelf
open Z

/-- how many words a text that is no error has at most -/
def KK : Nat := 456
theorem KK_le : KK ≤ 456 := by unfold KK; omega
theorem KK_ge : 456 ≤ KK := by unfold KK; omega
theorem both_ne {s t : ByteArray} (h : chk s.data.toList ≠ 0) : both s t = chk s.data.toList := by unfold both; rw [if_neg h]
theorem both_eq {s t : ByteArray} (h : chk s.data.toList = 0) : both s t = chk t.data.toList := by unfold both; rw [if_pos h]
set_option maxHeartbeats 1000000 in
theorem i_checkBoth (s t : ByteArray) (w : World) (hs : s.size ≤ maxLen) (ht : t.size ≤ maxLen) :
    Calls Tryz.prog 135 #[.string s, .string t] w (fun e w' => e = .returned (.int .i64 (both s t)) ∧ w = w') := by
  have HA := Lib.hid (fun w => i_Check s w hs)
  have HB := Lib.hid (fun w => i_Check t w ht)
  by_cases h0 : chk s.data.toList = 0
  · rw [both_eq h0]
    obtain ⟨c, HC⟩ : ∃ c, Hid (chk t.data.toList = c) := ⟨_, rfl⟩
    rw [h0] at HA
    rw [HC.out] at HB
    rw [HC.out]
    clear h0
    go_enter Tryz.func135, Tryz.ntmps135
    go_wp2_with fail
    refine (HA.out _).mono ?_
    rintro e w1 ⟨rfl, rfl⟩
    go_wp2_with fail
    refine (HB.out _).mono ?_
    rintro e w2 ⟨rfl, rfl⟩
    go_wp2
    go_ret
    exact ⟨rfl, rfl⟩
  · rw [both_ne h0]
    obtain ⟨c, HC⟩ : ∃ c, Hid (chk s.data.toList = c) := ⟨_, rfl⟩
    rw [HC.out] at HA h0
    rw [HC.out]
    have h1 : (c == 0) = false := beq_eq_false_iff_ne.2 h0
    have h2 : (c != 0) = true := by simp [h0]
    clear HB
    go_enter Tryz.func135, Tryz.ntmps135
    go_wp2_with fail
    refine (HA.out _).mono ?_
    rintro e w1 ⟨rfl, rfl⟩
    go_wp2
    go_ret
    exact ⟨rfl, rfl⟩
theorem chk_zero {l : List UInt8} (h : chk l = 0) : formB l = true ∧ (body l).length ≤ 4096 := by
  unfold chk at h
  by_cases h1 : formB l = true
  · rw [if_pos h1] at h
    refine ⟨h1, ?_⟩
    by_cases h2 : 4096 < (body l).length
    · rw [if_pos h2] at h; omega
    · omega
  · rw [if_neg h1] at h; omega
theorem ival_lt {l : List UInt8} (h : chk l = 0) : (ival l).natAbs < 1000000000 ^ KK := by
  obtain ⟨h1, h2⟩ := chk_zero h
  rw [ival_abs, ← pow10_9]
  exact Nat.lt_of_lt_of_le (dec_lt _ (form_all h1)) (Nat.pow_le_pow_right (by omega) (by have := KK_ge; omega))
theorem l_len {l : List UInt8} (h : chk l = 0) : l.length ≤ 4097 := by
  obtain ⟨h1, h2⟩ := chk_zero h
  have : l.length ≤ (body l).length + 1 := by unfold body; split <;> simp <;> omega
  omega
theorem both_zero {s t : ByteArray} (h : both s t = 0) : chk s.data.toList = 0 ∧ chk t.data.toList = 0 := by
  unfold both at h
  by_cases h1 : chk s.data.toList = 0
  · rw [if_pos h1] at h; exact ⟨h1, h⟩
  · rw [if_neg h1] at h; exact absurd h h1

set_option maxHeartbeats 2000000 in
set_option maxRecDepth 100000 in
theorem i_combine_plus (s t : ByteArray) (w : World) (hs : s.size ≤ maxLen) (ht : t.size ≤ maxLen) (htab : Tab w) :
    Calls Tryz.prog 125 #[.string s, .string t, .func (.func 128) #[] #[]] w (fun e w' => e = retR .i64 (opR s t fun a b => longR (a + b)) ∧ Gr w w') := by
  have HC := Lib.hid (fun w => i_checkBoth s t w hs ht)
  by_cases h0 : both s t = 0
  · obtain ⟨h1, h2⟩ := both_zero h0
    have HR : Hid ((opR s t fun a b => longR (a + b)) = longR (ival s.data.toList + ival t.data.toList)) := by show _ = _; unfold opR; rw [if_pos h0]
    rw [HR.out]
    have ha := ival_lt h1
    have hb := ival_lt h2
    have HA := Lib.hid (fun w => i_read s w (chk_zero h1).1 (by have := l_len h1; rw [show s.data.toList.length = s.size by simp] at this; omega))
    have HB := Lib.hid (fun w => i_read t w (chk_zero h2).1 (by have := l_len h2; rw [show t.data.toList.length = t.size by simp] at this; omega))
    obtain ⟨a, HEA⟩ : ∃ a, Hid (ival s.data.toList = a) := ⟨_, rfl⟩
    obtain ⟨b, HEB⟩ : ∃ b, Hid (ival t.data.toList = b) := ⟨_, rfl⟩
    rw [HEA.out] at ha HA ⊢
    rw [HEB.out] at hb HB ⊢
    have HP := Lib.hid (fun v v' w h h' => i_nplus (K := KK) v v' a b w h h' ha hb (by have := KK_le; omega))
    have hq : (a + b).natAbs < 1000000000 ^ (KK + 1) := by
      have : (a + b).natAbs ≤ a.natAbs + b.natAbs := Int.natAbs_add_le a b
      rw [Nat.pow_succ]; omega
    have HW := Lib.hid (fun v w h ht => i_write (K := KK + 1) v (a + b) w h hq (by have := KK_le; omega) ht)
    have HTAB := Lib.hid htab
    rw [h0] at HC
    clear ha hb hq htab h1 h2 h0
    go_enter Tryz.func125, Tryz.ntmps125
    go_wp2_with fail
    refine (HC.out _).mono ?_
    rintro e w1 ⟨rfl, rfl⟩
    go_wp2_with fail
    refine (HA.out _).mono ?_
    rintro e w2 ⟨v2, rfl, hn2, hg2⟩
    have HN2 := Lib.hid hn2
    have HG2 := Lib.hid hg2
    obtain ⟨u2, a2, n2, c2, rfl⟩ : ∃ u a n c, v2 = .agg #[.bool u, .slice a n c] := by obtain ⟨a, n, c, h, -⟩ := hn2.form; exact ⟨_, a, n, c, h⟩
    clear hn2 hg2
    go_wp2_with fail
    refine (HB.out _).mono ?_
    rintro e w3 ⟨v3, rfl, hn3, hg3⟩
    have HN3 := Lib.hid hn3
    have HN23 := Lib.hid (HN2.out.gr hg3)
    have HG3 := Lib.hid (Gr.trans HG2.out hg3)
    obtain ⟨u3, a3, n3, c3, rfl⟩ : ∃ u a n c, v3 = .agg #[.bool u, .slice a n c] := by obtain ⟨a, n, c, h, -⟩ := hn3.form; exact ⟨_, a, n, c, h⟩
    clear hn3 hg3
    go_wp2_with fail
    refine (HP.out _ _ _ HN23.out HN3.out).mono ?_
    rintro e w4 ⟨v4, rfl, hn4, hg4⟩
    have HN4 := Lib.hid hn4
    have HG4 := Lib.hid (Gr.trans HG3.out hg4)
    obtain ⟨u4, a4, n4, c4, rfl⟩ : ∃ u a n c, v4 = .agg #[.bool u, .slice a n c] := by obtain ⟨a, n, c, h, -⟩ := hn4.form; exact ⟨_, a, n, c, h⟩
    clear hn4 hg4
    go_wp2_with fail
    refine (HW.out _ _ HN4.out (htab_gr HTAB.out HG4.out)).mono ?_
    rintro e w5 ⟨rfl, hg5⟩
    have HG5 := Lib.hid (Gr.trans HG4.out hg5)
    obtain ⟨p, HP5⟩ : ∃ p, Hid (longR (a + b) = p) := ⟨_, rfl⟩
    rw [HP5.out]
    obtain ⟨p1, p2⟩ := p
    clear hg5
    unfold retR
    go_wp2
    go_ret2
    exact ⟨by rw [HP5.out]; rfl, HG5.out⟩
  · have HR : Hid ((opR s t fun a b => longR (a + b)) = (⟨#[]⟩, both s t)) := by show _ = _; unfold opR; rw [if_neg h0]
    rw [HR.out]
    obtain ⟨c, HCC⟩ : ∃ c, Hid (both s t = c) := ⟨_, rfl⟩
    rw [HCC.out] at HC h0 ⊢
    have h1 : (c == 0) = false := beq_eq_false_iff_ne.2 h0
    have h2 : (c != 0) = true := by simp [h0]
    go_enter Tryz.func125, Tryz.ntmps125
    go_wp2_with fail
    refine (HC.out _).mono ?_
    rintro e w1 ⟨rfl, rfl⟩
    go_wp2
    go_ret2
    exact ⟨rfl, Gr.refl _⟩
end Go.Proofs.YtlbnibicehpobaaGreatDoor

/- integer.combine: the other operations. -/
namespace Go.Proofs.YtlbnibicehpobaaGreatDoor
open Go.RowKit Go.Shelf
open Z

set_option maxHeartbeats 2000000 in
set_option maxRecDepth 100000 in
theorem i_combine_minus (s t : ByteArray) (w : World) (hs : s.size ≤ maxLen) (ht : t.size ≤ maxLen) (htab : Tab w) :
    Calls Tryz.prog 125 #[.string s, .string t, .func (.func 126) #[] #[]] w (fun e w' => e = retR .i64 (opR s t fun a b => longR (a - b)) ∧ Gr w w') := by
  have HC := Lib.hid (fun w => i_checkBoth s t w hs ht)
  by_cases h0 : both s t = 0
  · obtain ⟨h1, h2⟩ := both_zero h0
    have HR : Hid ((opR s t fun a b => longR (a - b)) = longR (ival s.data.toList - ival t.data.toList)) := by show _ = _; unfold opR; rw [if_pos h0]
    rw [HR.out]
    have ha := ival_lt h1
    have hb := ival_lt h2
    have HA := Lib.hid (fun w => i_read s w (chk_zero h1).1 (by have := l_len h1; rw [show s.data.toList.length = s.size by simp] at this; omega))
    have HB := Lib.hid (fun w => i_read t w (chk_zero h2).1 (by have := l_len h2; rw [show t.data.toList.length = t.size by simp] at this; omega))
    obtain ⟨a, HEA⟩ : ∃ a, Hid (ival s.data.toList = a) := ⟨_, rfl⟩
    obtain ⟨b, HEB⟩ : ∃ b, Hid (ival t.data.toList = b) := ⟨_, rfl⟩
    rw [HEA.out] at ha HA ⊢
    rw [HEB.out] at hb HB ⊢
    have HP := Lib.hid (fun v v' w h h' => i_nminus (K := KK) v v' a b w h h' ha hb (by have := KK_le; omega))
    have hq : (a - b).natAbs < 1000000000 ^ (KK + 1) := by
      have : (a - b).natAbs ≤ a.natAbs + b.natAbs := Int.natAbs_sub_le a b
      rw [Nat.pow_succ]; omega
    have HW := Lib.hid (fun v w h ht => i_write (K := KK + 1) v (a - b) w h hq (by have := KK_le; omega) ht)
    have HTAB := Lib.hid htab
    rw [h0] at HC
    clear ha hb hq htab h1 h2 h0
    go_enter Tryz.func125, Tryz.ntmps125
    go_wp2_with fail
    refine (HC.out _).mono ?_
    rintro e w1 ⟨rfl, rfl⟩
    go_wp2_with fail
    refine (HA.out _).mono ?_
    rintro e w2 ⟨v2, rfl, hn2, hg2⟩
    have HN2 := Lib.hid hn2
    have HG2 := Lib.hid hg2
    obtain ⟨u2, a2, n2, c2, rfl⟩ : ∃ u a n c, v2 = .agg #[.bool u, .slice a n c] := by obtain ⟨a, n, c, h, -⟩ := hn2.form; exact ⟨_, a, n, c, h⟩
    clear hn2 hg2
    go_wp2_with fail
    refine (HB.out _).mono ?_
    rintro e w3 ⟨v3, rfl, hn3, hg3⟩
    have HN3 := Lib.hid hn3
    have HN23 := Lib.hid (HN2.out.gr hg3)
    have HG3 := Lib.hid (Gr.trans HG2.out hg3)
    obtain ⟨u3, a3, n3, c3, rfl⟩ : ∃ u a n c, v3 = .agg #[.bool u, .slice a n c] := by obtain ⟨a, n, c, h, -⟩ := hn3.form; exact ⟨_, a, n, c, h⟩
    clear hn3 hg3
    go_wp2_with fail
    refine (HP.out _ _ _ HN23.out HN3.out).mono ?_
    rintro e w4 ⟨v4, rfl, hn4, hg4⟩
    have HN4 := Lib.hid hn4
    have HG4 := Lib.hid (Gr.trans HG3.out hg4)
    obtain ⟨u4, a4, n4, c4, rfl⟩ : ∃ u a n c, v4 = .agg #[.bool u, .slice a n c] := by obtain ⟨a, n, c, h, -⟩ := hn4.form; exact ⟨_, a, n, c, h⟩
    clear hn4 hg4
    go_wp2_with fail
    refine (HW.out _ _ HN4.out (htab_gr HTAB.out HG4.out)).mono ?_
    rintro e w5 ⟨rfl, hg5⟩
    have HG5 := Lib.hid (Gr.trans HG4.out hg5)
    obtain ⟨p, HP5⟩ : ∃ p, Hid (longR (a - b) = p) := ⟨_, rfl⟩
    rw [HP5.out]
    obtain ⟨p1, p2⟩ := p
    clear hg5
    unfold retR
    go_wp2
    go_ret2
    exact ⟨by rw [HP5.out]; rfl, HG5.out⟩
  · have HR : Hid ((opR s t fun a b => longR (a - b)) = (⟨#[]⟩, both s t)) := by show _ = _; unfold opR; rw [if_neg h0]
    rw [HR.out]
    obtain ⟨c, HCC⟩ : ∃ c, Hid (both s t = c) := ⟨_, rfl⟩
    rw [HCC.out] at HC h0 ⊢
    have h1 : (c == 0) = false := beq_eq_false_iff_ne.2 h0
    have h2 : (c != 0) = true := by simp [h0]
    go_enter Tryz.func125, Tryz.ntmps125
    go_wp2_with fail
    refine (HC.out _).mono ?_
    rintro e w1 ⟨rfl, rfl⟩
    go_wp2
    go_ret2
    exact ⟨rfl, Gr.refl _⟩
set_option maxHeartbeats 2000000 in
set_option maxRecDepth 100000 in
theorem i_combine_times (s t : ByteArray) (w : World) (hs : s.size ≤ maxLen) (ht : t.size ≤ maxLen) (htab : Tab w) :
    Calls Tryz.prog 125 #[.string s, .string t, .func (.func 129) #[] #[]] w (fun e w' => e = retR .i64 (opR s t fun a b => longR (a * b)) ∧ Gr w w') := by
  have HC := Lib.hid (fun w => i_checkBoth s t w hs ht)
  by_cases h0 : both s t = 0
  · obtain ⟨h1, h2⟩ := both_zero h0
    have HR : Hid ((opR s t fun a b => longR (a * b)) = longR (ival s.data.toList * ival t.data.toList)) := by show _ = _; unfold opR; rw [if_pos h0]
    rw [HR.out]
    have ha := ival_lt h1
    have hb := ival_lt h2
    have HA := Lib.hid (fun w => i_read s w (chk_zero h1).1 (by have := l_len h1; rw [show s.data.toList.length = s.size by simp] at this; omega))
    have HB := Lib.hid (fun w => i_read t w (chk_zero h2).1 (by have := l_len h2; rw [show t.data.toList.length = t.size by simp] at this; omega))
    obtain ⟨a, HEA⟩ : ∃ a, Hid (ival s.data.toList = a) := ⟨_, rfl⟩
    obtain ⟨b, HEB⟩ : ∃ b, Hid (ival t.data.toList = b) := ⟨_, rfl⟩
    rw [HEA.out] at ha HA ⊢
    rw [HEB.out] at hb HB ⊢
    have HP := Lib.hid (fun v v' w h h' => i_ntimes (K := KK) v v' a b w h h' ha hb (by have := KK_le; omega))
    have hq : (a * b).natAbs < 1000000000 ^ (KK + KK) := by
      rw [Int.natAbs_mul, Nat.pow_add]
      exact Nat.mul_lt_mul'' ha hb
    have HW := Lib.hid (fun v w h ht => i_write (K := KK + KK) v (a * b) w h hq (by have := KK_le; omega) ht)
    have HTAB := Lib.hid htab
    rw [h0] at HC
    clear ha hb hq htab h1 h2 h0
    go_enter Tryz.func125, Tryz.ntmps125
    go_wp2_with fail
    refine (HC.out _).mono ?_
    rintro e w1 ⟨rfl, rfl⟩
    go_wp2_with fail
    refine (HA.out _).mono ?_
    rintro e w2 ⟨v2, rfl, hn2, hg2⟩
    have HN2 := Lib.hid hn2
    have HG2 := Lib.hid hg2
    obtain ⟨u2, a2, n2, c2, rfl⟩ : ∃ u a n c, v2 = .agg #[.bool u, .slice a n c] := by obtain ⟨a, n, c, h, -⟩ := hn2.form; exact ⟨_, a, n, c, h⟩
    clear hn2 hg2
    go_wp2_with fail
    refine (HB.out _).mono ?_
    rintro e w3 ⟨v3, rfl, hn3, hg3⟩
    have HN3 := Lib.hid hn3
    have HN23 := Lib.hid (HN2.out.gr hg3)
    have HG3 := Lib.hid (Gr.trans HG2.out hg3)
    obtain ⟨u3, a3, n3, c3, rfl⟩ : ∃ u a n c, v3 = .agg #[.bool u, .slice a n c] := by obtain ⟨a, n, c, h, -⟩ := hn3.form; exact ⟨_, a, n, c, h⟩
    clear hn3 hg3
    go_wp2_with fail
    refine (HP.out _ _ _ HN23.out HN3.out).mono ?_
    rintro e w4 ⟨v4, rfl, hn4, hg4⟩
    have HN4 := Lib.hid hn4
    have HG4 := Lib.hid (Gr.trans HG3.out hg4)
    obtain ⟨u4, a4, n4, c4, rfl⟩ : ∃ u a n c, v4 = .agg #[.bool u, .slice a n c] := by obtain ⟨a, n, c, h, -⟩ := hn4.form; exact ⟨_, a, n, c, h⟩
    clear hn4 hg4
    go_wp2_with fail
    refine (HW.out _ _ HN4.out (htab_gr HTAB.out HG4.out)).mono ?_
    rintro e w5 ⟨rfl, hg5⟩
    have HG5 := Lib.hid (Gr.trans HG4.out hg5)
    obtain ⟨p, HP5⟩ : ∃ p, Hid (longR (a * b) = p) := ⟨_, rfl⟩
    rw [HP5.out]
    obtain ⟨p1, p2⟩ := p
    clear hg5
    unfold retR
    go_wp2
    go_ret2
    exact ⟨by rw [HP5.out]; rfl, HG5.out⟩
  · have HR : Hid ((opR s t fun a b => longR (a * b)) = (⟨#[]⟩, both s t)) := by show _ = _; unfold opR; rw [if_neg h0]
    rw [HR.out]
    obtain ⟨c, HCC⟩ : ∃ c, Hid (both s t = c) := ⟨_, rfl⟩
    rw [HCC.out] at HC h0 ⊢
    have h1 : (c == 0) = false := beq_eq_false_iff_ne.2 h0
    have h2 : (c != 0) = true := by simp [h0]
    go_enter Tryz.func125, Tryz.ntmps125
    go_wp2_with fail
    refine (HC.out _).mono ?_
    rintro e w1 ⟨rfl, rfl⟩
    go_wp2
    go_ret2
    exact ⟨rfl, Gr.refl _⟩
set_option maxHeartbeats 2000000 in
set_option maxRecDepth 100000 in
theorem i_combine_gcd (s t : ByteArray) (w : World) (hs : s.size ≤ maxLen) (ht : t.size ≤ maxLen) (htab : Tab w) :
    Calls Tryz.prog 125 #[.string s, .string t, .func (.func 127) #[] #[]] w (fun e w' => e = retR .i64 (opR s t fun a b => longR (((Nat.gcd a.natAbs b.natAbs : Nat) : Int))) ∧ Gr w w') := by
  have HC := Lib.hid (fun w => i_checkBoth s t w hs ht)
  by_cases h0 : both s t = 0
  · obtain ⟨h1, h2⟩ := both_zero h0
    have HR : Hid ((opR s t fun a b => longR (((Nat.gcd a.natAbs b.natAbs : Nat) : Int))) = longR (((Nat.gcd (ival s.data.toList).natAbs (ival t.data.toList).natAbs : Nat) : Int))) := by show _ = _; unfold opR; rw [if_pos h0]
    rw [HR.out]
    have ha := ival_lt h1
    have hb := ival_lt h2
    have HA := Lib.hid (fun w => i_read s w (chk_zero h1).1 (by have := l_len h1; rw [show s.data.toList.length = s.size by simp] at this; omega))
    have HB := Lib.hid (fun w => i_read t w (chk_zero h2).1 (by have := l_len h2; rw [show t.data.toList.length = t.size by simp] at this; omega))
    obtain ⟨a, HEA⟩ : ∃ a, Hid (ival s.data.toList = a) := ⟨_, rfl⟩
    obtain ⟨b, HEB⟩ : ∃ b, Hid (ival t.data.toList = b) := ⟨_, rfl⟩
    rw [HEA.out] at ha HA ⊢
    rw [HEB.out] at hb HB ⊢
    have HP := Lib.hid (fun v v' w h h' => i_ngcd (K := KK) v v' a b w h h' ha hb (by have := KK_le; omega))
    have hq : (((Nat.gcd a.natAbs b.natAbs : Nat) : Int)).natAbs < 1000000000 ^ KK := by
      rw [Int.natAbs_natCast]
      rcases Nat.eq_zero_or_pos a.natAbs with h | h
      · rw [h, Nat.gcd_zero_left]; exact hb
      · exact Nat.lt_of_le_of_lt (Nat.gcd_le_left _ h) ha
    have HW := Lib.hid (fun v w h ht => i_write (K := KK) v (((Nat.gcd a.natAbs b.natAbs : Nat) : Int)) w h hq (by have := KK_le; omega) ht)
    have HTAB := Lib.hid htab
    rw [h0] at HC
    clear ha hb hq htab h1 h2 h0
    go_enter Tryz.func125, Tryz.ntmps125
    go_wp2_with fail
    refine (HC.out _).mono ?_
    rintro e w1 ⟨rfl, rfl⟩
    go_wp2_with fail
    refine (HA.out _).mono ?_
    rintro e w2 ⟨v2, rfl, hn2, hg2⟩
    have HN2 := Lib.hid hn2
    have HG2 := Lib.hid hg2
    obtain ⟨u2, a2, n2, c2, rfl⟩ : ∃ u a n c, v2 = .agg #[.bool u, .slice a n c] := by obtain ⟨a, n, c, h, -⟩ := hn2.form; exact ⟨_, a, n, c, h⟩
    clear hn2 hg2
    go_wp2_with fail
    refine (HB.out _).mono ?_
    rintro e w3 ⟨v3, rfl, hn3, hg3⟩
    have HN3 := Lib.hid hn3
    have HN23 := Lib.hid (HN2.out.gr hg3)
    have HG3 := Lib.hid (Gr.trans HG2.out hg3)
    obtain ⟨u3, a3, n3, c3, rfl⟩ : ∃ u a n c, v3 = .agg #[.bool u, .slice a n c] := by obtain ⟨a, n, c, h, -⟩ := hn3.form; exact ⟨_, a, n, c, h⟩
    clear hn3 hg3
    go_wp2_with fail
    refine (HP.out _ _ _ HN23.out HN3.out).mono ?_
    rintro e w4 ⟨v4, rfl, hn4, hg4⟩
    have HN4 := Lib.hid hn4
    have HG4 := Lib.hid (Gr.trans HG3.out hg4)
    obtain ⟨u4, a4, n4, c4, rfl⟩ : ∃ u a n c, v4 = .agg #[.bool u, .slice a n c] := by obtain ⟨a, n, c, h, -⟩ := hn4.form; exact ⟨_, a, n, c, h⟩
    clear hn4 hg4
    go_wp2_with fail
    refine (HW.out _ _ HN4.out (htab_gr HTAB.out HG4.out)).mono ?_
    rintro e w5 ⟨rfl, hg5⟩
    have HG5 := Lib.hid (Gr.trans HG4.out hg5)
    obtain ⟨p, HP5⟩ : ∃ p, Hid (longR (((Nat.gcd a.natAbs b.natAbs : Nat) : Int)) = p) := ⟨_, rfl⟩
    rw [HP5.out]
    obtain ⟨p1, p2⟩ := p
    clear hg5
    unfold retR
    go_wp2
    go_ret2
    exact ⟨by rw [HP5.out]; rfl, HG5.out⟩
  · have HR : Hid ((opR s t fun a b => longR (((Nat.gcd a.natAbs b.natAbs : Nat) : Int))) = (⟨#[]⟩, both s t)) := by show _ = _; unfold opR; rw [if_neg h0]
    rw [HR.out]
    obtain ⟨c, HCC⟩ : ∃ c, Hid (both s t = c) := ⟨_, rfl⟩
    rw [HCC.out] at HC h0 ⊢
    have h1 : (c == 0) = false := beq_eq_false_iff_ne.2 h0
    have h2 : (c != 0) = true := by simp [h0]
    go_enter Tryz.func125, Tryz.ntmps125
    go_wp2_with fail
    refine (HC.out _).mono ?_
    rintro e w1 ⟨rfl, rfl⟩
    go_wp2
    go_ret2
    exact ⟨rfl, Gr.refl _⟩
set_option maxHeartbeats 2000000 in
set_option maxRecDepth 100000 in
theorem i_combine_quotient (s t : ByteArray) (w : World) (hs : s.size ≤ maxLen) (ht : t.size ≤ maxLen) (htab : Tab w) (hb0 : both s t = 0 → ival t.data.toList ≠ 0) :
    Calls Tryz.prog 125 #[.string s, .string t, .func (.func 117) #[] #[]] w (fun e w' => e = retR .i64 (opR s t fun a b => longR (a.fdiv b)) ∧ Gr w w') := by
  have HC := Lib.hid (fun w => i_checkBoth s t w hs ht)
  by_cases h0 : both s t = 0
  · obtain ⟨h1, h2⟩ := both_zero h0
    have HR : Hid ((opR s t fun a b => longR (a.fdiv b)) = longR ((ival s.data.toList).fdiv (ival t.data.toList))) := by show _ = _; unfold opR; rw [if_pos h0]
    rw [HR.out]
    have hbn := hb0 h0
    have ha := ival_lt h1
    have hb := ival_lt h2
    have HA := Lib.hid (fun w => i_read s w (chk_zero h1).1 (by have := l_len h1; rw [show s.data.toList.length = s.size by simp] at this; omega))
    have HB := Lib.hid (fun w => i_read t w (chk_zero h2).1 (by have := l_len h2; rw [show t.data.toList.length = t.size by simp] at this; omega))
    obtain ⟨a, HEA⟩ : ∃ a, Hid (ival s.data.toList = a) := ⟨_, rfl⟩
    obtain ⟨b, HEB⟩ : ∃ b, Hid (ival t.data.toList = b) := ⟨_, rfl⟩
    rw [HEA.out] at ha HA ⊢
    rw [HEB.out] at hb HB hbn ⊢
    have HP := Lib.hid (fun v v' w h h' => i_quotient (K := KK) v v' a b w h h' ha hb (by have := KK_le; omega) hbn)
    have hq : (a.fdiv b).natAbs < 1000000000 ^ KK := Nat.lt_of_le_of_lt (fdiv_natAbs_le a b hbn) ha
    have HW := Lib.hid (fun v w h ht => i_write (K := KK) v (a.fdiv b) w h hq (by have := KK_le; omega) ht)
    have HTAB := Lib.hid htab
    rw [h0] at HC
    clear ha hb hq htab h1 h2 h0 hbn hb0
    go_enter Tryz.func125, Tryz.ntmps125
    go_wp2_with fail
    refine (HC.out _).mono ?_
    rintro e w1 ⟨rfl, rfl⟩
    go_wp2_with fail
    refine (HA.out _).mono ?_
    rintro e w2 ⟨v2, rfl, hn2, hg2⟩
    have HN2 := Lib.hid hn2
    have HG2 := Lib.hid hg2
    obtain ⟨u2, a2, n2, c2, rfl⟩ : ∃ u a n c, v2 = .agg #[.bool u, .slice a n c] := by obtain ⟨a, n, c, h, -⟩ := hn2.form; exact ⟨_, a, n, c, h⟩
    clear hn2 hg2
    go_wp2_with fail
    refine (HB.out _).mono ?_
    rintro e w3 ⟨v3, rfl, hn3, hg3⟩
    have HN3 := Lib.hid hn3
    have HN23 := Lib.hid (HN2.out.gr hg3)
    have HG3 := Lib.hid (Gr.trans HG2.out hg3)
    obtain ⟨u3, a3, n3, c3, rfl⟩ : ∃ u a n c, v3 = .agg #[.bool u, .slice a n c] := by obtain ⟨a, n, c, h, -⟩ := hn3.form; exact ⟨_, a, n, c, h⟩
    clear hn3 hg3
    go_wp2_with fail
    refine (HP.out _ _ _ HN23.out HN3.out).mono ?_
    rintro e w4 ⟨v4, rfl, hn4, hg4⟩
    have HN4 := Lib.hid hn4
    have HG4 := Lib.hid (Gr.trans HG3.out hg4)
    obtain ⟨u4, a4, n4, c4, rfl⟩ : ∃ u a n c, v4 = .agg #[.bool u, .slice a n c] := by obtain ⟨a, n, c, h, -⟩ := hn4.form; exact ⟨_, a, n, c, h⟩
    clear hn4 hg4
    go_wp2_with fail
    refine (HW.out _ _ HN4.out (htab_gr HTAB.out HG4.out)).mono ?_
    rintro e w5 ⟨rfl, hg5⟩
    have HG5 := Lib.hid (Gr.trans HG4.out hg5)
    obtain ⟨p, HP5⟩ : ∃ p, Hid (longR (a.fdiv b) = p) := ⟨_, rfl⟩
    rw [HP5.out]
    obtain ⟨p1, p2⟩ := p
    clear hg5
    unfold retR
    go_wp2
    go_ret2
    exact ⟨by rw [HP5.out]; rfl, HG5.out⟩
  · have HR : Hid ((opR s t fun a b => longR (a.fdiv b)) = (⟨#[]⟩, both s t)) := by show _ = _; unfold opR; rw [if_neg h0]
    rw [HR.out]
    obtain ⟨c, HCC⟩ : ∃ c, Hid (both s t = c) := ⟨_, rfl⟩
    rw [HCC.out] at HC h0 ⊢
    have h1 : (c == 0) = false := beq_eq_false_iff_ne.2 h0
    have h2 : (c != 0) = true := by simp [h0]
    go_enter Tryz.func125, Tryz.ntmps125
    go_wp2_with fail
    refine (HC.out _).mono ?_
    rintro e w1 ⟨rfl, rfl⟩
    go_wp2
    go_ret2
    exact ⟨rfl, Gr.refl _⟩
set_option maxHeartbeats 2000000 in
set_option maxRecDepth 100000 in
theorem i_combine_remainder (s t : ByteArray) (w : World) (hs : s.size ≤ maxLen) (ht : t.size ≤ maxLen) (htab : Tab w) (hb0 : both s t = 0 → ival t.data.toList ≠ 0) :
    Calls Tryz.prog 125 #[.string s, .string t, .func (.func 143) #[] #[]] w (fun e w' => e = retR .i64 (opR s t fun a b => longR (a.fmod b)) ∧ Gr w w') := by
  have HC := Lib.hid (fun w => i_checkBoth s t w hs ht)
  by_cases h0 : both s t = 0
  · obtain ⟨h1, h2⟩ := both_zero h0
    have HR : Hid ((opR s t fun a b => longR (a.fmod b)) = longR ((ival s.data.toList).fmod (ival t.data.toList))) := by show _ = _; unfold opR; rw [if_pos h0]
    rw [HR.out]
    have hbn := hb0 h0
    have ha := ival_lt h1
    have hb := ival_lt h2
    have HA := Lib.hid (fun w => i_read s w (chk_zero h1).1 (by have := l_len h1; rw [show s.data.toList.length = s.size by simp] at this; omega))
    have HB := Lib.hid (fun w => i_read t w (chk_zero h2).1 (by have := l_len h2; rw [show t.data.toList.length = t.size by simp] at this; omega))
    obtain ⟨a, HEA⟩ : ∃ a, Hid (ival s.data.toList = a) := ⟨_, rfl⟩
    obtain ⟨b, HEB⟩ : ∃ b, Hid (ival t.data.toList = b) := ⟨_, rfl⟩
    rw [HEA.out] at ha HA ⊢
    rw [HEB.out] at hb HB hbn ⊢
    have HP := Lib.hid (fun v v' w h h' => i_remainder (K := KK) v v' a b w h h' ha hb (by have := KK_le; omega) hbn)
    have hq : (a.fmod b).natAbs < 1000000000 ^ KK := by
      rw [← sg_rsz a b hbn, sg_abs]
      have h1 : a.natAbs % b.natAbs < b.natAbs := Nat.mod_lt _ (by omega)
      have : rsz a b ≤ b.natAbs := by unfold rsz; split <;> omega
      omega
    have HW := Lib.hid (fun v w h ht => i_write (K := KK) v (a.fmod b) w h hq (by have := KK_le; omega) ht)
    have HTAB := Lib.hid htab
    rw [h0] at HC
    clear ha hb hq htab h1 h2 h0 hbn hb0
    go_enter Tryz.func125, Tryz.ntmps125
    go_wp2_with fail
    refine (HC.out _).mono ?_
    rintro e w1 ⟨rfl, rfl⟩
    go_wp2_with fail
    refine (HA.out _).mono ?_
    rintro e w2 ⟨v2, rfl, hn2, hg2⟩
    have HN2 := Lib.hid hn2
    have HG2 := Lib.hid hg2
    obtain ⟨u2, a2, n2, c2, rfl⟩ : ∃ u a n c, v2 = .agg #[.bool u, .slice a n c] := by obtain ⟨a, n, c, h, -⟩ := hn2.form; exact ⟨_, a, n, c, h⟩
    clear hn2 hg2
    go_wp2_with fail
    refine (HB.out _).mono ?_
    rintro e w3 ⟨v3, rfl, hn3, hg3⟩
    have HN3 := Lib.hid hn3
    have HN23 := Lib.hid (HN2.out.gr hg3)
    have HG3 := Lib.hid (Gr.trans HG2.out hg3)
    obtain ⟨u3, a3, n3, c3, rfl⟩ : ∃ u a n c, v3 = .agg #[.bool u, .slice a n c] := by obtain ⟨a, n, c, h, -⟩ := hn3.form; exact ⟨_, a, n, c, h⟩
    clear hn3 hg3
    go_wp2_with fail
    refine (HP.out _ _ _ HN23.out HN3.out).mono ?_
    rintro e w4 ⟨v4, rfl, hn4, hg4⟩
    have HN4 := Lib.hid hn4
    have HG4 := Lib.hid (Gr.trans HG3.out hg4)
    obtain ⟨u4, a4, n4, c4, rfl⟩ : ∃ u a n c, v4 = .agg #[.bool u, .slice a n c] := by obtain ⟨a, n, c, h, -⟩ := hn4.form; exact ⟨_, a, n, c, h⟩
    clear hn4 hg4
    go_wp2_with fail
    refine (HW.out _ _ HN4.out (htab_gr HTAB.out HG4.out)).mono ?_
    rintro e w5 ⟨rfl, hg5⟩
    have HG5 := Lib.hid (Gr.trans HG4.out hg5)
    obtain ⟨p, HP5⟩ : ∃ p, Hid (longR (a.fmod b) = p) := ⟨_, rfl⟩
    rw [HP5.out]
    obtain ⟨p1, p2⟩ := p
    clear hg5
    unfold retR
    go_wp2
    go_ret2
    exact ⟨by rw [HP5.out]; rfl, HG5.out⟩
  · have HR : Hid ((opR s t fun a b => longR (a.fmod b)) = (⟨#[]⟩, both s t)) := by show _ = _; unfold opR; rw [if_neg h0]
    rw [HR.out]
    obtain ⟨c, HCC⟩ : ∃ c, Hid (both s t = c) := ⟨_, rfl⟩
    rw [HCC.out] at HC h0 ⊢
    have h1 : (c == 0) = false := beq_eq_false_iff_ne.2 h0
    have h2 : (c != 0) = true := by simp [h0]
    go_enter Tryz.func125, Tryz.ntmps125
    go_wp2_with fail
    refine (HC.out _).mono ?_
    rintro e w1 ⟨rfl, rfl⟩
    go_wp2
    go_ret2
    exact ⟨rfl, Gr.refl _⟩
end Go.Proofs.YtlbnibicehpobaaGreatDoor

/- integer: Add, Sub, Mul, Gcd, Quo, Rem. -/
namespace Go.Proofs.YtlbnibicehpobaaGreatDoor
open Go.RowKit Go.Shelf
open Z

set_option maxHeartbeats 1000000 in
theorem i_Add (s t : ByteArray) (w : World) (hs : s.size ≤ maxLen) (ht : t.size ≤ maxLen) (htab : Tab w) :
    Calls Tryz.prog 106 #[.string s, .string t] w (fun e w' => e = retR .i64 (opR s t fun a b => longR (a + b)) ∧ Gr w w') := by
  have HC := Lib.hid (i_combine_plus s t w hs ht htab)
  obtain ⟨p, HP⟩ : ∃ p, Hid ((opR s t fun a b => longR (a + b)) = p) := ⟨_, rfl⟩
  rw [HP.out] at HC ⊢
  obtain ⟨p1, p2⟩ := p
  clear htab
  unfold retR at HC ⊢
  go_enter Tryz.func106, Tryz.ntmps106
  go_wp2_with fail
  refine HC.out.mono ?_
  rintro e w1 ⟨rfl, hg⟩
  have HG := Lib.hid hg; clear hg
  go_wp2
  go_ret2
  exact ⟨rfl, HG.out⟩
set_option maxHeartbeats 1000000 in
theorem i_Sub (s t : ByteArray) (w : World) (hs : s.size ≤ maxLen) (ht : t.size ≤ maxLen) (htab : Tab w) :
    Calls Tryz.prog 104 #[.string s, .string t] w (fun e w' => e = retR .i64 (opR s t fun a b => longR (a - b)) ∧ Gr w w') := by
  have HC := Lib.hid (i_combine_minus s t w hs ht htab)
  obtain ⟨p, HP⟩ : ∃ p, Hid ((opR s t fun a b => longR (a - b)) = p) := ⟨_, rfl⟩
  rw [HP.out] at HC ⊢
  obtain ⟨p1, p2⟩ := p
  clear htab
  unfold retR at HC ⊢
  go_enter Tryz.func104, Tryz.ntmps104
  go_wp2_with fail
  refine HC.out.mono ?_
  rintro e w1 ⟨rfl, hg⟩
  have HG := Lib.hid hg; clear hg
  go_wp2
  go_ret2
  exact ⟨rfl, HG.out⟩
set_option maxHeartbeats 1000000 in
theorem i_Mul (s t : ByteArray) (w : World) (hs : s.size ≤ maxLen) (ht : t.size ≤ maxLen) (htab : Tab w) :
    Calls Tryz.prog 107 #[.string s, .string t] w (fun e w' => e = retR .i64 (opR s t fun a b => longR (a * b)) ∧ Gr w w') := by
  have HC := Lib.hid (i_combine_times s t w hs ht htab)
  obtain ⟨p, HP⟩ : ∃ p, Hid ((opR s t fun a b => longR (a * b)) = p) := ⟨_, rfl⟩
  rw [HP.out] at HC ⊢
  obtain ⟨p1, p2⟩ := p
  clear htab
  unfold retR at HC ⊢
  go_enter Tryz.func107, Tryz.ntmps107
  go_wp2_with fail
  refine HC.out.mono ?_
  rintro e w1 ⟨rfl, hg⟩
  have HG := Lib.hid hg; clear hg
  go_wp2
  go_ret2
  exact ⟨rfl, HG.out⟩
set_option maxHeartbeats 1000000 in
theorem i_Gcd (s t : ByteArray) (w : World) (hs : s.size ≤ maxLen) (ht : t.size ≤ maxLen) (htab : Tab w) :
    Calls Tryz.prog 105 #[.string s, .string t] w (fun e w' => e = retR .i64 (opR s t fun a b => longR (((Nat.gcd a.natAbs b.natAbs : Nat) : Int))) ∧ Gr w w') := by
  have HC := Lib.hid (i_combine_gcd s t w hs ht htab)
  obtain ⟨p, HP⟩ : ∃ p, Hid ((opR s t fun a b => longR (((Nat.gcd a.natAbs b.natAbs : Nat) : Int))) = p) := ⟨_, rfl⟩
  rw [HP.out] at HC ⊢
  obtain ⟨p1, p2⟩ := p
  clear htab
  unfold retR at HC ⊢
  go_enter Tryz.func105, Tryz.ntmps105
  go_wp2_with fail
  refine HC.out.mono ?_
  rintro e w1 ⟨rfl, hg⟩
  have HG := Lib.hid hg; clear hg
  go_wp2
  go_ret2
  exact ⟨rfl, HG.out⟩
theorem is_zero {s : ByteArray} (h : chk s.data.toList = 0) : (s.toList == [48]) = decide (ival s.data.toList = 0) := by
  have h1 := Tx_ival s (chk_zero h).1
  have := Tx_is0 (ival s.data.toList)
  rw [h1] at this; exact this
set_option maxHeartbeats 2000000 in
set_option maxRecDepth 100000 in
theorem i_split_quotient (s t : ByteArray) (w : World) (hs : s.size ≤ maxLen) (ht : t.size ≤ maxLen) (htab : Tab w) :
    Calls Tryz.prog 116 #[.string s, .string t, .func (.func 117) #[] #[]] w (fun e w' => e = retR .i64 (opR s t fun a b => if b = 0 then (⟨#[]⟩, 15) else longR (a.fdiv b)) ∧ Gr w w') := by
  have HC := Lib.hid (fun w => i_checkBoth s t w hs ht)
  by_cases h0 : both s t = 0
  · obtain ⟨h1, h2⟩ := both_zero h0
    by_cases hb : ival t.data.toList = 0
    · have HR : Hid ((opR s t fun a b => if b = 0 then (⟨#[]⟩, 15) else longR (a.fdiv b)) = (⟨#[]⟩, 15)) := by show _ = _; unfold opR; rw [if_pos h0]; exact if_pos hb
      rw [HR.out]
      have hz : (t.toList == [48]) = true := by rw [is_zero h2]; simp [hb]
      rw [h0] at HC
      clear h1 h2 hb h0 htab
      unfold retR
      go_enter Tryz.func116, Tryz.ntmps116
      go_wp2_with fail
      refine (HC.out _).mono ?_
      rintro e w1 ⟨rfl, rfl⟩
      go_wp2
      go_ret2
      exact ⟨rfl, Gr.refl _⟩
    · have HR : Hid ((opR s t fun a b => if b = 0 then (⟨#[]⟩, 15) else longR (a.fdiv b)) = (opR s t fun a b => longR (a.fdiv b))) := by show _ = _; unfold opR; rw [if_pos h0, if_pos h0]; exact if_neg hb
      rw [HR.out]
      have hz : (t.toList == [48]) = false := by rw [is_zero h2]; simp [hb]
      have HM := Lib.hid (fun w ht' => i_combine_quotient s t w hs ht ht' (fun _ => hb))
      have HTAB := Lib.hid htab
      obtain ⟨p, HP⟩ : ∃ p, Hid ((opR s t fun a b => longR (a.fdiv b)) = p) := ⟨_, rfl⟩
      rw [HP.out] at HM ⊢
      obtain ⟨p1, p2⟩ := p
      rw [h0] at HC
      clear h1 h2 hb h0 htab
      unfold retR at HM ⊢
      go_enter Tryz.func116, Tryz.ntmps116
      go_wp2_with fail
      refine (HC.out _).mono ?_
      rintro e w1 ⟨rfl, rfl⟩
      go_wp2_with fail
      refine (HM.out _ HTAB.out).mono ?_
      rintro e w2 ⟨rfl, hg⟩
      have HG := Lib.hid hg; clear hg
      go_wp2
      go_ret2
      exact ⟨rfl, HG.out⟩
  · have HR : Hid ((opR s t fun a b => if b = 0 then (⟨#[]⟩, 15) else longR (a.fdiv b)) = (⟨#[]⟩, both s t)) := by show _ = _; unfold opR; rw [if_neg h0]
    rw [HR.out]
    obtain ⟨c, HCC⟩ : ∃ c, Hid (both s t = c) := ⟨_, rfl⟩
    rw [HCC.out] at HC h0 ⊢
    have h1 : (c == 0) = false := beq_eq_false_iff_ne.2 h0
    have h2 : (c != 0) = true := by simp [h0]
    unfold retR
    go_enter Tryz.func116, Tryz.ntmps116
    go_wp2_with fail
    refine (HC.out _).mono ?_
    rintro e w1 ⟨rfl, rfl⟩
    go_wp2
    go_ret2
    exact ⟨rfl, Gr.refl _⟩
set_option maxHeartbeats 1000000 in
theorem i_Quo (s t : ByteArray) (w : World) (hs : s.size ≤ maxLen) (ht : t.size ≤ maxLen) (htab : Tab w) :
    Calls Tryz.prog 95 #[.string s, .string t] w (fun e w' => e = retR .i64 (opR s t fun a b => if b = 0 then (⟨#[]⟩, 15) else longR (a.fdiv b)) ∧ Gr w w') := by
  have HC := Lib.hid (i_split_quotient s t w hs ht htab)
  obtain ⟨p, HP⟩ : ∃ p, Hid ((opR s t fun a b => if b = 0 then (⟨#[]⟩, 15) else longR (a.fdiv b)) = p) := ⟨_, rfl⟩
  rw [HP.out] at HC ⊢
  obtain ⟨p1, p2⟩ := p
  clear htab
  unfold retR at HC ⊢
  go_enter Tryz.func95, Tryz.ntmps95
  go_wp2_with fail
  refine HC.out.mono ?_
  rintro e w1 ⟨rfl, hg⟩
  have HG := Lib.hid hg; clear hg
  go_wp2
  go_ret2
  exact ⟨rfl, HG.out⟩
set_option maxHeartbeats 2000000 in
set_option maxRecDepth 100000 in
theorem i_split_remainder (s t : ByteArray) (w : World) (hs : s.size ≤ maxLen) (ht : t.size ≤ maxLen) (htab : Tab w) :
    Calls Tryz.prog 116 #[.string s, .string t, .func (.func 143) #[] #[]] w (fun e w' => e = retR .i64 (opR s t fun a b => if b = 0 then (⟨#[]⟩, 15) else longR (a.fmod b)) ∧ Gr w w') := by
  have HC := Lib.hid (fun w => i_checkBoth s t w hs ht)
  by_cases h0 : both s t = 0
  · obtain ⟨h1, h2⟩ := both_zero h0
    by_cases hb : ival t.data.toList = 0
    · have HR : Hid ((opR s t fun a b => if b = 0 then (⟨#[]⟩, 15) else longR (a.fmod b)) = (⟨#[]⟩, 15)) := by show _ = _; unfold opR; rw [if_pos h0]; exact if_pos hb
      rw [HR.out]
      have hz : (t.toList == [48]) = true := by rw [is_zero h2]; simp [hb]
      rw [h0] at HC
      clear h1 h2 hb h0 htab
      unfold retR
      go_enter Tryz.func116, Tryz.ntmps116
      go_wp2_with fail
      refine (HC.out _).mono ?_
      rintro e w1 ⟨rfl, rfl⟩
      go_wp2
      go_ret2
      exact ⟨rfl, Gr.refl _⟩
    · have HR : Hid ((opR s t fun a b => if b = 0 then (⟨#[]⟩, 15) else longR (a.fmod b)) = (opR s t fun a b => longR (a.fmod b))) := by show _ = _; unfold opR; rw [if_pos h0, if_pos h0]; exact if_neg hb
      rw [HR.out]
      have hz : (t.toList == [48]) = false := by rw [is_zero h2]; simp [hb]
      have HM := Lib.hid (fun w ht' => i_combine_remainder s t w hs ht ht' (fun _ => hb))
      have HTAB := Lib.hid htab
      obtain ⟨p, HP⟩ : ∃ p, Hid ((opR s t fun a b => longR (a.fmod b)) = p) := ⟨_, rfl⟩
      rw [HP.out] at HM ⊢
      obtain ⟨p1, p2⟩ := p
      rw [h0] at HC
      clear h1 h2 hb h0 htab
      unfold retR at HM ⊢
      go_enter Tryz.func116, Tryz.ntmps116
      go_wp2_with fail
      refine (HC.out _).mono ?_
      rintro e w1 ⟨rfl, rfl⟩
      go_wp2_with fail
      refine (HM.out _ HTAB.out).mono ?_
      rintro e w2 ⟨rfl, hg⟩
      have HG := Lib.hid hg; clear hg
      go_wp2
      go_ret2
      exact ⟨rfl, HG.out⟩
  · have HR : Hid ((opR s t fun a b => if b = 0 then (⟨#[]⟩, 15) else longR (a.fmod b)) = (⟨#[]⟩, both s t)) := by show _ = _; unfold opR; rw [if_neg h0]
    rw [HR.out]
    obtain ⟨c, HCC⟩ : ∃ c, Hid (both s t = c) := ⟨_, rfl⟩
    rw [HCC.out] at HC h0 ⊢
    have h1 : (c == 0) = false := beq_eq_false_iff_ne.2 h0
    have h2 : (c != 0) = true := by simp [h0]
    unfold retR
    go_enter Tryz.func116, Tryz.ntmps116
    go_wp2_with fail
    refine (HC.out _).mono ?_
    rintro e w1 ⟨rfl, rfl⟩
    go_wp2
    go_ret2
    exact ⟨rfl, Gr.refl _⟩
set_option maxHeartbeats 1000000 in
theorem i_Rem (s t : ByteArray) (w : World) (hs : s.size ≤ maxLen) (ht : t.size ≤ maxLen) (htab : Tab w) :
    Calls Tryz.prog 123 #[.string s, .string t] w (fun e w' => e = retR .i64 (opR s t fun a b => if b = 0 then (⟨#[]⟩, 15) else longR (a.fmod b)) ∧ Gr w w') := by
  have HC := Lib.hid (i_split_remainder s t w hs ht htab)
  obtain ⟨p, HP⟩ : ∃ p, Hid ((opR s t fun a b => if b = 0 then (⟨#[]⟩, 15) else longR (a.fmod b)) = p) := ⟨_, rfl⟩
  rw [HP.out] at HC ⊢
  obtain ⟨p1, p2⟩ := p
  clear htab
  unfold retR at HC ⊢
  go_enter Tryz.func123, Tryz.ntmps123
  go_wp2_with fail
  refine HC.out.mono ?_
  rintro e w1 ⟨rfl, hg⟩
  have HG := Lib.hid hg; clear hg
  go_wp2
  go_ret2
  exact ⟨rfl, HG.out⟩
end Go.Proofs.YtlbnibicehpobaaGreatDoor

/- integer: Compare, Digits, Abs. -/
namespace Go.Proofs.YtlbnibicehpobaaGreatDoor
open Go.RowKit Go.Shelf
open Z

/-- what Compare returns -/
def cmpR (s t : ByteArray) : Int × Int := if both s t = 0 then (cmpZ (ival s.data.toList) (ival t.data.toList), 0) else (0, both s t)
def retII (p : Int × Int) : Ending := .returned (.tuple #[.int .i64 p.1, .int .i64 p.2])
end Go.Proofs.YtlbnibicehpobaaGreatDoor

/- integer: Sign, Neg, Abs, Digits. -/
namespace Go.Proofs.YtlbnibicehpobaaGreatDoor
open Go.RowKit Go.Shelf
open Z

abbrev zeroS : ByteArray := ⟨#[48]⟩
def absR (s : ByteArray) : ByteArray × Int := if chk s.data.toList = 0 then (str (body s.data.toList), 0) else (⟨#[]⟩, chk s.data.toList)
def digR (s : ByteArray) : Int × Int := if chk s.data.toList = 0 then ((body s.data.toList).length, 0) else (0, chk s.data.toList)
end Go.Proofs.YtlbnibicehpobaaGreatDoor
