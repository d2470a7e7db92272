/- IntE: Int02m, Int02n, joined. -/
import Derived.Test.YtlbnibicehpobaaGreatDoorRange3
import Derived.Deep.RegionHeld3
set_option linter.unusedVariables false
set_option linter.unusedSimpArgs false

/- divide: the long division. -/
namespace Go.Proofs.YtlbnibicehpobaaGreatDoor
open Go.RowKit Go.Shelf
open Z
attribute [local go_sem] Oper.semAt_some

/-- push_own, inside a fence -/
theorem pushIn_own {F : Fence} {nf : Nat} {e t : TypeId} {k : IntKind} {bytes : Nat} {i : TypeInfo} (hi : Tryz.prog.info? e = some i) (hz0 : i.zero = some (.int k 0)) (hz1 : i.size = 1) (hz2 : i.bytes = bytes) (hb : bytes ≤ 8)
    (ht : Tryz.prog.underlying t = some (.slice e)) {ops : Array Oper} {rest : List Oper} {o : Oper} {a : Act} {Q : Exit → Act → World → Prop} {w0 w : World} (hgd : o.guard = none) (s x : Operand)
    (ho : o.op = .call { callee := .builtin .append, args := #[s, x], argTypes := #[t, t] }) (v : Value) (xs : List Nat) (hs : a.eval s = v) (hown : Own e k w0.heap.size w v xs) (hg : Gr w0 w)
    (z : Int) (n : Nat) (hz : z = n) (hx : a.eval x = .slice (some ⟨w.heap.size, 0, none⟩) 1 1) (hlen : xs.length ≤ 3000000)
    (h : ∀ v' w', Own e k w0.heap.size w' v' (xs ++ [n]) → Gr w0 w' → wpListIn F nf Tryz.prog ops Q rest (a.put o.dst v') w') :
    wpListIn F nf Tryz.prog ops Q (o :: rest) a (w.alloc (.cells #[.int k z] e)) := by
  have hgs := hg.size
  refine wpListIn_append_own _ hgd s x t ho w0.heap.size e i (.int k 0) 1 bytes ht hi hz0 hz1 hz2 rfl (by decide) v xs.length (iv k xs) hs (World.ownsRow.alloc hown _) ⟨w.heap.size, 0, none⟩ 1 1 [.int k z] hx rfl (cell_one_new _ _ _) (one1 _ rfl)
    (by unfold maxLen; omega) (by have : (xs.length + 1) * bytes ≤ (xs.length + 1) * 8 := Nat.mul_le_mul_left _ hb
                                  omega) (by simp; omega) (fun v' w' hown' hgrow _ => h v' w' ?_ ?_)
  · show World.ownsRow _ _ _ _ _ _ _
    rw [iv_snoc, List.length_append, ← hz]; exact hown'
  · exact Below.grown (hg.alloc _) hgrow (by simp; omega) (fun k hk => (World.ownsRow.lt hown k hk).1)

/-- what holds between the rounds of the long division -/
def DVI (w : World) (bb bv bq br gq gr : Nat) (vb : Value) (K n1 C V N : Nat) (k : Nat) (W : World) : Prop :=
  Gr w W ∧ bb < W.heap.size ∧ W.cell? ⟨bv, 0, none⟩ = some vb ∧ (W.cell? ⟨bq, 0, none⟩ = some (.slice (some ⟨gq, 0, none⟩) K K) ∧ W.frozen? ⟨bq, 0, none⟩ = false) ∧ W.cell? ⟨br, 0, none⟩ = some (.slice (some ⟨gr, 0, none⟩) (n1 + 1) C) ∧
    ∃ (o R : List Nat), OwnAt 173 .u32 gq K K W o ∧ OwnAt 173 .u32 gr (n1 + 1) C W R ∧ small 1000000000 o ∧ small 1000000000 R ∧ (∀ j, j < K - k → o.getD j 0 = 0) ∧
      N = wv 1000000000 R + V * (1000000000 ^ (K - k) * wv 1000000000 (o.drop (K - k))) ∧ wv 1000000000 (R.drop (K - k)) < V
theorem rep_getD (K j : Nat) : (List.replicate K 0).getD j 0 = 0 := by
  rw [List.getD_eq_getElem?_getD, List.getElem?_replicate]; split <;> rfl
theorem Nm.topne {xs : List Nat} (h : Nm xs) (h2 : 1 ≤ xs.length) : xs.getD (xs.length - 1) 0 ≠ 0 := by
  intro e
  have := h.2
  rw [List.getLast?_eq_getElem?] at this
  have h3 : xs[xs.length - 1]? = some (xs[xs.length - 1]'(by omega)) := List.getElem?_eq_getElem (by omega)
  rw [h3] at this
  rw [List.getD_eq_getElem?_getD, h3] at e
  exact this (by rw [show xs[xs.length - 1]'(by omega) = 0 from e])
set_option maxHeartbeats 4000000 in
set_option maxRecDepth 100000 in
theorem i_divideC (aa : Option Addr) (ca cb gb ob : Nat) (xa xb : List Nat) (w : World) (hra : Rd .u32 w (.slice aa xa.length ca) xa) (hrb : Rd .u32 w (.slice (some ⟨gb, ob, none⟩) xb.length cb) xb) (hna : Nm xa) (hnb : Nm xb) (hl1 : xa.length ≤ 1000000) (hl2 : 2 ≤ xb.length) (hl3 : xb.length ≤ xa.length) (hlt : wv 1000000000 xb ≤ wv 1000000000 xa) :
    Calls Tryz.prog 158 #[.slice aa xa.length ca, .slice (some ⟨gb, ob, none⟩) xb.length cb] w (fun e w' => DWRet (wv 1000000000 xa / wv 1000000000 xb) (wv 1000000000 xa % wv 1000000000 xb) w w' e) := by
  obtain ⟨i0, hi, hz0, hz1, hz2⟩ := info_parts Tryz.infoU32
  have HA := Lib.hid hra; clear hra
  have HB := Lib.hid hrb; clear hrb
  have HNA := Lib.hid hna; clear hna
  have HNB := Lib.hid hnb; clear hnb
  have HC := Lib.hid (fun w' (hg : Gr w w') => i_compare aa (some ⟨gb, ob, none⟩) _ _ ca cb xa xb w' (HA.out.gr hg) (HB.out.gr hg) HNA.out HNB.out (by omega) (by omega))
  obtain ⟨z, hz, hz1'⟩ : ∃ z : Int, cmpN (wv 1000000000 xa) (wv 1000000000 xb) = z ∧ 0 ≤ z := ⟨_, rfl, by unfold cmpN; rw [if_neg (by omega)]; split <;> omega⟩
  rw [hz] at HC
  clear hz hlt
  have HCL := Lib.hid (fun w' (hg : Gr w w') => i_Clone aa ca xa w' (HA.out.gr hg) (by omega))
  obtain ⟨m, HM⟩ : ∃ m, Hid (m = xb.length) := ⟨_, rfl⟩
  obtain ⟨n1, HN⟩ : ∃ n, Hid (n = xa.length) := ⟨_, rfl⟩
  rw [← HN.out, ← HM.out] at HC ⊢
  rw [← HN.out] at HCL
  have hm2 : 2 ≤ m := by rw [HM.out]; exact hl2
  have hmn : m ≤ n1 := by rw [HM.out, HN.out]; exact hl3
  have hn6 : n1 ≤ 1000000 := by rw [HN.out]; exact hl1
  clear hl1 hl2 hl3
  refine (callsIn_wide (n := 3)).1 ?_
  refine callsIn_of_wp_marks Tryz.func158 rfl trivial ?_ rfl
  simp only [Tryz.ntmps158, List.size_toArray, List.length_cons, List.length_nil, Nat.reduceAdd, Nat.reduceSub, Array.replicate_succ, Array.replicate_zero, List.push_toArray, List.append_toArray, List.nil_append, List.cons_append]
  have hg2 : Gr w ((w.alloc (.cells #[.slice (some ⟨gb, ob, none⟩) m cb] 136)).alloc (.cells #[.slice none 0 0] 136)) := ((Gr.refl w).alloc _).alloc _
  gi_wp2_with (first
    | (refine ⟨trivial, ?_⟩; gi_at_call 151; refine (callsIn_wide.2 (HC.out _ hg2)).mono ?_; rintro e w3 ⟨rfl, hg3⟩
       have HG3 := Lib.hid (Gr.trans hg2 hg3)
       have c0 : w3.cell? ⟨w.heap.size, 0, none⟩ = some (.slice (some ⟨gb, ob, none⟩) m cb) := (Below.cell hg3 (p := ⟨w.heap.size, 0, none⟩) (by simp; omega)).trans (by rw [World.cell?_alloc_past _ _ _ (by simp), World.cell?_alloc_at _ _ _ _ (by simp)]; rfl)
       have c1 : w3.cell? ⟨w.heap.size + 1, 0, none⟩ = some (.slice none 0 0) := (Below.cell hg3 (p := ⟨w.heap.size + 1, 0, none⟩) (by simp)).trans (by rw [World.cell?_alloc_at _ _ _ _ (by simp)]; rfl)
       have f1 : w3.frozen? ⟨w.heap.size + 1, 0, none⟩ = false := (Below.frozen hg3 (p := ⟨w.heap.size + 1, 0, none⟩) (by simp)).trans (World.frozen?_alloc_at _ _ _ _ (by simp))
       have hs3 : w.heap.size + 2 ≤ w3.heap.size := by have := hg3.size; simp at this; omega
       clear hg2 hg3)
    | (refine ⟨trivial, ?_⟩; gi_at_call 171; refine (callsIn_wide.2 (HCL.out w3 HG3.out)).mono ?_
       rintro e w4 ⟨v4, rfl, ho4, hg4⟩
       have HO4 := Lib.hid ho4
       have HG4 := Lib.hid (Gr.trans HG3.out hg4)
       have HG34 := Lib.hid hg4
       have HC0 := Lib.hid c0
       have HC1 := Lib.hid c1
       have HF1 := Lib.hid f1
       clear ho4 hg4 c1 f1 c0)
    | (gi_at_builtin; refine pushIn_own hi hz0 hz1 hz2 (by decide) Tryz.underlying136 rfl _ _ rfl _ xa rfl HO4.out HG34.out _ 0 rfl rfl (by rw [← HN.out]; omega) ?_))
  intro v5 w5 hO5 hG5
  obtain ⟨gr, C, rfl, hgr, hR5⟩ := hO5.place (by simp)
  have hlen : (xa ++ [0]).length = n1 + 1 := by rw [List.length_append, ← HN.out]; rfl
  rw [hlen] at hR5 ⊢
  have HR5 := Lib.hid hR5
  have HG5 := Lib.hid (Gr.trans HG3.out hG5)
  have hs5 : w.heap.size + 2 ≤ w5.heap.size := by have := hG5.size; omega
  have hgr5 : gr < w5.heap.size := hR5.lt
  have d0 : w5.cell? ⟨w.heap.size, 0, none⟩ = some (.slice (some ⟨gb, ob, none⟩) m cb) := (Below.cell hG5 (p := ⟨w.heap.size, 0, none⟩) (by show w.heap.size < _; omega)).trans HC0.out
  have d1 : w5.cell? ⟨w.heap.size + 1, 0, none⟩ = some (.slice none 0 0) := (Below.cell hG5 (p := ⟨w.heap.size + 1, 0, none⟩) (by show w.heap.size + 1 < _; omega)).trans HC1.out
  have e1 : w5.frozen? ⟨w.heap.size + 1, 0, none⟩ = false := (Below.frozen hG5 (p := ⟨w.heap.size + 1, 0, none⟩) (by show w.heap.size + 1 < _; omega)).trans HF1.out
  have hgr3 : w.heap.size + 2 ≤ gr := by omega
  clear hR5 hG5 hO5 HO4 HG4 HG34 HC0 HC1 HF1 HCL HC hgr
  obtain ⟨K, HK⟩ : ∃ K, Hid (K = n1 - m + 1) := ⟨_, rfl⟩
  have hK : K + m = n1 + 1 := by rw [HK.out]; omega
  have d0' : ∀ o, (w5.alloc o).cell? ⟨w.heap.size, 0, none⟩ = some (.slice (some ⟨gb, ob, none⟩) m cb) := fun o => (World.cell?_alloc_past _ _ _ (by show w.heap.size < _; omega)).trans d0
  gi_wp2_with (gi_at_make; refine wpListIn_make_full _ rfl _ _ 136 rfl (w5.heap.size + 1) 173 i0 (.int .u32 0) 1 Tryz.underlying136 hi hz0 hz1 .i64 .i64 _ _ K rfl rfl (by omega) (by omega) (by rw [hz2]; omega) (by unfold maxLen; omega) (by simp) ?_)
  intro w6 hown0 hgr0
  have hB : ∃ bv bq br gq, bv = w.heap.size ∧ bq = w.heap.size + 1 ∧ br = w5.heap.size ∧ gq = w5.heap.size + 1 := ⟨_, _, _, _, rfl, rfl, rfl, rfl⟩
  obtain ⟨bv, bq, br, gq, hbv, hbq, hbr, hgq⟩ := hB
  have aq6 : OwnAt 173 .u32 gq K K w6 (List.replicate K 0) := by rw [hgq]; exact own_zeros hown0
  have hs6 : gq < w6.heap.size := aq6.lt
  have hgr5' := hgr0.size
  have hbx : w.heap.size = bv ∧ w.heap.size + 1 = bq ∧ w5.heap.size = br ∧ w5.heap.size + 1 = gq := ⟨hbv.symm, hbq.symm, hbr.symm, hgq.symm⟩
  have hg6 : Gr w5 w6 := Below.grown ((Gr.refl w5).alloc _) hgr0 (by simp) (fun k hk => by simp at hk)
  have c6v : w6.cell? ⟨bv, 0, none⟩ = some (.slice (some ⟨gb, ob, none⟩) m cb) := (Below.cell hg6 (p := ⟨bv, 0, none⟩) (by show bv < _; omega)).trans (by rw [hbv]; exact d0)
  have c6q : w6.cell? ⟨bq, 0, none⟩ = some (.slice none 0 0) := (Below.cell hg6 (p := ⟨bq, 0, none⟩) (by show bq < _; omega)).trans (by rw [hbq]; exact d1)
  have f6q : w6.frozen? ⟨bq, 0, none⟩ = false := (Below.frozen hg6 (p := ⟨bq, 0, none⟩) (by show bq < _; omega)).trans (by rw [hbq]; exact e1)
  have c6r : w6.cell? ⟨br, 0, none⟩ = some (.slice (some ⟨gr, 0, none⟩) (n1 + 1) C) := by
    rw [World.cell?_of_block (hgr0.block br (by simp; omega) (by simp)), World.cell?_alloc_at _ _ _ _ (by rw [hbr])]; rfl
  have HRo := Lib.hid (HR5.out.grow hg6)
  have HQo := Lib.hid aq6
  have HG6 := Lib.hid (Gr.trans HG5.out hg6)
  have hord : w.heap.size ≤ bv ∧ bv < bq ∧ bq < gr ∧ gr < br ∧ br < gq ∧ gq < w6.heap.size := by omega
  rw [hbx.2.1, hbx.1, hbx.2.2.2, hbx.2.2.1]
  clear hbx hbv hbq hbr hgq aq6 hgr0 hown0 hgr5' hg6 d0 d1 e1 d0' hs3 hs5 hgr5 hgr3 HR5 HG5 HG3 hs6
  obtain ⟨ho1, ho2, ho3, ho4, ho5, ho6⟩ := hord
  gi_wp2_with (refine ⟨trivial, ?_⟩; gi_at_call 169; refine (callsIn_wide.2 (i_backwards _ _ _ _)).mono ?_; rintro e w' ⟨rfl, rfl⟩)
  generalize hW7 : ((w6.setCell ⟨bq, 0, none⟩ (.slice (some ⟨gq, 0, none⟩) K K)).alloc (.cells #[.slice (some ⟨gq, 0, none⟩) K K] 136)) = W7
  obtain ⟨bb, hbb⟩ : ∃ bb, bb = w6.heap.size := ⟨_, rfl⟩
  have hbb' : (some ⟨w6.heap.size, 0, none⟩ : Option Addr) = some ⟨bb, 0, none⟩ := by rw [hbb]
  rw [hbb']
  have hsX : (w6.setCell ⟨bq, 0, none⟩ (.slice (some ⟨gq, 0, none⟩) K K)).heap.size = bb := by rw [hbb]; simp [World.setCell]
  have hs7 : bb + 1 ≤ W7.heap.size := by rw [← hW7]; simp [hsX]
  have hgX : Gr w (w6.setCell ⟨bq, 0, none⟩ (.slice (some ⟨gq, 0, none⟩) K K)) := Below.setCell HG6.out (show w.heap.size ≤ bq by omega) _
  have hg7 : Gr w W7 := by rw [← hW7]; exact hgX.alloc _
  have c7v : W7.cell? ⟨bv, 0, none⟩ = some (.slice (some ⟨gb, ob, none⟩) m cb) := by
    rw [← hW7, World.cell?_alloc_past _ _ _ (by simp [hsX]; omega), World.cell?_setCell_other _ _ _ _ (by simp only [ne_eq, Addr.mk.injEq, and_true]; omega)]; exact c6v
  have c7r : W7.cell? ⟨br, 0, none⟩ = some (.slice (some ⟨gr, 0, none⟩) (n1 + 1) C) := by
    rw [← hW7, World.cell?_alloc_past _ _ _ (by simp [hsX]; omega), World.cell?_setCell_other _ _ _ _ (by simp only [ne_eq, Addr.mk.injEq, and_true]; omega)]; exact c6r
  have c7q : W7.cell? ⟨bq, 0, none⟩ = some (.slice (some ⟨gq, 0, none⟩) K K) ∧ W7.frozen? ⟨bq, 0, none⟩ = false := by
    rw [← hW7, World.cell?_alloc_past _ _ _ (by simp [hsX]; omega), World.frozen?_alloc_past _ _ _ (by simp [hsX]; omega), World.frozen?_setCell]
    exact ⟨World.cell?_setCell_same' _ _ _ (by rw [c6q]; rfl), f6q⟩
  have c7b : W7.cell? ⟨bb, 0, none⟩ = some (.slice (some ⟨gq, 0, none⟩) K K) := by
    rw [← hW7, World.cell?_alloc_at _ _ _ _ (by simp [hsX])]; rfl
  have a7q : OwnAt 173 .u32 gq K K W7 (List.replicate K 0) := by
    rw [← hW7]; exact OwnAt.grow (OwnAt.ch HQo.out (Ch.set bq w6 0 _) (by omega)) ((Gr.refl _).alloc _)
  have a7r : OwnAt 173 .u32 gr (n1 + 1) C W7 (xa ++ [0]) := by
    rw [← hW7]; exact OwnAt.grow (OwnAt.ch HRo.out (Ch.set bq w6 0 _) (by omega)) ((Gr.refl _).alloc _)
  have hbb2 : gq < bb := by omega
  clear hbb' hbb hsX hW7 hgX c6v c6r c6q f6q HQo HRo HG6 ho6
  have hI0 : DVI w bb bv bq br gq gr (.slice (some ⟨gb, ob, none⟩) m cb) K n1 C (wv 1000000000 xb) (wv 1000000000 xa) 0 W7 := by
    refine ⟨hg7, by omega, c7v, c7q, c7r, _, _, a7q, a7r, small_zeros _ (by omega), ?_, ?_, ?_, ?_⟩
    · intro x hx; rcases List.mem_append.1 hx with h | h
      · exact HNA.out.1 x h
      · simp only [List.mem_singleton] at h; omega
    · intro j hj; exact rep_getD K j
    · rw [Nat.sub_zero, List.drop_of_length_le (by simp), wv_append]; simp [wv]
    · have := dv_start HNA.out.1 HNB.out (by rw [← HM.out]; omega) (by rw [← HM.out, ← HN.out]; exact hmn)
      rw [← HM.out, ← HN.out, ← HK.out] at this; exact this
  have HI0 := Lib.hid hI0
  clear hI0 a7q a7r c7v c7r c7q hg7
  have hKl : (List.replicate K 0).length = K := by simp
  have hda : downArgs (List.replicate K 0) = fun k => #[.int .i64 ((K - 1 - k : Nat) : Int), .int .u64 ((0 : Nat) : Int)] := by
    funext k; unfold downArgs; rw [hKl, rep_getD]
  have hrs := i_roundsC (List.replicate K 0) gq K bb (fun k => k = bb) W7 rfl (by rw [hKl]; exact c7b) (small_zeros _ (by omega)) (by rw [hKl]; omega)
  rw [hda, hKl] at hrs
  simp only [rep_getD] at hrs
  clear hda hKl c7b
  refine wp_roundsC (gf := 192) (lb := #[.pointer (some ⟨bb, 0, none⟩)]) rfl (enters_of Tryz.func192 (by kernel_rfl) rfl) (S := fun k => k = bb) (fun k hk => by omega)
    hrs (fun _ => rfl)
    (DVI w bb bv bq br gq gr (.slice (some ⟨gb, ob, none⟩) m cb) K n1 C (wv 1000000000 xb) (wv 1000000000 xa))
    (fun _ _ => False)
    (fun s A B row hs hg hr => ⟨Below.grown hs.1 hg hs.1.size (fun k e => by have := (hr k e).1; omega), Nat.lt_of_lt_of_le hs.2.1 hg.size, cell_kept hs.2.2.1 hg (fun r e => (hr r e).2), ⟨cell_kept hs.2.2.2.1.1 hg (fun r e => (hr r e).2), (frozen_kept hs.2.2.2.1.1 hg (fun r e => (hr r e).2)).trans hs.2.2.2.1.2⟩, cell_kept hs.2.2.2.2.1 hg (fun r e => (hr r e).2), by
      obtain ⟨o, R, h1, h2, h3⟩ := hs.2.2.2.2.2
      exact ⟨o, R, h1.kept hg (fun r e => (hr r e).2), h2.kept hg (fun r e => (hr r e).2), h3⟩⟩)
    (fun c s A B row hs hg hr => hs)
    HI0.out
    (fun k W hk h => by
      obtain ⟨-, -, -, -, -, o, R, h1, -, -, -, h5, -⟩ := h
      have := (h1.cell (K - 1 - k) (by omega)).1
      rw [h5 _ (by omega)] at this
      exact this)
    (fun k => { tmps := #[.slice aa n1 ca, .slice (some ⟨gb, ob, none⟩) m cb, undef, .pointer (some ⟨bv, 0, none⟩), .pointer (some ⟨bq, 0, none⟩), .slice none 0 0, .pointer (some ⟨br, 0, none⟩), .int .i64 ((K - 1 - k : Nat) : Int), .slice aa n1 ca, .slice (some ⟨gb, ob, none⟩) m cb, .int .i64 z, .bool (decide (z < 0)), undef, .slice (some ⟨gb, ob, none⟩) m cb, .int .i64 m, .bool false,
      undef, undef, undef, undef, undef, undef, undef, undef, .slice aa n1 ca, v4, .slice (some ⟨w4.heap.size, 0, none⟩) 1 1, .slice (some ⟨gr, 0, none⟩) (n1 + 1) C, .slice aa n1 ca, .int .i64 n1, .slice (some ⟨gb, ob, none⟩) m cb, .int .i64 m, .int .i64 ((n1 : Int) - (m : Int)), .int .i64 ((n1 : Int) - (m : Int) + 1), .slice (some ⟨gq, 0, none⟩) K K, .slice (some ⟨gq, 0, none⟩) K K,
      .func (.func 192) #[] #[.pointer (some ⟨bb, 0, none⟩)], .int .i64 ((K - 1 - k : Nat) : Int), .int .u64 ((0 : Nat) : Int), undef, undef, undef, undef, undef, undef, undef, undef, undef, undef, undef, undef, undef, undef, undef, undef, undef], defers := [] }) ?assign ?body ?done ?stop
  case assign =>
    intro l k W K' hK'
    gi_wp2
    exact hK'
  case stop =>
    rintro D c W hD h hK
    exact h.elim
  case body =>
    rintro l k W hk ⟨hg, hbbW, h1, ⟨h2, h3⟩, h4, o, R, ho, hR, hso, hsR, hz0, hN, hlt⟩
    have HJ : Hid (K - 1 - k + 1 = K - k ∧ K - (k + 1) = K - 1 - k) := ⟨by omega, by omega⟩
    have hjl : K - 1 - k < K := by omega
    generalize K - 1 - k = j at hjl HJ
    rw [← HJ.out.1] at hlt hN
    obtain ⟨A, s, Z', rfl, hA, hs1, hss, hZ, hsl, hsA, hsZ⟩ := dv_window (m := m) (V := wv 1000000000 xb) hsR (by rw [hR.1]; omega) (Nat.le_of_lt (by rw [HM.out]; exact wv_lt HNB.out.1)) hlt
    have hRl := hR.1
    simp only [List.length_append] at hRl
    have hcr : n1 + 1 ≤ C ∧ C ≤ maxLen := ⟨(hR.rd.len).2.1, (hR.rd.len).2.2⟩
    unfold maxLen at hcr
    have hlA : A.length = j := hA
    have HTO : Hid (∀ W' o' L' C', Gr W W' → o' = j → L' = m + 1 → C' = C - j → Calls Tryz.prog 183 #[.slice (some ⟨gr, o', none⟩) L' C', .slice (some ⟨gb, ob, none⟩) m cb] W' (fun e w' => TOutRet 173 gr (n1 + 1) C A s Z' xb W' w' e)) := by
      rintro W' o' L' C' hW' rfl rfl rfl
      have := i_takeOut gr o' (C - o') (n1 + 1) C A s Z' xb (some ⟨gb, ob, none⟩) cb w W' (hR.grow hW') hA hss HB.out (Gr.trans hg hW') (by omega) HNB.out.1 (by rw [hs1, HM.out]) (by rw [← HM.out]; exact hm2) (by omega) (Nm.topne HNB.out (by have := HM.out; omega)) hsl HNB.out (by unfold maxLen; omega)
      rwa [hs1, ← HM.out] at this
    obtain ⟨hco, hfo⟩ := ho.cell j hjl
    have HO := Lib.hid ho
    have HRR := Lib.hid hR
    have HPU := Lib.hid (And.intro hso (And.intro hsA (And.intro hsZ (And.intro hz0 (And.intro hN (And.intro hZ (And.intro hA hs1)))))))
    have hgq2 : gq < W.heap.size := ho.lt
    have hgr2 : gr < W.heap.size := hR.lt
    have hgu : Hid (Gr w W) := hg
    clear HA HB HNA HNB HK HM HN hlen
    clear ho hR hso hsA hsZ hz0 hN hZ hA hs1 hss hsl hlt hsR hrs HI0 hlA
    have w1' : IntKind.i64.wrap ((j : Int) + (m : Int)) = (j : Int) + (m : Int) := IntWalk.i64_in _ (by omega)
    have w2' : IntKind.i64.wrap ((j : Int) + (m : Int) + 1) = (j : Int) + (m : Int) + 1 := IntWalk.i64_in _ (by omega)
    have hjC : j + m + 1 ≤ C := by have := HPU.out.2.2.2.2.2.2; omega
    have hjC2 : j < C := by omega
    have hjm : j + m + 1 - j = m + 1 := by omega
    have hcC : C ≤ 9223372036854775807 := by omega
    clear hcr hRl
    have hD0 : Gr W W.drew := Gr.drew (Gr.refl _)
    gi_wp2
    have hS0 : (fun w' : World => w'.cell? ⟨bv, 0, none⟩ = some (.slice (some ⟨gb, ob, none⟩) m cb) ∧ w'.cell? ⟨bq, 0, none⟩ = some (.slice (some ⟨gq, 0, none⟩) K K) ∧ w'.cell? ⟨br, 0, none⟩ = some (.slice (some ⟨gr, 0, none⟩) (n1 + 1) C)) W.drew := ⟨h1, h2, h4⟩
    refine wpIn_region_any (by kernel_rfl) (wpAnyIn_of_wpAny (noDefer_spec (by kernel_rfl)) (by rintro ⟨a, w, h⟩; exact h) _ _ _ _ (wpAny_of_held (S := fun w' : World => w'.cell? ⟨bv, 0, none⟩ = some (.slice (some ⟨gb, ob, none⟩) m cb) ∧ w'.cell? ⟨bq, 0, none⟩ = some (.slice (some ⟨gq, 0, none⟩) K K) ∧ w'.cell? ⟨br, 0, none⟩ = some (.slice (some ⟨gr, 0, none⟩) (n1 + 1) C)) _ _ _ _ ?_))
    refine wpAnyH_take (i := 0) (v := .slice (some ⟨gq, 0, none⟩) K K) rfl (by kernel_rfl) (by kernel_rfl) (by kernel_rfl) (fun _ _ _ h => h) (Or.inl ⟨by rfl, ?_⟩) hS0 ?_
    · intro w hSw; obtain ⟨s1, s2, s3⟩ := hSw; go_simp
    try dsimp only [Act.put]
    try simp only [List.setIfInBounds_toArray, List.set_cons_zero, List.set_cons_succ]
    refine wpAnyH_take (i := 1) (v := .int .i64 j) rfl (by kernel_rfl) (by kernel_rfl) (by kernel_rfl) (fun _ _ _ h => h) (Or.inl ⟨by rfl, ?_⟩) hS0 ?_
    · intro w hSw; obtain ⟨s1, s2, s3⟩ := hSw; go_simp
    try dsimp only [Act.put]
    try simp only [List.setIfInBounds_toArray, List.set_cons_zero, List.set_cons_succ]
    refine wpAnyH_take (i := 2) (v := .slice (some ⟨gr, 0, none⟩) (n1 + 1) C) rfl (by kernel_rfl) (by kernel_rfl) (by kernel_rfl) (fun _ _ _ h => h) (Or.inl ⟨by rfl, ?_⟩) hS0 ?_
    · intro w hSw; obtain ⟨s1, s2, s3⟩ := hSw; go_simp
    try dsimp only [Act.put]
    try simp only [List.setIfInBounds_toArray, List.set_cons_zero, List.set_cons_succ]
    refine wpAnyH_take (i := 3) (v := .int .i64 j) rfl (by kernel_rfl) (by kernel_rfl) (by kernel_rfl) (fun _ _ _ h => h) (Or.inl ⟨by rfl, ?_⟩) hS0 ?_
    · intro w hSw; obtain ⟨s1, s2, s3⟩ := hSw; go_simp
    try dsimp only [Act.put]
    try simp only [List.setIfInBounds_toArray, List.set_cons_zero, List.set_cons_succ]
    refine wpAnyH_take (i := 4) (v := .int .i64 j) rfl (by kernel_rfl) (by kernel_rfl) (by kernel_rfl) (fun _ _ _ h => h) (Or.inl ⟨by rfl, ?_⟩) hS0 ?_
    · intro w hSw; obtain ⟨s1, s2, s3⟩ := hSw; go_simp
    try dsimp only [Act.put]
    try simp only [List.setIfInBounds_toArray, List.set_cons_zero, List.set_cons_succ]
    refine wpAnyH_take (i := 5) (v := .slice (some ⟨gb, ob, none⟩) m cb) rfl (by kernel_rfl) (by kernel_rfl) (by kernel_rfl) (fun _ _ _ h => h) (Or.inl ⟨by rfl, ?_⟩) hS0 ?_
    · intro w hSw; obtain ⟨s1, s2, s3⟩ := hSw; go_simp
    try dsimp only [Act.put]
    try simp only [List.setIfInBounds_toArray, List.set_cons_zero, List.set_cons_succ]
    refine wpAnyH_take (i := 6) (v := .int .i64 m) rfl (by kernel_rfl) (by kernel_rfl) (by kernel_rfl) (fun _ _ _ h => h) (Or.inl ⟨by rfl, ?_⟩) hS0 ?_
    · intro w hSw; obtain ⟨s1, s2, s3⟩ := hSw; go_simp
    try dsimp only [Act.put]
    try simp only [List.setIfInBounds_toArray, List.set_cons_zero, List.set_cons_succ]
    refine wpAnyH_take (i := 7) (v := .int .i64 ((j : Int) + (m : Int))) rfl (by kernel_rfl) (by kernel_rfl) (by kernel_rfl) (fun _ _ _ h => h) (Or.inl ⟨by rfl, ?_⟩) hS0 ?_
    · intro w hSw; obtain ⟨s1, s2, s3⟩ := hSw; go_simp
    try dsimp only [Act.put]
    try simp only [List.setIfInBounds_toArray, List.set_cons_zero, List.set_cons_succ]
    refine wpAnyH_take (i := 8) (v := .int .i64 ((j : Int) + (m : Int) + 1)) rfl (by kernel_rfl) (by kernel_rfl) (by kernel_rfl) (fun _ _ _ h => h) (Or.inl ⟨by rfl, ?_⟩) hS0 ?_
    · intro w hSw; obtain ⟨s1, s2, s3⟩ := hSw; go_simp
    try dsimp only [Act.put]
    try simp only [List.setIfInBounds_toArray, List.set_cons_zero, List.set_cons_succ]
    refine wpAnyH_take (i := 9) (v := .slice (some ⟨gr, j, none⟩) (m + 1) (C - j)) rfl (by kernel_rfl) (by kernel_rfl) (by kernel_rfl) (fun _ _ _ h => h) (Or.inl ⟨by rfl, ?_⟩) hS0 ?_
    · intro w hSw; obtain ⟨s1, s2, s3⟩ := hSw; go_simp
      rw [if_pos ⟨by omega, by omega⟩, if_pos (by omega), if_neg (show ¬ C = j by omega), show ((j : Int) + (m : Int) + 1).toNat - j = m + 1 by omega]
    try dsimp only [Act.put]
    try simp only [List.setIfInBounds_toArray, List.set_cons_zero, List.set_cons_succ]
    refine wpAnyH_take (i := 10) (v := .slice (some ⟨gb, ob, none⟩) m cb) rfl (by kernel_rfl) (by kernel_rfl) (by kernel_rfl) (fun _ _ _ h => h) (Or.inl ⟨by rfl, ?_⟩) hS0 ?_
    · intro w hSw; obtain ⟨s1, s2, s3⟩ := hSw; go_simp
    try dsimp only [Act.put]
    try simp only [List.setIfInBounds_toArray, List.set_cons_zero, List.set_cons_succ]
    refine wpAnyH_ready (rs := [11]) (by kernel_rfl) (by simp) (AllReadyH.cons rfl (fun K' hK' => ?_) AllReadyH.nil)
    go_simp
    refine (HTO.out _ _ _ _ hD0 rfl rfl rfl).mono ?_
    rintro e w9 ⟨q, rfl, hq, s', hs', hos', hch, hsm', hv', hlt'⟩
    have HP9 := Lib.hid (And.intro hs' (And.intro hos' (And.intro hsm' (And.intro hv' hlt'))))
    have hch' : Ch gr W w9 := (Gr.ch hD0 gr).trans hch
    have HCH := Lib.hid hch'
    have n5 : w9.cell? ⟨gq, j, none⟩ = some (.int .u32 (o.getD j 0 : Nat)) := (World.cell?_of_block (hch'.block gq (by omega) (by omega))).trans hco
    have n6 : w9.frozen? ⟨gq, j, none⟩ = false := (World.frozen?_of_block (hch'.block gq (by omega) (by omega))).trans hfo
    have n2 : w9.cell? ⟨bq, 0, none⟩ = some (.slice (some ⟨gq, 0, none⟩) K K) := (World.cell?_of_block (hch'.block bq (by omega) (by omega))).trans h2
    have n1' : w9.cell? ⟨bv, 0, none⟩ = some (.slice (some ⟨gb, ob, none⟩) m cb) := (World.cell?_of_block (hch'.block bv (by omega) (by omega))).trans h1
    have n4 : w9.cell? ⟨br, 0, none⟩ = some (.slice (some ⟨gr, 0, none⟩) (n1 + 1) C) := (World.cell?_of_block (hch'.block br (by omega) (by omega))).trans h4
    clear hs' hos' hsm' hv' hlt' hch hch'
    refine hK'.out _ _ ⟨n1', n2, n4⟩ (fun hS1 => ?_)
    clear hK' K' hS0
    try dsimp only [Act.put]
    try simp only [List.setIfInBounds_toArray, List.set_cons_zero, List.set_cons_succ]
    refine wpAnyH_take (i := 12) (v := .pointer (some ⟨gq, j, none⟩)) rfl (by kernel_rfl) (by kernel_rfl) (by kernel_rfl) (fun _ _ _ h => h) (Or.inl ⟨by rfl, ?_⟩) hS1 ?_
    · intro w hSw; obtain ⟨s1, s2, s3⟩ := hSw; go_simp
    try dsimp only [Act.put]
    try simp only [List.setIfInBounds_toArray, List.set_cons_zero, List.set_cons_succ]
    refine wpAnyH_ready (rs := [13]) (by kernel_rfl) (by simp) (AllReadyH.cons rfl (fun K' hK' => ?_) AllReadyH.nil)
    go_simp
    have n3 : w9.frozen? ⟨bq, 0, none⟩ = false := (World.frozen?_of_block (HCH.out.block bq (by omega) (by omega))).trans h3
    have nv : (w9.setCell ⟨gq, j, none⟩ (.int .u32 q)).cell? ⟨bv, 0, none⟩ = some (.slice (some ⟨gb, ob, none⟩) m cb) := (World.cell?_setCell_other _ _ _ _ (by simp only [ne_eq, Addr.mk.injEq, and_true]; omega)).trans n1'
    have nq : (w9.setCell ⟨gq, j, none⟩ (.int .u32 q)).cell? ⟨bq, 0, none⟩ = some (.slice (some ⟨gq, 0, none⟩) K K) := (World.cell?_setCell_other _ _ _ _ (by simp only [ne_eq, Addr.mk.injEq, and_true]; omega)).trans n2
    have nr : (w9.setCell ⟨gq, j, none⟩ (.int .u32 q)).cell? ⟨br, 0, none⟩ = some (.slice (some ⟨gr, 0, none⟩) (n1 + 1) C) := (World.cell?_setCell_other _ _ _ _ (by simp only [ne_eq, Addr.mk.injEq, and_true]; omega)).trans n4
    refine hK'.out _ _ ⟨nv, nq, nr⟩ (fun hS2 => wpAnyH_done (by kernel_rfl) ?_ _)
    obtain ⟨p1, p2, p3, p4, p5, p6, p7, p8⟩ := HPU.out
    obtain ⟨r1, r2, r3, r4, r5⟩ := HP9.out
    have hch := HCH.out
    have hg9 : Gr w w9 := hch.gr hgu.out (by omega)
    have hO9 : OwnAt 173 .u32 gq K K w9 o := HO.out.ch hch (by omega)
    have hset := OwnAt.set hO9 hg9 (by omega) j (q : Int) q rfl
    have hstep := dv_step (N := wv 1000000000 xa) (m := m) p7 p8 (r1.trans p8) p6 r4 r5 (by rw [hO9.1]; exact hjl) p5
    refine ⟨?_, ?_, hset.2, ?_, nv, ⟨nq, (World.frozen?_setCell _ _ _ _).trans n3⟩, nr, o.set j q, A ++ s' ++ Z', hset.1, r2.ch (Ch.set gq w9 j _) (by omega), small_set p1 hq, ?_, ?_, ?_, ?_⟩
    · have h : KeepsFrom W7.heap.size W w9 := ⟨hch.size, fun k o hB hk _ => (hch.block k (Array.getElem?_eq_some_iff.1 hk).1 (by omega)).trans hk⟩
      exact h.trans ((KeepsOthers.setCell _ _ _).from _)
    · have h : KeepB (fun k => k = bb) W w9 := fun k hk => hch.block k (by omega) (by omega)
      exact h.trans (KeepB.setCell (show ¬ gq = bb by omega) _)
    · have := hch.size
      show bb < (w9.setCell ⟨gq, j, none⟩ (.int .u32 q)).heap.size
      rw [show (w9.setCell ⟨gq, j, none⟩ (.int .u32 q)).heap.size = w9.heap.size by simp [World.setCell]]; omega
    · intro x hx
      rcases List.mem_append.1 hx with h | h
      · rcases List.mem_append.1 h with h | h
        · exact p2 x h
        · exact r3 x h
      · exact p3 x h
    · intro j' hj'
      rw [HJ.out.2] at hj'
      rw [getD_set (by rw [hO9.1]; exact hjl), if_neg (by omega)]
      exact p4 j' (by have := HJ.out.1; omega)
    · rw [HJ.out.2]; exact hstep.1
    · rw [HJ.out.2]; exact hstep.2
  case done =>
    rintro D W hD ⟨hg, hbbW, h1, ⟨h2, h3⟩, h4, o, R, ho, hR, hso, hsR, hz0, hN, hlt⟩ hK
    rw [Nat.sub_self, Nat.pow_zero, Nat.one_mul, List.drop_zero] at hN
    rw [Nat.sub_self, List.drop_zero] at hlt
    have HE1 := Lib.hid (dv_end hN hlt).1
    have HE2 := Lib.hid (dv_end hN hlt).2
    have HQ := Lib.hid ho
    have HR := Lib.hid hR
    have HSQ := Lib.hid hso
    have HSR := Lib.hid hsR
    have HK0 := Lib.hid hK
    have HG := Lib.hid hg
    have hDl : D < W.heap.size := (Array.getElem?_eq_some_iff.1 hK).1
    have hol := ho.1
    have hRl := hR.1
    have HLQ : Hid (o.length ≤ 3000000) := by show _ ≤ _; omega
    have HLR : Hid (R.length ≤ 3000000) := by show _ ≤ _; omega
    have HT1 := Lib.hid (fun W' (h : Gr W W') => i_trimB (some ⟨gq, 0, none⟩) K K o W' (ho.grow h).rd hso HLQ.out)
    have HT2 := Lib.hid (fun W' (h : Gr W W') => i_trimB (some ⟨gr, 0, none⟩) (n1 + 1) C R W' (hR.grow h).rd hsR HLR.out)
    clear ho hR hso hsR hz0 hN hlt hK hg hol hRl hrs HI0 HA HB HNA HNB HM HN HK
    gi_wp2
    refine wpIn_mono ?_ QuietEnd.imp
    have hD0 : Gr W W.drew := Gr.drew (Gr.refl _)
    have hS0 : (fun w' : World => w'.cell? ⟨br, 0, none⟩ = some (.slice (some ⟨gr, 0, none⟩) (n1 + 1) C)) W.drew := h4
    refine wpIn_wide.2 (wp_region_held (S := fun w' : World => w'.cell? ⟨br, 0, none⟩ = some (.slice (some ⟨gr, 0, none⟩) (n1 + 1) C)) (by kernel_rfl) ?_)
    refine wpAnyH_take (i := 2) (v := .slice (some ⟨gr, 0, none⟩) (n1 + 1) C) rfl (by kernel_rfl) (by kernel_rfl) (by kernel_rfl) (fun _ _ _ h => h) (Or.inl ⟨by rfl, ?_⟩) hS0 ?_
    · intro w hSw; go_simp
    try dsimp only [Act.put]
    try simp only [List.setIfInBounds_toArray, List.set_cons_zero, List.set_cons_succ]
    refine wpAnyH_ready (rs := [0]) (by kernel_rfl) (by simp) (AllReadyH.cons rfl (fun K' hK' => ?_) AllReadyH.nil)
    go_simp
    refine hK'.out _ _ h4 (fun hS1 => ?_)
    clear hK' K' hS0
    try dsimp only [Act.put]
    try simp only [List.setIfInBounds_toArray, List.set_cons_zero, List.set_cons_succ]
    refine wpAnyH_ready (rs := [1]) (by kernel_rfl) (by simp) (AllReadyH.cons rfl (fun K' hK' => ?_) AllReadyH.nil)
    go_simp
    refine (HT1.out _ hD0).mono ?_
    rintro e w3 ⟨a3, l3, c3, rfl, ha3, hr3, hg3⟩
    have hE : Gr W w3 := Gr.trans hD0 hg3
    have HE3 := Lib.hid hE
    have HR3 := Lib.hid hr3
    have k1 : w3.cell? ⟨br, 0, none⟩ = some (.slice (some ⟨gr, 0, none⟩) (n1 + 1) C) := (Below.cell (p := ⟨br, 0, none⟩) hE (by show br < _; omega)).trans h4
    refine hK'.out _ _ k1 (fun hS2 => ?_)
    clear hK' K' hS1 hr3 hg3 ha3
    try dsimp only [Act.put]
    try simp only [List.setIfInBounds_toArray, List.set_cons_zero, List.set_cons_succ]
    refine wpAnyH_ready (rs := [3]) (by kernel_rfl) (by simp) (AllReadyH.cons rfl (fun K' hK' => ?_) AllReadyH.nil)
    go_simp
    refine (HT2.out _ hE).mono ?_
    rintro e w4 ⟨a4, l4, c4, rfl, ha4, hr4, hg4⟩
    have hE4 : Gr W w4 := Gr.trans hE hg4
    have HE4 := Lib.hid hE4
    have HR3' := Lib.hid (HR3.out.gr hg4)
    have HR4 := Lib.hid hr4
    have q1 : w4.cell? ⟨br, 0, none⟩ = some (.slice (some ⟨gr, 0, none⟩) (n1 + 1) C) := (Below.cell (p := ⟨br, 0, none⟩) hE4 (by show br < _; omega)).trans h4
    have q2 : w4.cell? ⟨bq, 0, none⟩ = some (.slice (some ⟨gq, 0, none⟩) K K) := (Below.cell (p := ⟨bq, 0, none⟩) hE4 (by show bq < _; omega)).trans h2
    have q3 : w4.frozen? ⟨bq, 0, none⟩ = false := (Below.frozen (p := ⟨bq, 0, none⟩) hE4 (by show bq < _; omega)).trans h3
    refine hK'.out _ _ q1 (fun hS3 => ?_)
    clear hK' K' hS2 hr4 hg4 ha4 HR3 HE3 hE k1
    try dsimp only [Act.put]
    try simp only [List.setIfInBounds_toArray, List.set_cons_zero, List.set_cons_succ]
    refine wpAnyH_ready (rs := [4]) (by kernel_rfl) (by simp) (AllReadyH.cons rfl (fun K' hK' => ?_) AllReadyH.nil)
    go_simp
    have q4 : (w4.setCell ⟨bq, 0, none⟩ (.slice a3 l3 c3)).cell? ⟨br, 0, none⟩ = some (.slice (some ⟨gr, 0, none⟩) (n1 + 1) C) := (World.cell?_setCell_other _ _ _ _ (by simp only [ne_eq, Addr.mk.injEq, and_true]; omega)).trans q1
    refine hK'.out _ _ q4 (fun hS4 => ?_)
    clear hK' K' hS3
    try dsimp only [Act.put]
    try simp only [List.setIfInBounds_toArray, List.set_cons_zero, List.set_cons_succ]
    refine wpAnyH_ready (rs := [5]) (by kernel_rfl) (by simp) (AllReadyH.cons rfl (fun K' hK' => ?_) AllReadyH.nil)
    go_simp
    refine hK'.out _ _ q4 (fun hS5 => ?_)
    clear hK' K' hS4
    try dsimp only [Act.put]
    try simp only [List.setIfInBounds_toArray, List.set_cons_zero, List.set_cons_succ]
    refine wpAnyH_done (by kernel_rfl) ?_ _
    refine QuietEnd.normal ?_
    gi_wp2
    have hK4 := (hE4.block D hDl).trans HK0.out
    have hK5 := (KeepsOthers.setCell w4 ⟨bq, 0, none⟩ (.slice a3 l3 c3)).same D _ hK4 rfl
    have hc5 : (w4.setCell ⟨bq, 0, none⟩ (.slice a3 l3 c3)).cell? ⟨bq, 0, none⟩ = some (.slice a3 l3 c3) := World.cell?_setCell_same' _ _ _ (by rw [q2]; rfl)
    have hc6 := cell_kept hc5 (grownBy_putObj' _ D (.deferred none)) (fun r e => by cases e; exact ⟨_, hK5, rfl⟩)
    have hG5 : Gr w (w4.setCell ⟨bq, 0, none⟩ (.slice a3 l3 c3)) := Below.setCell (Gr.trans HG.out hE4) (show w.heap.size ≤ bq by omega) _
    refine ⟨by simp, .inl ⟨_, _, rfl, run_takeDeferred hK5, ?_⟩⟩
    refine ⟨.tuple #[.slice a3 l3 c3, .slice a4 l4 c4], ?_, .slice a3 l3 c3, .slice a4 l4 c4, rfl, ?_, ?_, ?_⟩
    · simp [results, Tryz.results158, go_sem, hc6]
    · exact ⟨_, (HR3'.out.setOther q2).kept (grownBy_putObj' _ D (.deferred none)) (fun r e => by cases e; exact ⟨_, hK5, rfl⟩), Nm.trim HSQ.out, by rw [wv_trimL]; exact HE1.out.symm⟩
    · exact ⟨_, (HR4.out.setOther q2).kept (grownBy_putObj' _ D (.deferred none)) (fun r e => by cases e; exact ⟨_, hK5, rfl⟩), Nm.trim HSR.out, by rw [wv_trimL]; exact HE2.out.symm⟩
    · exact Below.trans hG5 (below_putObj (by omega))
end Go.Proofs.YtlbnibicehpobaaGreatDoor

/- divide: all cases. -/
namespace Go.Proofs.YtlbnibicehpobaaGreatDoor
open Go.RowKit Go.Shelf
open Z

theorem Rd.place {k : IntKind} {w : World} {a : Option Addr} {n c : Nat} {xs : List Nat} (h : Rd k w (.slice a n c) xs) (h0 : xs ≠ []) : ∃ g off, a = some ⟨g, off, none⟩ := by
  obtain ⟨a', c', he, -, h1⟩ := h
  simp only [Value.slice.injEq] at he
  obtain ⟨rfl, -, -⟩ := he
  obtain ⟨g, off, e, -⟩ := h1.resolve_left h0
  exact ⟨g, off, e⟩
theorem i_divide {K : Nat} (v v' : Value) (n m : Nat) (w : World) (h : WD w v n) (h' : WD w v' m) (hn : n < 1000000000 ^ K) (hm : m < 1000000000 ^ K) (hK : K ≤ 1000000) (h0 : 0 < m) :
    Calls Tryz.prog 158 #[v, v'] w (fun e w' => DWRet (n / m) (n % m) w w' e) := by
  obtain ⟨aa, ca, xa, rfl, ra, na, rfl⟩ := h.form
  obtain ⟨ab, cb, xb, rfl, rb, nb, rfl⟩ := h'.form
  have h1 := na.le hn
  have h2 := nb.le hm
  have hb0 : xb ≠ [] := by intro e; rw [e] at h0; simp [wv] at h0
  obtain ⟨gb, ob, rfl⟩ := rb.place hb0
  by_cases hlt : wv 1000000000 xa < wv 1000000000 xb
  · exact i_divideA aa (some ⟨gb, ob, none⟩) ca cb xa xb w ra rb na nb (by omega) (by omega) hlt
  · match xb, hb0, rb, nb, h0, h2, hlt with
    | [y], _, rb, nb, _, _, hlt => exact i_divideB aa ca cb gb ob y xa [y] w ra rb rfl na nb (by omega) (by omega)
    | y :: y' :: ys, _, rb, nb, _, _, hlt =>
      refine i_divideC aa ca cb gb ob xa (y :: y' :: ys) w ra rb na nb (by omega) (by simp) ?_ (by omega)
      rcases Nat.lt_or_ge xa.length (y :: y' :: ys).length with h3 | h3
      · exact absurd (Nm.lt_len na.1 nb h3) hlt
      · exact h3
end Go.Proofs.YtlbnibicehpobaaGreatDoor
