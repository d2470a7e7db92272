/- IntC: Int02g, Int02h, Int02i, Bits, joined. -/
import Derived.Test.YtlbnibicehpobaaGreatDoorIntB
import Derived.IntWalk
set_option linter.unusedVariables false
set_option linter.unusedSimpArgs false

/- Division of words by a word. -/
namespace Go.Proofs.YtlbnibicehpobaaGreatDoor
open Go.RowKit Go.Shelf
open Z
attribute [local go_sem] Oper.semAt_some

/-- wpList_make_full, inside a fence -/
theorem wpListIn_make_full {F : Fence} {n0 : Nat} {P : Program} (w : World) {ops : Array Oper} {rest : List Oper} {o : Oper} {a : Act} {Q : Exit → Act → World → Prop}
    (hg : o.guard = none) (l c : Operand) (t : TypeId) (hop : o.op = Op.makeSlice t l c)
    (base : Nat) (e : TypeId) (i : TypeInfo) (z : Value) (size : Nat) (h1 : P.underlying t = some (.slice e)) (h2 : P.info? e = some i) (h3 : i.zero = some z) (h4 : i.size = size)
    (kl kc : IntKind) (L C : Int) (n : Nat) (hl : a.eval l = .int kl L) (hc : a.eval c = .int kc C) (hL : L = (n : Int)) (hC : C = (n : Int)) (b2 : i.bytes * n ≤ 281474976710656) (b3 : n ≤ maxLen) (b4 : base ≤ w.heap.size)
    (hK : ∀ w', w'.ownsRow base e size (.slice (some ⟨w.heap.size, 0, none⟩) n n) n (madeCells z.cells (n * size)).toList → w.grownBy w' none → wpListIn F n0 P ops Q rest (a.put o.dst (.slice (some ⟨w.heap.size, 0, none⟩) n n)) w') :
    wpListIn F n0 P ops Q (o :: rest) a w := by
  refine wpListIn_plain hg fun K hK' => ?_
  obtain ⟨w', hrun, r1, r2⟩ := run_make_full (P := P) w base t e i z size h1 h2 h3 h4 kl kc n b2 b3 b4
  subst hL
  subst hC
  unfold Oper.wpIn
  refine ⟨?_, ?_⟩
  · simp [Oper.about, hop]
  · rw [Oper.semAt_plain F _ _ (by rw [hop]; intro c hc'; cases hc')]
    simp [execOp, hop, hl, hc, hrun, Result.andThen]
    exact hK' _ _ (hK w' r1 r2)
theorem OwnAt.kept {e : TypeId} {k : IntKind} {g len cap : Nat} {A B : World} {xs : List Nat} {row : Option Nat} (h : OwnAt e k g len cap A xs) (hg : A.grownBy B row) (hr : ∀ r, row = some r → ∃ o : Obj, A.heap[r]? = some o ∧ o.isCells = false) : OwnAt e k g len cap B xs := by
  refine h.same (hg.block g h.lt ?_)
  intro e'
  obtain ⟨o, ho, hc⟩ := hr g e'.symm
  rcases h.2.2 with ⟨h1, -⟩ | ⟨g', cap', cur, h1, -, h3, -⟩
  · simp at h1
  · simp only [Value.slice.injEq, Option.some.injEq, Addr.mk.injEq, and_true] at h1
    rw [← h1.1] at h3
    rw [h3] at ho
    cases ho
    simp [Obj.isCells] at hc

theorem dw_step {x rest d j : Nat} {xs o : List Nat} (hj : j < xs.length) (hx : x = xs.getD j 0) (ho : o.length = xs.length) (h : wv 1000000000 (xs.drop (j + 1)) = d * wv 1000000000 (o.drop (j + 1)) + rest) :
    wv 1000000000 (xs.drop j) = d * wv 1000000000 ((o.set j ((rest * 1000000000 + x) / d)).drop j) + (rest * 1000000000 + x) % d := by
  have h1 : x = xs[j] := by rw [hx]; simp [hj]
  rw [wv_dropB _ hj, ← h1, h, wv_dropB (l := o.set j ((rest * 1000000000 + x) / d)) _ (by rw [List.length_set, ho]; exact hj), List.getElem_set_self, List.drop_set_of_lt (by omega)]
  have h2 := Nat.div_add_mod (rest * 1000000000 + x) d
  rw [Nat.mul_add, Nat.mul_add]
  have h3 : d * (1000000000 * wv 1000000000 (o.drop (j + 1))) = 1000000000 * (d * wv 1000000000 (o.drop (j + 1))) := by ac_rfl
  omega
/-- what holds between the rounds of the division of words by a word -/
def DWI (w : World) (bd bq gq br d : Nat) (xs : List Nat) (k : Nat) (W : World) : Prop :=
  Gr w W ∧ W.cell? ⟨bd, 0, none⟩ = some (.int .u64 d) ∧ (W.cell? ⟨bq, 0, none⟩ = some (.slice (some ⟨gq, 0, none⟩) xs.length xs.length) ∧ W.frozen? ⟨bq, 0, none⟩ = false) ∧
    ∃ (o : List Nat) (r : Nat), (W.cell? ⟨br, 0, none⟩ = some (.int .u64 r) ∧ W.frozen? ⟨br, 0, none⟩ = false) ∧ OwnAt 173 .u32 gq xs.length xs.length W o ∧ r < d ∧ small 1000000000 o ∧ wv 1000000000 (xs.drop (xs.length - k)) = d * wv 1000000000 (o.drop (xs.length - k)) + r
/-- nothing but a normal end -/
def QuietEnd (Q : Exit → Act → World → Prop) : Exit → Act → World → Prop
  | .panic _, _, _ => False
  | e, a, w => Q e a w
theorem QuietEnd.imp {Q : Exit → Act → World → Prop} : ∀ (e : Exit) (a : Act) (w : World), QuietEnd Q e a w → Q e a w := fun e a w h => by
  cases e <;> first | exact h | exact (h : False).elim
theorem QuietEnd.normal {Q : Exit → Act → World → Prop} {a : Act} {w : World} (h : Q .normal a w) : QuietEnd Q .normal a w := h
theorem rd_new (w : World) (r : Nat) (t : TypeId) : Rd .u32 (w.alloc (.cells #[.int .u32 r] t)) (.slice (some ⟨w.heap.size, 0, none⟩) 1 1) [r] := by
  refine ⟨some ⟨w.heap.size, 0, none⟩, 1, rfl, ⟨by simp, by unfold maxLen; omega⟩, .inr ⟨w.heap.size, 0, rfl, by simp, fun i hi => ?_⟩⟩
  have : i = 0 := by simpa using hi
  subst this
  rw [Nat.add_zero, World.cell?_alloc_at _ _ _ _ rfl]; rfl
theorem rd_newD (w : World) (r : Nat) (t : TypeId) : Rd .u32 (w.alloc (.cells #[.int .u32 r] t)).drew (.slice (some ⟨w.heap.size, 0, none⟩) 1 1) [r] := (rd_new w r t).gr (Gr.drew (Gr.refl _))
theorem Rd.other {k : IntKind} {w w' : World} {a : Option Addr} {n c g : Nat} {xs : List Nat} (h : Rd k w (.slice a n c) xs) (hc : Ch g w w') (hn : ∀ x, a = some x → x.block ≠ g) : Rd k w' (.slice a n c) xs := by
  obtain ⟨a', c', he, h0, h1⟩ := h
  simp only [Value.slice.injEq] at he
  obtain ⟨rfl, rfl, rfl⟩ := he
  refine ⟨a, c, rfl, h0, ?_⟩
  rcases h1 with h1 | ⟨g', off, rfl, h2, h3⟩
  · exact .inl h1
  · exact .inr ⟨g', off, rfl, Nat.lt_of_lt_of_le h2 hc.size, fun i hi => (World.cell?_of_block (hc.block g' h2 (hn _ rfl))).trans (h3 i hi)⟩
theorem Rd.kept {k : IntKind} {A B : World} {v : Value} {xs : List Nat} {row : Option Nat} (h : Rd k A v xs) (hg : A.grownBy B row) (hr : ∀ r, row = some r → ∃ o : Obj, A.heap[r]? = some o ∧ o.isCells = false) : Rd k B v xs := by
  obtain ⟨a, c, rfl, h0, h1⟩ := h
  refine ⟨a, c, rfl, h0, ?_⟩
  rcases h1 with h1 | ⟨g', off, rfl, h2, h3⟩
  · exact .inl h1
  · exact .inr ⟨g', off, rfl, Nat.lt_of_lt_of_le h2 hg.size, fun i hi => cell_kept (h3 i hi) hg hr⟩
theorem no_at {a : Option Addr} {g g' o : Nat} (h : a = none ∨ a = some ⟨g, o, none⟩) (hn : g ≠ g') : ∀ x, a = some x → x.block ≠ g' := by
  rintro x rfl
  rcases h with h | h
  · cases h
  · cases h; exact hn
theorem Rd.shape {k : IntKind} {w : World} {v : Value} {xs : List Nat} (h : Rd k w v xs) : ∃ a n c, v = .slice a n c ∧ Rd k w (.slice a n c) xs := by
  obtain ⟨a, c, rfl, h1⟩ := id h
  exact ⟨a, _, c, rfl, h⟩
def DWRet (q r : Nat) (w w' : World) (e : Ending) : Prop := ∃ v v', e = .returned (.tuple #[v, v']) ∧ WD w' v q ∧ WD w' v' r ∧ Gr w w'

set_option maxHeartbeats 4000000 in
set_option maxRecDepth 100000 in
theorem i_divideByWord0 (aa : Option Addr) (ca : Nat) (xs : List Nat) (d : Nat) (w : World) (hr : Rd .u32 w (.slice aa xs.length ca) xs) (hsm : small 1000000000 xs) (hl : xs.length ≤ 1000000) (hd : 0 < d) (hd2 : d < 1000000000) :
    Calls Tryz.prog 182 #[.slice aa xs.length ca, .int .u64 d] w (fun e w' => DWRet (wv 1000000000 xs / d) (wv 1000000000 xs % d) w w' e) := by
  obtain ⟨i0, hi, hz0, hz1, hz2⟩ := info_parts Tryz.infoU32
  have HR := Lib.hid hr; clear hr
  have HSM := Lib.hid hsm; clear hsm
  refine (callsIn_wide (n := 3)).1 ?_
  refine callsIn_of_wp_marks Tryz.func182 rfl trivial ?_ rfl
  simp only [Tryz.ntmps182, List.size_toArray, List.length_cons, List.length_nil, Nat.reduceAdd, Nat.reduceSub, Array.replicate_succ, Array.replicate_zero, List.push_toArray, List.append_toArray, List.nil_append, List.cons_append]
  gi_wp2_with (gi_at_make; refine wpListIn_make_full _ rfl _ _ 136 rfl (w.heap.size + 2) 173 i0 (.int .u32 0) 1 Tryz.underlying136 hi hz0 hz1 .i64 .i64 _ _ xs.length rfl rfl rfl rfl (by rw [hz2]; omega) (by unfold maxLen; omega) (by simp) ?_)
  intro w1 hown0 hgr0
  have hat0 : OwnAt 173 .u32 (w.heap.size + 2) xs.length xs.length w1 (List.replicate xs.length 0) := own_zeros hown0
  have hlt0 := hat0.lt
  have hcd : w1.cell? ⟨w.heap.size, 0, none⟩ = some (.int .u64 d) := by
    rw [World.cell?_of_block (w := (w.alloc (.cells #[.int .u64 d] 152)).alloc (.cells #[.slice none 0 0] 136)) (hgr0.block _ (by simp; omega) (by simp)), World.cell?_alloc_past _ _ _ (by simp), World.cell?_alloc_at _ _ _ _ rfl]; rfl
  have hcq : w1.cell? ⟨w.heap.size + 1, 0, none⟩ = some (.slice none 0 0) := by
    rw [World.cell?_of_block (w := (w.alloc (.cells #[.int .u64 d] 152)).alloc (.cells #[.slice none 0 0] 136)) (hgr0.block _ (by simp) (by simp)), World.cell?_alloc_at _ _ _ _ (by simp)]; rfl
  have hfq : w1.frozen? ⟨w.heap.size + 1, 0, none⟩ = false := by
    rw [World.frozen?_of_block (w := (w.alloc (.cells #[.int .u64 d] 152)).alloc (.cells #[.slice none 0 0] 136)) (hgr0.block _ (by simp) (by simp))]
    exact World.frozen?_alloc_at _ _ _ _ (by simp)
  have hg1 : Gr w w1 := Below.grown (((Gr.refl w).alloc _).alloc _) hgr0 (by simp; omega) (fun k hk => by simp at hk)
  have HAT := Lib.hid hat0
  clear hown0 hgr0 hat0
  gi_wp2_with (refine ⟨trivial, ?_⟩; gi_at_call 169; refine (callsIn_wide.2 (i_backwards _ _ _ _)).mono ?_; rintro e w' ⟨rfl, rfl⟩)
  obtain ⟨bq, hbq⟩ : ∃ bq, bq = w.heap.size + 1 := ⟨_, rfl⟩
  obtain ⟨gq, hgq⟩ : ∃ gq, gq = w.heap.size + 2 := ⟨_, rfl⟩
  obtain ⟨br, hbr⟩ : ∃ br, br = w1.heap.size := ⟨_, rfl⟩
  obtain ⟨bd, hbd⟩ : ∃ bd, bd = w.heap.size := ⟨_, rfl⟩
  have hgq' : w.heap.size + 1 + 1 = gq := by omega
  rw [hgq', ← hbq, ← hbr]
  have hbd' : (some ⟨w.heap.size, 0, none⟩ : Option Addr) = some ⟨bd, 0, none⟩ := by rw [hbd]
  rw [hbd']
  rw [← hbr] at hlt0
  rw [← hbq] at hcq hfq
  rw [← hbd] at hcd
  rw [← hgq] at hlt0
  have HAT' : Hid (OwnAt 173 .u32 gq xs.length xs.length w1 (List.replicate xs.length 0)) := by have := HAT.out; rwa [← hgq] at this
  clear HAT hgq'
  generalize hW5 : (((w1.setCell ⟨bq, 0, none⟩ (.slice (some ⟨gq, 0, none⟩) xs.length xs.length)).alloc (.cells #[.int .u64 0] 152)).alloc (.cells #[.slice aa xs.length ca] 136)) = W5
  have hsX : (w1.setCell ⟨bq, 0, none⟩ (.slice (some ⟨gq, 0, none⟩) xs.length xs.length)).heap.size = br := by rw [hbr]; simp [World.setCell]
  have hs5 : W5.heap.size = br + 2 := by rw [← hW5]; simp [hsX]
  have hgX : Gr w (w1.setCell ⟨bq, 0, none⟩ (.slice (some ⟨gq, 0, none⟩) xs.length xs.length)) := Below.setCell hg1 (by show _ ≤ bq; omega) _
  have hg5 : Gr w W5 := by rw [← hW5]; exact (hgX.alloc _).alloc _
  have c5d : W5.cell? ⟨bd, 0, none⟩ = some (.int .u64 d) := by
    rw [← hW5, World.cell?_alloc_past _ _ _ (by simp [hsX]; omega), World.cell?_alloc_past _ _ _ (by simp [hsX]; omega), World.cell?_setCell_other _ _ _ _ (by simp only [ne_eq, Addr.mk.injEq, and_true]; omega)]; exact hcd
  have c5q : W5.cell? ⟨bq, 0, none⟩ = some (.slice (some ⟨gq, 0, none⟩) xs.length xs.length) ∧ W5.frozen? ⟨bq, 0, none⟩ = false := by
    rw [← hW5, World.cell?_alloc_past _ _ _ (by simp [hsX]; omega), World.cell?_alloc_past _ _ _ (by simp [hsX]; omega), World.frozen?_alloc_past _ _ _ (by simp [hsX]; omega), World.frozen?_alloc_past _ _ _ (by simp [hsX]; omega), World.frozen?_setCell]
    exact ⟨World.cell?_setCell_same' _ _ _ (by rw [hcq]; rfl), hfq⟩
  have c5r : W5.cell? ⟨br, 0, none⟩ = some (.int .u64 0) ∧ W5.frozen? ⟨br, 0, none⟩ = false := by
    rw [← hW5, World.cell?_alloc_past _ _ _ (by simp [hsX]), World.cell?_alloc_at _ _ _ _ (by simp [hsX]), World.frozen?_alloc_past _ _ _ (by simp [hsX])]
    exact ⟨rfl, World.frozen?_alloc_at _ _ _ _ (by simp [hsX])⟩
  have c5b : W5.cell? ⟨br + 1, 0, none⟩ = some (.slice aa xs.length ca) := by
    rw [← hW5, World.cell?_alloc_at _ _ _ _ (by simp [hsX])]; rfl
  have a5 : OwnAt 173 .u32 gq xs.length xs.length W5 (List.replicate xs.length 0) := by
    rw [← hW5]
    refine OwnAt.grow (OwnAt.grow (OwnAt.ch HAT'.out (Ch.set bq w1 0 _) (by omega)) ((Gr.refl _).alloc _)) ((Gr.refl _).alloc _)
  clear hg1 hgX hsX hW5 hcd hcq hfq
  have hB : w.heap.size ≤ bd ∧ bd < bq ∧ bq < gq ∧ gq < br := by omega
  clear hbd' hbq hgq hbr hbd
  obtain ⟨hb1, hb2, hb3, hb4⟩ := hB
  have hs5' : br + 2 ≤ W5.heap.size := by omega
  have HR5 := Lib.hid (HR.out.gr hg5)
  refine wp_rounds (gf := 192) (lb := #[.pointer (some ⟨br + 1, 0, none⟩)]) rfl (enters_of Tryz.func192 (by kernel_rfl) rfl) (S := ownB w.heap.size (br + 1)) (fun k hk => by have := hk.lt; omega)
    (i_rounds xs aa xs.length ca (br + 1) _ W5 HR5.out (.inr rfl) HR.out.inB c5b HSM.out (by omega)) (fun _ => rfl)
    (DWI w bd bq gq br d xs)
    (fun _ _ => False)
    (fun s A B row hs hg hr => ⟨Below.grown hs.1 hg hs.1.size (fun k e => by have := (hr k e).1; omega), cell_kept hs.2.1 hg (fun r e => (hr r e).2), ⟨cell_kept hs.2.2.1.1 hg (fun r e => (hr r e).2), (frozen_kept hs.2.2.1.1 hg (fun r e => (hr r e).2)).trans hs.2.2.1.2⟩, by
      obtain ⟨o, r, ⟨h1, h2⟩, h3, h4⟩ := hs.2.2.2
      exact ⟨o, r, ⟨cell_kept h1 hg (fun r e => (hr r e).2), (frozen_kept h1 hg (fun r e => (hr r e).2)).trans h2⟩, h3.kept hg (fun r e => (hr r e).2), h4⟩⟩)
    (fun c s A B row hs hg hr => hs)
    ⟨hg5, c5d, c5q, List.replicate xs.length 0, 0, c5r, a5, hd, small_zeros _ (by omega), by rw [Nat.sub_zero, List.drop_of_length_le (by omega), List.drop_of_length_le (by simp)]; simp [wv]⟩
    (fun k => { tmps := #[.slice aa xs.length ca, .int .u64 d, undef, .pointer (some ⟨bd, 0, none⟩), .pointer (some ⟨bq, 0, none⟩), .slice none 0 0, .pointer (some ⟨br, 0, none⟩), .int .i64 ((xs.length - 1 - k : Nat) : Int), .int .u64 ((xs.getD (xs.length - 1 - k) 0 : Nat) : Int), .slice aa xs.length ca, .int .i64 xs.length,
      .slice (some ⟨gq, 0, none⟩) xs.length xs.length, .slice aa xs.length ca, .func (.func 192) #[] #[.pointer (some ⟨br + 1, 0, none⟩)], .int .i64 ((xs.length - 1 - k : Nat) : Int), .int .u64 ((xs.getD (xs.length - 1 - k) 0 : Nat) : Int), undef, undef, undef, undef, undef, undef, undef, undef, undef, undef, undef, undef, undef, undef, undef, undef, undef, undef, undef, undef], defers := [] }) ?assign ?body ?done ?stop
  case assign =>
    intro l k W K hK
    unfold downArgs
    gi_wp2
    exact hK
  case body =>
    rintro l k W hk ⟨hg, h1, ⟨h2, h3⟩, o, r, ⟨h4, h5⟩, ho, hr, hso, hv⟩
    have HO := Lib.hid ho; clear ho
    have HV := Lib.hid hv; clear hv
    have HSO := Lib.hid hso; clear hso
    have hjl : xs.length - 1 - k < xs.length := by omega
    have HJ : Hid (xs.length - 1 - k + 1 = xs.length - k ∧ xs.length - (k + 1) = xs.length - 1 - k) := ⟨by omega, by omega⟩
    generalize xs.length - 1 - k = j at hjl HJ
    obtain ⟨x, HX⟩ : ∃ x, Hid (x = xs.getD j 0) := ⟨_, rfl⟩
    have hx : x < 1000000000 := by rw [HX.out]; exact small_getD (by omega) HSM.out _
    rw [← HX.out]
    obtain ⟨hco, hfo⟩ := HO.out.cell j hjl
    obtain ⟨T, HT⟩ : ∃ T, Hid (T = r * 1000000000 + x) := ⟨_, rfl⟩
    have hT : (r : Int) * 1000000000 + (x : Int) = (T : Int) := by rw [HT.out]; omega
    have hTb : T < d * 1000000000 := by rw [HT.out]; have : (r + 1) * 1000000000 ≤ d * 1000000000 := Nat.mul_le_mul_right _ hr; omega
    have hTq : T / d < 1000000000 := Nat.div_lt_of_lt_mul hTb
    have hTr : T % d < d := Nat.mod_lt _ hd
    have hq1 : (T : Int).tdiv (d : Int) = ((T / d : Nat) : Int) := rfl
    have hq2 : (T : Int).tmod (d : Int) = ((T % d : Nat) : Int) := rfl
    have HQ : Hid (wv 1000000000 (xs.drop j) = d * wv 1000000000 ((o.set j (T / d)).drop j) + T % d) := by
      rw [HT.out]; exact dw_step hjl HX.out HO.out.1 (by rw [HJ.out.1]; exact HV.out)
    have hd0 : ((d : Int) == 0) = false := by simp; omega
    generalize T / d = q at hq1 HQ hTq
    generalize T % d = r' at hq2 HQ hTr
    have hgq2 : gq < W.heap.size := HO.out.lt
    clear HR HSM HR5 a5 c5d c5q c5r c5b hg5 HAT' hs5 hs5'
    gi_wp2
    have k1 : (W.setCell ⟨br, 0, none⟩ (.int .u64 T)).cell? ⟨br, 0, none⟩ = some (.int .u64 T) := World.cell?_setCell_same' _ _ _ (by rw [h4]; rfl)
    have k2 : (W.setCell ⟨br, 0, none⟩ (.int .u64 T)).frozen? ⟨br, 0, none⟩ = false := (World.frozen?_setCell _ _ _ _).trans h5
    have k3 : (W.setCell ⟨br, 0, none⟩ (.int .u64 T)).cell? ⟨bd, 0, none⟩ = some (.int .u64 d) := (World.cell?_setCell_other _ _ _ _ (by simp only [ne_eq, Addr.mk.injEq, and_true]; omega)).trans h1
    have k4 : (W.setCell ⟨br, 0, none⟩ (.int .u64 T)).cell? ⟨bq, 0, none⟩ = some (.slice (some ⟨gq, 0, none⟩) xs.length xs.length) := (World.cell?_setCell_other _ _ _ _ (by simp only [ne_eq, Addr.mk.injEq, and_true]; omega)).trans h2
    have k4' : (W.setCell ⟨br, 0, none⟩ (.int .u64 T)).frozen? ⟨bq, 0, none⟩ = false := (World.frozen?_setCell _ _ _ _).trans h3
    have k5 : (W.setCell ⟨br, 0, none⟩ (.int .u64 T)).cell? ⟨gq, j, none⟩ = some (.int .u32 (o.getD j 0 : Nat)) := (World.cell?_setCell_other _ _ _ _ (by simp only [ne_eq, Addr.mk.injEq, and_true]; omega)).trans hco
    have k6 : (W.setCell ⟨br, 0, none⟩ (.int .u64 T)).frozen? ⟨gq, j, none⟩ = false := (World.frozen?_setCell _ _ _ _).trans hfo
    have k7 : Gr w (W.setCell ⟨br, 0, none⟩ (.int .u64 T)) := Below.setCell hg (by show _ ≤ br; omega) _
    have k8 : KeepsFrom W5.heap.size W (W.setCell ⟨br, 0, none⟩ (.int .u64 T)) := (KeepsOthers.setCell _ _ _).from _
    have k9 : KeepB (ownB w.heap.size (br + 1)) W (W.setCell ⟨br, 0, none⟩ (.int .u64 T)) := KeepB.setCell (show ¬ ownB w.heap.size (br + 1) br from fun h => by unfold ownB at h; omega) _
    have HO2 : Hid (OwnAt 173 .u32 gq xs.length xs.length (W.setCell ⟨br, 0, none⟩ (.int .u64 T)) o) := HO.out.ch (Ch.set br W 0 _) (by omega)
    generalize W.setCell ⟨br, 0, none⟩ (.int .u64 T) = V at k1 k2 k3 k4 k4' k5 k6 k7 k8 k9 HO2 ⊢
    clear h1 h2 h3 h4 h5 hco hfo HO HV hT HT hg hgq2
    have K7 := Lib.hid k7; clear k7
    have HE : Hid (KeepsFrom W5.heap.size W (((V.setCell ⟨gq, j, none⟩ (.int .u32 q)).setCell ⟨br, 0, none⟩ (.int .u64 r')).drew) ∧ KeepB (ownB w.heap.size (br + 1)) W (((V.setCell ⟨gq, j, none⟩ (.int .u32 q)).setCell ⟨br, 0, none⟩ (.int .u64 r')).drew) ∧
        DWI w bd bq gq br d xs (k + 1) (((V.setCell ⟨gq, j, none⟩ (.int .u32 q)).setCell ⟨br, 0, none⟩ (.int .u64 r')).drew)) := by
      have hset := OwnAt.set HO2.out K7.out (by omega) j q q rfl
      refine ⟨?_, ?_, Below.drew (Below.setCell hset.2 (by show _ ≤ br; omega) _), ?_, ⟨?_, ?_⟩, o.set j q, r', ⟨?_, ?_⟩, ?_, hTr, small_set HSO.out hTq, ?_⟩
      · have h := k8.trans (((KeepsOthers.setCell V ⟨gq, j, none⟩ (.int .u32 q)).trans (KeepsOthers.setCell _ ⟨br, 0, none⟩ (.int .u64 r'))).from _)
        exact ⟨h.1, h.2⟩
      · exact k9.trans ((KeepB.setCell (show ¬ ownB w.heap.size (br + 1) gq from fun h => by unfold ownB at h; omega) _).trans (KeepB.setCell (show ¬ ownB w.heap.size (br + 1) br from fun h => by unfold ownB at h; omega) _))
      · exact (World.cell?_setCell_other _ _ _ _ (by simp only [ne_eq, Addr.mk.injEq, and_true]; omega)).trans ((World.cell?_setCell_other _ _ _ _ (by simp only [ne_eq, Addr.mk.injEq, and_true]; omega)).trans k3)
      · exact (World.cell?_setCell_other _ _ _ _ (by simp only [ne_eq, Addr.mk.injEq, and_true]; omega)).trans ((World.cell?_setCell_other _ _ _ _ (by simp only [ne_eq, Addr.mk.injEq, and_true]; omega)).trans k4)
      · exact (World.frozen?_setCell _ _ _ _).trans ((World.frozen?_setCell _ _ _ _).trans k4')
      · exact World.cell?_setCell_same' _ _ _ (by rw [World.cell?_setCell_other _ _ _ _ (by simp only [ne_eq, Addr.mk.injEq, and_true]; omega), k1]; rfl)
      · exact (World.frozen?_setCell _ _ _ _).trans ((World.frozen?_setCell _ _ _ _).trans k2)
      · have h := OwnAt.ch (g := br) hset.1 (Ch.set br _ 0 (.int .u64 r')) (by omega)
        exact h
      · rw [HJ.out.2]; exact HQ.out
    have hwq : IntKind.u32.wrap (q : Int) = (q : Int) := IntWalk.u32_in _ (by omega)
    gi_region
    all_goals
      gi_wp2
      exact HE.out
  case done =>
    rintro D W hD ⟨hg, h1, ⟨h2, h3⟩, o, r, ⟨h4, h5⟩, ho, hr, hso, hv⟩ hK
    rw [Nat.sub_self, List.drop_zero, List.drop_zero] at hv
    have HO := Lib.hid ho; clear ho
    have HV := Lib.hid hv; clear hv
    have HSO := Lib.hid hso; clear hso
    have HK := Lib.hid hK; clear hK
    have HG := Lib.hid hg; clear hg
    have hbr : br < W.heap.size := World.block_lt_of_cell? _ _ h4
    have hwq : IntKind.u32.wrap (r : Int) = (r : Int) := IntWalk.u32_in _ (by omega)
    have hgq2 : gq < W.heap.size := HO.out.lt
    have HLO : Hid (o.length ≤ 3000000) := by show _ ≤ _; rw [HO.out.1]; omega
    have hbq2 : bq < W.heap.size := by omega
    have HQ1 : Hid (wv 1000000000 o = wv 1000000000 xs / d) := by
      show _ = _; rw [HV.out, Nat.mul_add_div hd, Nat.div_eq_of_lt hr, Nat.add_zero]
    have HQ2 : Hid (wv 1000000000 xs % d = r) := by
      show _ = _; rw [HV.out, Nat.mul_add_mod, Nat.mod_eq_of_lt hr]
    have hDl : D < W.heap.size := (Array.getElem?_eq_some_iff.1 HK.out).1
    clear HR HSM HR5 a5 c5d c5q c5r c5b hg5 HAT' h1
    have HQR : Hid (∀ W' : World, W'.heap[gq]? = W.heap[gq]? → Rd .u32 W' (.slice (some ⟨gq, 0, none⟩) xs.length xs.length) o) := fun W' h => (HO.out.same h).rd
    have HSR : Hid (small 1000000000 [r]) := fun x hx => by simp only [List.mem_singleton] at hx; omega
    have HL1 : Hid ([r].length ≤ 3000000) := by show _ ≤ _; simp
    gi_wp2
    refine wpIn_mono ?_ QuietEnd.imp
    have hD0 : Gr W W.drew := Gr.drew (Gr.refl _)
    have hD1 : ∀ o, Gr W (W.alloc o).drew := fun o => Gr.drew (Gr.alloc (Gr.refl _) _)
    have hD2 : ∀ V o, Gr W V → Gr W (V.alloc o) := fun V o h => Gr.alloc h _
    gi_region_with (first
      | (refine ⟨trivial, ?_⟩
         gi_at_call 167
         refine (callsIn_wide.2 (i_trimB _ _ _ o _ ?_ HSO.out HLO.out)).mono ?_
         · exact HQR.out _ (by first | rfl | exact Below.heap_alloc _ _ _ hgq2)
         rintro e w3 ⟨a3, n3, c3, rfl, ha3, hr3, hg3⟩
         have HA3 : Hid (∀ x, a3 = some x → x.block ≠ bq) := no_at ha3 (by omega)
         clear ha3
         have hE : Gr W w3 := Gr.trans (by first | exact hD0 | exact hD1 _) hg3
         have k1 : w3.cell? ⟨br, 0, none⟩ = some (.int .u64 r) := (Below.cell hE hbr).trans h4
         have k2 : w3.cell? ⟨bq, 0, none⟩ = some (.slice (some ⟨gq, 0, none⟩) xs.length xs.length) := (Below.cell hE (by show bq < _; omega)).trans h2
         have k3 : w3.frozen? ⟨bq, 0, none⟩ = false := (Below.frozen hE (by show bq < _; omega)).trans h3
         have HR3 := Lib.hid hr3
         clear hr3)
      | (refine ⟨trivial, ?_⟩
         gi_at_call 167
         refine (callsIn_wide.2 (i_trimB _ _ _ [r] _ ?_ HSR.out HL1.out)).mono ?_
         · (first | exact rd_new _ _ _ | exact (rd_newD _ _ _).gr hg3)
         rintro e w4 ⟨a4, n4, c4, rfl, ha4, hr4, hg4⟩
         have HA4 : Hid (∀ x, a4 = some x → x.block ≠ bq) := no_at ha4 (by have := hE.size; omega)
         clear ha4
         have hE4 : Gr W w4 := Gr.trans (by first | exact hE | exact hD2 _ _ hE) hg4
         have HR3' := Lib.hid (HR3.out.gr (Gr.trans (by first | exact Gr.refl _ | exact Gr.alloc (Gr.refl _) _) hg4))
         have q2 : w4.cell? ⟨bq, 0, none⟩ = some (.slice (some ⟨gq, 0, none⟩) xs.length xs.length) := (Below.cell hE4 (by show bq < _; omega)).trans h2
         have q3 : w4.frozen? ⟨bq, 0, none⟩ = false := (Below.frozen hE4 (by show bq < _; omega)).trans h3
         have HR4 := Lib.hid hr4
         clear hr4 HR3 k1 k2 k3 hE))
    all_goals
      refine QuietEnd.normal ?_
      gi_wp2
      have hK4 := (hE4.block D hDl).trans HK.out
      have hK5 := (KeepsOthers.setCell w4 ⟨bq, 0, none⟩ (.slice a3 n3 c3)).same D _ hK4 rfl
      have hc5 : (w4.setCell ⟨bq, 0, none⟩ (.slice a3 n3 c3)).cell? ⟨bq, 0, none⟩ = some (.slice a3 n3 c3) := World.cell?_setCell_same' _ _ _ (by rw [q2]; rfl)
      have hc6 := cell_kept hc5 (grownBy_putObj' _ D (.deferred none)) (fun r e => by cases e; exact ⟨_, hK5, rfl⟩)
      have hG5 : Gr w (w4.setCell ⟨bq, 0, none⟩ (.slice a3 n3 c3)) := Below.setCell (Gr.trans HG.out hE4) (by show _ ≤ bq; omega) _
      have hch : Ch bq w4 (w4.setCell ⟨bq, 0, none⟩ (.slice a3 n3 c3)) := Ch.set bq w4 0 _
      refine ⟨by simp, .inl ⟨_, _, rfl, run_takeDeferred hK5, ?_⟩⟩
      refine ⟨.tuple #[.slice a3 n3 c3, .slice a4 n4 c4], ?_, .slice a3 n3 c3, .slice a4 n4 c4, rfl, ?_, ?_, ?_⟩
      · simp [results, Tryz.results182, go_sem, hc6]
      · exact ⟨_, (HR3'.out.other hch HA3.out).kept (grownBy_putObj' _ D (.deferred none)) (fun r e => by cases e; exact ⟨_, hK5, rfl⟩), Nm.trim HSO.out, by rw [wv_trimL]; exact HQ1.out⟩
      · exact ⟨_, (HR4.out.other hch HA4.out).kept (grownBy_putObj' _ D (.deferred none)) (fun r e => by cases e; exact ⟨_, hK5, rfl⟩), Nm.trim HSR.out, by rw [wv_trimL, HQ2.out]; simp [wv]⟩
      · exact Below.trans hG5 (below_putObj (by omega))
  case stop =>
    rintro D c W hD h hK
    exact h.elim
theorem i_divideByWord {K : Nat} (v : Value) (n d : Nat) (w : World) (h : WD w v n) (hn : n < 1000000000 ^ K) (hK : K ≤ 1000000) (hd : 0 < d) (hd2 : d < 1000000000) :
    Calls Tryz.prog 182 #[v, .int .u64 d] w (fun e w' => DWRet (n / d) (n % d) w w' e) := by
  obtain ⟨aa, ca, xa, rfl, ra, na, rfl⟩ := h.form
  have h1 := na.le hn
  exact i_divideByWord0 aa ca xa d w ra na.1 (by omega) hd hd2
end Go.Proofs.YtlbnibicehpobaaGreatDoor

/- A word as nine digits. -/
namespace Go.Proofs.YtlbnibicehpobaaGreatDoor
open Go.RowKit Go.Shelf
open Z

/-- the nine digits of a word -/
def dig9 (x : Nat) : List Nat := (List.range 9).map (fun i => 48 + x / 10 ^ (8 - i) % 10)
def Dig9 (x k m : Nat) (ds : List Nat) : Prop := m = x / 10 ^ k ∧ ∀ j, j < k → ds.getD (8 - j) 0 = 48 + x / 10 ^ j % 10
theorem Dig9.step {x k m : Nat} {ds : List Nat} (h : Dig9 x k m ds) (hk : k < 9) (hl : ds.length = 9) : Dig9 x (k + 1) (m / 10) (ds.set (8 - k) (48 + m % 10)) := by
  refine ⟨by rw [h.1, Nat.div_div_eq_div_mul, Nat.pow_succ], fun j hj => ?_⟩
  rw [getD_set (by omega)]
  by_cases e : j = k
  · subst e; rw [if_pos rfl, h.1]
  · rw [if_neg (by omega)]; exact h.2 j (by omega)
theorem Dig9.all {x m : Nat} {ds : List Nat} (h : Dig9 x 9 m ds) (hl : ds.length = 9) : ds = dig9 x := by
  apply List.ext_getElem
  · simp [dig9, hl]
  · intro i h1 h2
    have := h.2 (8 - i) (by omega)
    rw [show 8 - (8 - i) = i by omega] at this
    simp only [dig9, List.getElem_map, List.getElem_range]
    rw [← this]; simp [h1]

set_option maxHeartbeats 4000000 in
set_option maxRecDepth 100000 in
theorem i_wordText (x : Nat) (w : World) (hx : x < 1000000000) :
    Calls Tryz.prog 190 #[.int .u64 x] w (fun e w' => e = .returned (.agg ((dig9 x).map (fun (d : Nat) => Value.int .u8 (d : Int))).toArray) ∧ Gr w w') := by
  go_enter Tryz.func190, Tryz.ntmps190
  go_wp2
  go_loopw [0, 5] (fun z i wr => ∃ (k m d0 d1 d2 d3 d4 d5 d6 d7 d8 : Nat), i = .int .i64 k ∧ z = .int .u64 m ∧ k ≤ 9 ∧ m < 1000000000 ∧ Hid (Dig9 x k m [d0, d1, d2, d3, d4, d5, d6, d7, d8]) ∧ wr = (w.alloc (.cells #[.int .u8 0, .int .u8 0, .int .u8 0, .int .u8 0, .int .u8 0, .int .u8 0, .int .u8 0, .int .u8 0, .int .u8 0] 208)).alloc (.cells #[.int .u8 (d0 : Nat), .int .u8 (d1 : Nat), .int .u8 (d2 : Nat), .int .u8 (d3 : Nat), .int .u8 (d4 : Nat), .int .u8 (d5 : Nat), .int .u8 (d6 : Nat), .int .u8 (d7 : Nat), .int .u8 (d8 : Nat)] 208)) (fun _ i _ => 9 - (intOf i).toNat)
  case atStart => exact ⟨0, x, 0, 0, 0, 0, 0, 0, 0, 0, 0, rfl, rfl, by omega, hx, ⟨by simp, fun j hj => by omega⟩, rfl⟩
  case round =>
    obtain ⟨k, m, d0, d1, d2, d3, d4, d5, d6, d7, d8, rfl, rfl, hk, hm, HD, rfl⟩ := hrel
    have hq1 : (m : Int).tdiv 10 = ((m / 10 : Nat) : Int) := rfl
    have hq2 : (m : Int).tmod 10 = ((m % 10 : Nat) : Int) := rfl
    have hqb : m / 10 < 1000000000 := by omega
    have hrb : m % 10 < 10 := Nat.mod_lt _ (by omega)
    have HN : k < 9 → Hid (Dig9 x (k + 1) (m / 10) ([d0, d1, d2, d3, d4, d5, d6, d7, d8].set (8 - k) (48 + m % 10))) := fun h => HD.out.step h rfl
    generalize m / 10 = q at hq1 hqb HN
    generalize m % 10 = r at hq2 hrb HN
    by_cases e1 : k < 9
    · have HN' := HN e1
      clear HN
      have hk9 : k = 0 ∨ k = 1 ∨ k = 2 ∨ k = 3 ∨ k = 4 ∨ k = 5 ∨ k = 6 ∨ k = 7 ∨ k = 8 := by omega
      rcases hk9 with rfl | rfl | rfl | rfl | rfl | rfl | rfl | rfl | rfl
      · go_wp2
        exact ⟨⟨1, q, d0, d1, d2, d3, d4, d5, d6, d7, 48 + r, by go_num, rfl, by omega, hqb, HN'.out, by rw [show ((48 + r : Nat) : Int) = 48 + (r : Int) from rfl]⟩, by simp [intOf]⟩
      · go_wp2
        exact ⟨⟨2, q, d0, d1, d2, d3, d4, d5, d6, 48 + r, d8, by go_num, rfl, by omega, hqb, HN'.out, by rw [show ((48 + r : Nat) : Int) = 48 + (r : Int) from rfl]⟩, by simp [intOf]⟩
      · go_wp2
        exact ⟨⟨3, q, d0, d1, d2, d3, d4, d5, 48 + r, d7, d8, by go_num, rfl, by omega, hqb, HN'.out, by rw [show ((48 + r : Nat) : Int) = 48 + (r : Int) from rfl]⟩, by simp [intOf]⟩
      · go_wp2
        exact ⟨⟨4, q, d0, d1, d2, d3, d4, 48 + r, d6, d7, d8, by go_num, rfl, by omega, hqb, HN'.out, by rw [show ((48 + r : Nat) : Int) = 48 + (r : Int) from rfl]⟩, by simp [intOf]⟩
      · go_wp2
        exact ⟨⟨5, q, d0, d1, d2, d3, 48 + r, d5, d6, d7, d8, by go_num, rfl, by omega, hqb, HN'.out, by rw [show ((48 + r : Nat) : Int) = 48 + (r : Int) from rfl]⟩, by simp [intOf]⟩
      · go_wp2
        exact ⟨⟨6, q, d0, d1, d2, 48 + r, d4, d5, d6, d7, d8, by go_num, rfl, by omega, hqb, HN'.out, by rw [show ((48 + r : Nat) : Int) = 48 + (r : Int) from rfl]⟩, by simp [intOf]⟩
      · go_wp2
        exact ⟨⟨7, q, d0, d1, 48 + r, d3, d4, d5, d6, d7, d8, by go_num, rfl, by omega, hqb, HN'.out, by rw [show ((48 + r : Nat) : Int) = 48 + (r : Int) from rfl]⟩, by simp [intOf]⟩
      · go_wp2
        exact ⟨⟨8, q, d0, 48 + r, d2, d3, d4, d5, d6, d7, d8, by go_num, rfl, by omega, hqb, HN'.out, by rw [show ((48 + r : Nat) : Int) = 48 + (r : Int) from rfl]⟩, by simp [intOf]⟩
      · go_wp2
        exact ⟨⟨9, q, 48 + r, d1, d2, d3, d4, d5, d6, d7, d8, by go_num, rfl, by omega, hqb, HN'.out, by rw [show ((48 + r : Nat) : Int) = 48 + (r : Int) from rfl]⟩, by simp [intOf]⟩
    · obtain rfl : k = 9 := by omega
      have HF : Hid ([d0, d1, d2, d3, d4, d5, d6, d7, d8] = dig9 x) := HD.out.all rfl
      clear HN HD
      go_wp2
      refine bodyPost_ret_by (v := .agg #[.int .u8 (d0 : Nat), .int .u8 (d1 : Nat), .int .u8 (d2 : Nat), .int .u8 (d3 : Nat), .int .u8 (d4 : Nat), .int .u8 (d5 : Nat), .int .u8 (d6 : Nat), .int .u8 (d7 : Nat), .int .u8 (d8 : Nat)]) ?_ rfl ⟨?_, ?_⟩
      · simp [results, Tryz.results190, go_sem]
      · rw [← HF.out]; rfl
      · exact ((Gr.refl w).alloc _).alloc _
end Go.Proofs.YtlbnibicehpobaaGreatDoor

/- The guess of takeOut: what the top words say. Of no program. -/
namespace Go.Proofs.YtlbnibicehpobaaGreatDoor
open Go.RowKit Go.Shelf
open Z

theorem wv_top2 {B n : Nat} {l : List Nat} (hl : l.length = n) (hn : 2 ≤ n) : wv B l = wv B (l.take (n - 2)) + B ^ (n - 2) * (l.getD (n - 2) 0 + B * l.getD (n - 1) 0) := by
  have h1 := wv_split B l (n - 2) (by omega)
  rw [h1, show n - 2 + 1 = n - 1 by omega]
  have h2 := wv_dropB (l := l) (i := n - 1) B (by omega)
  rw [h2, show n - 1 + 1 = n by omega, List.drop_of_length_le (by omega)]
  simp only [wv, Nat.mul_zero, Nat.add_zero]
  have e1 : l.getD (n - 2) 0 = l[n - 2]'(by omega) := by simp [show n - 2 < l.length by omega]
  have e2 : l.getD (n - 1) 0 = l[n - 1]'(by omega) := by simp [show n - 1 < l.length by omega]
  rw [e1, e2]
theorem wv_top3 {B n : Nat} {l : List Nat} (hl : l.length = n + 1) (hn : 2 ≤ n) : wv B l = wv B (l.take (n - 2)) + B ^ (n - 2) * (l.getD (n - 2) 0 + B * (l.getD (n - 1) 0 + B * l.getD n 0)) := by
  have h1 := wv_split B l (n - 2) (by omega)
  rw [h1, show n - 2 + 1 = n - 1 by omega]
  have h2 := wv_dropB (l := l) (i := n - 1) B (by omega)
  have h3 := wv_dropB (l := l) (i := n) B (by omega)
  rw [h2, show n - 1 + 1 = n by omega, h3, List.drop_of_length_le (i := n + 1) (by omega)]
  simp only [wv, Nat.mul_zero, Nat.add_zero]
  have e1 : l.getD (n - 2) 0 = l[n - 2]'(by omega) := by simp [show n - 2 < l.length by omega]
  have e2 : l.getD (n - 1) 0 = l[n - 1]'(by omega) := by simp [show n - 1 < l.length by omega]
  have e3 : l.getD n 0 = l[n]'(by omega) := by simp [show n < l.length by omega]
  rw [e1, e2, e3]
/-- the guess is never too high -/
theorem guess_le {n : Nat} {xs ys : List Nat} (hx : xs.length = n + 1) (hy : ys.length = n) (hn : 2 ≤ n) (hs : small 1000000000 ys) (T D : Nat) (hT : T = xs.getD n 0 * 1000000000000000000 + (xs.getD (n - 1) 0 * 1000000000 + xs.getD (n - 2) 0))
    (hD : D = ys.getD (n - 1) 0 * 1000000000 + ys.getD (n - 2) 0 + 1) : T / D * wv 1000000000 ys ≤ wv 1000000000 xs := by
  have h1 := wv_top3 (B := 1000000000) hx hn
  have h2 := wv_top2 (B := 1000000000) hy hn
  have h3 : wv 1000000000 (ys.take (n - 2)) < 1000000000 ^ (ys.take (n - 2)).length := wv_lt (fun x hx => hs x (List.mem_of_mem_take hx))
  rw [List.length_take, hy, Nat.min_eq_left (by omega)] at h3
  have h4 : xs.getD (n - 2) 0 + 1000000000 * (xs.getD (n - 1) 0 + 1000000000 * xs.getD n 0) = T := by rw [hT]; omega
  have h5 : ys.getD (n - 2) 0 + 1000000000 * ys.getD (n - 1) 0 + 1 = D := by rw [hD]; omega
  rw [h4] at h1
  have h6 : wv 1000000000 ys ≤ 1000000000 ^ (n - 2) * D := by
    rw [← h5, Nat.mul_add _ _ 1, h2, Nat.mul_one]; omega
  have h7 : T / D * wv 1000000000 ys ≤ T / D * (1000000000 ^ (n - 2) * D) := Nat.mul_le_mul_left _ h6
  have h8 : T / D * (1000000000 ^ (n - 2) * D) = 1000000000 ^ (n - 2) * (T / D * D) := by ac_rfl
  have h9 : 1000000000 ^ (n - 2) * (T / D * D) ≤ 1000000000 ^ (n - 2) * T := Nat.mul_le_mul_left _ (Nat.div_mul_le_self _ _)
  omega
/-- the two halves of the dividend -/
theorem halves {x2 s : Nat} (hs : s < 1000000000000000000) (h2 : x2 < 1000000000) : ∃ hi lo lo' c : Nat, x2 * 1000000000000000000 / 18446744073709551616 = hi ∧ x2 * 1000000000000000000 % 18446744073709551616 = lo ∧ (lo + s + 0) % 18446744073709551616 = lo' ∧ (lo + s + 0) / 18446744073709551616 = c ∧
    (hi + c) * 18446744073709551616 + lo' = x2 * 1000000000000000000 + s ∧ hi + c ≤ 1000000000 ∧ hi < 1000000000 ∧ lo < 18446744073709551616 ∧ lo' < 18446744073709551616 ∧ c ≤ 1 := by
  exact ⟨_, _, _, _, rfl, rfl, rfl, rfl, by omega, by omega, by omega, by omega, by omega, by omega⟩
end Go.Proofs.YtlbnibicehpobaaGreatDoor

/- Dividing two words of 64 bits by one: what the numbers say. Of no program. -/
namespace Go.Proofs.YtlbnibicehpobaaGreatDoor
open Go.RowKit Go.Shelf
open Z

/-- between the rounds of a half step: u is cut at the top half of y, and the guess q is not too low -/
def HStep (u un y q rh : Nat) : Prop := u = q * (y / 4294967296) + rh ∧ (u * 4294967296 + un) / y ≤ q
theorem y_cut (y : Nat) : y = y / 4294967296 * 4294967296 + y % 4294967296 := by omega
theorem HStep.start {u un y : Nat} (hy : 9223372036854775808 ≤ y) (hu : u < y) (hn : un < 4294967296) (hy2 : y < 18446744073709551616) :
    HStep u un y (u / (y / 4294967296)) (u % (y / 4294967296)) ∧ u / (y / 4294967296) ≤ 4294967297 ∧ u % (y / 4294967296) < 4294967296 := by
  refine ⟨⟨?_, ?_⟩, ?_, ?_⟩
  · have := Nat.div_add_mod u (y / 4294967296)
    rw [Nat.mul_comm] at this; exact this.symm
  · have h1 : (u * 4294967296 + un) / y ≤ (u * 4294967296 + un) / (4294967296 * (y / 4294967296)) := Nat.div_le_div_left (by omega) (by omega)
    rw [← Nat.div_div_eq_div_mul, show (u * 4294967296 + un) / 4294967296 = u by omega] at h1
    exact h1
  · have : u / (y / 4294967296) < 4294967298 := Nat.div_lt_of_lt_mul (by omega)
    omega
  · have : u % (y / 4294967296) < y / 4294967296 := Nat.mod_lt _ (by omega)
    omega
theorem quot_lt {u un y : Nat} (hu : u < y) (hn : un < 4294967296) : (u * 4294967296 + un) / y < 4294967296 :=
  Nat.div_lt_of_lt_mul (by have : (u + 1) * 4294967296 ≤ y * 4294967296 := Nat.mul_le_mul_right _ hu; omega)
theorem q_times {u y q rh : Nat} (h : u = q * (y / 4294967296) + rh) : q * y + rh * 4294967296 = u * 4294967296 + q * (y % 4294967296) := by
  have h1 : q * y = q * (y / 4294967296) * 4294967296 + q * (y % 4294967296) := by
    conv => lhs; rw [y_cut y]
    rw [Nat.mul_add, Nat.mul_assoc]
  omega
theorem HStep.down {u un y q rh : Nat} (h : HStep u un y q rh) (hu : u < y) (hn : un < 4294967296) (ht : 4294967296 ≤ q ∨ 4294967296 * rh + un < q * (y % 4294967296)) :
    HStep u un y (q - 1) (rh + y / 4294967296) ∧ 1 ≤ q := by
  obtain ⟨h1, h2⟩ := h
  have h3 := q_times h1
  have h4 := quot_lt hu hn
  have hq : 1 ≤ q ∧ (u * 4294967296 + un) / y ≤ q - 1 := by
    rcases ht with ht | ht
    · generalize (u * 4294967296 + un) / y = e at *
      omega
    · have : (u * 4294967296 + un) / y < q := Nat.div_lt_of_lt_mul (by rw [Nat.mul_comm y q]; omega)
      generalize (u * 4294967296 + un) / y = e at *
      omega
  refine ⟨⟨?_, hq.2⟩, hq.1⟩
  have : q * (y / 4294967296) = (q - 1) * (y / 4294967296) + y / 4294967296 := by
    conv => lhs; rw [show q = q - 1 + 1 by omega, Nat.add_mul, Nat.one_mul]
  omega
theorem HStep.stop {u un y q rh : Nat} (h : HStep u un y q rh) (hy : 0 < y) (ht : q * (y % 4294967296) ≤ 4294967296 * rh + un) : q = (u * 4294967296 + un) / y := by
  have h3 := q_times h.1
  have h4 : q ≤ (u * 4294967296 + un) / y := (Nat.le_div_iff_mul_le hy).2 (by omega)
  have := h.2; omega
theorem HStep.leave {u un y q rh : Nat} (h : HStep u un y q rh) (hy : 0 < y) (hq : q ≤ 4294967296) (hr : 4294967296 ≤ rh) : q = (u * 4294967296 + un) / y := by
  refine h.stop hy ?_
  have h1 : q * (y % 4294967296) ≤ 4294967296 * (y % 4294967296) := Nat.mul_le_mul_right _ hq
  have : y % 4294967296 < 4294967296 := Nat.mod_lt _ (by omega)
  omega
/-- both half steps together -/
theorem two_steps {u a b y : Nat} (hy : 0 < y) :
    (u * 4294967296 + a) / y * 4294967296 + ((u * 4294967296 + a) % y * 4294967296 + b) / y = (u * 18446744073709551616 + (a * 4294967296 + b)) / y := by
  have h1 := Nat.div_add_mod (u * 4294967296 + a) y
  have h2 : u * 18446744073709551616 + (a * 4294967296 + b) = y * ((u * 4294967296 + a) / y * 4294967296) + ((u * 4294967296 + a) % y * 4294967296 + b) := by
    rw [← Nat.mul_assoc]; omega
  rw [h2, Nat.mul_add_div hy]
theorem rem_of {T y q : Nat} (h : q = T / y) : q * y + T % y = T := by
  rw [h, Nat.mul_comm]; exact Nat.div_add_mod T y
/-- the dividend moved up by s bits -/
theorem moved {hi lo y s : Nat} (hs : s < 64) (hl : lo < 18446744073709551616) (hy : 0 < y) :
    (hi * 2 ^ s + lo / 2 ^ (64 - s)) * 18446744073709551616 + lo * 2 ^ s % 18446744073709551616 = (hi * 18446744073709551616 + lo) * 2 ^ s := by
  have e : 18446744073709551616 = 2 ^ (64 - s) * 2 ^ s := by rw [← Nat.pow_add, show 64 - s + s = 64 by omega]
  have h1 : lo * 2 ^ s % 18446744073709551616 = lo % 2 ^ (64 - s) * 2 ^ s := by rw [e, Nat.mul_mod_mul_right]
  have h2 : lo / 2 ^ (64 - s) * 18446744073709551616 = lo / 2 ^ (64 - s) * 2 ^ (64 - s) * 2 ^ s := by
    conv => lhs; rw [e]
    rw [Nat.mul_assoc]
  have h3 := Nat.div_add_mod lo (2 ^ (64 - s))
  rw [Nat.add_mul, h1, h2, Nat.add_assoc, ← Nat.add_mul, show lo / 2 ^ (64 - s) * 2 ^ (64 - s) + lo % 2 ^ (64 - s) = lo by rw [Nat.mul_comm]; exact h3, Nat.add_mul]
  rw [Nat.mul_right_comm hi]
theorem or_parts {hi lo s : Nat} (hs : s < 64) (hl : lo < 18446744073709551616) : hi * 2 ^ s ||| lo / 2 ^ (64 - s) = hi * 2 ^ s + lo / 2 ^ (64 - s) := by
  have e : 18446744073709551616 = 2 ^ (64 - s) * 2 ^ s := by rw [← Nat.pow_add, show 64 - s + s = 64 by omega]
  have h : lo / 2 ^ (64 - s) < 2 ^ s := Nat.div_lt_of_lt_mul (by rw [← e]; exact hl)
  rw [Nat.mul_comm hi, Nat.two_pow_add_eq_or_of_lt h]
end Go.Proofs.YtlbnibicehpobaaGreatDoor
