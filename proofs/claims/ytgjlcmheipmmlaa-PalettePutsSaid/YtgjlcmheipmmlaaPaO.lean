/- Law 15: kept entries, Sort and Compact of ints, Used, Flat and Missing of the program. -/
import Derived.Test.YtgjlcmheipmmlaaPaK
import Derived.Test.YtgjlcmheipmmlaaPaU
import Derived.Test.YtgjlcmheipmmlaaShelf
import Derived.Sort.OwnSortedInts
set_option linter.unusedVariables false
set_option linter.unusedSimpArgs false
namespace Go.Proofs.Ytgjlcmheipmmlaa
open Go.RowKit Go.Sort
open Z
/-- a slice of one's own is told -/
def OwnRet {α : Type} (S : Sh α) (B : Nat) (w : World) (e : Ending) (l : List α) : Prop := ∃ v, e = .returned v ∧ Own S B w v l
theorem own_grown {α : Type} {S : Sh α} {B : Nat} {w w' : World} {v : Value} {l : List α} (ho : Own S B w v l) (hg : w.grownBy w' v.ownBlock) : Gr w w' ∨ True := .inr trivial
/-- what is grown by a row of one's own, from a mark below it -/
theorem gr_grown {α : Type} {S : Sh α} {w0 w w' : World} {v : Value} {l : List α} (h0 : Gr w0 w) (ho : Own S w0.heap.size w v l) (hg : w.grownBy w' v.ownBlock) : Gr w0 w' :=
  Below.grown h0 hg h0.size (fun k hk => (World.ownsRow.lt ho k hk).1)
def srt (l : List Int) : List Int := l.mergeSort fun x y => decide (x ≤ y)
theorem srt_len (l : List Int) : (srt l).length = l.length := List.length_mergeSort ..
theorem own_ints {B : Nat} {w : World} {v : Value} {l : List Int} : Own shI B w v l ↔ w.ownsRow B 3 1 v l.length (l.map (Value.int .i64)) := by unfold Own; rw [iv_all]; rfl
theorem sl_Sort {w0 : World} {v : Value} {l : List Int} (w : World) (hg0 : Gr w0 w) (ho : Own shI w0.heap.size w v l) (hl : l.length ≤ 1000000) :
    Calls Try.prog 71 #[v] w fun e w' => e = .returned (.tuple #[]) ∧ Own shI w0.heap.size w' v (srt l) ∧ Gr w0 w' := by
  by_cases h0 : l = []
  · subst h0
    obtain ⟨a, cap, rfl, -⟩ := ho.shape
    refine (Try.slices_Sort_int_none a cap w).mono ?_
    rintro e w' ⟨rfl, rfl⟩
    exact ⟨rfl, by rw [show srt [] = [] by simp [srt]]; exact ho, hg0⟩
  · have ho2 := own_ints.1 ho
    rcases id ho2.2 with ⟨-, h1⟩ | ⟨g, cap, cur, rfl, hb, hg, hn1, hn2, hs, ht⟩
    · exact absurd (List.eq_nil_of_length_eq_zero h1) h0
    · rw [Nat.mul_one] at ht
      refine (Try.slices_Sort_int g 0 cap l w (holds_of_blockI hg ht) (Array.getElem?_eq_some_iff.1 hg).1 (by omega)).mono ?_
      rintro e w' ⟨rfl, n, os, rfl⟩
      have h2 := ownsRow_sortedI (w := w) (base := w0.heap.size) (n := n) (os := os) (ss := l) (ts := srt l) (srt_len l) hb hg hn1 hn2 hs
      have h3 := grownBy_sortedI (w := w) (g := g) (n := n) (os := os) (srt l).toArray
      refine ⟨rfl, own_ints.2 ?_, gr_grown hg0 ho h3⟩
      rw [srt_len]
      exact h2
theorem grow_empty (w : World) : grow w #[] = w := by simp [grow]
theorem Own.pre {α : Type} {S : Sh α} {B g n cap : Nat} {w : World} {l : List α} (h : Own S B w (.slice (some ⟨g, 0, none⟩) n cap) l) {k : Nat} (hk : k ≤ l.length) : Own S B w (.slice (some ⟨g, 0, none⟩) k cap) (l.take k) := by
  obtain ⟨h1, h2⟩ := h
  rcases h2 with ⟨e, -⟩ | ⟨g', cap', cur, e, hb, hg, hn1, hn2, hs, ht⟩
  · cases e
  · simp only [Value.slice.injEq, Option.some.injEq, Addr.mk.injEq] at e
    obtain ⟨⟨rfl, -, -⟩, rfl, rfl⟩ := e
    have hl : (l.take k).length = k := by rw [List.length_take]; omega
    refine ⟨by rw [S.all_len], .inr ⟨g, cap, cur, by rw [hl], hb, hg, by rw [hl]; omega, hn2, hs, ?_⟩⟩
    rw [hl]
    have h3 : (S.all l).take (k * S.sz) = S.all (l.take k) := by
      conv => lhs; rw [← List.take_append_drop k l, S.all_app]
      rw [List.take_left' (by rw [S.all_len, hl])]
    rw [← h3, ← ht, List.take_take, Nat.min_eq_left (Nat.mul_le_mul_right _ hk)]
theorem comp_len (l : List Int) : (Lib.compact l).length ≤ l.length := by
  unfold Lib.compact Lib.compactUpTo
  rw [List.length_map]
  exact Nat.le_trans (List.length_filter_le _ _) (by simp)
theorem sl_Compact {w0 : World} {v : Value} {l : List Int} (w : World) (hg0 : Gr w0 w) (ho : Own shI w0.heap.size w v l) (hl : l.length ≤ 1000000) :
    Calls Try.prog 72 #[v] w fun e w' => OwnRet shI w0.heap.size w' e (Lib.compact l) ∧ Gr w0 w' := by
  by_cases h0 : l = []
  · subst h0
    obtain ⟨a, cap, rfl, -⟩ := ho.shape
    refine (Try.slices_Compact_int_empty a cap w).mono ?_
    rintro e w' ⟨rfl, rfl⟩
    exact ⟨⟨_, rfl, ho⟩, hg0⟩
  · have ho2 := own_ints.1 ho
    rcases id ho2.2 with ⟨-, h1⟩ | ⟨g, cap, cur, rfl, hb, hg, hn1, hn2, hs, ht⟩
    · exact absurd (List.eq_nil_of_length_eq_zero h1) h0
    · rw [Nat.mul_one] at ht
      refine (Try.slices_Compact_int g 0 cap l w (holds_of_blockI hg ht) (by omega) hn1).mono ?_
      rintro e w' ⟨rfl, q, rfl⟩
      have hcl := comp_len l
      have hts : (Lib.compact l ++ List.replicate (l.length - (Lib.compact l).length) 0).length = l.length := by simp; omega
      have h2 := ownsRow_sortedI (w := w) (base := w0.heap.size) (n := q) (os := #[]) (ss := l) (ts := Lib.compact l ++ List.replicate (l.length - (Lib.compact l).length) 0) hts hb hg hn1 hn2 hs
      have h3 := grownBy_sortedI (w := w) (g := g) (n := q) (os := #[]) (Lib.compact l ++ List.replicate (l.length - (Lib.compact l).length) 0).toArray
      rw [grow_empty] at h2 h3
      have h4 : Own shI w0.heap.size _ (.slice (some ⟨g, 0, none⟩) l.length cap) (Lib.compact l ++ List.replicate (l.length - (Lib.compact l).length) 0) := own_ints.2 (by rw [hts]; exact h2)
      have h5 := h4.pre (k := (Lib.compact l).length) (by rw [hts]; exact hcl)
      rw [List.take_left' rfl] at h5
      exact ⟨⟨_, rfl, h5⟩, gr_grown hg0 ho h3⟩
set_option maxRecDepth 100000 in
set_option maxHeartbeats 2000000 in
theorem pl_keptE {a : Option Addr} {l : List En} {cap : Nat} (w : World) (hr : Rd shE w a l) (hlen : l.length ≤ 4096) (hle : ∀ x ∈ l, x.2.2.1 ≤ 1048576) :
    Calls Try.prog 69 #[.slice a l.length cap, .func (.func 70) #[] #[]] w fun e w' => OwnRet shE w.heap.size w' e (l.filter fun x => decide (0 < x.2.2.1)) ∧ Gr w w' := by
  have HR := Lib.hid hr
  have HLE := Lib.hid hle
  obtain ⟨n, hn⟩ : ∃ n, n = l.length := ⟨_, rfl⟩
  have HN := Lib.hid hn
  rw [← hn] at hlen ⊢
  clear hr hn hle
  go_enter Try.func69, Try.ntmps69
  go_wp2
  go_loopw [5, 10] (fun ow i wr => ∃ j : Nat, i = .int .i64 j ∧ j ≤ n ∧ Hid (Own shE w.heap.size wr ow ((l.take j).filter fun x => decide (0 < x.2.2.1))) ∧ Hid (Gr w wr)) (fun _ i _ => n - (intOf i).toNat)
  case atStart => exact ⟨0, rfl, Nat.zero_le _, Lib.hid (by simpa using Own.nil shE _ _), Lib.hid (Gr.refl _)⟩
  case round =>
    obtain ⟨j, rfl, hj, HO, HG⟩ := hrel
    by_cases hlt : j < n
    · have hjl : j < l.length := by rw [← HN.out]; exact hlt
      obtain ⟨b, o, rfl, c0, c1, c2, c3⟩ := en_cells (HR.out.gr HG.out) hjl
      have HTK := Lib.hid (show (l.take (j + 1)).filter (fun x => decide (0 < x.2.2.1)) = (l.take j).filter (fun x => decide (0 < x.2.2.1)) ++ (if decide (0 < l[j].2.2.1) = true then [l[j]] else []) by
        rw [List.take_succ_eq_append_getElem hjl, List.filter_append, List.filter_cons]; rfl)
      have HLL := Lib.hid (show ((l.take j).filter fun x => decide (0 < x.2.2.1)).length ≤ 4096 from Nat.le_trans (List.length_filter_le _ _) (by rw [List.length_take]; omega))
      have HRF := Lib.hid (fun W => pl_refers l[j] W (HLE.out _ (List.getElem_mem hjl)))
      generalize l[j] = x at *
      generalize (l.take j).filter (fun x => decide (0 < x.2.2.1)) = xs at *
      have hxl := HLL.out
      obtain ⟨wa, hwa⟩ : ∃ wa, wa = wr.alloc (.cells #[.int .i64 x.1, .int .i64 x.2.1, .int .i64 x.2.2.1, .int .i64 x.2.2.2] 57) := ⟨_, rfl⟩
      obtain ⟨p, hp⟩ : ∃ p, p = wr.heap.size := ⟨_, rfl⟩
      have hga : Gr wr wa := by rw [hwa]; exact (Gr.refl wr).alloc _
      have HBX := Lib.hid (show Blk shE wa p x by rw [hwa, hp]; exact Blk.new shE wr x)
      generalize decide (0 < x.2.2.1) = D at *
      have HO2 := Lib.hid (HO.out.gr hga)
      have HG2 := Lib.hid (HG.out.trans hga)
      go_wp2_with fail
      rw [← hwa, ← hp]
      clear hwa hp hga HO HG c0 c1 c2 c3
      refine (HRF.out _).mono ?_; rintro e w3 ⟨rfl, hg3⟩
      have HBX3 := HBX.out.gr hg3
      have f0 := HBX3.cell (k := 0) rfl
      have f1 := HBX3.cell (k := 1) rfl
      have f2 := HBX3.cell (k := 2) rfl
      have f3 := HBX3.cell (k := 3) rfl
      have HO3 := Lib.hid (HO2.out.gr hg3)
      have HG3 := Lib.hid (HG2.out.trans hg3)
      clear hg3 HBX3 HBX HO2 HG2 HRF
      cases D
      · have HT2 := Lib.hid (HTK.out.trans (List.append_nil xs))
        clear HTK
        go_wp2
        go_roundw
        case rel => exact ⟨j + 1, by go_num, by omega, Lib.hid (by rw [HT2.out]; exact HO3.out), HG3⟩
        case measure => simp [intOf]; omega
      · have HT2 := Lib.hid (show _ = xs ++ [x] from HTK.out)
        clear HTK
        go_wp2_with (at_builtin; refine push_s shE rfl _ _ rfl _ xs rfl HO3.out HG3.out x _ rfl rfl (by omega) ?_; rintro v5 w5 HO5 hg5; have HG5 := Lib.hid hg5; clear hg5)
        go_roundw
        case rel => exact ⟨j + 1, by go_num, by omega, Lib.hid (by rw [HT2.out]; exact HO5.out), HG5⟩
        case measure => simp [intOf]; omega
    · have hjn : j = l.length := by rw [← HN.out]; omega
      have HOe := Lib.hid (show Own shE w.heap.size wr u5 (l.filter fun x => decide (0 < x.2.2.1)) by have := HO.out; rwa [hjn, List.take_length] at this)
      clear HO hjn
      go_wp2
      go_ret
      exact ⟨⟨_, rfl, HOe.out⟩, HG.out⟩
theorem enE_le {l : List En} (h : entR l = 0) : ∀ x ∈ l, x.2.2.1 ≤ 1048576 := fun x hx => by
  have := (entR_zero.1 h).2.1 x hx
  unfold enE valR at this
  split at this
  · split at this <;> omega
  · omega
def usedL (l : List En) : List Int := if entR l = 0 then usedR l else []
set_option maxRecDepth 100000 in
set_option maxHeartbeats 2000000 in
theorem pl_Used {a : Option Addr} {l : List En} {cap : Nat} (w : World) (hr : Rd shE w a l) (hlen : l.length ≤ 9223372036854775807) :
    Calls Try.prog 28 #[.slice a l.length cap] w fun e w' => (∃ v, e = .returned (.tuple #[v, .int .i64 (entR l)]) ∧ Own shI w.heap.size w' v (usedL l)) ∧ Gr w w' := by
  have HCH := Lib.hid (pl_Entries (cap := cap) w hr hlen)
  by_cases h0 : entR l = 0
  · have hul : usedL l = usedR l := if_pos h0
    have h4 := (entR_zero.1 h0).1
    have HK := Lib.hid (fun W (hW : Gr w W) => pl_keptE (cap := cap) W (hr.gr hW) h4 (enE_le h0))
    rw [h0] at HCH ⊢
    rw [hul]
    have HCU := Lib.hid (compact_used l)
    have HPA := Lib.hid (show pals l = (l.filter fun x => decide (0 < x.2.2.1)).map fun x => x.2.2.1 from rfl)
    have hfl : (l.filter fun x => decide (0 < x.2.2.1)).length ≤ 4096 := Nat.le_trans (List.length_filter_le _ _) h4
    clear hr hlen h0 hul h4
    generalize l.filter (fun x => decide (0 < x.2.2.1)) = F at *
    generalize pals l = PL at *
    generalize usedR l = U at *
    generalize l.length = m at *
    go_enter Try.func28, Try.ntmps28
    go_wp2_with fail
    refine HCH.out.mono ?_; rintro e w1 ⟨rfl, hg1⟩
    have HK1 := Lib.hid (HK.out w1 hg1)
    have HG1 := Lib.hid hg1
    clear hg1 HK HCH
    go_wp2_with fail
    refine HK1.out.mono ?_; rintro e w2 ⟨⟨v, rfl, ho⟩, hg2⟩
    obtain ⟨fa, fc, rfl, hfr, hf1, hf2, -⟩ := ho.shape
    have HFR := Lib.hid hfr
    have HG2 := Lib.hid (HG1.out.trans hg2)
    obtain ⟨n, hn⟩ : ∃ n, n = F.length := ⟨_, rfl⟩
    have HN := Lib.hid hn
    rw [← hn] at hfl hf1 ⊢
    unfold maxLen at hf2
    clear hn ho hg2 hfr HK1 HG1
    go_wp2
    go_loopw [5, 16] (fun ow i wr => ∃ j : Nat, i = .int .i64 j ∧ j ≤ n ∧ Hid (Own shI w2.heap.size wr ow ((F.take j).map fun x => x.2.2.1)) ∧ Hid (Gr w2 wr)) (fun _ i _ => n - (intOf i).toNat)
    case atStart => exact ⟨0, rfl, Nat.zero_le _, Lib.hid (by simpa using Own.nil shI _ _), Lib.hid (Gr.refl _)⟩
    case round =>
      obtain ⟨j, rfl, hj, HO, HG⟩ := hrel
      by_cases hlt : j < n
      · have hjl : j < F.length := by rw [← HN.out]; exact hlt
        obtain ⟨b, o, rfl, c0, c1, c2, c3⟩ := en_cells (HFR.out.gr HG.out) hjl
        have HTK := Lib.hid (show (F.take (j + 1)).map (fun x => x.2.2.1) = (F.take j).map (fun x => x.2.2.1) ++ [F[j].2.2.1] by rw [List.take_succ_eq_append_getElem hjl, List.map_append]; rfl)
        have HLL := Lib.hid (show ((F.take j).map fun x => x.2.2.1).length ≤ 4096 by rw [List.length_map, List.length_take]; omega)
        generalize F[j] = x at *
        generalize (F.take j).map (fun x => x.2.2.1) = xs at *
        have hxl := HLL.out
        have HO2 := Lib.hid (HO.out.gr ((Gr.refl wr).alloc (.cells #[.int .i64 x.1, .int .i64 x.2.1, .int .i64 x.2.2.1, .int .i64 x.2.2.2] 57)))
        have HG3 := Lib.hid (HG.out.alloc (.cells #[.int .i64 x.1, .int .i64 x.2.1, .int .i64 x.2.2.1, .int .i64 x.2.2.2] 57))
        clear HO
        go_wp2_with (at_builtin; refine push_s shI rfl _ _ rfl _ xs rfl HO2.out HG3.out x.2.2.1 _ (World.size_alloc _ _).symm rfl (by omega) ?_; rintro v5 w5 HO5 hg5; have HG5 := Lib.hid hg5; clear hg5)
        go_roundw
        case rel => exact ⟨j + 1, by go_num, by omega, Lib.hid (by rw [HTK.out]; exact HO5.out), HG5⟩
        case measure => simp [intOf]; omega
      · have hjn : j = F.length := by rw [← HN.out]; omega
        have ho := HO.out
        rw [hjn, List.take_length, ← HPA.out] at ho
        have hpl : PL.length ≤ 1000000 := by rw [HPA.out, List.length_map, ← HN.out]; omega
        have HS := Lib.hid (sl_Sort wr HG.out ho hpl)
        clear HO ho hjn
        go_wp2_with fail
        refine HS.out.mono ?_; rintro e w5 ⟨rfl, ho5, hg5⟩
        have HC := Lib.hid (sl_Compact w5 hg5 ho5 (by rw [srt_len]; exact hpl))
        rw [show Lib.compact (srt PL) = U from HCU.out] at HC
        clear ho5 hg5 HS
        go_wp2_with fail
        refine HC.out.mono ?_; rintro e w6 ⟨⟨v6, rfl, ho6⟩, hg6⟩
        have HO6 := Lib.hid (ho6.low HG2.out.size)
        have HG6 := Lib.hid (HG2.out.trans hg6)
        clear ho6 hg6 HC
        go_wp2
        go_ret2
        exact ⟨⟨_, rfl, HO6.out⟩, HG6.out⟩
  · have hul : usedL l = [] := if_neg h0
    have hz : (entR l == 0) = false := by simp [h0]
    rw [hul]
    clear hr hlen h0 hul
    generalize entR l = E at *
    generalize l.length = m at *
    go_enter Try.func28, Try.ntmps28
    go_wp2_with fail
    refine HCH.out.mono ?_; rintro e w1 ⟨rfl, hg1⟩
    have HG1 := Lib.hid hg1
    clear hg1 HCH
    go_wp2
    go_ret2
    exact ⟨⟨_, rfl, Own.nil _ _ _⟩, HG1.out⟩
end Go.Proofs.Ytgjlcmheipmmlaa
