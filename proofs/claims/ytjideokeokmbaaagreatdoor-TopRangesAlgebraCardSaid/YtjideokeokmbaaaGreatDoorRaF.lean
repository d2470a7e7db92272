/- Sets of channels: the program's reader: all terms. -/
import Derived.Test.YtjideokeokmbaaaGreatDoorRaE
import Derived.Deep.WholeRow
import Derived.Laws.ResultCell
set_option linter.unusedVariables false
set_option linter.unusedSimpArgs false
namespace Go.Proofs.YtjideokeokmbaaaGreatDoor.Z
open Go
theorem chanR_ok {l : List UInt8} {k : Nat} (hk : k ≤ l.length) (h : (chanR l k).2.1 = 0) : 1 ≤ (chanR l k).1 ∧ (chanR l k).1 ≤ 999 ∧ k < (chanR l k).2.2 ∧ (chanR l k).2.2 ≤ l.length := by
  have hle := (chanR_le hk).1
  have h1 := skipB_le hk
  revert h hle
  unfold chanR
  split
  · intro h; simp at h
  · rename_i hne
    have : 0 < (leadD (l.drop (skipB l k))).length := List.length_pos_iff.2 hne
    split
    · intro _ hle
      refine ⟨by simp only; omega, by simp only; omega, by simp only; omega, hle⟩
    · intro h; simp at h
theorem thruR_ge {l : List UInt8} {k : Nat} (hk : k ≤ l.length) : k ≤ (thruR l k).2 := by
  have h1 := skipB_le hk
  unfold thruR
  split
  · simp only; omega
  · exact h1.1
theorem termR_ok {l : List UInt8} {k : Nat} (hk : k ≤ l.length) : (termR l k).2.2 ≤ l.length ∧ ((termR l k).2.1 = 0 → 1 ≤ (termR l k).1.1 ∧ (termR l k).1.1 ≤ (termR l k).1.2 ∧ (termR l k).1.2 ≤ 999 ∧ k < (termR l k).2.2) := by
  have a0 := chanR_ok hk
  have a1 := (chanR_le hk).1
  have t1 := thruR_ge (l := l) (k := (chanR l k).2.2) a1
  have t2 := thruR_le (l := l) (k := (chanR l k).2.2) a1
  have b0 := chanR_ok t2
  have b1 := (chanR_le t2).1
  unfold termR
  generalize chanR l (thruR l (chanR l k).2.2).2 = r3 at *
  generalize thruR l (chanR l k).2.2 = r2 at *
  generalize chanR l k = r1 at *
  obtain ⟨n, e1, k1⟩ := r1
  obtain ⟨t, k2⟩ := r2
  obtain ⟨m, e2, k3⟩ := r3
  simp only at a0 a1 t1 t2 b0 b1 ⊢
  by_cases h : e1 = 0
  · have a0 := a0 h
    subst h
    cases t
    · simp only [ne_eq, not_true_eq_false, ↓reduceIte, Bool.false_eq_true]
      omega
    · simp only [ne_eq, not_true_eq_false, ↓reduceIte]
      refine ⟨b1, fun he => ?_⟩
      have := b0 he
      omega
  · rw [if_pos h]
    exact ⟨a1, fun he => absurd he h⟩
/-- all terms from a place on: what is in, the error, and how far the reader has come -/
def memF (l : List UInt8) : Nat → (Nat → Bool) → Bool → Nat → (Nat → Bool) × Int × Nat
  | 0, g, _, k => (g, 4, k)
  | n + 1, g, v, k =>
    if (termR l k).2.1 ≠ 0 then (g, (termR l k).2.1, (termR l k).2.2)
    else if skipB l (termR l k).2.2 = l.length then (updM g (chans [(termR l k).1]) v, 0, skipB l (termR l k).2.2)
    else if Lib.hasPrefix (l.drop (skipB l (termR l k).2.2)) [43] = true then memF l n (updM g (chans [(termR l k).1]) v) true (skipB l (termR l k).2.2 + 1)
    else if Lib.hasPrefix (l.drop (skipB l (termR l k).2.2)) [45] = true then memF l n (updM g (chans [(termR l k).1]) v) false (skipB l (termR l k).2.2 + 1)
    else (updM g (chans [(termR l k).1]) v, 4, skipB l (termR l k).2.2)
def membersR (l : List UInt8) : (Nat → Bool) × Int × Nat :=
  if skipB l 0 = l.length then (fun _ => false, 0, skipB l 0) else memF l (l.length + 1) (fun _ => false) true (skipB l 0)
end Go.Proofs.YtjideokeokmbaaaGreatDoor.Z
namespace Go.Proofs.YtjideokeokmbaaaGreatDoor
open Go.RowKit Go.Shelf
open Z
theorem Upd.own {b mb : Nat} {w w1 w2 : World} (h : Upd b w w1) (hu : Upd mb w1 w2) (hn : w.heap.size ≤ mb) : Upd b w w2 :=
  ⟨fun w0 h0 hb => hu.1 w0 (h.1 w0 h0 hb) (Nat.le_trans h0.size hn), fun k hk hne => (hu.2.1 k (Nat.lt_of_lt_of_le hk h.2.2) (by omega)).trans (h.2.1 k hk hne), Nat.le_trans h.2.2 hu.2.2⟩
theorem MemAt.upd {b mb : Nat} {g : Nat → Bool} {w w' : World} (h : MemAt w mb g) (hu : Upd b w w') (hne : mb ≠ b) : MemAt w' mb g :=
  (hu.2.1 mb (Array.getElem?_eq_some_iff.1 h).1 hne).trans h
theorem MemAt.new (w : World) : MemAt (w.alloc (.cells (memA fun _ => false) 63)) w.heap.size (fun _ => false) := World.alloc_heap_new w _
theorem Tryz.infoMembers : (Tryz.prog.info? 63).map (fun i => (i.zero, i.size)) = some (some (.agg (memA fun _ => false)), 1000) := by kernel_rfl
theorem run_load82 {w : World} {g : Nat} {cs : Array Value} (hg : w.heap[g]? = some (.cells cs 63 (0, 0))) (hc : cs.size = 1000) (hzs : (Tryz.prog.info? 63).map (·.size) = some 1000) :
    (loadVar 63 ⟨g, 0, none⟩).run Tryz.prog w = .ok (.agg cs) w :=
  run_loadVar_row w g _ _ cs (0, 0) _ hg Tryz.underlying63 rfl (by rw [hzs, hc])
theorem wp_load82 {o : Oper} {a : Act} {w : World} {K : Act → World → Prop} {Q : Exit → Act → World → Prop} (x : Operand) (ho : o.op = .load 63 x) (g : Nat) (cs : Array Value) (hx : a.eval x = .pointer (some ⟨g, 0, none⟩))
    (hg : w.heap[g]? = some (.cells cs 63 (0, 0))) (hc : cs.size = 1000) (hzs : (Tryz.prog.info? 63).map (·.size) = some 1000) (h : K (a.put o.dst (.agg cs)) w) : o.wp Tryz.prog a w K Q := by
  have hr : (execOp a.eval o).run Tryz.prog w = .ok (.value (.agg cs)) w := by
    unfold execOp
    rw [ho]
    simp only [hx, Instr.loadAt, Instr.sureAddr, Sem.run_bind, Sem.run_pure, Result.andThen, run_load82 hg hc hzs]
  unfold Oper.wp
  rw [hr]; exact h
theorem run_store82 {w : World} {n : Nat} {cs c' : Array Value} (hg : w.heap[n]? = some (.cells cs 63 (0, 0))) (hc : cs.size = 1000) (hc' : c'.size = 1000) (h1 : c'.all (·.oneCell') = true) (hzs : (Tryz.prog.info? 63).map (·.size) = some 1000) :
    (storeCells ⟨n, 0, none⟩ c'.toList 0).run Tryz.prog w = .ok () (w.setRow n c') := by
  have := run_storeVar_row (P := Tryz.prog) w n 63 63 cs c' hg (by rw [hzs, hc']) (by rw [hc, hc']) h1
  cases hq : Tryz.prog.info? 63 with
  | none => simp [hq] at hzs
  | some i =>
    have hs : c'.size = i.size := by simp [hq] at hzs; omega
    simpa [storeVar, sizeOf, typeInfo, hq, Value.cells, hs] using this
theorem memA_one (g : Nat → Bool) : (memA g).all (·.oneCell') = true := by
  rw [Array.all_eq_true_iff_forall_mem]
  intro v hv
  simp only [memA, List.mem_toArray, List.mem_map] at hv
  obtain ⟨k, _, rfl⟩ := hv
  rfl
theorem MemAt.row {w : World} {n : Nat} {g : Nat → Bool} (h : MemAt w n g) (g' : Nat → Bool) : MemAt (w.setRow n (memA g')) n g' := setRow_heap w n _ _ _ _ h
theorem Upd.row (w : World) (n : Nat) (c : Array Value) : Upd n w (w.setRow n c) := by
  have ho : ∀ k, k ≠ n → (w.setRow n c).heap[k]? = w.heap[k]? := fun k hk => by
    simp only [World.setRow, Array.getElem?_modify]
    rw [if_neg (fun e => hk e.symm)]
  have hs : (w.setRow n c).heap.size = w.heap.size := by simp [World.setRow]
  exact ⟨fun w0 h0 hb => ⟨h0.os, h0.tape, h0.output, by rw [hs]; exact h0.size, fun k hk => (ho k (by omega)).trans (h0.block k hk)⟩, fun k _ hne => ho k hne, by rw [hs]; exact Nat.le_refl _⟩
set_option maxRecDepth 100000 in
set_option maxHeartbeats 4000000 in
theorem ra_members (b : Nat) (s : ByteArray) (w : World) (hr : RdrAt w b s 0) (hs : s.size ≤ 100000) :
    Calls Tryz.prog 29 #[.pointer (some ⟨b, 0, none⟩)] w fun e w' => e = .returned (.tuple #[.agg (memA (membersR s.data.toList).1), .int .i64 (membersR s.data.toList).2.1]) ∧ RdrAt w' b s (membersR s.data.toList).2.2 ∧ Upd b w w' := by
  obtain ⟨hzv, hzs⟩ := zero_of_info Tryz.infoMembers
  have hsz : s.data.toList.length = s.size := by simp
  obtain ⟨Z, hZ⟩ : ∃ Z, memA (fun _ => false) = Z := ⟨_, rfl⟩
  rw [hZ] at hzv
  obtain ⟨w1, hw1⟩ : ∃ w1, w1 = (w.alloc (.cells Z 63)).alloc (.cells Z 63) := ⟨_, rfl⟩
  have HU0 := Lib.hid (show Upd b w w1 by rw [hw1]; exact Upd.of_gr (((Gr.refl w).alloc _).alloc _))
  have HRD := Lib.hid (ra_rest b s 0 w1 (by rw [hw1]; exact hr.gr (((Gr.refl w).alloc _).alloc _)) hs (by omega))
  have hbw := cellLt hr.c0
  have HM2 := Lib.hid (show MemAt w1 w.heap.size (fun _ => false) by rw [hw1, ← hZ]; exact (Below.heap_alloc _ _ _ (by simp)).trans (MemAt.new w))
  have HM4 := Lib.hid (show MemAt w1 (w.heap.size + 1) (fun _ => false) by rw [hw1, ← hZ]; have := MemAt.new (w.alloc (.cells (memA fun _ => false) 63)); rwa [World.size_alloc] at this)
  clear hZ
  clear hr
  obtain ⟨V, hV⟩ : ∃ V, membersR s.data.toList = V := ⟨_, rfl⟩
  have HV := Lib.hid hV
  rw [hV]
  clear hV
  unfold membersR at HV
  have hK := (skipB_le (l := s.data.toList) (k := 0) (by omega)).2
  generalize skipB s.data.toList 0 = K at *
  have hin : ((s.extract K s.size).toList == []) = decide (K = s.size) := by
    have h1 := is_nil (s.extract K s.size).data.toList
    have h2 : str (s.extract K s.size).data.toList = s.extract K s.size := rfl
    rw [h2] at h1
    rw [h1, ext_list]
    rw [Bool.eq_iff_iff, decide_eq_true_iff, decide_eq_true_iff, List.drop_eq_nil_iff]
    omega
  by_cases hKe : K = s.size
  · have hv : ((fun _ => false), 0, K) = V := by have := HV.out; rwa [if_pos (by rw [hsz]; exact hKe)] at this
    subst hv
    rw [decide_eq_true hKe] at hin
    clear HV
    generalize s.extract K s.size = R at *
    go_enter Tryz.func29, Tryz.ntmps29
    go_wp2_with fail
    rw [← hw1]
    refine HRD.out.mono ?_; rintro e w2 ⟨rfl, hr2, hu2⟩
    have HRa := Lib.hid hr2
    have HUa := Lib.hid (HU0.out.trans hu2)
    have HM0a := Lib.hid (HM2.out.upd hu2 (by omega))
    have HMa := Lib.hid (HM4.out.upd hu2 (by omega))
    clear hr2 hu2 HM2 HM4 HU0 HRD hw1
    go_wp2
    refine wp_load82 _ rfl (w.heap.size + 1) (memA fun _ => false) rfl HMa.out (memA_size _) hzs ?_
    go_wp2
    rw [run_store82 HM0a.out (memA_size _) (memA_size _) (memA_one _) hzs]
    simp only [Result.andThen]
    rw [Oper.upon_skip]
    have HMb := Lib.hid (HM0a.out.row fun _ => false)
    have HUb := Lib.hid (HUa.out.own (Upd.row _ w.heap.size (memA fun _ => false)) (Nat.le_refl _))
    have HRb := Lib.hid (HRa.out.upd (Upd.row _ w.heap.size (memA fun _ => false)) (by omega))
    go_wp2
    refine bodyPost_ret (v := .tuple #[.agg (memA fun _ => false), .int .i64 0]) ?_ rfl ⟨rfl, HRb.out, HUb.out⟩
    rw [results_cell_tmp rfl]
    simp [asAddr, Result.andThen, run_load82 HMb.out (memA_size _) hzs]
  · rw [decide_eq_false hKe] at hin
    generalize s.extract K s.size = R at *
    go_enter Tryz.func29, Tryz.ntmps29
    go_wp2_with fail
    rw [← hw1]
    refine HRD.out.mono ?_; rintro e w2 ⟨rfl, hr2, hu2⟩
    have HR2 := Lib.hid hr2
    have HU2 := Lib.hid (HU0.out.trans hu2)
    have HM2' := Lib.hid (HM2.out.upd hu2 (by omega))
    have HM4' := Lib.hid (HM4.out.upd hu2 (by omega))
    clear hr2 hu2 HM2 HM4 HU0 HRD hw1
    have hV2 : memF s.data.toList (s.data.toList.length + 1) (fun _ => false) true K = V := by have := HV.out; rwa [if_neg (by rw [hsz]; exact hKe)] at this
    rw [hsz] at hV2 hK
    have HV2 := Lib.hid hV2
    clear hV2 HV
    go_wp2_with fail
    go_loopw [5] (fun p wr => ∃ (n : Nat) (g : Nat → Bool) (v : Bool) (k : Nat), p = .bool v ∧ k ≤ s.size ∧ s.size + 1 ≤ n + k ∧ g 0 = false ∧ Hid (memF s.data.toList n g v k = V) ∧ Hid (RdrAt wr b s k) ∧ Hid (MemAt wr (w.heap.size + 1) g) ∧ Hid (MemAt wr w.heap.size fun _ => false) ∧ Hid (Upd b w wr)) (fun _ wr => s.size - rdrN wr b)
    case atStart => exact ⟨_, _, _, K, rfl, hK, by omega, rfl, HV2, HR2, HM4', HM2', HU2⟩
    case round =>
      obtain ⟨n, g, v, k, rfl, hk, hn, hg0, HVn, HRk, HM, HM0, HU⟩ := hrel
      obtain ⟨n, rfl⟩ : ∃ m, n = m + 1 := ⟨n - 1, by omega⟩
      have HPk := Lib.hid HRk.out.pos
      have HT := Lib.hid (ra_term b s k wr HRk.out hs hk)
      have hT := termR_ok (l := s.data.toList) (k := k) (by omega)
      have hVn := HVn.out
      unfold memF at hVn
      have HVn := Lib.hid hVn
      clear hVn
      generalize termR s.data.toList k = T at *
      obtain ⟨⟨f, t⟩, e, k1⟩ := T
      simp only at HT hT HVn
      obtain ⟨hk1, hok⟩ := hT
      by_cases he : e = 0
      · have hok2 := hok he
        subst he
        obtain ⟨hf1, hft, ht1, hkk⟩ := hok2
        have hVn := HVn.out
        rw [if_neg (by simp)] at hVn
        have HVn := Lib.hid hVn
        clear hVn
        have HRST := Lib.hid (fun w (h : RdrAt w b s k1) => ra_rest b s k1 w h hs (by omega))
        have hK2 := (skipB_le (l := s.data.toList) (k := k1) (by omega))
        have hKK : skipB s.data.toList (skipB s.data.toList k1) = skipB s.data.toList k1 := skipB_skip (by omega)
        have hin2 : ((s.extract (skipB s.data.toList k1) s.size).toList == []) = decide (skipB s.data.toList k1 = s.size) := by
          have h1 := is_nil (s.extract (skipB s.data.toList k1) s.size).data.toList
          have h2 : str (s.extract (skipB s.data.toList k1) s.size).data.toList = s.extract (skipB s.data.toList k1) s.size := rfl
          rw [h2] at h1
          rw [h1, ext_list]
          rw [Bool.eq_iff_iff, decide_eq_true_iff, decide_eq_true_iff, List.drop_eq_nil_iff]
          omega
        have HTP := Lib.hid (fun w (h : RdrAt w b s (skipB s.data.toList k1)) => ra_take b s ⟨#[43]⟩ (skipB s.data.toList k1) w h hs (by omega) (by decide))
        have HTM := Lib.hid (fun w (h : RdrAt w b s (skipB s.data.toList k1)) => ra_take b s ⟨#[45]⟩ (skipB s.data.toList k1) w h hs (by omega) (by decide))
        rw [hKK] at HTP HTM
        change Hid (∀ w, RdrAt w b s (skipB s.data.toList k1) → Calls Tryz.prog 41 #[.pointer (some ⟨b, 0, none⟩), .string ⟨#[43]⟩] w fun e w' => e = .returned (.bool (Lib.hasPrefix (s.data.toList.drop (skipB s.data.toList k1)) [43])) ∧
          RdrAt w' b s (if Lib.hasPrefix (s.data.toList.drop (skipB s.data.toList k1)) [43] = true then skipB s.data.toList k1 + 1 else skipB s.data.toList k1) ∧ Upd b w w') at HTP
        change Hid (∀ w, RdrAt w b s (skipB s.data.toList k1) → Calls Tryz.prog 41 #[.pointer (some ⟨b, 0, none⟩), .string ⟨#[45]⟩] w fun e w' => e = .returned (.bool (Lib.hasPrefix (s.data.toList.drop (skipB s.data.toList k1)) [45])) ∧
          RdrAt w' b s (if Lib.hasPrefix (s.data.toList.drop (skipB s.data.toList k1)) [45] = true then skipB s.data.toList k1 + 1 else skipB s.data.toList k1) ∧ Upd b w w') at HTM
        have HL1 : Hid (Lib.hasPrefix (s.data.toList.drop (skipB s.data.toList k1)) [43] = true → skipB s.data.toList k1 < s.size) := Lib.hid fun h => by
          have := prefix_len h
          rw [List.length_drop] at this
          simp at this; omega
        have HL2 : Hid (Lib.hasPrefix (s.data.toList.drop (skipB s.data.toList k1)) [45] = true → skipB s.data.toList k1 < s.size) := Lib.hid fun h => by
          have := prefix_len h
          rw [List.length_drop] at this
          simp at this; omega
        have HPUT : Hid (∀ (w4 : World) (N : Nat), MemAt w4 (w.heap.size + 1) g → w4.cell? ⟨N, 0, none⟩ = some (.int .i64 f) → w4.cell? ⟨N, 1, none⟩ = some (.int .i64 t) → N ≠ w.heap.size + 1 → Calls Tryz.prog 40 #[.pointer (some ⟨w.heap.size + 1, 0, none⟩), .slice (some ⟨N, 0, none⟩) 1 1, .bool v] w4
            fun e w' => (∃ u, e = .returned u) ∧ MemAt w' (w.heap.size + 1) (updM g (chans [(f, t)]) v) ∧ Upd (w.heap.size + 1) w4 w') := Lib.hid fun w4 N h1 h2 h3 h4 =>
          ra_put (w.heap.size + 1) (some ⟨N, 0, none⟩) [(f, t)] 1 v g w4 h1 (fun h => by cases h) (by simp) (fun r hr => by simp at hr; subst hr; exact ⟨hf1, hft, ht1⟩)
            (.inr ⟨N, 0, rfl, fun j hj => by obtain rfl : j = 0 := by simp at hj; omega
                                             exact ⟨by simpa using h2, by simpa using h3⟩⟩) (fun b o h => by cases h; exact h4)
        have hg2 : updM g (chans [(f, t)]) v 0 = false := by
          unfold updM
          rw [if_neg ?_]
          · exact hg0
          · intro h
            have := (chn_bound (R := [(f, t)]) (fun r hr => by simp at hr; subst hr; exact ⟨hf1, hft, ht1⟩) h).1
            omega
        generalize updM g (chans [(f, t)]) v = g2 at *
        generalize hK2e : skipB s.data.toList k1 = K2 at *
        generalize s.extract K2 s.size = R2 at *
        generalize Lib.hasPrefix (s.data.toList.drop K2) [43] = p1 at *
        generalize Lib.hasPrefix (s.data.toList.drop K2) [45] = p2 at *
        by_cases hKs : K2 = s.size
        · have hv : (g2, 0, K2) = V := by have := HVn.out; rwa [if_pos (by omega)] at this
          subst hv
          rw [decide_eq_true hKs] at hin2
          clear HVn HTP HTM
          go_wp2_with fail
          refine HT.out.mono ?_; rintro e w3 ⟨rfl, hr3, hu3⟩
          have hbs := cellLt hr3.c0
          have gO2 : Gr w3 ((w3.alloc (.cells #[.int .i64 f, .int .i64 t] 37)).alloc (.cells #[.int .i64 f, .int .i64 t] 37)) := ((Gr.refl w3).alloc _).alloc _
          have hm3 := HM.out.upd hu3 (by omega)
          have hml : w.heap.size + 1 < w3.heap.size := (Array.getElem?_eq_some_iff.1 hm3).1
          have HR3 := Lib.hid (hr3.gr gO2)
          have HU3 := Lib.hid ((HU.out.trans hu3).trans (Upd.of_gr (b := b) gO2))
          have HM3 := Lib.hid (hm3.upd (Upd.of_gr (b := b) gO2) (by omega))
          have HM03 := Lib.hid ((HM0.out.upd hu3 (by omega)).upd (Upd.of_gr (b := b) gO2) (by omega))
          have n0 : ((w3.alloc (.cells #[.int .i64 f, .int .i64 t] 37)).alloc (.cells #[.int .i64 f, .int .i64 t] 37)).cell? ⟨w3.heap.size + 1, 0, none⟩ = some (.int .i64 f) := by rw [World.cell?_alloc_at _ _ _ _ (by simp)]; rfl
          have n1 : ((w3.alloc (.cells #[.int .i64 f, .int .i64 t] 37)).alloc (.cells #[.int .i64 f, .int .i64 t] 37)).cell? ⟨w3.heap.size + 1, 1, none⟩ = some (.int .i64 t) := by rw [World.cell?_alloc_at _ _ _ _ (by simp)]; rfl
          have HP := Lib.hid (HPUT.out _ _ HM3.out n0 n1 (by omega))
          clear hr3 hu3 HT HRk HM HM0 HU hm3 n0 n1 HPUT gO2
          go_wp2_with fail
          refine HP.out.mono ?_; rintro e w4 ⟨⟨u, rfl⟩, hm4, hu4⟩
          have HR4 := Lib.hid (HR3.out.upd hu4 (by omega))
          have HU4 := Lib.hid (HU3.out.own hu4 (by omega))
          have HM4 := Lib.hid hm4
          have HM04 := Lib.hid (HM03.out.upd hu4 (by omega))
          clear hm4 hu4 HR3 HU3 HM3 HM03 HP
          go_wp2_with fail
          refine (HRST.out _ HR4.out).mono ?_; rintro e w5 ⟨rfl, hr5, hu5⟩
          have HRa := Lib.hid hr5
          have HUa := Lib.hid (HU4.out.trans hu5)
          have HMa := Lib.hid (HM4.out.upd hu5 (by omega))
          have HM0a := Lib.hid (HM04.out.upd hu5 (by omega))
          clear hr5 hu5 HR4 HU4 HM4 HM04 HRST
          go_wp2
          refine wp_load82 _ rfl (w.heap.size + 1) (memA g2) rfl HMa.out (memA_size _) hzs ?_
          go_wp2
          rw [run_store82 HM0a.out (memA_size _) (memA_size _) (memA_one _) hzs]
          simp only [Result.andThen]
          rw [Oper.upon_skip]
          have HMb := Lib.hid (HM0a.out.row g2)
          have HUb := Lib.hid (HUa.out.own (Upd.row _ w.heap.size (memA g2)) (Nat.le_refl _))
          have HRb := Lib.hid (HRa.out.upd (Upd.row _ w.heap.size (memA g2)) (by omega))
          go_wp2
          refine bodyPost_ret (v := .tuple #[.agg (memA g2), .int .i64 0]) ?_ rfl ⟨rfl, by have := HRb.out; rwa [hKs] at this, HUb.out⟩
          rw [results_cell_tmp rfl]
          simp [asAddr, Result.andThen, run_load82 HMb.out (memA_size _) hzs]
        · cases p1
          · cases p2
            · have hv : (g2, 4, K2) = V := by have := HVn.out; rwa [if_neg (by omega), if_neg (by simp), if_neg (by simp)] at this
              subst hv
              rw [decide_eq_false hKs] at hin2
              clear HVn
              go_wp2_with fail
              refine HT.out.mono ?_; rintro e w3 ⟨rfl, hr3, hu3⟩
              have hbs := cellLt hr3.c0
              have gO2 : Gr w3 ((w3.alloc (.cells #[.int .i64 f, .int .i64 t] 37)).alloc (.cells #[.int .i64 f, .int .i64 t] 37)) := ((Gr.refl w3).alloc _).alloc _
              have hm3 := HM.out.upd hu3 (by omega)
              have hml : w.heap.size + 1 < w3.heap.size := (Array.getElem?_eq_some_iff.1 hm3).1
              have HR3 := Lib.hid (hr3.gr gO2)
              have HU3 := Lib.hid ((HU.out.trans hu3).trans (Upd.of_gr (b := b) gO2))
              have HM3 := Lib.hid (hm3.upd (Upd.of_gr (b := b) gO2) (by omega))
              have HM03 := Lib.hid ((HM0.out.upd hu3 (by omega)).upd (Upd.of_gr (b := b) gO2) (by omega))
              have n0 : ((w3.alloc (.cells #[.int .i64 f, .int .i64 t] 37)).alloc (.cells #[.int .i64 f, .int .i64 t] 37)).cell? ⟨w3.heap.size + 1, 0, none⟩ = some (.int .i64 f) := by rw [World.cell?_alloc_at _ _ _ _ (by simp)]; rfl
              have n1 : ((w3.alloc (.cells #[.int .i64 f, .int .i64 t] 37)).alloc (.cells #[.int .i64 f, .int .i64 t] 37)).cell? ⟨w3.heap.size + 1, 1, none⟩ = some (.int .i64 t) := by rw [World.cell?_alloc_at _ _ _ _ (by simp)]; rfl
              have HP := Lib.hid (HPUT.out _ _ HM3.out n0 n1 (by omega))
              clear hr3 hu3 HT HRk HM HM0 HU hm3 n0 n1 HPUT gO2
              go_wp2_with fail
              refine HP.out.mono ?_; rintro e w4 ⟨⟨u, rfl⟩, hm4, hu4⟩
              have HR4 := Lib.hid (HR3.out.upd hu4 (by omega))
              have HU4 := Lib.hid (HU3.out.own hu4 (by omega))
              have HM4 := Lib.hid hm4
              have HM04 := Lib.hid (HM03.out.upd hu4 (by omega))
              clear hm4 hu4 HR3 HU3 HM3 HM03 HP
              go_wp2_with fail
              refine (HRST.out _ HR4.out).mono ?_; rintro e w5 ⟨rfl, hr5, hu5⟩
              have HRa := Lib.hid hr5
              have HUa := Lib.hid (HU4.out.trans hu5)
              have HMa := Lib.hid (HM4.out.upd hu5 (by omega))
              have HM0a := Lib.hid (HM04.out.upd hu5 (by omega))
              clear hr5 hu5 HR4 HU4 HM4 HM04 HRST
              go_wp2_with fail
              refine (HTP.out _ HRa.out).mono ?_; rintro e w6 ⟨rfl, hr6, hu6⟩
              rw [if_neg (by simp)] at hr6
              replace HRa := Lib.hid hr6
              replace HMa := Lib.hid (HMa.out.upd hu6 (by omega))
              replace HM0a := Lib.hid (HM0a.out.upd hu6 (by omega))
              replace HUa := Lib.hid (HUa.out.trans hu6)
              clear hr6 hu6 HTP
              go_wp2_with fail
              refine (HTM.out _ HRa.out).mono ?_; rintro e w6 ⟨rfl, hr6, hu6⟩
              rw [if_neg (by simp)] at hr6
              replace HRa := Lib.hid hr6
              replace HMa := Lib.hid (HMa.out.upd hu6 (by omega))
              replace HM0a := Lib.hid (HM0a.out.upd hu6 (by omega))
              replace HUa := Lib.hid (HUa.out.trans hu6)
              clear hr6 hu6 HTM
              go_wp2
              refine wp_load82 _ rfl (w.heap.size + 1) (memA g2) rfl HMa.out (memA_size _) hzs ?_
              go_wp2
              rw [run_store82 HM0a.out (memA_size _) (memA_size _) (memA_one _) hzs]
              simp only [Result.andThen]
              rw [Oper.upon_skip]
              have HMb := Lib.hid (HM0a.out.row g2)
              have HUb := Lib.hid (HUa.out.own (Upd.row _ w.heap.size (memA g2)) (Nat.le_refl _))
              have HRb := Lib.hid (HRa.out.upd (Upd.row _ w.heap.size (memA g2)) (by omega))
              go_wp2
              refine bodyPost_ret (v := .tuple #[.agg (memA g2), .int .i64 4]) ?_ rfl ⟨rfl, HRb.out, HUb.out⟩
              rw [results_cell_tmp rfl]
              simp [asAddr, Result.andThen, run_load82 HMb.out (memA_size _) hzs]
            · have HVm : Hid (memF s.data.toList n g2 false (K2 + 1) = V) := Lib.hid (by have := HVn.out; rwa [if_neg (by omega), if_neg (by simp), if_pos rfl] at this)
              rw [decide_eq_false hKs] at hin2
              have hlt := HL2.out rfl
              clear HVn
              go_wp2_with fail
              refine HT.out.mono ?_; rintro e w3 ⟨rfl, hr3, hu3⟩
              have hbs := cellLt hr3.c0
              have gO2 : Gr w3 ((w3.alloc (.cells #[.int .i64 f, .int .i64 t] 37)).alloc (.cells #[.int .i64 f, .int .i64 t] 37)) := ((Gr.refl w3).alloc _).alloc _
              have hm3 := HM.out.upd hu3 (by omega)
              have hml : w.heap.size + 1 < w3.heap.size := (Array.getElem?_eq_some_iff.1 hm3).1
              have HR3 := Lib.hid (hr3.gr gO2)
              have HU3 := Lib.hid ((HU.out.trans hu3).trans (Upd.of_gr (b := b) gO2))
              have HM3 := Lib.hid (hm3.upd (Upd.of_gr (b := b) gO2) (by omega))
              have HM03 := Lib.hid ((HM0.out.upd hu3 (by omega)).upd (Upd.of_gr (b := b) gO2) (by omega))
              have n0 : ((w3.alloc (.cells #[.int .i64 f, .int .i64 t] 37)).alloc (.cells #[.int .i64 f, .int .i64 t] 37)).cell? ⟨w3.heap.size + 1, 0, none⟩ = some (.int .i64 f) := by rw [World.cell?_alloc_at _ _ _ _ (by simp)]; rfl
              have n1 : ((w3.alloc (.cells #[.int .i64 f, .int .i64 t] 37)).alloc (.cells #[.int .i64 f, .int .i64 t] 37)).cell? ⟨w3.heap.size + 1, 1, none⟩ = some (.int .i64 t) := by rw [World.cell?_alloc_at _ _ _ _ (by simp)]; rfl
              have HP := Lib.hid (HPUT.out _ _ HM3.out n0 n1 (by omega))
              clear hr3 hu3 HT HRk HM HM0 HU hm3 n0 n1 HPUT gO2
              go_wp2_with fail
              refine HP.out.mono ?_; rintro e w4 ⟨⟨u, rfl⟩, hm4, hu4⟩
              have HR4 := Lib.hid (HR3.out.upd hu4 (by omega))
              have HU4 := Lib.hid (HU3.out.own hu4 (by omega))
              have HM4 := Lib.hid hm4
              have HM04 := Lib.hid (HM03.out.upd hu4 (by omega))
              clear hm4 hu4 HR3 HU3 HM3 HM03 HP
              go_wp2_with fail
              refine (HRST.out _ HR4.out).mono ?_; rintro e w5 ⟨rfl, hr5, hu5⟩
              have HRa := Lib.hid hr5
              have HUa := Lib.hid (HU4.out.trans hu5)
              have HMa := Lib.hid (HM4.out.upd hu5 (by omega))
              have HM0a := Lib.hid (HM04.out.upd hu5 (by omega))
              clear hr5 hu5 HR4 HU4 HM4 HM04 HRST
              go_wp2_with fail
              refine (HTP.out _ HRa.out).mono ?_; rintro e w6 ⟨rfl, hr6, hu6⟩
              rw [if_neg (by simp)] at hr6
              replace HRa := Lib.hid hr6
              replace HMa := Lib.hid (HMa.out.upd hu6 (by omega))
              replace HM0a := Lib.hid (HM0a.out.upd hu6 (by omega))
              replace HUa := Lib.hid (HUa.out.trans hu6)
              clear hr6 hu6 HTP
              go_wp2_with fail
              refine (HTM.out _ HRa.out).mono ?_; rintro e w6 ⟨rfl, hr6, hu6⟩
              rw [if_pos trivial] at hr6
              replace HRa := Lib.hid hr6
              replace HMa := Lib.hid (HMa.out.upd hu6 (by omega))
              replace HM0a := Lib.hid (HM0a.out.upd hu6 (by omega))
              replace HUa := Lib.hid (HUa.out.trans hu6)
              clear hr6 hu6 HTM
              have HPa := Lib.hid HRa.out.pos
              go_wp2
              go_roundw
              case rel => exact ⟨n, g2, false, K2 + 1, rfl, by omega, by omega, hg2, HVm, HRa, HMa, HM0a, HUa⟩
              case measure => rw [HPa.out, HPk.out]; omega
          · have HVm : Hid (memF s.data.toList n g2 true (K2 + 1) = V) := Lib.hid (by have := HVn.out; rwa [if_neg (by omega), if_pos rfl] at this)
            rw [decide_eq_false hKs] at hin2
            have hlt := HL1.out rfl
            clear HVn HTM
            go_wp2_with fail
            refine HT.out.mono ?_; rintro e w3 ⟨rfl, hr3, hu3⟩
            have hbs := cellLt hr3.c0
            have gO2 : Gr w3 ((w3.alloc (.cells #[.int .i64 f, .int .i64 t] 37)).alloc (.cells #[.int .i64 f, .int .i64 t] 37)) := ((Gr.refl w3).alloc _).alloc _
            have hm3 := HM.out.upd hu3 (by omega)
            have hml : w.heap.size + 1 < w3.heap.size := (Array.getElem?_eq_some_iff.1 hm3).1
            have HR3 := Lib.hid (hr3.gr gO2)
            have HU3 := Lib.hid ((HU.out.trans hu3).trans (Upd.of_gr (b := b) gO2))
            have HM3 := Lib.hid (hm3.upd (Upd.of_gr (b := b) gO2) (by omega))
            have HM03 := Lib.hid ((HM0.out.upd hu3 (by omega)).upd (Upd.of_gr (b := b) gO2) (by omega))
            have n0 : ((w3.alloc (.cells #[.int .i64 f, .int .i64 t] 37)).alloc (.cells #[.int .i64 f, .int .i64 t] 37)).cell? ⟨w3.heap.size + 1, 0, none⟩ = some (.int .i64 f) := by rw [World.cell?_alloc_at _ _ _ _ (by simp)]; rfl
            have n1 : ((w3.alloc (.cells #[.int .i64 f, .int .i64 t] 37)).alloc (.cells #[.int .i64 f, .int .i64 t] 37)).cell? ⟨w3.heap.size + 1, 1, none⟩ = some (.int .i64 t) := by rw [World.cell?_alloc_at _ _ _ _ (by simp)]; rfl
            have HP := Lib.hid (HPUT.out _ _ HM3.out n0 n1 (by omega))
            clear hr3 hu3 HT HRk HM HM0 HU hm3 n0 n1 HPUT gO2
            go_wp2_with fail
            refine HP.out.mono ?_; rintro e w4 ⟨⟨u, rfl⟩, hm4, hu4⟩
            have HR4 := Lib.hid (HR3.out.upd hu4 (by omega))
            have HU4 := Lib.hid (HU3.out.own hu4 (by omega))
            have HM4 := Lib.hid hm4
            have HM04 := Lib.hid (HM03.out.upd hu4 (by omega))
            clear hm4 hu4 HR3 HU3 HM3 HM03 HP
            go_wp2_with fail
            refine (HRST.out _ HR4.out).mono ?_; rintro e w5 ⟨rfl, hr5, hu5⟩
            have HRa := Lib.hid hr5
            have HUa := Lib.hid (HU4.out.trans hu5)
            have HMa := Lib.hid (HM4.out.upd hu5 (by omega))
            have HM0a := Lib.hid (HM04.out.upd hu5 (by omega))
            clear hr5 hu5 HR4 HU4 HM4 HM04 HRST
            go_wp2_with fail
            refine (HTP.out _ HRa.out).mono ?_; rintro e w6 ⟨rfl, hr6, hu6⟩
            rw [if_pos trivial] at hr6
            replace HRa := Lib.hid hr6
            replace HMa := Lib.hid (HMa.out.upd hu6 (by omega))
            replace HM0a := Lib.hid (HM0a.out.upd hu6 (by omega))
            replace HUa := Lib.hid (HUa.out.trans hu6)
            clear hr6 hu6 HTP
            have HPa := Lib.hid HRa.out.pos
            go_wp2
            go_roundw
            case rel => exact ⟨n, g2, true, K2 + 1, rfl, by omega, by omega, hg2, HVm, HRa, HMa, HM0a, HUa⟩
            case measure => rw [HPa.out, HPk.out]; omega
      · have hv : (g, e, k1) = V := by have := HVn.out; rwa [if_pos he] at this
        subst hv
        have he2 : (e == 0) = false := by rw [beq_eq_false_iff_ne]; exact he
        clear HVn hok
        go_wp2_with fail
        refine HT.out.mono ?_; rintro e w3 ⟨rfl, hr3, hu3⟩
        have HR3 := Lib.hid hr3
        have HU3 := Lib.hid (HU.out.trans hu3)
        have HM3 := Lib.hid (HM.out.upd hu3 (by omega))
        have HM03 := Lib.hid (HM0.out.upd hu3 (by omega))
        have HMa := Lib.hid (HM3.out.gb (World.grownBy_alloc w3 (.cells #[.int .i64 f, .int .i64 t] 37) none) (fun r e => by cases e))
        have HM0a := Lib.hid (HM03.out.gb (World.grownBy_alloc w3 (.cells #[.int .i64 f, .int .i64 t] 37) none) (fun r e => by cases e))
        have HUa := Lib.hid (HU3.out.trans (Upd.of_gr (b := b) ((Gr.refl w3).alloc (.cells #[.int .i64 f, .int .i64 t] 37))))
        have HRa := Lib.hid (HR3.out.gr ((Gr.refl w3).alloc (.cells #[.int .i64 f, .int .i64 t] 37)))
        clear HT HRk HM HM0 HU HR3 HM3 HM03 HU3
        go_wp2
        refine wp_load82 _ rfl (w.heap.size + 1) (memA g) rfl HMa.out (memA_size _) hzs ?_
        go_wp2
        rw [run_store82 HM0a.out (memA_size _) (memA_size _) (memA_one _) hzs]
        simp only [Result.andThen]
        rw [Oper.upon_skip]
        have HMb := Lib.hid (HM0a.out.row g)
        have HUb := Lib.hid (HUa.out.own (Upd.row _ w.heap.size (memA g)) (Nat.le_refl _))
        have HRb := Lib.hid (HRa.out.upd (Upd.row _ w.heap.size (memA g)) (by omega))
        go_wp2
        refine bodyPost_ret (v := .tuple #[.agg (memA g), .int .i64 e]) ?_ rfl ⟨rfl, HRb.out, HUb.out⟩
        rw [results_cell_tmp rfl]
        simp [asAddr, Result.andThen, run_load82 HMb.out (memA_size _) hzs]
end Go.Proofs.YtjideokeokmbaaaGreatDoor
