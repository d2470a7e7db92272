/- Records: Pack, both sides. -/
import Derived.Test.YtlcpfhgobfjioaaDoorRcD
import Derived.Deep.RegionHeld3
import Derived.Deep.RegionWith
set_option linter.unusedVariables false
set_option linter.unusedSimpArgs false
namespace Go.Proofs.YtlcpfhgobfjioaaDoor
open Go.RowKit
open Z Rc

/-- a record as a value -/
abbrev vE (x : E) : Value := .agg #[.int .i64 x.1, .string x.2]
theorem cell_lt {w : World} {b o : Nat} {v : Value} (h : w.cell? ⟨b, o, none⟩ = some v) : b < w.heap.size := by
  by_cases hb : b < w.heap.size
  · exact hb
  · exfalso
    have : w.heap[b]? = none := Array.getElem?_eq_none (by omega)
    simp [World.cell?, this] at h
theorem gr_cell {W w1 : World} (h : Gr W w1) {b o : Nat} {v : Value} (hc : W.cell? ⟨b, o, none⟩ = some v) : w1.cell? ⟨b, o, none⟩ = some v :=
  (Below.cell h (p := ⟨b, o, none⟩) (cell_lt hc)).trans hc
theorem pk_parts (k : Nat) (d : ByteArray) : str (pkE ((k : Int), d)) = str [by8 k] ++ str (two d.size) ++ d ++ str (two (sm (str [by8 k] ++ str (two d.size) ++ d).data.toList)) := by
  apply ba_ext
  unfold pkE pk hd
  simp only [data_str, Int.toNat_natCast, ByteArray.data_append, Array.toList_append, sz]
  simp
def packE (x : E) : List UInt8 × Int := if chkE x ≠ 0 then ([], chkE x) else (pkE x, 0)
theorem cvtC {n b : Nat} {w1 : World} (hn : n < 256) (h : w1.cell? ⟨b, 0, none⟩ = some (.int .u8 (n : Int))) : (convert 35 9 (.slice (some ⟨b, 0, none⟩) 1 1)).run Tryd.prog w1 = .ok (.string (str [by8 n])) w1 := by
  refine run_convert_bytes_back _ 35 9 5 ⟨b, 0, none⟩ 1 [by8 n] (by kernel_rfl) (by kernel_rfl) (by kernel_rfl) (fun j hj => ?_)
  have : j = 0 := by simpa using hj
  subst this
  show World.cell? _ ⟨b, 0, none⟩ = _
  rw [h]
  simp [by8_toNat hn]
set_option maxHeartbeats 4000000 in
set_option maxRecDepth 100000 in
theorem rc_Pack (x : E) (w : World) (hx : x.2.size ≤ maxLen) :
    Calls Tryd.prog 23 #[vE x] w fun e w' => e = .returned (xV (packE x)) ∧ Gr w w' := by
  obtain ⟨k, d⟩ := x
  unfold packE chkE xV vE
  unfold maxLen at hx
  simp only [] at hx ⊢
  have k0 : (w.alloc (.cells #[.int .i64 k, .string d] 54)).cell? ⟨w.heap.size, 0, none⟩ = some (.int .i64 k) := by simp
  have k1 : (w.alloc (.cells #[.int .i64 k, .string d] 54)).cell? ⟨w.heap.size, 1, none⟩ = some (.string d) := by simp
  have g0 : Gr w (w.alloc (.cells #[.int .i64 k, .string d] 54)) := (Gr.refl w).alloc _
  have HG := Lib.hid g0
  clear g0
  by_cases h1 : k < 0
  · rw [if_pos (show k < 0 ∨ 255 < k from .inl h1), if_pos (by decide)]
    go_enter Tryd.func23, Tryd.ntmps23
    go_wp2
    go_ret2
    exact ⟨rfl, HG.out⟩
  · by_cases h2 : 255 < k
    · rw [if_pos (show k < 0 ∨ 255 < k from .inr h2), if_pos (by decide)]
      go_enter Tryd.func23, Tryd.ntmps23
      go_wp2
      go_ret2
      exact ⟨rfl, HG.out⟩
    · rw [if_neg (show ¬ (k < 0 ∨ 255 < k) by omega)]
      by_cases h3 : 65535 < d.size
      · rw [if_pos h3, if_pos (by decide)]
        go_enter Tryd.func23, Tryd.ntmps23
        go_wp2
        go_ret2
        exact ⟨rfl, HG.out⟩
      · rw [if_neg h3, if_neg (by decide)]
        obtain ⟨n, rfl⟩ : ∃ n : Nat, k = n := ⟨k.toNat, by omega⟩
        have hn : n < 256 := by omega
        have hd : d.size ≤ 65535 := by omega
        simp only []
        rw [pk_parts]
        have C2 := Lib.hid (fun w => rc_pair d.size w (by omega))
        have HCV := Lib.hid (fun (b : Nat) (w1 : World) => cvtC (b := b) (w1 := w1) hn)
        have hcv0 : ∀ w0 : World, (convert 35 9 (.slice (some ⟨w0.heap.size, 0, none⟩) 1 1)).run Tryd.prog (w0.alloc (.cells #[.int .u8 (n : Int)] 5)) = .ok (.string (str [by8 n])) (w0.alloc (.cells #[.int .u8 (n : Int)] 5)) := fun w0 => cvtC hn (by simp)
        have z1 : (str [by8 n]).size = 1 := by rw [str_sz]; simp
        have z2 : (str (two d.size)).size = 2 := by rw [str_sz]; simp [two]
        generalize str [by8 n] = a at *
        generalize str (two d.size) = b at *
        have z12 : (a ++ b).size = 3 := by rw [ByteArray.size_append]; omega
        have z3 : (a ++ b ++ d).size = 3 + d.size := by rw [ByteArray.size_append, ByteArray.size_append]; omega
        have C3 := Lib.hid (fun w => rc_Sum (a ++ b ++ d) w (by unfold maxLen; omega))
        have hs := sm_lt (a ++ b ++ d).data.toList
        have C4 := Lib.hid (fun w => rc_pair (sm (a ++ b ++ d).data.toList) w hs)
        have z4 : (str (two (sm (a ++ b ++ d).data.toList))).size = 2 := by rw [str_sz]; simp [two]
        generalize sm (a ++ b ++ d).data.toList = S at *
        generalize str (two S) = c at *
        have hadd : ∀ w, (Op.stringOp .add (a ++ b) d).run Tryd.prog w = .ok (.string (a ++ b ++ d)) w := fun w => run_string_add_sum _ _ _ (by omega)
        have hwr : IntKind.u8.wrap (n : Int) = (n : Int) := by
          show (n : Int) % 2 ^ 8 = _
          omega
        have hS0 : (fun W : World => W.cell? ⟨w.heap.size, 0, none⟩ = some (.int .i64 (n : Int)) ∧ W.cell? ⟨w.heap.size, 1, none⟩ = some (.string d)) (w.alloc (.cells #[.int .i64 (n : Int), .string d] 54)).drew := ⟨by simp, by simp⟩
        clear h1 h2 h3 hcv0
        go_enter Tryd.func23, Tryd.ntmps23
        go_wp2_with fail
        refine wp_region_held (S := fun W : World => W.cell? ⟨w.heap.size, 0, none⟩ = some (.int .i64 (n : Int)) ∧ W.cell? ⟨w.heap.size, 1, none⟩ = some (.string d)) (by kernel_rfl) ?_
        change wpAnyH _ _ _ _ _ _ _ _ (World.drew _)
        have hG1 : Gr w (w.alloc (.cells #[.int .i64 (n : Int), .string d] 54)).drew := ((Gr.refl w).alloc _).drew
        generalize (w.alloc (.cells #[.int .i64 (n : Int), .string d] 54)).drew = W1 at *
        clear HG k0 k1
        refine wpAnyH_take (i := 0) (v := .pointer (some ⟨w.heap.size, 0, none⟩)) rfl (by kernel_rfl) (by kernel_rfl) (by kernel_rfl) (fun _ _ _ h => h) (Or.inl ⟨by rfl, ?_⟩) hS0 ?_
        · intro w hSw; obtain ⟨c0, c1⟩ := hSw; go_simp
        try simp only [Act.put, List.getElem_toArray, List.getElem_cons_succ, List.getElem_cons_zero, List.setIfInBounds_toArray, List.set_cons_zero, List.set_cons_succ]
        refine wpAnyH_take (i := 1) (v := .int .i64 (n : Int)) rfl (by kernel_rfl) (by kernel_rfl) (by kernel_rfl) (fun _ _ _ h => h) (Or.inl ⟨by rfl, ?_⟩) hS0 ?_
        · intro w hSw; obtain ⟨c0, c1⟩ := hSw; go_simp
        try simp only [Act.put, List.getElem_toArray, List.getElem_cons_succ, List.getElem_cons_zero, List.setIfInBounds_toArray, List.set_cons_zero, List.set_cons_succ]
        refine wpAnyH_take (i := 2) (v := .int .u8 (n : Int)) rfl (by kernel_rfl) (by kernel_rfl) (by kernel_rfl) (fun _ _ _ h => h) (Or.inl ⟨by rfl, ?_⟩) hS0 ?_
        · intro w hSw; obtain ⟨c0, c1⟩ := hSw; go_simp
        try simp only [Act.put, List.getElem_toArray, List.getElem_cons_succ, List.getElem_cons_zero, List.setIfInBounds_toArray, List.set_cons_zero, List.set_cons_succ]
        refine wpAnyH_take (i := 5) (v := .pointer (some ⟨w.heap.size, 1, none⟩)) rfl (by kernel_rfl) (by kernel_rfl) (by kernel_rfl) (fun _ _ _ h => h) (Or.inl ⟨by rfl, ?_⟩) hS0 ?_
        · intro w hSw; obtain ⟨c0, c1⟩ := hSw; go_simp
        try simp only [Act.put, List.getElem_toArray, List.getElem_cons_succ, List.getElem_cons_zero, List.setIfInBounds_toArray, List.set_cons_zero, List.set_cons_succ]
        refine wpAnyH_take (i := 6) (v := .string d) rfl (by kernel_rfl) (by kernel_rfl) (by kernel_rfl) (fun _ _ _ h => h) (Or.inl ⟨by rfl, ?_⟩) hS0 ?_
        · intro w hSw; obtain ⟨c0, c1⟩ := hSw; go_simp
        try simp only [Act.put, List.getElem_toArray, List.getElem_cons_succ, List.getElem_cons_zero, List.setIfInBounds_toArray, List.set_cons_zero, List.set_cons_succ]
        refine wpAnyH_take (i := 7) (v := .int .i64 (d.size : Int)) rfl (by kernel_rfl) (by kernel_rfl) (by kernel_rfl) (fun _ _ _ h => h) (Or.inl ⟨by rfl, ?_⟩) hS0 ?_
        · intro w hSw; obtain ⟨c0, c1⟩ := hSw; go_simp
        try simp only [Act.put, List.getElem_toArray, List.getElem_cons_succ, List.getElem_cons_zero, List.setIfInBounds_toArray, List.set_cons_zero, List.set_cons_succ]
        refine wpAnyH_take (i := 10) (v := .pointer (some ⟨w.heap.size, 1, none⟩)) rfl (by kernel_rfl) (by kernel_rfl) (by kernel_rfl) (fun _ _ _ h => h) (Or.inl ⟨by rfl, ?_⟩) hS0 ?_
        · intro w hSw; obtain ⟨c0, c1⟩ := hSw; go_simp
        try simp only [Act.put, List.getElem_toArray, List.getElem_cons_succ, List.getElem_cons_zero, List.setIfInBounds_toArray, List.set_cons_zero, List.set_cons_succ]
        refine wpAnyH_take (i := 11) (v := .string d) rfl (by kernel_rfl) (by kernel_rfl) (by kernel_rfl) (fun _ _ _ h => h) (Or.inl ⟨by rfl, ?_⟩) hS0 ?_
        · intro w hSw; obtain ⟨c0, c1⟩ := hSw; go_simp
        try simp only [Act.put, List.getElem_toArray, List.getElem_cons_succ, List.getElem_cons_zero, List.setIfInBounds_toArray, List.set_cons_zero, List.set_cons_succ]
        refine wpAnyH_ready (rs := [3, 8]) (by kernel_rfl) (by simp) (AllReadyH.cons rfl (fun K' hK' => ?_) (AllReadyH.cons rfl (fun K' hK' => ?_) AllReadyH.nil))
        · go_simp
          have hb : (W1.alloc (.cells #[.int .u8 (n : Int)] 5)).cell? ⟨W1.heap.size, 0, none⟩ = some (.int .u8 (n : Int)) := by simp
          have hcv := HCV.out _ _ hb
          have hg2 : Gr W1 (W1.alloc (.cells #[.int .u8 (n : Int)] 5)) := (Gr.refl _).alloc _
          refine hK'.out _ _ ⟨gr_cell hg2 hS0.1, gr_cell hg2 hS0.2⟩ (fun hS1 => ?_)
          clear hK' K'
          try simp only [Act.put, List.getElem_toArray, List.getElem_cons_succ, List.getElem_cons_zero, List.setIfInBounds_toArray, List.set_cons_zero, List.set_cons_succ]
          have hG2 := Gr.trans hG1 hg2
          generalize W1.alloc (.cells #[.int .u8 (n : Int)] 5) = W2 at *
          generalize W1.heap.size = B at *
          refine wpAnyH_ready (rs := [4, 8]) (by kernel_rfl) (by simp) (AllReadyH.cons rfl (fun K' hK' => ?_) (AllReadyH.cons rfl (fun K' hK' => ?_) AllReadyH.nil))
          · go_simp
            refine hK'.out _ _ hS1 (fun hS2 => ?_)
            clear hK' K' hcv
            try simp only [Act.put, List.getElem_toArray, List.getElem_cons_succ, List.getElem_cons_zero, List.setIfInBounds_toArray, List.set_cons_zero, List.set_cons_succ]
            refine wpAnyH_ready (rs := [8]) (by kernel_rfl) (by simp) (AllReadyH.cons rfl (fun K' hK' => ?_) AllReadyH.nil)
            go_simp
            refine (C2.out _).mono ?_; rintro e w6 ⟨rfl, h6⟩
            refine hK'.out _ _ ⟨gr_cell h6 hS2.1, gr_cell h6 hS2.2⟩ (fun hS3 => ?_)
            clear hK' K'
            try simp only [Act.put, List.getElem_toArray, List.getElem_cons_succ, List.getElem_cons_zero, List.setIfInBounds_toArray, List.set_cons_zero, List.set_cons_succ]
            have HG6 := Lib.hid (Gr.trans hG2 h6)
            clear hS0 hS1 hS2 hG1 hG2 hg2 hb h6
            refine wpAnyH_take (i := 9) (v := .string (a ++ b)) rfl (by kernel_rfl) (by kernel_rfl) (by kernel_rfl) (fun _ _ _ h => h) (Or.inl ⟨by rfl, ?_⟩) hS3 ?_
            · intro w hSw; go_simp
            try simp only [Act.put, List.getElem_toArray, List.getElem_cons_succ, List.getElem_cons_zero, List.setIfInBounds_toArray, List.set_cons_zero, List.set_cons_succ]
            refine wpAnyH_take (i := 12) (v := .string (a ++ b ++ d)) rfl (by kernel_rfl) (by kernel_rfl) (by kernel_rfl) (fun _ _ _ h => h) (Or.inl ⟨by rfl, ?_⟩) hS3 ?_
            · intro w hSw; go_simp
            try simp only [Act.put, List.getElem_toArray, List.getElem_cons_succ, List.getElem_cons_zero, List.setIfInBounds_toArray, List.set_cons_zero, List.set_cons_succ]
            refine wpAnyH_take (i := 13) (v := .string (a ++ b ++ d)) rfl (by kernel_rfl) (by kernel_rfl) (by kernel_rfl) (fun _ _ _ h => h) (Or.inl ⟨by rfl, ?_⟩) hS3 ?_
            · intro w hSw; go_simp
            try simp only [Act.put, List.getElem_toArray, List.getElem_cons_succ, List.getElem_cons_zero, List.setIfInBounds_toArray, List.set_cons_zero, List.set_cons_succ]
            refine wpAnyH_done (by kernel_rfl) ?_ _
            clear hS3
            go_wp2_with fail
            refine (C3.out _).mono ?_; rintro e w8 ⟨rfl, rfl⟩
            go_wp2_with fail
            refine (C4.out _).mono ?_; rintro e w9 ⟨rfl, hg9⟩
            have HG9 := Lib.hid (Gr.trans HG6.out hg9); clear hg9
            go_wp2
            go_ret2
            exact ⟨rfl, HG9.out⟩
          · go_simp
            refine (C2.out _).mono ?_; rintro e w6 ⟨rfl, h6⟩
            refine hK'.out _ _ ⟨gr_cell h6 hS1.1, gr_cell h6 hS1.2⟩ (fun hS2 => ?_)
            clear hK' K' hcv
            try simp only [Act.put, List.getElem_toArray, List.getElem_cons_succ, List.getElem_cons_zero, List.setIfInBounds_toArray, List.set_cons_zero, List.set_cons_succ]
            have hcv := HCV.out _ _ (gr_cell h6 hb)
            refine wpAnyH_ready (rs := [4]) (by kernel_rfl) (by simp) (AllReadyH.cons rfl (fun K' hK' => ?_) AllReadyH.nil)
            go_simp
            refine hK'.out _ _ hS2 (fun hS3 => ?_)
            clear hK' K' hcv
            try simp only [Act.put, List.getElem_toArray, List.getElem_cons_succ, List.getElem_cons_zero, List.setIfInBounds_toArray, List.set_cons_zero, List.set_cons_succ]
            have HG6 := Lib.hid (Gr.trans hG2 h6)
            clear hS0 hS1 hS2 hG1 hG2 hg2 hb h6
            refine wpAnyH_take (i := 9) (v := .string (a ++ b)) rfl (by kernel_rfl) (by kernel_rfl) (by kernel_rfl) (fun _ _ _ h => h) (Or.inl ⟨by rfl, ?_⟩) hS3 ?_
            · intro w hSw; go_simp
            try simp only [Act.put, List.getElem_toArray, List.getElem_cons_succ, List.getElem_cons_zero, List.setIfInBounds_toArray, List.set_cons_zero, List.set_cons_succ]
            refine wpAnyH_take (i := 12) (v := .string (a ++ b ++ d)) rfl (by kernel_rfl) (by kernel_rfl) (by kernel_rfl) (fun _ _ _ h => h) (Or.inl ⟨by rfl, ?_⟩) hS3 ?_
            · intro w hSw; go_simp
            try simp only [Act.put, List.getElem_toArray, List.getElem_cons_succ, List.getElem_cons_zero, List.setIfInBounds_toArray, List.set_cons_zero, List.set_cons_succ]
            refine wpAnyH_take (i := 13) (v := .string (a ++ b ++ d)) rfl (by kernel_rfl) (by kernel_rfl) (by kernel_rfl) (fun _ _ _ h => h) (Or.inl ⟨by rfl, ?_⟩) hS3 ?_
            · intro w hSw; go_simp
            try simp only [Act.put, List.getElem_toArray, List.getElem_cons_succ, List.getElem_cons_zero, List.setIfInBounds_toArray, List.set_cons_zero, List.set_cons_succ]
            refine wpAnyH_done (by kernel_rfl) ?_ _
            clear hS3
            go_wp2_with fail
            refine (C3.out _).mono ?_; rintro e w8 ⟨rfl, rfl⟩
            go_wp2_with fail
            refine (C4.out _).mono ?_; rintro e w9 ⟨rfl, hg9⟩
            have HG9 := Lib.hid (Gr.trans HG6.out hg9); clear hg9
            go_wp2
            go_ret2
            exact ⟨rfl, HG9.out⟩
        · go_simp
          refine (C2.out _).mono ?_; rintro e w6 ⟨rfl, h6⟩
          refine hK'.out _ _ ⟨gr_cell h6 hS0.1, gr_cell h6 hS0.2⟩ (fun hS1 => ?_)
          clear hK' K'
          try simp only [Act.put, List.getElem_toArray, List.getElem_cons_succ, List.getElem_cons_zero, List.setIfInBounds_toArray, List.set_cons_zero, List.set_cons_succ]
          refine wpAnyH_ready (rs := [3]) (by kernel_rfl) (by simp) (AllReadyH.cons rfl (fun K' hK' => ?_) AllReadyH.nil)
          go_simp
          have hb : (w6.alloc (.cells #[.int .u8 (n : Int)] 5)).cell? ⟨w6.heap.size, 0, none⟩ = some (.int .u8 (n : Int)) := by simp
          have hcv := HCV.out _ _ hb
          have hg2 : Gr w6 (w6.alloc (.cells #[.int .u8 (n : Int)] 5)) := (Gr.refl _).alloc _
          refine hK'.out _ _ ⟨gr_cell hg2 hS1.1, gr_cell hg2 hS1.2⟩ (fun hS2 => ?_)
          clear hK' K'
          try simp only [Act.put, List.getElem_toArray, List.getElem_cons_succ, List.getElem_cons_zero, List.setIfInBounds_toArray, List.set_cons_zero, List.set_cons_succ]
          have hG2 := Gr.trans (Gr.trans hG1 h6) hg2
          generalize w6.alloc (.cells #[.int .u8 (n : Int)] 5) = W2 at *
          generalize w6.heap.size = B at *
          refine wpAnyH_ready (rs := [4]) (by kernel_rfl) (by simp) (AllReadyH.cons rfl (fun K' hK' => ?_) AllReadyH.nil)
          go_simp
          refine hK'.out _ _ hS2 (fun hS3 => ?_)
          clear hK' K' hcv
          try simp only [Act.put, List.getElem_toArray, List.getElem_cons_succ, List.getElem_cons_zero, List.setIfInBounds_toArray, List.set_cons_zero, List.set_cons_succ]
          have HG6 := Lib.hid hG2
          clear hS0 hS1 hS2 hG1 hG2 hg2 hb h6
          refine wpAnyH_take (i := 9) (v := .string (a ++ b)) rfl (by kernel_rfl) (by kernel_rfl) (by kernel_rfl) (fun _ _ _ h => h) (Or.inl ⟨by rfl, ?_⟩) hS3 ?_
          · intro w hSw; go_simp
          try simp only [Act.put, List.getElem_toArray, List.getElem_cons_succ, List.getElem_cons_zero, List.setIfInBounds_toArray, List.set_cons_zero, List.set_cons_succ]
          refine wpAnyH_take (i := 12) (v := .string (a ++ b ++ d)) rfl (by kernel_rfl) (by kernel_rfl) (by kernel_rfl) (fun _ _ _ h => h) (Or.inl ⟨by rfl, ?_⟩) hS3 ?_
          · intro w hSw; go_simp
          try simp only [Act.put, List.getElem_toArray, List.getElem_cons_succ, List.getElem_cons_zero, List.setIfInBounds_toArray, List.set_cons_zero, List.set_cons_succ]
          refine wpAnyH_take (i := 13) (v := .string (a ++ b ++ d)) rfl (by kernel_rfl) (by kernel_rfl) (by kernel_rfl) (fun _ _ _ h => h) (Or.inl ⟨by rfl, ?_⟩) hS3 ?_
          · intro w hSw; go_simp
          try simp only [Act.put, List.getElem_toArray, List.getElem_cons_succ, List.getElem_cons_zero, List.setIfInBounds_toArray, List.set_cons_zero, List.set_cons_succ]
          refine wpAnyH_done (by kernel_rfl) ?_ _
          clear hS3
          go_wp2_with fail
          refine (C3.out _).mono ?_; rintro e w8 ⟨rfl, rfl⟩
          go_wp2_with fail
          refine (C4.out _).mono ?_; rintro e w9 ⟨rfl, hg9⟩
          have HG9 := Lib.hid (Gr.trans HG6.out hg9); clear hg9
          go_wp2
          go_ret2
          exact ⟨rfl, HG9.out⟩
end Go.Proofs.YtlcpfhgobfjioaaDoor
