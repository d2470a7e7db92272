/- Law 7: the reader's kind. -/
import Derived.Test.YtlcpfhgobfjioaaDoorLxE
set_option linter.unusedVariables false
set_option linter.unusedSimpArgs false
namespace Go.Proofs.YtlcpfhgobfjioaaDoor
open Go.RowKit Go.Shelf
open Z
theorem nextB_at {p : UInt8 → Bool} {s : ByteArray} {k : Nat} {c : UInt8} (h : s.data.toList[k]? = some c) : nextB p s k = p c := by unfold nextB; rw [h]
theorem lt_of_get {s : ByteArray} {k : Nat} {c : UInt8} (h : s.data.toList[k]? = some c) : k < s.size := by
  by_cases hk : k < s.size
  · exact hk
  · rw [List.getElem?_eq_none (by simp; omega)] at h; cases h
set_option maxRecDepth 100000 in
set_option maxHeartbeats 4000000 in
theorem lx_kind_end (b : Nat) (s : ByteArray) (k : Nat) (w : World) (hr : RdrAt w b s k) (hs : s.size ≤ 100000) (hk : k = s.size) :
    Calls Tryd.prog 58 #[.pointer (some ⟨b, 0, none⟩)] w fun e w' => e = .returned (.tuple #[.int .i64 3, .int .i64 0]) ∧ RdrAt w' b s (k) ∧ Upd b w w' := by
  have hsz : s.data.toList.length = s.size := by simp
  have hz : ((k : Int) == (s.size : Int)) = true := by simp [hk]
  clear hk
  have HRr := Lib.hid hr
  obtain ⟨c0, c1, f1⟩ := hr
  go_enter Tryd.func58, Tryd.ntmps58
  go_wp2_with fail
  go_quiet (fail)
  rename_i nq
  have HR0 := Lib.hid (HRr.out.gr (below_drewN (Gr.refl w) nq))
  have HU0 := Lib.hid (Upd.of_gr (b := b) (below_drewN (Gr.refl w) nq))
  clear HRr c0 c1 f1 hz
  generalize w.drewN nq = wq at *
  go_wp2
  go_ret2
  exact ⟨rfl, HR0.out, HU0.out⟩
set_option maxRecDepth 100000 in
set_option maxHeartbeats 4000000 in
theorem lx_kind_word (b : Nat) (s : ByteArray) (k : Nat) (w : World) (hr : RdrAt w b s k) (hs : s.size ≤ 100000) (c : UInt8) (hc : s.data.toList[k]? = some c) (h1 : letP c = true) :
    Calls Tryd.prog 58 #[.pointer (some ⟨b, 0, none⟩)] w fun e w' => e = .returned (.tuple #[.int .i64 0, .int .i64 0]) ∧ RdrAt w' b s (runK wordP s.data.toList (k + 1)) ∧ Upd b w w' := by
  have hsz : s.data.toList.length = s.size := by simp
  have hkl := lt_of_get hc
  have hz : ((k : Int) == (s.size : Int)) = false := by rw [beq_eq_false_iff_ne]; omega
  have hn1 : nextB letP s k = true := (nextB_at hc).trans h1
  clear hc h1
  have HRr := Lib.hid hr
  obtain ⟨c0, c1, f1⟩ := hr
  go_enter Tryd.func58, Tryd.ntmps58
  go_wp2_with fail
  go_quiet (fail)
  rename_i nq
  have HR0 := Lib.hid (HRr.out.gr (below_drewN (Gr.refl w) nq))
  have HU0 := Lib.hid (Upd.of_gr (b := b) (below_drewN (Gr.refl w) nq))
  clear HRr c0 c1 f1 hz
  generalize w.drewN nq = wq at *
  go_wp2_with fail
  refine (lx_letter b _ HR0.out.lt).mono ?_; rintro e w1 ⟨v1, rfl, hc, hg⟩
  have HR1 := Lib.hid (HR0.out.gr hg)
  have HU1 := Lib.hid (HU0.out.trans (Upd.of_gr hg))
  have HC := Lib.hid hc
  clear hc hg HR0 HU0
  have hN := lx_nextR b s (k) _ (letP) _ HR1.out HC.out hs (by omega)
  rw [hn1] at hN
  simp only [if_true] at hN
  have HN := Lib.hid hN
  clear hN HC
  go_wp2_with fail
  refine HN.out.mono ?_; rintro e w2 ⟨rfl, hr, hu⟩
  have HR2 := Lib.hid hr
  have HU2 := Lib.hid (HU1.out.trans hu)
  clear hr hu HN HR1 HU1
  go_wp2_with fail
  refine (lx_behindLetter b _ HR2.out.lt).mono ?_; rintro e w3 ⟨v3, rfl, hc, hg⟩
  have HR3 := Lib.hid (HR2.out.gr hg)
  have HU3 := Lib.hid (HU2.out.trans (Upd.of_gr hg))
  have HC := Lib.hid hc
  clear hc hg HR2 HU2
  have HN := Lib.hid (lx_run b s (k + 1) _ (wordP) _ HR3.out HC.out hs (by omega))
  clear HC
  go_wp2_with fail
  refine HN.out.mono ?_; rintro e w4 ⟨rfl, hr, hu⟩
  have HR4 := Lib.hid hr
  have HU4 := Lib.hid (HU3.out.trans hu)
  clear hr hu HN HR3 HU3
  go_wp2
  go_ret2
  exact ⟨rfl, HR4.out, HU4.out⟩
set_option maxRecDepth 100000 in
set_option maxHeartbeats 4000000 in
theorem lx_kind_quote (b : Nat) (s : ByteArray) (k : Nat) (w : World) (hr : RdrAt w b s k) (hs : s.size ≤ 100000) (c : UInt8) (hc : s.data.toList[k]? = some c)(h1 : letP c = false) (h2 : c = 34) (h3 : s.data.toList[runK plainP s.data.toList (k + 1)]? = some 34) :
    Calls Tryd.prog 58 #[.pointer (some ⟨b, 0, none⟩)] w fun e w' => e = .returned (.tuple #[.int .i64 0, .int .i64 0]) ∧ RdrAt w' b s (runK plainP s.data.toList (k + 1) + 1) ∧ Upd b w w' := by
  have hsz : s.data.toList.length = s.size := by simp
  have hkl := lt_of_get hc
  have hz : ((k : Int) == (s.size : Int)) = false := by rw [beq_eq_false_iff_ne]; omega
  have hn1 : nextB letP s k = false := (nextB_at hc).trans h1
  have hn2 : nextB (fun c => c == 34) s k = true := (nextB_at hc).trans (by rw [h2]; rfl)
  have hrl := runK_le (p := plainP) (l := s.data.toList) (k := k + 1) (by omega)
  have hn3 : nextB (fun c => c == 34) s (runK plainP s.data.toList (k + 1)) = true := nextB_at h3
  clear hc h1 h2 h3
  have HRr := Lib.hid hr
  obtain ⟨c0, c1, f1⟩ := hr
  go_enter Tryd.func58, Tryd.ntmps58
  go_wp2_with fail
  go_quiet (fail)
  rename_i nq
  have HR0 := Lib.hid (HRr.out.gr (below_drewN (Gr.refl w) nq))
  have HU0 := Lib.hid (Upd.of_gr (b := b) (below_drewN (Gr.refl w) nq))
  clear HRr c0 c1 f1 hz
  generalize w.drewN nq = wq at *
  go_wp2_with fail
  refine (lx_letter b _ HR0.out.lt).mono ?_; rintro e w1 ⟨v1, rfl, hc, hg⟩
  have HR1 := Lib.hid (HR0.out.gr hg)
  have HU1 := Lib.hid (HU0.out.trans (Upd.of_gr hg))
  have HC := Lib.hid hc
  clear hc hg HR0 HU0
  have hN := lx_nextR b s (k) _ (letP) _ HR1.out HC.out hs (by omega)
  rw [hn1] at hN
  simp only [Bool.false_eq_true, if_false] at hN
  have HN := Lib.hid hN
  clear hN HC
  go_wp2_with fail
  refine HN.out.mono ?_; rintro e w2 ⟨rfl, hr, hu⟩
  have HR2 := Lib.hid hr
  have HU2 := Lib.hid (HU1.out.trans hu)
  clear hr hu HN HR1 HU1
  go_wp2_with fail
  refine (lx_one_quote b _ HR2.out.lt).mono ?_; rintro e w3 ⟨v3, rfl, hc, hg⟩
  have HR3 := Lib.hid (HR2.out.gr hg)
  have HU3 := Lib.hid (HU2.out.trans (Upd.of_gr hg))
  have HC := Lib.hid hc
  clear hc hg HR2 HU2
  have hN := lx_nextR b s (k) _ (fun c => c == 34) _ HR3.out HC.out hs (by omega)
  rw [hn2] at hN
  simp only [if_true] at hN
  have HN := Lib.hid hN
  clear hN HC
  go_wp2_with fail
  refine HN.out.mono ?_; rintro e w4 ⟨rfl, hr, hu⟩
  have HR4 := Lib.hid hr
  have HU4 := Lib.hid (HU3.out.trans hu)
  clear hr hu HN HR3 HU3
  go_wp2_with fail
  refine (lx_insideQuotes b _ HR4.out.lt).mono ?_; rintro e w5 ⟨v5, rfl, hc, hg⟩
  have HR5 := Lib.hid (HR4.out.gr hg)
  have HU5 := Lib.hid (HU4.out.trans (Upd.of_gr hg))
  have HC := Lib.hid hc
  clear hc hg HR4 HU4
  have HN := Lib.hid (lx_run b s (k + 1) _ (plainP) _ HR5.out HC.out hs (by omega))
  clear HC
  go_wp2_with fail
  refine HN.out.mono ?_; rintro e w6 ⟨rfl, hr, hu⟩
  have HR6 := Lib.hid hr
  have HU6 := Lib.hid (HU5.out.trans hu)
  clear hr hu HN HR5 HU5
  go_wp2_with fail
  refine (lx_one_quote b _ HR6.out.lt).mono ?_; rintro e w7 ⟨v7, rfl, hc, hg⟩
  have HR7 := Lib.hid (HR6.out.gr hg)
  have HU7 := Lib.hid (HU6.out.trans (Upd.of_gr hg))
  have HC := Lib.hid hc
  clear hc hg HR6 HU6
  have hN := lx_nextR b s (runK plainP s.data.toList (k + 1)) _ (fun c => c == 34) _ HR7.out HC.out hs (by omega)
  rw [hn3] at hN
  simp only [if_true] at hN
  have HN := Lib.hid hN
  clear hN HC
  go_wp2_with fail
  refine HN.out.mono ?_; rintro e w8 ⟨rfl, hr, hu⟩
  have HR8 := Lib.hid hr
  have HU8 := Lib.hid (HU7.out.trans hu)
  clear hr hu HN HR7 HU7
  go_wp2
  go_ret2
  exact ⟨rfl, HR8.out, HU8.out⟩
set_option maxRecDepth 100000 in
set_option maxHeartbeats 4000000 in
theorem lx_kind_open (b : Nat) (s : ByteArray) (k : Nat) (w : World) (hr : RdrAt w b s k) (hs : s.size ≤ 100000) (c : UInt8) (hc : s.data.toList[k]? = some c)(h1 : letP c = false) (h2 : c = 34) (h3 : ¬ s.data.toList[runK plainP s.data.toList (k + 1)]? = some 34) :
    Calls Tryd.prog 58 #[.pointer (some ⟨b, 0, none⟩)] w fun e w' => e = .returned (.tuple #[.int .i64 0, .int .i64 4]) ∧ RdrAt w' b s (runK plainP s.data.toList (k + 1)) ∧ Upd b w w' := by
  have hsz : s.data.toList.length = s.size := by simp
  have hkl := lt_of_get hc
  have hz : ((k : Int) == (s.size : Int)) = false := by rw [beq_eq_false_iff_ne]; omega
  have hn1 : nextB letP s k = false := (nextB_at hc).trans h1
  have hn2 : nextB (fun c => c == 34) s k = true := (nextB_at hc).trans (by rw [h2]; rfl)
  have hrl := runK_le (p := plainP) (l := s.data.toList) (k := k + 1) (by omega)
  have hn3 : nextB (fun c => c == 34) s (runK plainP s.data.toList (k + 1)) = false := by
    unfold nextB
    cases hq : s.data.toList[runK plainP s.data.toList (k + 1)]? with
    | none => rfl
    | some d => simp only [beq_eq_false_iff_ne]; rintro rfl; exact h3 hq
  clear hc h1 h2 h3
  have HRr := Lib.hid hr
  obtain ⟨c0, c1, f1⟩ := hr
  go_enter Tryd.func58, Tryd.ntmps58
  go_wp2_with fail
  go_quiet (fail)
  rename_i nq
  have HR0 := Lib.hid (HRr.out.gr (below_drewN (Gr.refl w) nq))
  have HU0 := Lib.hid (Upd.of_gr (b := b) (below_drewN (Gr.refl w) nq))
  clear HRr c0 c1 f1 hz
  generalize w.drewN nq = wq at *
  go_wp2_with fail
  refine (lx_letter b _ HR0.out.lt).mono ?_; rintro e w1 ⟨v1, rfl, hc, hg⟩
  have HR1 := Lib.hid (HR0.out.gr hg)
  have HU1 := Lib.hid (HU0.out.trans (Upd.of_gr hg))
  have HC := Lib.hid hc
  clear hc hg HR0 HU0
  have hN := lx_nextR b s (k) _ (letP) _ HR1.out HC.out hs (by omega)
  rw [hn1] at hN
  simp only [Bool.false_eq_true, if_false] at hN
  have HN := Lib.hid hN
  clear hN HC
  go_wp2_with fail
  refine HN.out.mono ?_; rintro e w2 ⟨rfl, hr, hu⟩
  have HR2 := Lib.hid hr
  have HU2 := Lib.hid (HU1.out.trans hu)
  clear hr hu HN HR1 HU1
  go_wp2_with fail
  refine (lx_one_quote b _ HR2.out.lt).mono ?_; rintro e w3 ⟨v3, rfl, hc, hg⟩
  have HR3 := Lib.hid (HR2.out.gr hg)
  have HU3 := Lib.hid (HU2.out.trans (Upd.of_gr hg))
  have HC := Lib.hid hc
  clear hc hg HR2 HU2
  have hN := lx_nextR b s (k) _ (fun c => c == 34) _ HR3.out HC.out hs (by omega)
  rw [hn2] at hN
  simp only [if_true] at hN
  have HN := Lib.hid hN
  clear hN HC
  go_wp2_with fail
  refine HN.out.mono ?_; rintro e w4 ⟨rfl, hr, hu⟩
  have HR4 := Lib.hid hr
  have HU4 := Lib.hid (HU3.out.trans hu)
  clear hr hu HN HR3 HU3
  go_wp2_with fail
  refine (lx_insideQuotes b _ HR4.out.lt).mono ?_; rintro e w5 ⟨v5, rfl, hc, hg⟩
  have HR5 := Lib.hid (HR4.out.gr hg)
  have HU5 := Lib.hid (HU4.out.trans (Upd.of_gr hg))
  have HC := Lib.hid hc
  clear hc hg HR4 HU4
  have HN := Lib.hid (lx_run b s (k + 1) _ (plainP) _ HR5.out HC.out hs (by omega))
  clear HC
  go_wp2_with fail
  refine HN.out.mono ?_; rintro e w6 ⟨rfl, hr, hu⟩
  have HR6 := Lib.hid hr
  have HU6 := Lib.hid (HU5.out.trans hu)
  clear hr hu HN HR5 HU5
  go_wp2_with fail
  refine (lx_one_quote b _ HR6.out.lt).mono ?_; rintro e w7 ⟨v7, rfl, hc, hg⟩
  have HR7 := Lib.hid (HR6.out.gr hg)
  have HU7 := Lib.hid (HU6.out.trans (Upd.of_gr hg))
  have HC := Lib.hid hc
  clear hc hg HR6 HU6
  have hN := lx_nextR b s (runK plainP s.data.toList (k + 1)) _ (fun c => c == 34) _ HR7.out HC.out hs (by omega)
  rw [hn3] at hN
  simp only [Bool.false_eq_true, if_false] at hN
  have HN := Lib.hid hN
  clear hN HC
  go_wp2_with fail
  refine HN.out.mono ?_; rintro e w8 ⟨rfl, hr, hu⟩
  have HR8 := Lib.hid hr
  have HU8 := Lib.hid (HU7.out.trans hu)
  clear hr hu HN HR7 HU7
  go_wp2
  go_ret2
  exact ⟨rfl, HR8.out, HU8.out⟩
set_option maxRecDepth 100000 in
set_option maxHeartbeats 4000000 in
theorem lx_kind_num (b : Nat) (s : ByteArray) (k : Nat) (w : World) (hr : RdrAt w b s k) (hs : s.size ≤ 100000) (c : UInt8) (hc : s.data.toList[k]? = some c) (h1 : letP c = false) (h2 : ¬ c = 34) (h3 : isD c = true) :
    Calls Tryd.prog 58 #[.pointer (some ⟨b, 0, none⟩)] w fun e w' => e = .returned (.tuple #[.int .i64 1, .int .i64 0]) ∧ RdrAt w' b s (decK s.data.toList (runK isD s.data.toList (k + 1))) ∧ Upd b w w' := by
  have hsz : s.data.toList.length = s.size := by simp
  have hkl := lt_of_get hc
  have hz : ((k : Int) == (s.size : Int)) = false := by rw [beq_eq_false_iff_ne]; omega
  have hn1 : nextB letP s k = false := (nextB_at hc).trans h1
  have hn2 : nextB (fun c => c == 34) s k = false := (nextB_at hc).trans (by simpa using h2)
  have hn3 : nextB isD s k = true := (nextB_at hc).trans h3
  have hrl := runK_le (p := isD) (l := s.data.toList) (k := k + 1) (by omega)
  clear hc h1 h2 h3
  have HRr := Lib.hid hr
  obtain ⟨c0, c1, f1⟩ := hr
  go_enter Tryd.func58, Tryd.ntmps58
  go_wp2_with fail
  go_quiet (fail)
  rename_i nq
  have HR0 := Lib.hid (HRr.out.gr (below_drewN (Gr.refl w) nq))
  have HU0 := Lib.hid (Upd.of_gr (b := b) (below_drewN (Gr.refl w) nq))
  clear HRr c0 c1 f1 hz
  generalize w.drewN nq = wq at *
  go_wp2_with fail
  refine (lx_letter b _ HR0.out.lt).mono ?_; rintro e w1 ⟨v1, rfl, hc, hg⟩
  have HR1 := Lib.hid (HR0.out.gr hg)
  have HU1 := Lib.hid (HU0.out.trans (Upd.of_gr hg))
  have HC := Lib.hid hc
  clear hc hg HR0 HU0
  have hN := lx_nextR b s (k) _ (letP) _ HR1.out HC.out hs (by omega)
  rw [hn1] at hN
  simp only [Bool.false_eq_true, if_false] at hN
  have HN := Lib.hid hN
  clear hN HC
  go_wp2_with fail
  refine HN.out.mono ?_; rintro e w2 ⟨rfl, hr, hu⟩
  have HR2 := Lib.hid hr
  have HU2 := Lib.hid (HU1.out.trans hu)
  clear hr hu HN HR1 HU1
  go_wp2_with fail
  refine (lx_one_quote b _ HR2.out.lt).mono ?_; rintro e w3 ⟨v3, rfl, hc, hg⟩
  have HR3 := Lib.hid (HR2.out.gr hg)
  have HU3 := Lib.hid (HU2.out.trans (Upd.of_gr hg))
  have HC := Lib.hid hc
  clear hc hg HR2 HU2
  have hN := lx_nextR b s (k) _ (fun c => c == 34) _ HR3.out HC.out hs (by omega)
  rw [hn2] at hN
  simp only [Bool.false_eq_true, if_false] at hN
  have HN := Lib.hid hN
  clear hN HC
  go_wp2_with fail
  refine HN.out.mono ?_; rintro e w4 ⟨rfl, hr, hu⟩
  have HR4 := Lib.hid hr
  have HU4 := Lib.hid (HU3.out.trans hu)
  clear hr hu HN HR3 HU3
  go_wp2_with fail
  refine (lx_digit b _ HR4.out.lt).mono ?_; rintro e w5 ⟨v5, rfl, hc, hg⟩
  have HR5 := Lib.hid (HR4.out.gr hg)
  have HU5 := Lib.hid (HU4.out.trans (Upd.of_gr hg))
  have HC := Lib.hid hc
  clear hc hg HR4 HU4
  have hN := lx_nextR b s (k) _ (isD) _ HR5.out HC.out hs (by omega)
  rw [hn3] at hN
  simp only [if_true] at hN
  have HN := Lib.hid hN
  clear hN HC
  go_wp2_with fail
  refine HN.out.mono ?_; rintro e w6 ⟨rfl, hr, hu⟩
  have HR6 := Lib.hid hr
  have HU6 := Lib.hid (HU5.out.trans hu)
  clear hr hu HN HR5 HU5
  go_wp2_with fail
  refine (lx_digit b _ HR6.out.lt).mono ?_; rintro e w7 ⟨v7, rfl, hc, hg⟩
  have HR7 := Lib.hid (HR6.out.gr hg)
  have HU7 := Lib.hid (HU6.out.trans (Upd.of_gr hg))
  have HC := Lib.hid hc
  clear hc hg HR6 HU6
  have HN := Lib.hid (lx_run b s (k + 1) _ (isD) _ HR7.out HC.out hs (by omega))
  clear HC
  go_wp2_with fail
  refine HN.out.mono ?_; rintro e w8 ⟨rfl, hr, hu⟩
  have HR8 := Lib.hid hr
  have HU8 := Lib.hid (HU7.out.trans hu)
  clear hr hu HN HR7 HU7
  go_wp2_with fail
  refine (lx_decimals b s _ _ HR8.out hs (by omega)).mono ?_; rintro e w9 ⟨rfl, hr, hu⟩
  have HR9 := Lib.hid hr
  have HU9 := Lib.hid (HU8.out.trans hu)
  clear hr hu HR8 HU8
  go_wp2
  go_ret2
  exact ⟨rfl, HR9.out, HU9.out⟩
set_option maxRecDepth 100000 in
set_option maxHeartbeats 4000000 in
theorem lx_kind_sign (b : Nat) (s : ByteArray) (k : Nat) (w : World) (hr : RdrAt w b s k) (hs : s.size ≤ 100000) (c : UInt8) (hc : s.data.toList[k]? = some c) (h1 : letP c = false) (h2 : ¬ c = 34) (h3 : isD c = false) (h4 : signP c = true) :
    Calls Tryd.prog 58 #[.pointer (some ⟨b, 0, none⟩)] w fun e w' => e = .returned (.tuple #[.int .i64 2, .int .i64 0]) ∧ RdrAt w' b s (k + 1) ∧ Upd b w w' := by
  have hsz : s.data.toList.length = s.size := by simp
  have hkl := lt_of_get hc
  have hz : ((k : Int) == (s.size : Int)) = false := by rw [beq_eq_false_iff_ne]; omega
  have hn1 : nextB letP s k = false := (nextB_at hc).trans h1
  have hn2 : nextB (fun c => c == 34) s k = false := (nextB_at hc).trans (by simpa using h2)
  have hn3 : nextB isD s k = false := (nextB_at hc).trans h3
  have hn4 : nextB signP s k = true := (nextB_at hc).trans h4
  clear hc h1 h2 h3 h4
  have HRr := Lib.hid hr
  obtain ⟨c0, c1, f1⟩ := hr
  go_enter Tryd.func58, Tryd.ntmps58
  go_wp2_with fail
  go_quiet (fail)
  rename_i nq
  have HR0 := Lib.hid (HRr.out.gr (below_drewN (Gr.refl w) nq))
  have HU0 := Lib.hid (Upd.of_gr (b := b) (below_drewN (Gr.refl w) nq))
  clear HRr c0 c1 f1 hz
  generalize w.drewN nq = wq at *
  go_wp2_with fail
  refine (lx_letter b _ HR0.out.lt).mono ?_; rintro e w1 ⟨v1, rfl, hc, hg⟩
  have HR1 := Lib.hid (HR0.out.gr hg)
  have HU1 := Lib.hid (HU0.out.trans (Upd.of_gr hg))
  have HC := Lib.hid hc
  clear hc hg HR0 HU0
  have hN := lx_nextR b s (k) _ (letP) _ HR1.out HC.out hs (by omega)
  rw [hn1] at hN
  simp only [Bool.false_eq_true, if_false] at hN
  have HN := Lib.hid hN
  clear hN HC
  go_wp2_with fail
  refine HN.out.mono ?_; rintro e w2 ⟨rfl, hr, hu⟩
  have HR2 := Lib.hid hr
  have HU2 := Lib.hid (HU1.out.trans hu)
  clear hr hu HN HR1 HU1
  go_wp2_with fail
  refine (lx_one_quote b _ HR2.out.lt).mono ?_; rintro e w3 ⟨v3, rfl, hc, hg⟩
  have HR3 := Lib.hid (HR2.out.gr hg)
  have HU3 := Lib.hid (HU2.out.trans (Upd.of_gr hg))
  have HC := Lib.hid hc
  clear hc hg HR2 HU2
  have hN := lx_nextR b s (k) _ (fun c => c == 34) _ HR3.out HC.out hs (by omega)
  rw [hn2] at hN
  simp only [Bool.false_eq_true, if_false] at hN
  have HN := Lib.hid hN
  clear hN HC
  go_wp2_with fail
  refine HN.out.mono ?_; rintro e w4 ⟨rfl, hr, hu⟩
  have HR4 := Lib.hid hr
  have HU4 := Lib.hid (HU3.out.trans hu)
  clear hr hu HN HR3 HU3
  go_wp2_with fail
  refine (lx_digit b _ HR4.out.lt).mono ?_; rintro e w5 ⟨v5, rfl, hc, hg⟩
  have HR5 := Lib.hid (HR4.out.gr hg)
  have HU5 := Lib.hid (HU4.out.trans (Upd.of_gr hg))
  have HC := Lib.hid hc
  clear hc hg HR4 HU4
  have hN := lx_nextR b s (k) _ (isD) _ HR5.out HC.out hs (by omega)
  rw [hn3] at hN
  simp only [Bool.false_eq_true, if_false] at hN
  have HN := Lib.hid hN
  clear hN HC
  go_wp2_with fail
  refine HN.out.mono ?_; rintro e w6 ⟨rfl, hr, hu⟩
  have HR6 := Lib.hid hr
  have HU6 := Lib.hid (HU5.out.trans hu)
  clear hr hu HN HR5 HU5
  go_wp2_with fail
  refine (lx_one_signs b _ HR6.out.lt).mono ?_; rintro e w7 ⟨v7, rfl, hc, hg⟩
  have HR7 := Lib.hid (HR6.out.gr hg)
  have HU7 := Lib.hid (HU6.out.trans (Upd.of_gr hg))
  have HC := Lib.hid hc
  clear hc hg HR6 HU6
  have hN := lx_nextR b s (k) _ (signP) _ HR7.out HC.out hs (by omega)
  rw [hn4] at hN
  simp only [if_true] at hN
  have HN := Lib.hid hN
  clear hN HC
  go_wp2_with fail
  refine HN.out.mono ?_; rintro e w8 ⟨rfl, hr, hu⟩
  have HR8 := Lib.hid hr
  have HU8 := Lib.hid (HU7.out.trans hu)
  clear hr hu HN HR7 HU7
  go_wp2
  go_ret2
  exact ⟨rfl, HR8.out, HU8.out⟩
set_option maxRecDepth 100000 in
set_option maxHeartbeats 4000000 in
theorem lx_kind_bad (b : Nat) (s : ByteArray) (k : Nat) (w : World) (hr : RdrAt w b s k) (hs : s.size ≤ 100000) (c : UInt8) (hc : s.data.toList[k]? = some c) (h1 : letP c = false) (h2 : ¬ c = 34) (h3 : isD c = false) (h4 : signP c = false) :
    Calls Tryd.prog 58 #[.pointer (some ⟨b, 0, none⟩)] w fun e w' => e = .returned (.tuple #[.int .i64 0, .int .i64 4]) ∧ RdrAt w' b s (k) ∧ Upd b w w' := by
  have hsz : s.data.toList.length = s.size := by simp
  have hkl := lt_of_get hc
  have hz : ((k : Int) == (s.size : Int)) = false := by rw [beq_eq_false_iff_ne]; omega
  have hn1 : nextB letP s k = false := (nextB_at hc).trans h1
  have hn2 : nextB (fun c => c == 34) s k = false := (nextB_at hc).trans (by simpa using h2)
  have hn3 : nextB isD s k = false := (nextB_at hc).trans h3
  have hn4 : nextB signP s k = false := (nextB_at hc).trans h4
  clear hc h1 h2 h3 h4
  have HRr := Lib.hid hr
  obtain ⟨c0, c1, f1⟩ := hr
  go_enter Tryd.func58, Tryd.ntmps58
  go_wp2_with fail
  go_quiet (fail)
  rename_i nq
  have HR0 := Lib.hid (HRr.out.gr (below_drewN (Gr.refl w) nq))
  have HU0 := Lib.hid (Upd.of_gr (b := b) (below_drewN (Gr.refl w) nq))
  clear HRr c0 c1 f1 hz
  generalize w.drewN nq = wq at *
  go_wp2_with fail
  refine (lx_letter b _ HR0.out.lt).mono ?_; rintro e w1 ⟨v1, rfl, hc, hg⟩
  have HR1 := Lib.hid (HR0.out.gr hg)
  have HU1 := Lib.hid (HU0.out.trans (Upd.of_gr hg))
  have HC := Lib.hid hc
  clear hc hg HR0 HU0
  have hN := lx_nextR b s (k) _ (letP) _ HR1.out HC.out hs (by omega)
  rw [hn1] at hN
  simp only [Bool.false_eq_true, if_false] at hN
  have HN := Lib.hid hN
  clear hN HC
  go_wp2_with fail
  refine HN.out.mono ?_; rintro e w2 ⟨rfl, hr, hu⟩
  have HR2 := Lib.hid hr
  have HU2 := Lib.hid (HU1.out.trans hu)
  clear hr hu HN HR1 HU1
  go_wp2_with fail
  refine (lx_one_quote b _ HR2.out.lt).mono ?_; rintro e w3 ⟨v3, rfl, hc, hg⟩
  have HR3 := Lib.hid (HR2.out.gr hg)
  have HU3 := Lib.hid (HU2.out.trans (Upd.of_gr hg))
  have HC := Lib.hid hc
  clear hc hg HR2 HU2
  have hN := lx_nextR b s (k) _ (fun c => c == 34) _ HR3.out HC.out hs (by omega)
  rw [hn2] at hN
  simp only [Bool.false_eq_true, if_false] at hN
  have HN := Lib.hid hN
  clear hN HC
  go_wp2_with fail
  refine HN.out.mono ?_; rintro e w4 ⟨rfl, hr, hu⟩
  have HR4 := Lib.hid hr
  have HU4 := Lib.hid (HU3.out.trans hu)
  clear hr hu HN HR3 HU3
  go_wp2_with fail
  refine (lx_digit b _ HR4.out.lt).mono ?_; rintro e w5 ⟨v5, rfl, hc, hg⟩
  have HR5 := Lib.hid (HR4.out.gr hg)
  have HU5 := Lib.hid (HU4.out.trans (Upd.of_gr hg))
  have HC := Lib.hid hc
  clear hc hg HR4 HU4
  have hN := lx_nextR b s (k) _ (isD) _ HR5.out HC.out hs (by omega)
  rw [hn3] at hN
  simp only [Bool.false_eq_true, if_false] at hN
  have HN := Lib.hid hN
  clear hN HC
  go_wp2_with fail
  refine HN.out.mono ?_; rintro e w6 ⟨rfl, hr, hu⟩
  have HR6 := Lib.hid hr
  have HU6 := Lib.hid (HU5.out.trans hu)
  clear hr hu HN HR5 HU5
  go_wp2_with fail
  refine (lx_one_signs b _ HR6.out.lt).mono ?_; rintro e w7 ⟨v7, rfl, hc, hg⟩
  have HR7 := Lib.hid (HR6.out.gr hg)
  have HU7 := Lib.hid (HU6.out.trans (Upd.of_gr hg))
  have HC := Lib.hid hc
  clear hc hg HR6 HU6
  have hN := lx_nextR b s (k) _ (signP) _ HR7.out HC.out hs (by omega)
  rw [hn4] at hN
  simp only [Bool.false_eq_true, if_false] at hN
  have HN := Lib.hid hN
  clear hN HC
  go_wp2_with fail
  refine HN.out.mono ?_; rintro e w8 ⟨rfl, hr, hu⟩
  have HR8 := Lib.hid hr
  have HU8 := Lib.hid (HU7.out.trans hu)
  clear hr hu HN HR7 HU7
  go_wp2
  go_ret2
  exact ⟨rfl, HR8.out, HU8.out⟩
theorem lx_kind (b : Nat) (s : ByteArray) (k : Nat) (w : World) (hr : RdrAt w b s k) (hs : s.size ≤ 100000) (hk : k ≤ s.size) :
    Calls Tryd.prog 58 #[.pointer (some ⟨b, 0, none⟩)] w fun e w' => e = .returned (.tuple #[.int .i64 (kindR s.data.toList k).1, .int .i64 (kindR s.data.toList k).2.1]) ∧ RdrAt w' b s (kindR s.data.toList k).2.2 ∧ Upd b w w' := by
  unfold kindR
  cases hc : s.data.toList[k]? with
  | none =>
    have hkk : k = s.size := by
      by_cases h : k < s.size
      · rw [getq h] at hc; cases hc
      · omega
    exact lx_kind_end b s k w hr hs hkk
  | some c =>
    simp only
    by_cases h1 : letP c = true
    · rw [if_pos h1]; exact lx_kind_word b s k w hr hs c hc h1
    · rw [if_neg h1]
      have h1 : letP c = false := by simpa using h1
      by_cases h2 : c = 34
      · rw [if_pos h2]
        by_cases h3 : s.data.toList[runK plainP s.data.toList (k + 1)]? = some 34
        · rw [if_pos h3]; exact lx_kind_quote b s k w hr hs c hc h1 h2 h3
        · rw [if_neg h3]; exact lx_kind_open b s k w hr hs c hc h1 h2 h3
      · rw [if_neg h2]
        by_cases h3 : isD c = true
        · rw [if_pos h3]; exact lx_kind_num b s k w hr hs c hc h1 h2 h3
        · rw [if_neg h3]
          have h3 : isD c = false := by simpa using h3
          by_cases h4 : signP c = true
          · rw [if_pos h4]; exact lx_kind_sign b s k w hr hs c hc h1 h2 h3 h4
          · rw [if_neg h4]; exact lx_kind_bad b s k w hr hs c hc h1 h2 h3 (by simpa using h4)
end Go.Proofs.YtlcpfhgobfjioaaDoor
