/- Sets of channels: the program's reader: the word thru, terms. -/
import Derived.Test.YtjideokeokmbaaaGreatDoorRaA
import Derived.Laws.EntriesVeiled
set_option linter.unusedVariables false
set_option linter.unusedSimpArgs false
namespace Go.Proofs.YtjideokeokmbaaaGreatDoor.Z
open Go
def ltrB (c : UInt8) : Bool := (decide (97 ≤ c.toNat) && decide (c.toNat ≤ 122)) || (decide (65 ≤ c.toNat) && decide (c.toNat ≤ 90))
/-- whether a letter or a digit stands at the beginning -/
def longB (l : List UInt8) : Bool := match l with
  | [] => false
  | c :: _ => ltrB c || isD c
def thruL : List UInt8 := [116, 104, 114, 117]
/-- whether the word thru stands at a place, and how far the reader has come -/
def thruR (l : List UInt8) (k : Nat) : Bool × Nat :=
  if (Lib.hasPrefix (l.drop (skipB l k)) thruL && !longB (Lib.trimPrefix (l.drop (skipB l k)) thruL)) = true then (true, skipB l k + 4) else (false, skipB l k)
/-- a term at a place -/
def termR (l : List UInt8) (k : Nat) : (Int × Int) × Int × Nat :=
  if (chanR l k).2.1 ≠ 0 then (((chanR l k).1, (chanR l k).1), (chanR l k).2.1, (chanR l k).2.2)
  else if (thruR l (chanR l k).2.2).1 = true then
    ((min (chanR l k).1 (chanR l (thruR l (chanR l k).2.2).2).1, max (chanR l k).1 (chanR l (thruR l (chanR l k).2.2).2).1), (chanR l (thruR l (chanR l k).2.2).2).2.1, (chanR l (thruR l (chanR l k).2.2).2).2.2)
  else (((chanR l k).1, (chanR l k).1), 0, (thruR l (chanR l k).2.2).2)
theorem chanR_le {l : List UInt8} {k : Nat} (hk : k ≤ l.length) : (chanR l k).2.2 ≤ l.length ∧ 0 ≤ (chanR l k).1 ∧ (chanR l k).1 ≤ 999 := by
  have h1 := skipB_le hk
  have h2 := leadD_len (l.drop (skipB l k))
  rw [List.length_drop] at h2
  unfold chanR
  split
  · exact ⟨h1.2, by simp, by simp⟩
  · split
    · rename_i h; refine ⟨?_, ?_, ?_⟩ <;> simp only <;> omega
    · exact ⟨h1.2, by simp, by simp⟩
theorem prefix_len {l p : List UInt8} (h : Lib.hasPrefix l p = true) : p.length ≤ l.length := (List.isPrefixOf_iff_prefix.1 h).length_le
theorem thruR_le {l : List UInt8} {k : Nat} (hk : k ≤ l.length) : (thruR l k).2 ≤ l.length := by
  have h1 := skipB_le hk
  unfold thruR
  split
  · rename_i h
    rw [Bool.and_eq_true] at h
    have := prefix_len h.1
    rw [List.length_drop] at this
    have e : thruL.length = 4 := rfl
    show skipB l k + 4 ≤ _
    omega
  · exact h1.2
end Go.Proofs.YtjideokeokmbaaaGreatDoor.Z
namespace Go.Proofs.YtjideokeokmbaaaGreatDoor
open Go.RowKit Go.Shelf
open Z

set_option maxHeartbeats 1000000 in
theorem ra_isLetter (c : Nat) (w : World) (hc : c ≤ 255) : Calls Tryz.prog 69 #[.int .u8 (c : Int)] w fun e w' => e = .returned (.bool ((decide (97 ≤ c) && decide (c ≤ 122)) || (decide (65 ≤ c) && decide (c ≤ 90)))) ∧ w = w' := by
  have hcase : c < 65 ∨ (65 ≤ c ∧ c ≤ 90) ∨ (90 < c ∧ c < 97) ∨ (97 ≤ c ∧ c ≤ 122) ∨ 122 < c := by omega
  rcases hcase with h | ⟨h, h'⟩ | ⟨h, h'⟩ | ⟨h, h'⟩ | h
  all_goals
    go_enter Tryz.func69, Tryz.ntmps69
    go_wp2
    go_ret
    refine ⟨ret_bool ?_, rfl⟩
    first | rfl | (rw [Bool.eq_iff_iff]; simp <;> omega)
set_option maxHeartbeats 2000000 in
set_option maxRecDepth 100000 in
theorem ra_thru (b : Nat) (s : ByteArray) (k : Nat) (w : World) (hr : RdrAt w b s k) (hs : s.size ≤ 100000) (hk : k ≤ s.size) :
    Calls Tryz.prog 53 #[.pointer (some ⟨b, 0, none⟩)] w fun e w' => e = .returned (.bool (thruR s.data.toList k).1) ∧ RdrAt w' b s (thruR s.data.toList k).2 ∧ Upd b w w' := by
  have hsz : s.data.toList.length = s.size := by simp
  have HR := Lib.hid (ra_rest b s k w hr hs hk)
  have hK : skipB s.data.toList k ≤ s.size := by rw [← hsz]; exact (skipB_le (by omega)).2
  have hKK : skipB s.data.toList (skipB s.data.toList k) = skipB s.data.toList k := skipB_skip (by omega)
  have HT := Lib.hid (fun w (hr : RdrAt w b s (skipB s.data.toList k)) => ra_take b s ⟨#[116, 104, 114, 117]⟩ (skipB s.data.toList k) w hr hs hK (by decide))
  rw [hKK] at HT
  have HC := Lib.hid (fun w => Tryz.strings_CutPrefix (s.extract (skipB s.data.toList k) s.size) ⟨#[116, 104, 114, 117]⟩ w)
  rw [ext_list] at HC
  obtain ⟨v, hv⟩ : ∃ v, thruR s.data.toList k = v := ⟨_, rfl⟩
  have HV := Lib.hid hv
  rw [hv]
  unfold thruR at HV
  change Hid ((if (Lib.hasPrefix (s.data.toList.drop (skipB s.data.toList k)) (⟨#[116, 104, 114, 117]⟩ : ByteArray).data.toList && !longB (Lib.trimPrefix (s.data.toList.drop (skipB s.data.toList k)) (⟨#[116, 104, 114, 117]⟩ : ByteArray).data.toList)) = true then (true, skipB s.data.toList k + 4) else (false, skipB s.data.toList k)) = v) at HV
  have hbz : (Lib.trimPrefix (s.data.toList.drop (skipB s.data.toList k)) (⟨#[116, 104, 114, 117]⟩ : ByteArray).data.toList).length ≤ 100000 := by
    unfold Lib.trimPrefix
    split
    · rw [List.length_drop, List.length_drop]; omega
    · rw [List.length_drop]; omega
  clear hr hk hv hsz hKK
  generalize Lib.hasPrefix (s.data.toList.drop (skipB s.data.toList k)) (⟨#[116, 104, 114, 117]⟩ : ByteArray).data.toList = fd at *
  generalize Lib.trimPrefix (s.data.toList.drop (skipB s.data.toList k)) (⟨#[116, 104, 114, 117]⟩ : ByteArray).data.toList = bh at *
  generalize skipB s.data.toList k = K at *
  generalize s.extract K s.size = R at *
  have hin := is_nil bh
  have LT := Lib.hid (fun (c : Nat) w (h : c ≤ 255) => ra_isLetter c w h)
  have DG := Lib.hid (fun (c : Nat) w (h : c ≤ 255) => ra_isDigit c w h)
  have HC : Hid (∀ w, Calls Tryz.prog 68 #[.string R, .string ⟨#[116, 104, 114, 117]⟩] w fun e w' => e = .returned (.tuple #[.string (str bh), .bool fd]) ∧ w' = w) := HC
  obtain ⟨v1, v2⟩ := v
  cases bh with
  | nil =>
    rw [decide_eq_true rfl] at hin
    cases fd
    · have hv : (v1, v2) = (false, K) := HV.out.symm
      simp only [Prod.mk.injEq] at hv
      obtain ⟨rfl, rfl⟩ := hv
      clear HV LT DG HT
      generalize str ([] : List UInt8) = B at *
      go_enter Tryz.func53, Tryz.ntmps53
      go_wp2_with fail
      refine HR.out.mono ?_; rintro e w1 ⟨rfl, hr1, hu1⟩
      have HR1 := Lib.hid hr1
      have HU1 := Lib.hid hu1
      clear hr1 hu1
      go_wp2_with fail
      refine (HC.out _).mono ?_; rintro e w' ⟨rfl, rfl⟩
      go_wp2
      go_ret
      exact ⟨rfl, HR1.out, HU1.out⟩
    · have hv : (v1, v2) = (true, K + 4) := HV.out.symm
      simp only [Prod.mk.injEq] at hv
      obtain ⟨rfl, rfl⟩ := hv
      clear HV LT DG
      generalize str ([] : List UInt8) = B at *
      go_enter Tryz.func53, Tryz.ntmps53
      go_wp2_with fail
      refine HR.out.mono ?_; rintro e w1 ⟨rfl, hr1, hu1⟩
      have HR1 := Lib.hid hr1
      have HU1 := Lib.hid hu1
      clear hr1 hu1
      go_wp2_with fail
      refine (HC.out _).mono ?_; rintro e w' ⟨rfl, rfl⟩
      go_wp2_with fail
      refine (HT.out _ HR1.out).mono ?_; rintro e w2 ⟨rfl, hr2, hu2⟩
      have HR2 := Lib.hid hr2
      have HU2 := Lib.hid (HU1.out.trans hu2)
      clear hr2 hu2
      go_wp2
      go_ret
      exact ⟨rfl, HR2.out, HU2.out⟩
  | cons c0 bt =>
    rw [decide_eq_false (by simp)] at hin
    have hB0 : 0 < (str (c0 :: bt)).size := by rw [str_size]; simp
    have hBz : (str (c0 :: bt)).size ≤ 100000 := by rw [str_size]; exact hbz
    obtain ⟨c, hc⟩ : ∃ c : Nat, c0.toNat = c := ⟨_, rfl⟩
    have hget : ∀ h : 0 < (str (c0 :: bt)).size, (((str (c0 :: bt))[0]).toNat : Int) = (c : Int) := fun h => by rw [get_data]; simp only [data_str]; simp [hc]
    have hc255 : c ≤ 255 := by have := c0.toNat_lt; omega
    have hlong : longB (c0 :: bt) = (((decide (97 ≤ c) && decide (c ≤ 122)) || (decide (65 ≤ c) && decide (c ≤ 90))) || (decide (48 ≤ c) && decide (c ≤ 57))) := by
      show (ltrB c0 || isD c0) = _
      unfold ltrB isD; rw [hc]
    rw [hlong] at HV
    have LT1 := Lib.hid (fun w => LT.out c w hc255)
    have DG1 := Lib.hid (fun w => DG.out c w hc255)
    clear LT DG hlong hbz hc
    generalize ((decide (97 ≤ c) && decide (c ≤ 122)) || (decide (65 ≤ c) && decide (c ≤ 90))) = b1 at *
    generalize (decide (48 ≤ c) && decide (c ≤ 57)) = b2 at *
    generalize str (c0 :: bt) = B at *
    have hget0 := hget hB0
    clear hget
    have hv : (v1, v2) = (if (fd && !(b1 || b2)) = true then (true, K + 4) else (false, K)) := HV.out.symm
    clear HV
    cases b1
    · cases b2
      · cases fd
        · have hv : (v1, v2) = (false, K) := by simpa using hv
          simp only [Prod.mk.injEq] at hv
          obtain ⟨rfl, rfl⟩ := hv
          clear HT
          go_enter Tryz.func53, Tryz.ntmps53
          go_wp2_with fail
          refine HR.out.mono ?_; rintro e w1 ⟨rfl, hr1, hu1⟩
          have HR1 := Lib.hid hr1
          have HU1 := Lib.hid hu1
          clear hr1 hu1
          go_wp2_with fail
          refine (HC.out _).mono ?_; rintro e w' ⟨rfl, rfl⟩
          go_wp2_with fail
          refine (LT1.out _).mono ?_; rintro e w' ⟨rfl, rfl⟩
          go_wp2_with fail
          refine (DG1.out _).mono ?_; rintro e w' ⟨rfl, rfl⟩
          go_wp2
          go_ret
          exact ⟨rfl, HR1.out, HU1.out⟩
        · have hv : (v1, v2) = (true, K + 4) := by simpa using hv
          simp only [Prod.mk.injEq] at hv
          obtain ⟨rfl, rfl⟩ := hv
          go_enter Tryz.func53, Tryz.ntmps53
          go_wp2_with fail
          refine HR.out.mono ?_; rintro e w1 ⟨rfl, hr1, hu1⟩
          have HR1 := Lib.hid hr1
          have HU1 := Lib.hid hu1
          clear hr1 hu1
          go_wp2_with fail
          refine (HC.out _).mono ?_; rintro e w' ⟨rfl, rfl⟩
          go_wp2_with fail
          refine (LT1.out _).mono ?_; rintro e w' ⟨rfl, rfl⟩
          go_wp2_with fail
          refine (DG1.out _).mono ?_; rintro e w' ⟨rfl, rfl⟩
          go_wp2_with fail
          refine (HT.out _ HR1.out).mono ?_; rintro e w2 ⟨rfl, hr2, hu2⟩
          have HR2 := Lib.hid hr2
          have HU2 := Lib.hid (HU1.out.trans hu2)
          clear hr2 hu2
          go_wp2
          go_ret
          exact ⟨rfl, HR2.out, HU2.out⟩
      · have hv : (v1, v2) = (false, K) := by cases fd <;> simpa using hv
        simp only [Prod.mk.injEq] at hv
        obtain ⟨rfl, rfl⟩ := hv
        clear HT
        cases fd
        all_goals
          go_enter Tryz.func53, Tryz.ntmps53
          go_wp2_with fail
          refine HR.out.mono ?_; rintro e w1 ⟨rfl, hr1, hu1⟩
          have HR1 := Lib.hid hr1
          have HU1 := Lib.hid hu1
          clear hr1 hu1
          go_wp2_with fail
          refine (HC.out _).mono ?_; rintro e w' ⟨rfl, rfl⟩
          go_wp2_with fail
          refine (LT1.out _).mono ?_; rintro e w' ⟨rfl, rfl⟩
          go_wp2_with fail
          refine (DG1.out _).mono ?_; rintro e w' ⟨rfl, rfl⟩
          go_wp2
          go_ret
          exact ⟨rfl, HR1.out, HU1.out⟩
    · have hv : (v1, v2) = (false, K) := by cases fd <;> simpa using hv
      simp only [Prod.mk.injEq] at hv
      obtain ⟨rfl, rfl⟩ := hv
      clear HT DG1
      cases fd
      all_goals
        go_enter Tryz.func53, Tryz.ntmps53
        go_wp2_with fail
        refine HR.out.mono ?_; rintro e w1 ⟨rfl, hr1, hu1⟩
        have HR1 := Lib.hid hr1
        have HU1 := Lib.hid hu1
        clear hr1 hu1
        go_wp2_with fail
        refine (HC.out _).mono ?_; rintro e w' ⟨rfl, rfl⟩
        go_wp2_with fail
        refine (LT1.out _).mono ?_; rintro e w' ⟨rfl, rfl⟩
        go_wp2
        go_ret
        exact ⟨rfl, HR1.out, HU1.out⟩
/-- a pair of integers in a block of its own -/
structure RB (w : World) (n : Nat) (f t : Int) : Prop where
  c0 : w.cell? ⟨n, 0, none⟩ = some (.int .i64 f)
  c1 : w.cell? ⟨n, 1, none⟩ = some (.int .i64 t)
  f0 : w.frozen? ⟨n, 0, none⟩ = false
  f1 : w.frozen? ⟨n, 1, none⟩ = false
theorem RB.new (w : World) (f t : Int) (ty : TypeId) : RB (w.alloc (.cells #[.int .i64 f, .int .i64 t] ty)) w.heap.size f t :=
  ⟨by rw [World.cell?_alloc_at _ _ _ _ rfl]; rfl, by rw [World.cell?_alloc_at _ _ _ _ rfl]; rfl, World.frozen?_alloc_at _ _ _ _ rfl, World.frozen?_alloc_at _ _ _ _ rfl⟩
theorem RB.upd {w w' : World} {b n : Nat} {f t : Int} (h : RB w n f t) (hu : Upd b w w') (hne : n ≠ b) : RB w' n f t := by
  have hl : n < w.heap.size := cellLt h.c0
  have e := hu.2.1 n hl hne
  refine ⟨?_, ?_, ?_, ?_⟩
  · have := h.c0; unfold World.cell? at this ⊢; rw [e]; exact this
  · have := h.c1; unfold World.cell? at this ⊢; rw [e]; exact this
  · have := h.f0; unfold World.frozen? at this ⊢; rw [e]; exact this
  · have := h.f1; unfold World.frozen? at this ⊢; rw [e]; exact this
theorem RB.store {w : World} {n : Nat} {f t : Int} (h : RB w n f t) (f' t' : Int) : RB ((w.setCell ⟨n, 0, none⟩ (.int .i64 f')).setCell ⟨n, 1, none⟩ (.int .i64 t')) n f' t' :=
  ⟨(World.cell?_setCell_other _ _ _ _ (by simp)).trans (World.cell?_setCell_same _ _ _ h.c0), World.cell?_setCell_same _ _ _ ((World.cell?_setCell_other _ _ _ _ (by simp)).trans h.c1),
    by rw [World.frozen?_setCell, World.frozen?_setCell]; exact h.f0, by rw [World.frozen?_setCell, World.frozen?_setCell]; exact h.f1⟩
/-- a fresh block may be stored -/
theorem Upd.fresh {b n o : Nat} {w0 w : World} (h : Upd b w0 w) (hn : w0.heap.size ≤ n) (v : Value) : Upd b w0 (w.setCell ⟨n, o, none⟩ v) :=
  ⟨fun _ hg hb => Below.setCell (h.1 _ hg hb) (Nat.le_trans hg.size hn) _, fun k hk hne => (Below.heap_setCell w _ v k (show k ≠ n by omega)).trans (h.2.1 k hk hne), by rw [World.size_setCell]; exact h.2.2⟩
theorem RdrAt.upd {w w' : World} {b c : Nat} {s : ByteArray} {k : Nat} (h : RdrAt w b s k) (hu : Upd c w w') (hne : b ≠ c) : RdrAt w' b s k := by
  have e := hu.2.1 b (cellLt h.c0) hne
  refine ⟨?_, ?_, ?_⟩
  · have := h.c0; unfold World.cell? at this ⊢; rw [e]; exact this
  · have := h.c1; unfold World.cell? at this ⊢; rw [e]; exact this
  · have := h.f1; unfold World.frozen? at this ⊢; rw [e]; exact this
theorem RdrAt.other {w : World} {b n o : Nat} {s : ByteArray} {k : Nat} (h : RdrAt w b s k) (hne : b ≠ n) (v : Value) : RdrAt (w.setCell ⟨n, o, none⟩ v) b s k :=
  h.upd (c := n) (Upd.set w v) hne
set_option maxHeartbeats 1000000 in
set_option maxRecDepth 100000 in
theorem ra_term (b : Nat) (s : ByteArray) (k : Nat) (w : World) (hr : RdrAt w b s k) (hs : s.size ≤ 100000) (hk : k ≤ s.size) :
    Calls Tryz.prog 39 #[.pointer (some ⟨b, 0, none⟩)] w fun e w' => e = .returned (.tuple #[.agg #[.int .i64 (termR s.data.toList k).1.1, .int .i64 (termR s.data.toList k).1.2], .int .i64 (termR s.data.toList k).2.1]) ∧ RdrAt w' b s (termR s.data.toList k).2.2 ∧ Upd b w w' := by
  have hsz : s.data.toList.length = s.size := by simp
  have HC1 := Lib.hid (fun w (hr : RdrAt w b s k) => ra_channel b s k w hr hs hk)
  have hc1 := chanR_le (l := s.data.toList) (k := k) (by omega)
  obtain ⟨V, hV⟩ : ∃ V, termR s.data.toList k = V := ⟨_, rfl⟩
  have HV := Lib.hid hV
  rw [hV]
  unfold termR at HV
  have HT := Lib.hid (fun w (hr : RdrAt w b s (chanR s.data.toList k).2.2) => ra_thru b s (chanR s.data.toList k).2.2 w hr hs (by omega))
  have ht := thruR_le (l := s.data.toList) (k := (chanR s.data.toList k).2.2) (by omega)
  have HC2 := Lib.hid (fun w (hr : RdrAt w b s (thruR s.data.toList (chanR s.data.toList k).2.2).2) => ra_channel b s (thruR s.data.toList (chanR s.data.toList k).2.2).2 w hr hs (by omega))
  have hc2 := chanR_le (l := s.data.toList) (k := (thruR s.data.toList (chanR s.data.toList k).2.2).2) (by omega)
  have HA := Lib.hid (hr.gr ((Gr.refl w).alloc (.cells #[.int .i64 0, .int .i64 0] 37)))
  have HB := Lib.hid (RB.new w 0 0 37)
  have HUA := Lib.hid (Upd.of_gr (b := b) ((Gr.refl w).alloc (.cells #[.int .i64 0, .int .i64 0] 37)))
  have hbn : w.heap.size ≠ b := by have := cellLt hr.c0; omega
  clear hr hk hV
  generalize chanR s.data.toList (thruR s.data.toList (chanR s.data.toList k).2.2).2 = r3 at *
  generalize thruR s.data.toList (chanR s.data.toList k).2.2 = r2 at *
  generalize chanR s.data.toList k = r1 at *
  obtain ⟨n, e1, k1⟩ := r1
  obtain ⟨t, k2⟩ := r2
  obtain ⟨m, e2, k3⟩ := r3
  obtain ⟨⟨v1, v2⟩, v3, v4⟩ := V
  simp only at HV HC1 HT HC2 hc1 hc2 ht ⊢
  obtain ⟨hk1, hn0, hn1⟩ := hc1
  obtain ⟨hk3, hm0, hm1⟩ := hc2
  by_cases he : e1 = 0
  · subst he
    cases t
    · have hv : ((v1, v2), v3, v4) = ((n, n), 0, k2) := by have := HV.out; simpa using this.symm
      simp only [Prod.mk.injEq] at hv
      obtain ⟨⟨rfl, rfl⟩, rfl, rfl⟩ := hv
      clear HV HC2
      go_enter Tryz.func39, Tryz.ntmps39
      go_wp2_with fail
      refine (HC1.out _ HA.out).mono ?_; rintro e w1 ⟨rfl, hr1, hu1⟩
      have HR1 := Lib.hid hr1
      have HB1 := Lib.hid (HB.out.upd hu1 hbn)
      have HU1 := Lib.hid (HUA.out.trans hu1)
      clear hr1 hu1
      go_wp2_with fail
      refine (HT.out _ HR1.out).mono ?_; rintro e w2 ⟨rfl, hr2, hu2⟩
      have HR2 := Lib.hid hr2
      have HB2 := Lib.hid (HB1.out.upd hu2 hbn)
      have HU2 := Lib.hid (HU1.out.trans hu2)
      clear hr2 hu2
      obtain ⟨c0, c1, f0, f1⟩ := id HB2.out
      obtain ⟨d0, d1, -, -⟩ := id (HB2.out.store (v2) (v2))
      have HR := Lib.hid ((HR2.out.other (o := 0) hbn.symm (.int .i64 (v2))).other (o := 1) hbn.symm (.int .i64 (v2)))
      have HU := Lib.hid ((HU2.out.fresh (o := 0) (Nat.le_refl _) (.int .i64 (v2))).fresh (o := 1) (Nat.le_refl _) (.int .i64 (v2)))
      go_wp2
      refine bodyPost_ret (v := .tuple #[.agg #[.int .i64 (v2), .int .i64 (v2)], .int .i64 (0)]) ?_ rfl ⟨rfl, HR.out, HU.out⟩
      simp [results, Tryz.results39, go_sem, d0, d1]
    · have hv : ((v1, v2), v3, v4) = ((min n m, max n m), e2, k3) := by have := HV.out; simpa using this.symm
      simp only [Prod.mk.injEq] at hv
      obtain ⟨⟨h1, h2⟩, h3, rfl⟩ := hv
      clear HV
      go_enter Tryz.func39, Tryz.ntmps39
      go_wp2_with fail
      refine (HC1.out _ HA.out).mono ?_; rintro e w1 ⟨rfl, hr1, hu1⟩
      have HR1 := Lib.hid hr1
      have HB1 := Lib.hid (HB.out.upd hu1 hbn)
      have HU1 := Lib.hid (HUA.out.trans hu1)
      clear hr1 hu1
      go_wp2_with fail
      refine (HT.out _ HR1.out).mono ?_; rintro e w2 ⟨rfl, hr2, hu2⟩
      have HR2 := Lib.hid hr2
      have HB2 := Lib.hid (HB1.out.upd hu2 hbn)
      have HU2 := Lib.hid (HU1.out.trans hu2)
      clear hr2 hu2
      go_wp2_with fail
      refine (HC2.out _ HR2.out).mono ?_; rintro e w3 ⟨rfl, hr3, hu3⟩
      have HR3 := Lib.hid hr3
      have HB3 := Lib.hid (HB2.out.upd hu3 hbn)
      have HU3 := Lib.hid (HU2.out.trans hu3)
      clear hr3 hu3
      obtain ⟨c0, c1, f0, f1⟩ := id HB3.out
      obtain ⟨d0, d1, -, -⟩ := id (HB3.out.store (min n m) (max n m))
      have HR := Lib.hid ((HR3.out.other (o := 0) hbn.symm (.int .i64 (min n m))).other (o := 1) hbn.symm (.int .i64 (max n m)))
      have HU := Lib.hid ((HU3.out.fresh (o := 0) (Nat.le_refl _) (.int .i64 (min n m))).fresh (o := 1) (Nat.le_refl _) (.int .i64 (max n m)))
      go_wp2
      refine bodyPost_ret (v := .tuple #[.agg #[.int .i64 (min n m), .int .i64 (max n m)], .int .i64 (e2)]) ?_ rfl ⟨by rw [h1, h2, h3], HR.out, HU.out⟩
      simp [results, Tryz.results39, go_sem, d0, d1]
  · have hv : ((v1, v2), v3, v4) = ((n, n), e1, k1) := by have := HV.out; rw [if_pos he] at this; exact this.symm
    simp only [Prod.mk.injEq] at hv
    obtain ⟨⟨rfl, rfl⟩, rfl, rfl⟩ := hv
    have he2 : (v3 == 0) = false := by rw [beq_eq_false_iff_ne]; exact he
    clear HV HC2 HT
    go_enter Tryz.func39, Tryz.ntmps39
    go_wp2_with fail
    refine (HC1.out _ HA.out).mono ?_; rintro e w1 ⟨rfl, hr1, hu1⟩
    have HR1 := Lib.hid hr1
    have HB1 := Lib.hid (HB.out.upd hu1 hbn)
    have HU1 := Lib.hid (HUA.out.trans hu1)
    clear hr1 hu1
    obtain ⟨c0, c1, f0, f1⟩ := id HB1.out
    obtain ⟨d0, d1, -, -⟩ := id (HB1.out.store (v2) (v2))
    have HR := Lib.hid ((HR1.out.other (o := 0) hbn.symm (.int .i64 (v2))).other (o := 1) hbn.symm (.int .i64 (v2)))
    have HU := Lib.hid ((HU1.out.fresh (o := 0) (Nat.le_refl _) (.int .i64 (v2))).fresh (o := 1) (Nat.le_refl _) (.int .i64 (v2)))
    go_wp2
    refine bodyPost_ret (v := .tuple #[.agg #[.int .i64 (v2), .int .i64 (v2)], .int .i64 (v3)]) ?_ rfl ⟨rfl, HR.out, HU.out⟩
    simp [results, Tryz.results39, go_sem, d0, d1]
end Go.Proofs.YtjideokeokmbaaaGreatDoor
