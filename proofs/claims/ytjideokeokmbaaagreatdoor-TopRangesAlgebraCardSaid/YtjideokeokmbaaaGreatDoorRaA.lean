/- Sets of channels: the program's reader of texts. -/
import Derived.Test.YtjideokeokmbaaaGreatDoorNuC
set_option linter.unusedVariables false
set_option linter.unusedSimpArgs false
namespace Go.Proofs.YtjideokeokmbaaaGreatDoor.Z
open Go
/-- the first place from k on where no blank stands -/
def skipB (l : List UInt8) (k : Nat) : Nat := k + ((l.drop k).takeWhile (· == 32)).length
theorem skipB_blank {l : List UInt8} {k : Nat} (hk : k < l.length) (h : l[k] = 32) : skipB l k = skipB l (k + 1) := by
  unfold skipB
  rw [List.drop_eq_getElem_cons hk, List.takeWhile_cons, h]
  simp; omega
theorem skipB_stop {l : List UInt8} {k : Nat} (h : ∀ hk : k < l.length, l[k] ≠ 32) : skipB l k = k := by
  unfold skipB
  by_cases hk : k < l.length
  · rw [List.drop_eq_getElem_cons hk, List.takeWhile_cons, if_neg (by simpa using h hk)]; rfl
  · rw [List.drop_of_length_le (by omega)]; rfl
theorem skipB_le {l : List UInt8} {k : Nat} (hk : k ≤ l.length) : k ≤ skipB l k ∧ skipB l k ≤ l.length := by
  unfold skipB
  have := (List.takeWhile_sublist (l := l.drop k) (· == 32)).length_le
  rw [List.length_drop] at this
  omega
theorem skipB_skip {l : List UInt8} {k : Nat} (hk : k ≤ l.length) : skipB l (skipB l k) = skipB l k := by
  have key : ∀ n k, l.length - k ≤ n → k ≤ l.length → skipB l (skipB l k) = skipB l k := by
    intro n
    induction n with
    | zero =>
      intro k h hk
      have : skipB l k = k := skipB_stop fun h' => by omega
      rw [this, this]
    | succ n ih =>
      intro k h hk
      by_cases hkl : k < l.length
      · by_cases hb : l[k] = 32
        · rw [skipB_blank hkl hb]; exact ih (k + 1) (by omega) (by omega)
        · have : skipB l k = k := skipB_stop fun _ => hb
          rw [this, this]
      · have : skipB l k = k := skipB_stop fun h' => by omega
        rw [this, this]
  exact key _ k (Nat.le_refl _) hk
/-- the digits at the beginning, and their value, 1000 if it is greater -/
def leadD (l : List UInt8) : List UInt8 := l.takeWhile isD
def capN (l : List UInt8) : Nat := l.foldl (fun n c => min (10 * n + dv c) 1000) 0
theorem capN_snoc (l : List UInt8) (c : UInt8) : capN (l ++ [c]) = min (10 * capN l + dv c) 1000 := by simp [capN]
theorem capN_le (l : List UInt8) : capN l ≤ 1000 := by
  rcases List.eq_nil_or_concat l with rfl | ⟨t, c, rfl⟩
  · simp [capN]
  · rw [List.concat_eq_append, capN_snoc]; omega
theorem leadD_len (l : List UInt8) : (leadD l).length ≤ l.length := (List.takeWhile_sublist _).length_le
theorem leadD_at {l : List UInt8} {j : Nat} (hj : j ≤ l.length) (h : ∀ i (hi : i < l.length), i < j → isD l[i] = true) (hs : ∀ hj' : j < l.length, isD l[j] = false) : leadD l = l.take j := by
  have e : l = l.take j ++ l.drop j := (List.take_append_drop j l).symm
  have h1 : ∀ c ∈ l.take j, isD c = true := fun c hc => by
    obtain ⟨i, hi, rfl⟩ := List.getElem_of_mem hc
    rw [List.length_take] at hi
    rw [List.getElem_take]
    exact h i (by omega) (by omega)
  unfold leadD
  conv => lhs; rw [e]
  rw [List.takeWhile_append_of_pos h1]
  by_cases hj' : j < l.length
  · rw [List.drop_eq_getElem_cons hj', List.takeWhile_cons, if_neg (by rw [hs hj']; decide), List.append_nil]
  · rw [List.drop_of_length_le (by omega)]; simp
theorem capN_take {l : List UInt8} {k : Nat} (h : k < l.length) : capN (l.take (k + 1)) = min (10 * capN (l.take k) + dv l[k]) 1000 := by
  rw [List.take_succ_eq_append_getElem h, capN_snoc]
/-- a channel at a place: it, the error, and how far the reader has come -/
def chanR (l : List UInt8) (k : Nat) : Int × Int × Nat :=
  if leadD (l.drop (skipB l k)) = [] then (0, 4, skipB l k)
  else if 1 ≤ capN (leadD (l.drop (skipB l k))) ∧ capN (leadD (l.drop (skipB l k))) ≤ 999 then ((capN (leadD (l.drop (skipB l k))) : Nat), 0, skipB l k + (leadD (l.drop (skipB l k))).length)
  else (0, 2, skipB l k)
end Go.Proofs.YtjideokeokmbaaaGreatDoor.Z
namespace Go.Proofs.YtjideokeokmbaaaGreatDoor
open Go.RowKit Go.Shelf
open Z

/-- nothing but the block b has changed -/
def Upd (b : Nat) (w w' : World) : Prop := (∀ w0, Gr w0 w → w0.heap.size ≤ b → Gr w0 w') ∧ (∀ k, k < w.heap.size → k ≠ b → w'.heap[k]? = w.heap[k]?) ∧ w.heap.size ≤ w'.heap.size
theorem Upd.refl (b : Nat) (w : World) : Upd b w w := ⟨fun _ h _ => h, fun _ _ _ => rfl, Nat.le_refl _⟩
theorem Upd.trans {b : Nat} {w w1 w2 : World} (h : Upd b w w1) (k : Upd b w1 w2) : Upd b w w2 :=
  ⟨fun w0 hg hb => k.1 w0 (h.1 w0 hg hb) hb, fun j hj hne => (k.2.1 j (by have := h.2.2; omega) hne).trans (h.2.1 j hj hne), Nat.le_trans h.2.2 k.2.2⟩
theorem Upd.of_gr {b : Nat} {w w' : World} (h : Gr w w') : Upd b w w' := ⟨fun _ hg _ => Gr.trans hg h, fun k hk _ => h.block k hk, h.size⟩
theorem Upd.set {b o : Nat} (w : World) (v : Value) : Upd b w (w.setCell ⟨b, o, none⟩ v) :=
  ⟨fun _ hg hb => Below.setCell hg hb _, fun k _ hne => Below.heap_setCell w _ v k hne, by rw [World.size_setCell]; exact Nat.le_refl _⟩
/-- a reader: its text, and the place up to which it has read -/
structure RdrAt (w : World) (b : Nat) (s : ByteArray) (k : Nat) : Prop where
  c0 : w.cell? ⟨b, 0, none⟩ = some (.string s)
  c1 : w.cell? ⟨b, 1, none⟩ = some (.int .i64 (k : Nat))
  f1 : w.frozen? ⟨b, 1, none⟩ = false
def rdrN (w : World) (b : Nat) : Nat := match w.cell? ⟨b, 1, none⟩ with
  | some (.int .i64 j) => j.toNat
  | _ => 0
theorem RdrAt.pos {w : World} {b : Nat} {s : ByteArray} {k : Nat} (h : RdrAt w b s k) : rdrN w b = k := by unfold rdrN; rw [h.c1]; simp
theorem RdrAt.gr {w w' : World} {b : Nat} {s : ByteArray} {k : Nat} (h : RdrAt w b s k) (hg : Gr w w') : RdrAt w' b s k :=
  ⟨cell_gr hg h.c0, cell_gr hg h.c1, (Below.frozen hg (p := ⟨b, 1, none⟩) (cellLt h.c1)).trans h.f1⟩
theorem RdrAt.set {w : World} {b : Nat} {s : ByteArray} {k : Nat} (h : RdrAt w b s k) (j : Nat) : RdrAt (w.setCell ⟨b, 1, none⟩ (.int .i64 (j : Nat))) b s j :=
  ⟨(World.cell?_setCell_other _ _ _ _ (by simp)).trans h.c0, World.cell?_setCell_same _ _ _ h.c1, by rw [World.frozen?_setCell]; exact h.f1⟩
set_option maxHeartbeats 1000000 in
set_option maxRecDepth 100000 in
theorem ra_rest (b : Nat) (s : ByteArray) (k : Nat) (w : World) (hr : RdrAt w b s k) (hs : s.size ≤ 100000) (hk : k ≤ s.size) :
    Calls Tryz.prog 38 #[.pointer (some ⟨b, 0, none⟩)] w fun e w' => e = .returned (.string (s.extract (skipB s.data.toList k) s.size)) ∧ RdrAt w' b s (skipB s.data.toList k) ∧ Upd b w w' := by
  have hsz : s.data.toList.length = s.size := by simp
  have HR := Lib.hid hr
  obtain ⟨K, hK⟩ : ∃ K, K = skipB s.data.toList k := ⟨_, rfl⟩
  have HK := Lib.hid hK
  have hKle : K ≤ s.size := by rw [hK, ← hsz]; exact (skipB_le (by omega)).2
  rw [← hK]
  clear hr hK
  go_enter Tryz.func38, Tryz.ntmps38
  go_wp2
  go_loopw [] (fun wr => ∃ j : Nat, j ≤ s.size ∧ Hid (skipB s.data.toList j = K) ∧ Hid (RdrAt wr b s j) ∧ Hid (Upd b w wr)) (fun wr => s.size - rdrN wr b)
  case atStart => exact ⟨k, hk, HK.out.symm, HR.out, Upd.refl b w⟩
  case round =>
    obtain ⟨j, hj, HJ, HRj, HU⟩ := hrel
    have HPj := Lib.hid HRj.out.pos
    obtain ⟨c0, c1, f1⟩ := HRj.out
    by_cases hlt : j < s.size
    · by_cases hbl : s.data.toList[j]'(by omega) = 32
      · have hb : ((s[j].toNat : Int) == 32) = true := by rw [get_data, hbl]; rfl
        have HJ2 : Hid (skipB s.data.toList (j + 1) = K) := Lib.hid ((skipB_blank (by omega) hbl).symm.trans HJ.out)
        clear hbl
        go_wp2_with fail
        go_quiet (fail)
        rename_i nq
        have HRn := Lib.hid (HRj.out.gr (below_drewN (Gr.refl wr) nq))
        have HUn := Lib.hid (HU.out.trans (.of_gr (below_drewN (Gr.refl wr) nq)))
        clear HRj HU c0 c1 f1
        generalize wr.drewN nq = w2 at *
        obtain ⟨c0, c1, f1⟩ := HRn.out
        have HR3 := Lib.hid (HRn.out.set (j + 1))
        have HU3 := Lib.hid (HUn.out.trans (Upd.set (b := b) (o := 1) w2 (.int .i64 ((j + 1 : Nat) : Int))))
        go_wp2
        go_roundw
        case rel => exact ⟨j + 1, by omega, HJ2.out, HR3.out, HU3.out⟩
        case measure =>
          have e1 : rdrN (w2.setCell ⟨b, 1, none⟩ (.int .i64 ((j : Int) + 1))) b = j + 1 := HR3.out.pos
          rw [e1, HPj.out]; omega
      · have hb : ((s[j].toNat : Int) == 32) = false := by
          rw [beq_eq_false_iff_ne]; intro e
          exact hbl (by rw [← get_data s j hlt]; exact UInt8.toNat_inj.1 (by show s[j].toNat = 32; omega))
        have hjK : j = K := by rw [← HJ.out, skipB_stop fun _ => hbl]
        subst hjK
        clear hbl HJ HK
        go_wp2_with fail
        go_quiet (fail)
        rename_i nq
        have HRn := Lib.hid (HRj.out.gr (below_drewN (Gr.refl wr) nq))
        have HUn := Lib.hid (HU.out.trans (.of_gr (below_drewN (Gr.refl wr) nq)))
        clear HRj HU c0 c1 f1
        generalize wr.drewN nq = w2 at *
        obtain ⟨c0, c1, f1⟩ := HRn.out
        go_wp2_with fail
        go_quiet (fail)
        rename_i nq
        go_wp2
        go_ret
        exact ⟨rfl, HRn.out.gr (below_drewN (Gr.refl w2) nq), HUn.out.trans (.of_gr (below_drewN (Gr.refl w2) nq))⟩
    · have hjK : j = K := by rw [← HJ.out, skipB_stop fun h => by omega]
      subst hjK
      have hge : s.size ≤ j := by omega
      have hlt2 : ¬ j < s.size := hlt
      clear HJ HK
      go_wp2_with fail
      go_quiet (fail)
      rename_i nq
      have HRn := Lib.hid (HRj.out.gr (below_drewN (Gr.refl wr) nq))
      have HUn := Lib.hid (HU.out.trans (.of_gr (below_drewN (Gr.refl wr) nq)))
      clear HRj HU c0 c1 f1
      generalize wr.drewN nq = w2 at *
      obtain ⟨c0, c1, f1⟩ := HRn.out
      go_wp2_with fail
      go_quiet (fail)
      rename_i nq
      go_wp2
      go_ret
      exact ⟨rfl, HRn.out.gr (below_drewN (Gr.refl w2) nq), HUn.out.trans (.of_gr (below_drewN (Gr.refl w2) nq))⟩
theorem ext_list (s : ByteArray) (k : Nat) : (s.extract k s.size).data.toList = s.data.toList.drop k := by rw [ext_drop, data_str]
set_option maxHeartbeats 1000000 in
set_option maxRecDepth 100000 in
theorem ra_take (b : Nat) (s p : ByteArray) (k : Nat) (w : World) (hr : RdrAt w b s k) (hs : s.size ≤ 100000) (hk : k ≤ s.size) (hp : p.size ≤ 100) :
    Calls Tryz.prog 41 #[.pointer (some ⟨b, 0, none⟩), .string p] w fun e w' => e = .returned (.bool (Lib.hasPrefix (s.data.toList.drop (skipB s.data.toList k)) p.data.toList)) ∧
      RdrAt w' b s (if Lib.hasPrefix (s.data.toList.drop (skipB s.data.toList k)) p.data.toList = true then skipB s.data.toList k + p.size else skipB s.data.toList k) ∧ Upd b w w' := by
  have hsz : s.data.toList.length = s.size := by simp
  have HR := Lib.hid (ra_rest b s k w hr hs hk)
  have HP := Lib.hid (fun w => Tryz.strings_HasPrefix (s.extract (skipB s.data.toList k) s.size) p w)
  rw [ext_list] at HP
  have hK : skipB s.data.toList k ≤ s.size := by rw [← hsz]; exact (skipB_le (by omega)).2
  clear hr hk hsz
  generalize Lib.hasPrefix (s.data.toList.drop (skipB s.data.toList k)) p.data.toList = r at *
  generalize skipB s.data.toList k = K at *
  generalize s.extract K s.size = R at *
  cases r
  · go_enter Tryz.func41, Tryz.ntmps41
    go_wp2_with fail
    refine HR.out.mono ?_; rintro e w1 ⟨rfl, hr1, hu1⟩
    have HR1 := Lib.hid hr1
    have HU1 := Lib.hid hu1
    clear hr1 hu1
    go_wp2_with fail
    refine (HP.out _).mono ?_; rintro e w' ⟨rfl, rfl⟩
    go_wp2
    go_ret
    exact ⟨rfl, HR1.out, HU1.out⟩
  · go_enter Tryz.func41, Tryz.ntmps41
    go_wp2_with fail
    refine HR.out.mono ?_; rintro e w1 ⟨rfl, hr1, hu1⟩
    have HR1 := Lib.hid hr1
    have HU1 := Lib.hid hu1
    clear hr1 hu1
    go_wp2_with fail
    refine (HP.out _).mono ?_; rintro e w' ⟨rfl, rfl⟩
    obtain ⟨c0, c1, f1⟩ := HR1.out
    have HR2 := Lib.hid (HR1.out.set (K + p.size))
    have HU2 := Lib.hid (HU1.out.trans (Upd.set (b := b) (o := 1) _ (.int .i64 ((K + p.size : Nat) : Int))))
    go_wp2
    go_ret
    exact ⟨rfl, HR2.out, HU2.out⟩
set_option maxHeartbeats 1000000 in
theorem ra_isDigit (c : Nat) (w : World) (hc : c ≤ 255) : Calls Tryz.prog 66 #[.int .u8 (c : Int)] w fun e w' => e = .returned (.bool (decide (48 ≤ c) && decide (c ≤ 57))) ∧ w = w' := by
  rcases Nat.lt_or_ge c 48 with h | h
  · rw [decide_eq_false (by omega)]
    go_enter Tryz.func66, Tryz.ntmps66
    go_wp2
    go_ret
    exact ⟨ret_bool (by first | rfl | (simp <;> omega)), rfl⟩
  · rcases Nat.lt_or_ge 57 c with h2 | h2
    · rw [decide_eq_true h, decide_eq_false (by omega)]
      go_enter Tryz.func66, Tryz.ntmps66
      go_wp2
      go_ret
      exact ⟨ret_bool (by first | rfl | (simp <;> omega)), rfl⟩
    · rw [decide_eq_true h, decide_eq_true h2]
      go_enter Tryz.func66, Tryz.ntmps66
      go_wp2
      go_ret
      exact ⟨ret_bool (by first | rfl | (simp <;> omega)), rfl⟩
set_option maxHeartbeats 1000000 in
theorem ra_isChannel (n : Int) (w : World) (h0 : -1000000 ≤ n) (h1 : n ≤ 1000000) : Calls Tryz.prog 67 #[.int .i64 n] w fun e w' => e = .returned (.bool (decide (1 ≤ n) && decide (n ≤ 999))) ∧ w = w' := by
  rcases Int.lt_or_le n 1 with h | h
  · rw [decide_eq_false (by omega)]
    go_enter Tryz.func67, Tryz.ntmps67
    go_wp2
    go_ret
    exact ⟨ret_bool (by first | rfl | (simp <;> omega)), rfl⟩
  · rcases Int.lt_or_le 999 n with h2 | h2
    · rw [decide_eq_true h, decide_eq_false (by omega)]
      go_enter Tryz.func67, Tryz.ntmps67
      go_wp2
      go_ret
      exact ⟨ret_bool (by first | rfl | (simp <;> omega)), rfl⟩
    · rw [decide_eq_true h, decide_eq_true h2]
      go_enter Tryz.func67, Tryz.ntmps67
      go_wp2
      go_ret
      exact ⟨ret_bool (by first | rfl | (simp <;> omega)), rfl⟩
set_option maxHeartbeats 2000000 in
set_option maxRecDepth 100000 in
theorem ra_channel (b : Nat) (s : ByteArray) (k : Nat) (w : World) (hr : RdrAt w b s k) (hs : s.size ≤ 100000) (hk : k ≤ s.size) :
    Calls Tryz.prog 52 #[.pointer (some ⟨b, 0, none⟩)] w fun e w' => e = .returned (.tuple #[.int .i64 (chanR s.data.toList k).1, .int .i64 (chanR s.data.toList k).2.1]) ∧ RdrAt w' b s (chanR s.data.toList k).2.2 ∧ Upd b w w' := by
  have hsz : s.data.toList.length = s.size := by simp
  have HR := Lib.hid (ra_rest b s k w hr hs hk)
  have hK : skipB s.data.toList k ≤ s.size := by rw [← hsz]; exact (skipB_le (by omega)).2
  obtain ⟨v, hv⟩ : ∃ v, chanR s.data.toList k = v := ⟨_, rfl⟩
  have HV := Lib.hid hv
  rw [hv]
  unfold chanR at HV
  have hRl : (s.extract (skipB s.data.toList k) s.size).data.toList = s.data.toList.drop (skipB s.data.toList k) := ext_list _ _
  rw [← hRl] at HV
  have hRz : (s.extract (skipB s.data.toList k) s.size).size ≤ 100000 := by
    have : (s.extract (skipB s.data.toList k) s.size).data.toList.length = (s.extract (skipB s.data.toList k) s.size).size := by simp
    rw [← this, hRl, List.length_drop]; omega
  have hRs : (s.extract (skipB s.data.toList k) s.size).size + skipB s.data.toList k ≤ 100000 := by
    have : (s.extract (skipB s.data.toList k) s.size).data.toList.length = (s.extract (skipB s.data.toList k) s.size).size := by simp
    rw [← this, hRl, List.length_drop]; omega
  clear hr hk hv hRl hsz
  generalize skipB s.data.toList k = K at *
  generalize s.extract K s.size = R at *
  have hRn : R.data.toList.length = R.size := by simp
  have hld := leadD_len R.data.toList
  obtain ⟨v1, v2, v3⟩ := v
  have DG := Lib.hid (fun (c : Nat) w (h : c ≤ 255) => ra_isDigit c w h)
  go_enter Tryz.func52, Tryz.ntmps52
  go_wp2_with fail
  refine HR.out.mono ?_; rintro e w1 ⟨rfl, hr1, hu1⟩
  have HR1 := Lib.hid hr1
  have HU1 := Lib.hid hu1
  clear hr1 hu1 HR
  go_wp2
  go_loop [5, 6] (fun n d => ∃ j : Nat, j ≤ R.size ∧ d = .int .i64 j ∧ n = .int .i64 (capN (R.data.toList.take j) : Nat) ∧ Hid (∀ i (hi : i < R.data.toList.length), i < j → isD R.data.toList[i] = true)) (fun _ d => R.size - (intOf d).toNat)
  case atStart => exact ⟨0, Nat.zero_le _, rfl, rfl, fun i hi h => absurd h (by omega)⟩
  case round =>
    obtain ⟨j, hj, rfl, rfl, HK⟩ := hrel
    have hcl := capN_le (R.data.toList.take j)
    have HDone : Hid ((∀ hj' : j < R.data.toList.length, isD R.data.toList[j] = false) → leadD R.data.toList = R.data.toList.take j) := Lib.hid fun h => leadD_at (by omega) HK.out h
    have HFin : Hid (v1 = if R.data.toList.take j = [] then 0 else if 1 ≤ capN (R.data.toList.take j) ∧ capN (R.data.toList.take j) ≤ 999 then (capN (R.data.toList.take j) : Int) else 0) → Hid True := fun _ => trivial
    clear HFin
    have HV0 : Hid (leadD R.data.toList = R.data.toList.take j → j = 0 → (v1, v2, v3) = (0, 4, K)) := Lib.hid fun h h0 => by rw [← HV.out, h, if_pos (by rw [h0]; rfl)]
    have hne : j ≤ R.size → 0 < j → R.data.toList.take j ≠ [] := fun h1 h2 e => by
      have : min j R.data.toList.length = 0 := by rw [← List.length_take, e]; rfl
      omega
    have hlt : (R.data.toList.take j).length = j := by rw [List.length_take]; omega
    have HV1 : Hid (leadD R.data.toList = R.data.toList.take j → 0 < j → (1 ≤ capN (R.data.toList.take j) ∧ capN (R.data.toList.take j) ≤ 999) → (v1, v2, v3) = ((capN (R.data.toList.take j) : Int), 0, K + j)) := Lib.hid fun h h0 h1 => by rw [← HV.out, h, if_neg (hne hj h0), if_pos h1, hlt]
    have HV2 : Hid (leadD R.data.toList = R.data.toList.take j → 0 < j → ¬ (1 ≤ capN (R.data.toList.take j) ∧ capN (R.data.toList.take j) ≤ 999) → (v1, v2, v3) = (0, 2, K)) := Lib.hid fun h h0 h1 => by rw [← HV.out, h, if_neg (hne hj h0), if_neg h1]
    clear hne hlt
    by_cases hjl : j < R.size
    · obtain ⟨c, hc⟩ : ∃ c : Nat, R[j].toNat = c := ⟨_, rfl⟩
      have hc255 : c ≤ 255 := by have := R[j].toNat_lt; omega
      have hci : (R[j].toNat : Int) = (c : Int) := by omega
      have hdv : isD R.data.toList[j] = (decide (48 ≤ c) && decide (c ≤ 57)) := by rw [← get_data R j hjl]; unfold isD; rw [hc]
      by_cases hd : 48 ≤ c ∧ c ≤ 57
      · obtain ⟨d1, d2⟩ := hd
        have HD := Lib.hid (fun w => DG.out c w hc255)
        rw [decide_eq_true d1, decide_eq_true d2] at HD hdv
        have HK2 : Hid (∀ i (hi : i < R.data.toList.length), i < j + 1 → isD R.data.toList[i] = true) := Lib.hid fun i hi h => by
          by_cases hij : i = j
          · subst hij; exact hdv
          · exact HK.out i hi (by omega)
        have HN : Hid (capN (R.data.toList.take (j + 1)) = min (10 * capN (R.data.toList.take j) + (c - 48)) 1000) := Lib.hid (by
          rw [capN_take (by omega)]
          show min (10 * _ + (_ - 48)) 1000 = _
          rw [← get_data R j hjl, hc])
        obtain ⟨n, hn⟩ : ∃ n, capN (R.data.toList.take j) = n := ⟨_, rfl⟩
        rw [hn] at hcl HN ⊢
        obtain ⟨m, hm⟩ : ∃ m : Nat, m = min (10 * n + (c - 48)) 1000 := ⟨_, rfl⟩
        have hmin : min (10 * (n : Int) + ((c : Int) - 48)) 1000 = (m : Int) := by omega
        have HM := Lib.hid hm
        have hm1 : m ≤ 1000 := by omega
        clear hdv HV0 HV1 HV2 HDone HK hn hc hm
        go_wp2_with fail
        refine (HD.out _).mono ?_; rintro e w' ⟨rfl, rfl⟩
        go_wp2
        go_round
        case rel => exact ⟨j + 1, by omega, by go_num, by rw [HN.out, ← HM.out], HK2.out⟩
        case measure => simp [intOf]; omega
      · have HD := Lib.hid (fun w => DG.out c w hc255)
        have hdf : (decide (48 ≤ c) && decide (c ≤ 57)) = false := by
          rw [Bool.and_eq_false_iff, decide_eq_false_iff_not, decide_eq_false_iff_not]; omega
        rw [hdf] at HD hdv
        have hl := HDone.out (fun _ => hdv)
        have H0 := Lib.hid (HV0.out hl)
        have H1 := Lib.hid (HV1.out hl)
        have H2 := Lib.hid (HV2.out hl)
        clear hdv HV0 HV1 HV2 HDone HK hl hdf hd hc
        generalize capN (R.data.toList.take j) = n at *
        have hjz : j ≤ 100000 := by omega
        by_cases h0 : j = 0
        · have hv := H0.out h0
          simp only [Prod.mk.injEq] at hv
          obtain ⟨rfl, rfl, rfl⟩ := hv
          have hj0 : ((j : Int) == 0) = true := by rw [beq_iff_eq]; omega
          clear H0 H1 H2 h0 HV
          go_wp2_with fail
          refine (HD.out _).mono ?_; rintro e w' ⟨rfl, rfl⟩
          go_wp2
          go_ret2
          exact ⟨rfl, HR1.out, HU1.out⟩
        · have hj0 : ((j : Int) == 0) = false := by rw [beq_eq_false_iff_ne]; omega
          by_cases hn : 1 ≤ n ∧ n ≤ 999
          · have hv := H1.out (by omega) hn
            simp only [Prod.mk.injEq] at hv
            obtain ⟨rfl, rfl, rfl⟩ := hv
            have CH := Lib.hid (fun w => ra_isChannel (n : Int) w (by omega) (by omega))
            rw [decide_eq_true (by omega), decide_eq_true (by omega)] at CH
            clear H0 H1 H2 h0 HV
            go_wp2_with fail
            refine (HD.out _).mono ?_; rintro e w' ⟨rfl, rfl⟩
            go_wp2_with fail
            refine (CH.out _).mono ?_; rintro e w' ⟨rfl, rfl⟩
            obtain ⟨c0, c1, f1⟩ := HR1.out
            have HR2 := Lib.hid (HR1.out.set (K + j))
            have HU2 := Lib.hid (HU1.out.trans (Upd.set (b := b) (o := 1) _ (.int .i64 ((K + j : Nat) : Int))))
            go_wp2
            go_ret2
            exact ⟨rfl, HR2.out, HU2.out⟩
          · have hv := H2.out (by omega) hn
            simp only [Prod.mk.injEq] at hv
            obtain ⟨rfl, rfl, rfl⟩ := hv
            have CH := Lib.hid (fun w => ra_isChannel (n : Int) w (by omega) (by omega))
            rw [show (decide (1 ≤ (n : Int)) && decide ((n : Int) ≤ 999)) = false by rw [Bool.and_eq_false_iff, decide_eq_false_iff_not, decide_eq_false_iff_not]; omega] at CH
            clear H0 H1 H2 h0 HV
            go_wp2_with fail
            refine (HD.out _).mono ?_; rintro e w' ⟨rfl, rfl⟩
            go_wp2_with fail
            refine (CH.out _).mono ?_; rintro e w' ⟨rfl, rfl⟩
            go_wp2
            go_ret2
            exact ⟨rfl, HR1.out, HU1.out⟩
    · have hl := HDone.out (fun hj' => absurd hj' (by omega))
      have H0 := Lib.hid (HV0.out hl)
      have H1 := Lib.hid (HV1.out hl)
      have H2 := Lib.hid (HV2.out hl)
      have hge : R.size ≤ j := by omega
      clear HV0 HV1 HV2 HDone HK hl
      generalize capN (R.data.toList.take j) = n at *
      have hjz : j ≤ 100000 := by omega
      by_cases h0 : j = 0
      · have hv := H0.out h0
        simp only [Prod.mk.injEq] at hv
        obtain ⟨rfl, rfl, rfl⟩ := hv
        have hj0 : ((j : Int) == 0) = true := by rw [beq_iff_eq]; omega
        clear H0 H1 H2 h0 HV
        go_wp2
        go_ret2
        exact ⟨rfl, HR1.out, HU1.out⟩
      · have hj0 : ((j : Int) == 0) = false := by rw [beq_eq_false_iff_ne]; omega
        by_cases hn : 1 ≤ n ∧ n ≤ 999
        · have hv := H1.out (by omega) hn
          simp only [Prod.mk.injEq] at hv
          obtain ⟨rfl, rfl, rfl⟩ := hv
          have CH := Lib.hid (fun w => ra_isChannel (n : Int) w (by omega) (by omega))
          rw [decide_eq_true (by omega), decide_eq_true (by omega)] at CH
          clear H0 H1 H2 h0 HV
          go_wp2_with fail
          refine (CH.out _).mono ?_; rintro e w' ⟨rfl, rfl⟩
          obtain ⟨c0, c1, f1⟩ := HR1.out
          have HR2 := Lib.hid (HR1.out.set (K + j))
          have HU2 := Lib.hid (HU1.out.trans (Upd.set (b := b) (o := 1) _ (.int .i64 ((K + j : Nat) : Int))))
          go_wp2
          go_ret2
          exact ⟨rfl, HR2.out, HU2.out⟩
        · have hv := H2.out (by omega) hn
          simp only [Prod.mk.injEq] at hv
          obtain ⟨rfl, rfl, rfl⟩ := hv
          have CH := Lib.hid (fun w => ra_isChannel (n : Int) w (by omega) (by omega))
          rw [show (decide (1 ≤ (n : Int)) && decide ((n : Int) ≤ 999)) = false by rw [Bool.and_eq_false_iff, decide_eq_false_iff_not, decide_eq_false_iff_not]; omega] at CH
          clear H0 H1 H2 h0 HV
          go_wp2_with fail
          refine (CH.out _).mono ?_; rintro e w' ⟨rfl, rfl⟩
          go_wp2
          go_ret2
          exact ⟨rfl, HR1.out, HU1.out⟩
end Go.Proofs.YtjideokeokmbaaaGreatDoor
