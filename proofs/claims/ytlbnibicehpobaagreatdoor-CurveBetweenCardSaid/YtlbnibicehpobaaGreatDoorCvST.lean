/- CvST: CvS, CvT, joined. -/
import Derived.Test.YtlbnibicehpobaaGreatDoorCvR
import Derived.Test.YtlbnibicehpobaaGreatDoorCvP
import Derived.Test.YtlbnibicehpobaaGreatDoorLvC
set_option linter.unusedVariables false
set_option linter.unusedSimpArgs false

/- Curves: find of the program. -/
namespace Go.Proofs.YtlbnibicehpobaaGreatDoor
open Go.RowKit Go.Shelf
open Z
set_option maxHeartbeats 1000000 in
set_option maxRecDepth 100000 in
theorem cv_find1 {i : Nat} {p q b off n cap : Nat} {below x : Int} (w : World) (hi : i + 1 < n) (hn : n ≤ 16) (c0 : w.cell? ⟨p, 0, none⟩ = some (.int .i64 below)) (c1 : w.cell? ⟨q, 0, none⟩ = some (.slice (some ⟨b, off, none⟩) n cap))
    (c2 : w.cell? ⟨b, off + (i + 1) * 2, none⟩ = some (.int .i64 x)) :
    Calls Tryz.prog 72 #[.int .i64 i, .pointer (some ⟨p, 0, none⟩), .pointer (some ⟨q, 0, none⟩)] w fun e w' => e = .returned (.bool (decide (below < x))) ∧ Gr w w' := by
  have hw : IntKind.i64.wrap ((i : Int) + 1) = ((i + 1 : Nat) : Int) := by rw [show (i : Int) + 1 = ((i + 1 : Nat) : Int) by omega]; exact IntWalk.i64_in _ (by omega)
  go_enter Tryz.func72, Tryz.ntmps72
  go_wp2_with fail
  go_quiet (fail)
  rename_i nq
  have HG3 := Lib.hid (below_drewN (Gr.refl w) nq)
  go_wp2
  go_ret
  exact ⟨rfl, HG3.out⟩
set_option maxRecDepth 100000 in
set_option maxHeartbeats 2000000 in
theorem cv_Search {p q b off n cap m : Nat} {below : Int} {l : Pts} (w : World) (hm : n = m + 2) (hn : n ≤ 16) (hl : l.length = n) (ha : ascX l) (c0 : w.cell? ⟨p, 0, none⟩ = some (.int .i64 below)) (c1 : w.cell? ⟨q, 0, none⟩ = some (.slice (some ⟨b, off, none⟩) n cap)) (hp : PtAt w (some ⟨b, off, none⟩) l) :
    Calls Tryz.prog 71 #[.int .i64 m, .func (.func 72) #[] #[.pointer (some ⟨p, 0, none⟩), .pointer (some ⟨q, 0, none⟩)]] w fun e w' => (∃ k : Nat, e = .returned (.int .i64 k) ∧ k ≤ m ∧ (∀ t (h : t + 1 < l.length), t < k → l[t + 1].1 ≤ below) ∧ (∀ h : k + 1 < l.length, k < m → below < l[k + 1].1)) ∧ Gr w w' := by
  have HP := Lib.hid hp
  have HA := Lib.hid ha
  have HL := Lib.hid hl
  have HC := Lib.hid (And.intro c0 c1)
  have hm16 : m ≤ 14 := by omega
  have HM := Lib.hid hm
  clear hp ha hl c0 c1 hm
  go_enter Tryz.func71, Tryz.ntmps71
  go_wp2
  go_loopw [5, 6] (fun p q wr => ∃ i j : Nat, p = .int .i64 i ∧ q = .int .i64 j ∧ i ≤ j ∧ j ≤ m ∧ Hid (∀ t (h : t + 1 < l.length), t < i → l[t + 1].1 ≤ below) ∧ Hid (∀ h : j + 1 < l.length, j < m → below < l[j + 1].1) ∧ Hid (Gr w wr)) (fun p q _ => (intOf q).toNat - (intOf p).toNat)
  case atStart => exact ⟨0, m, rfl, rfl, by omega, by omega, Lib.hid (fun k h hk => absurd hk (by omega)), Lib.hid (fun k h => absurd h (by omega)), Lib.hid (Gr.refl _)⟩
  case round =>
    obtain ⟨i, j, rfl, rfl, hij, hj, HI, HJ, HG⟩ := hrel
    by_cases hlt : i < j
    · obtain ⟨h, hh⟩ : ∃ h, (i + j) / 2 = h := ⟨_, rfl⟩
      have hhi : i ≤ h := by omega
      have hhj : h < j := by omega
      have hhl : h + 1 < l.length := by rw [HL.out, HM.out]; omega
      have hx := (pts_set (HP.out.gr HG.out) (h + 1) hhl).1
      have HX := Lib.hid (fun w' (hg : Gr wr w') => cv_find1 (i := h) w' (by rw [HM.out]; omega) hn (cv_cell hg (cv_cell HG.out HC.out.1)) (cv_cell hg (cv_cell HG.out HC.out.2)) (cv_cell hg hx))
      have HI2 : Hid (¬ below < l[h + 1].1 → ∀ t (ht : t + 1 < l.length), t < h + 1 → l[t + 1].1 ≤ below) := Lib.hid fun h1 t ht hth => by
        have := ascX_le HA.out hhl (show t + 1 ≤ h + 1 by omega)
        omega
      have HJ2 : Hid (below < l[h + 1].1 → ∀ hk : h + 1 < l.length, h < m → below < l[h + 1].1) := Lib.hid fun h1 _ _ => h1
      generalize hgx : l[h + 1].1 = x at *
      have HHH := Lib.hid hh
      clear hh hx hgx
      have hsh : ((i : Int) + (j : Int)) / 2 = (h : Int) := by have := HHH.out; omega
      go_wp2_with fail
      refine (HX.out _ (Gr.refl _)).mono ?_; rintro e w2 ⟨rfl, hg2⟩
      have HG2 := Lib.hid (HG.out.trans hg2)
      clear hg2 HG HX hsh
      by_cases hx : below < x
      · have HJ3 := Lib.hid (HJ2.out hx)
        have hd : decide (below < x) = true := decide_eq_true hx
        clear HI2 HJ2
        go_wp2
        go_roundw
        case rel => exact ⟨i, h, rfl, rfl, by omega, by omega, HI, HJ3, HG2⟩
        case measure => simp [intOf]; omega
      · have HI3 := Lib.hid (HI2.out (by omega))
        have hd : decide (below < x) = false := decide_eq_false hx
        clear HI2 HJ2
        go_wp2
        go_roundw
        case rel => exact ⟨h + 1, j, by go_num, rfl, by omega, by omega, HI3, HJ, HG2⟩
        case measure => simp [intOf]; omega
    · have hij2 : i = j := by omega
      subst hij2
      go_wp2
      go_ret
      exact ⟨⟨i, rfl, hj, HI.out, HJ.out⟩, HG.out⟩
/-- what find hands back -/
def FoundAt (l : Pts) (r : Rat) (e : Ending) : Prop := ∃ (k : Nat) (p q : Int × Int), IsSeg l r k ∧ l[k]? = some p ∧ l[k + 1]? = some q ∧ e = .returned (vSg p.1 p.2 q.1 q.2)
/-- a block of four ints that may be stored -/
structure SF (w : World) (n : Nat) (a b c d : Int) : Prop where
  c0 : w.cell? ⟨n, 0, none⟩ = some (.int .i64 a)
  c1 : w.cell? ⟨n, 1, none⟩ = some (.int .i64 b)
  c2 : w.cell? ⟨n, 2, none⟩ = some (.int .i64 c)
  c3 : w.cell? ⟨n, 3, none⟩ = some (.int .i64 d)
  f0 : w.frozen? ⟨n, 0, none⟩ = false
  f1 : w.frozen? ⟨n, 1, none⟩ = false
  f2 : w.frozen? ⟨n, 2, none⟩ = false
  f3 : w.frozen? ⟨n, 3, none⟩ = false
theorem SF.new (w : World) (a b c d : Int) (ty : TypeId) : SF (w.alloc (.cells #[.int .i64 a, .int .i64 b, .int .i64 c, .int .i64 d] ty)) w.heap.size a b c d :=
  ⟨by rw [World.cell?_alloc_at _ _ _ _ rfl]; rfl, by rw [World.cell?_alloc_at _ _ _ _ rfl]; rfl, by rw [World.cell?_alloc_at _ _ _ _ rfl]; rfl, by rw [World.cell?_alloc_at _ _ _ _ rfl]; rfl, World.frozen?_alloc_at _ _ _ _ rfl, World.frozen?_alloc_at _ _ _ _ rfl, World.frozen?_alloc_at _ _ _ _ rfl, World.frozen?_alloc_at _ _ _ _ rfl⟩
theorem SF.gr {w w' : World} {n : Nat} {a b c d : Int} (h : SF w n a b c d) (hg : Gr w w') : SF w' n a b c d :=
  ⟨cv_cell hg h.c0, cv_cell hg h.c1, cv_cell hg h.c2, cv_cell hg h.c3, (Below.frozen hg (p := ⟨n, 0, none⟩) (cell_lt h.c0)).trans h.f0, (Below.frozen hg (p := ⟨n, 1, none⟩) (cell_lt h.c0)).trans h.f1, (Below.frozen hg (p := ⟨n, 2, none⟩) (cell_lt h.c0)).trans h.f2, (Below.frozen hg (p := ⟨n, 3, none⟩) (cell_lt h.c0)).trans h.f3⟩
abbrev sfW (w : World) (n : Nat) (a b c d : Int) : World := (((w.setCell ⟨n, 0, none⟩ (.int .i64 a)).setCell ⟨n, 1, none⟩ (.int .i64 b)).setCell ⟨n, 2, none⟩ (.int .i64 c)).setCell ⟨n, 3, none⟩ (.int .i64 d)
theorem SF.store {w0 w : World} {n : Nat} {a b c d : Int} (h : SF w n a b c d) (a' b' c' d' : Int) (hg : Gr w0 w) (hn : w0.heap.size ≤ n) : SF (sfW w n a' b' c' d') n a' b' c' d' ∧ Gr w0 (sfW w n a' b' c' d') := by
  have o : ∀ (W : World) (i j : Nat) (v : Value), j ≠ i → (W.setCell ⟨n, i, none⟩ v).cell? ⟨n, j, none⟩ = W.cell? ⟨n, j, none⟩ := fun W i j v hij => World.cell?_setCell_other _ _ _ _ (by simp [hij])
  have s : ∀ (W : World) (i : Nat) (v u : Value), W.cell? ⟨n, i, none⟩ = some u → (W.setCell ⟨n, i, none⟩ v).cell? ⟨n, i, none⟩ = some v := fun W i v u hu => World.cell?_setCell_same _ _ _ hu
  refine ⟨⟨?_, ?_, ?_, ?_, ?_, ?_, ?_, ?_⟩, Below.setCell (Below.setCell (Below.setCell (Below.setCell hg hn _) hn _) hn _) hn _⟩
  · rw [o _ 3 0 _ (by omega), o _ 2 0 _ (by omega), o _ 1 0 _ (by omega)]; exact s _ _ _ _ h.c0
  · rw [o _ 3 1 _ (by omega), o _ 2 1 _ (by omega)]; exact s _ _ _ _ ((o _ 0 1 _ (by omega)).trans h.c1)
  · rw [o _ 3 2 _ (by omega)]; exact s _ _ _ _ ((o _ 1 2 _ (by omega)).trans ((o _ 0 2 _ (by omega)).trans h.c2))
  · exact s _ _ _ _ ((o _ 2 3 _ (by omega)).trans ((o _ 1 3 _ (by omega)).trans ((o _ 0 3 _ (by omega)).trans h.c3)))
  all_goals simp only [World.frozen?_setCell]
  · exact h.f0
  · exact h.f1
  · exact h.f2
  · exact h.f3
theorem sfW_other {w : World} {n b o : Nat} {a' b' c' d' : Int} (h : b ≠ n) : (sfW w n a' b' c' d').cell? ⟨b, o, none⟩ = w.cell? ⟨b, o, none⟩ := by
  have e : ∀ (W : World) (i : Nat) (v : Value), (W.setCell ⟨n, i, none⟩ v).cell? ⟨b, o, none⟩ = W.cell? ⟨b, o, none⟩ := fun W i v => World.cell?_setCell_far _ _ _ _ (by simpa using fun h' => h h'.symm)
  rw [e, e, e, e]
section
variable {w0 : World} (htab : Tab w0) (hmx : Mx w0) (herr : ErrR w0)
include htab hmx herr
set_option maxHeartbeats 4000000 in
set_option maxRecDepth 100000 in
theorem cv_find {b off cap : Nat} {l : Pts} {r : Rat} (hc : Cv l) (hl : lvlQ r = true) (hr : InR r) (w : World) (hg0 : Gr w0 w) (hp : PtAt w (some ⟨b, off, none⟩) l) :
    Calls Tryz.prog 41 #[.slice (some ⟨b, off, none⟩) l.length cap, .string (RT r)] w fun e w' => FoundAt l r e ∧ Gr w w' := by
  have hlv := lvlQ_iff.1 hl
  have C1 := RetG.of4 fun w1 h => (ret_QFloor (htab_gr htab h) (hmx.gr h) (RT_small hr)).si (floorR_ok hr)
  have hfl : 0 ≤ r.floor ∧ r.floor ≤ 65535 := ⟨Rat.le_floor_iff.2 (by simpa using hlv.1), by
    have h1 := Rat.floor_le (a := r)
    have h2 : ((r.floor : Int) : Rat) ≤ ((65535 : Int) : Rat) := Rat.le_trans h1 hlv.2
    exact Rat.intCast_le_intCast.1 h2⟩
  have HF : Hid (∀ x : Int, (r.floor < x → r ≤ (x : Rat)) ∧ (x ≤ r.floor → (x : Rat) ≤ r)) := Lib.hid fun x => ⟨fun h => Rat.le_of_lt (Rat.floor_lt_iff.1 h), fun h => Rat.le_floor_iff.1 h⟩
  have hin : In r.floor := Nat.le_trans ((nDigits_le_iff _ 5 (by omega)).2 (by omega)) (show 5 ≤ 4096 by omega)
  have hii : inI r.floor = true := by unfold inI minI maxI; rw [decide_eq_true (by omega), decide_eq_true (by omega)]; rfl
  have C2 := RetG.of4 fun w1 h => ret_Small (w0 := w1) hin.len (herr.gr h)
  have hsm : smallR (Tx r.floor) = (r.floor, 0) := by unfold smallR; rw [if_pos hin.chk, data_Tx, ival_itoa, if_pos hii]
  rw [hsm] at C2
  unfold vII at C2
  simp only [] at C2
  have HC1 := Lib.hid C1
  have HC2 := Lib.hid C2
  have HV := Lib.hid hc
  have HLV := Lib.hid hlv
  have HP := Lib.hid hp
  obtain ⟨n, hn⟩ : ∃ n, l.length = n := ⟨_, rfl⟩
  have HN := Lib.hid hn
  have h2 := hc.two
  have h16 := hc.most
  rw [hn] at h2 h16 ⊢
  obtain ⟨m, hm⟩ : ∃ m, n = m + 2 := ⟨n - 2, by omega⟩
  have HM := Lib.hid hm
  have hbw : b < w.heap.size := cell_lt (pts_set hp 0 (by omega)).1
  have HG0 := Lib.hid hg0
  generalize r.floor = below at *
  clear htab hmx herr hc hl hr hg0 hp hin hii hsm hlv C1 C2
  generalize Tx below = t at *
  generalize RT r = s at *
  have hkc : (n : Int) - 1 - 1 = (m : Int) := by omega
  have hw1 : IntKind.i64.wrap ((n : Int) - 1) = (n : Int) - 1 := IntWalk.i64_in _ (by omega)
  have hw2 : IntKind.i64.wrap ((n : Int) - 1 - 1) = (m : Int) := by rw [hkc]; exact IntWalk.i64_in _ (by omega)
  have HB : Hid (((w.alloc (.cells #[.slice (some ⟨b, off, none⟩) n cap] 22)).alloc (oSg 0 0 0 0)).cell? ⟨w.heap.size, 0, none⟩ = some (.slice (some ⟨b, off, none⟩) n cap) ∧ SF ((w.alloc (.cells #[.slice (some ⟨b, off, none⟩) n cap] 22)).alloc (oSg 0 0 0 0)) (w.heap.size + 1) 0 0 0 0) := Lib.hid ⟨by simp, by
    have := SF.new (w.alloc (.cells #[.slice (some ⟨b, off, none⟩) n cap] 22)) 0 0 0 0 64
    rwa [World.size_alloc] at this⟩
  have HG1 : Hid (Gr w ((w.alloc (.cells #[.slice (some ⟨b, off, none⟩) n cap] 22)).alloc (oSg 0 0 0 0))) := Lib.hid (((Gr.refl w).alloc _).alloc _)
  clear hm hn hkc
  go_enter Tryz.func41, Tryz.ntmps41
  go_wp2_with fail
  refine (HC1.out _ (Gr.trans HG0.out HG1.out)).mono ?_
  rintro e w2 ⟨rfl, hg⟩
  have HB2 : Hid (w2.cell? ⟨w.heap.size, 0, none⟩ = some (.slice (some ⟨b, off, none⟩) n cap) ∧ SF w2 (w.heap.size + 1) 0 0 0 0) := Lib.hid ⟨cv_cell hg HB.out.1, HB.out.2.gr hg⟩
  have HG2 := Lib.hid (Gr.trans HG1.out hg)
  clear hg HB HG1
  go_wp2_with fail
  refine (HC2.out _ (Gr.trans HG0.out HG2.out)).mono ?_
  rintro e w3 ⟨rfl, hg⟩
  have HB3 : Hid (w3.cell? ⟨w.heap.size, 0, none⟩ = some (.slice (some ⟨b, off, none⟩) n cap) ∧ SF w3 (w.heap.size + 1) 0 0 0 0) := Lib.hid ⟨cv_cell hg HB2.out.1, HB2.out.2.gr hg⟩
  have HG3 := Lib.hid (Gr.trans HG2.out hg)
  clear hg HB2 HG2
  have hg4 := (Gr.refl w3).alloc (.cells #[.int .i64 below] 3)
  have HB4 : Hid ((w3.alloc (.cells #[.int .i64 below] 3)).cell? ⟨w3.heap.size, 0, none⟩ = some (.int .i64 below) ∧ (w3.alloc (.cells #[.int .i64 below] 3)).cell? ⟨w.heap.size, 0, none⟩ = some (.slice (some ⟨b, off, none⟩) n cap) ∧ SF (w3.alloc (.cells #[.int .i64 below] 3)) (w.heap.size + 1) 0 0 0 0) := Lib.hid ⟨by simp, cv_cell hg4 HB3.out.1, HB3.out.2.gr hg4⟩
  have HG4 := Lib.hid (Gr.trans HG3.out hg4)
  obtain ⟨k0, k1, -⟩ := id HB4.out
  clear hg4 HB3 HG3
  go_wp2_with fail
  refine (cv_Search (m := m) (below := below) (l := l) _ HM.out h16 HN.out HV.out.asc HB4.out.1 HB4.out.2.1 (HP.out.gr HG4.out)).mono ?_
  rintro e w5 ⟨⟨k, rfl, hkm, hI, hJ⟩, hg⟩
  have hk : k + 1 < l.length := by rw [HN.out, HM.out]; omega
  have hkn : k + 1 < n := by rw [HM.out]; omega
  have hseg : IsSeg l r k := by
    refine ⟨hk, ?_, ?_⟩
    · cases k with
      | zero => rw [HV.out.at0]; exact HLV.out.1
      | succ k => exact (HF.out _).2 (hI k (by omega) (by omega))
    · by_cases e : k < m
      · exact (HF.out _).1 (hJ hk e)
      · have e2 : k = m := by omega
        have e3 := HV.out.atL
        have e4 : l.length - 1 = k + 1 := by rw [HN.out, HM.out]; omega
        simp only [e4] at e3
        rw [e3]; exact HLV.out.2
  have HK := Lib.hid (Exists.intro (p := fun h : k + 1 < l.length => IsSeg l r k) hk hseg)
  obtain ⟨d0, d1⟩ := pts_set (HP.out.gr (Gr.trans HG4.out hg)) k (by omega)
  obtain ⟨d2, d3⟩ := pts_set (HP.out.gr (Gr.trans HG4.out hg)) (k + 1) hk
  have HB5 : Hid (w5.cell? ⟨w.heap.size, 0, none⟩ = some (.slice (some ⟨b, off, none⟩) n cap) ∧ SF w5 (w.heap.size + 1) 0 0 0 0) := Lib.hid ⟨cv_cell hg HB4.out.2.1, HB4.out.2.2.gr hg⟩
  have HG5 := Lib.hid (Gr.trans HG4.out hg)
  obtain ⟨A, hA⟩ : ∃ A, l[k].1 = A := ⟨_, rfl⟩
  obtain ⟨B, hB⟩ : ∃ B, l[k].2 = B := ⟨_, rfl⟩
  obtain ⟨C, hC⟩ : ∃ C, l[k + 1].1 = C := ⟨_, rfl⟩
  obtain ⟨D, hD⟩ : ∃ D, l[k + 1].2 = D := ⟨_, rfl⟩
  rw [hA] at d0
  rw [hB] at d1
  rw [hC] at d2
  rw [hD] at d3
  have HE : Hid (FoundAt l r (.returned (vSg A B C D))) := Lib.hid ⟨k, _, _, hseg, List.getElem?_eq_getElem (by omega), List.getElem?_eq_getElem hk, by rw [hA, hB, hC, hD]⟩
  have hwk : IntKind.i64.wrap ((k : Int) + 1) = ((k + 1 : Nat) : Int) := by rw [show (k : Int) + 1 = ((k + 1 : Nat) : Int) by omega]; exact IntWalk.i64_in _ (by omega)
  clear hg HB4 HG4 k0 k1 hI hJ hseg hA hB hC hD hk
  go_wp2_with fail
  have hS0 : (fun w' : World => w'.cell? ⟨w.heap.size, 0, none⟩ = some (.slice (some ⟨b, off, none⟩) n cap) ∧ w'.cell? ⟨b, off + k * 2, none⟩ = some (.int .i64 A) ∧ w'.cell? ⟨b, off + k * 2 + 1, none⟩ = some (.int .i64 B) ∧ w'.cell? ⟨b, off + (k + 1) * 2, none⟩ = some (.int .i64 C) ∧ w'.cell? ⟨b, off + (k + 1) * 2 + 1, none⟩ = some (.int .i64 D)) w5.drew := ⟨cv_cell (Gr.refl _).drew HB5.out.1, cv_cell (Gr.refl _).drew d0, cv_cell (Gr.refl _).drew d1, cv_cell (Gr.refl _).drew d2, cv_cell (Gr.refl _).drew d3⟩
  refine wp_region_held (S := fun w' : World => w'.cell? ⟨w.heap.size, 0, none⟩ = some (.slice (some ⟨b, off, none⟩) n cap) ∧ w'.cell? ⟨b, off + k * 2, none⟩ = some (.int .i64 A) ∧ w'.cell? ⟨b, off + k * 2 + 1, none⟩ = some (.int .i64 B) ∧ w'.cell? ⟨b, off + (k + 1) * 2, none⟩ = some (.int .i64 C) ∧ w'.cell? ⟨b, off + (k + 1) * 2 + 1, none⟩ = some (.int .i64 D)) (by kernel_rfl) ?_
  change wpAnyH _ _ _ _ _ _ _ _ w5.drew
  have HB6 : Hid (SF w5.drew (w.heap.size + 1) 0 0 0 0) := Lib.hid (HB5.out.2.gr (Gr.refl _).drew)
  have HG6 : Hid (Gr w w5.drew) := Lib.hid HG5.out.drew
  clear HB5 HG5 d0 d1 d2 d3
  generalize w5.drew = w6 at *
  refine wpAnyH_take (i := 0) (v := .slice (some ⟨b, off, none⟩) n cap) rfl (by kernel_rfl) (by kernel_rfl) (by kernel_rfl) (fun _ _ _ h => h) (Or.inl ⟨by rfl, ?_⟩) hS0 ?_
  · intro w hSw; obtain ⟨s0, s1, s2, s3, s4⟩ := hSw; go_simp
  try simp only [Act.put, List.getElem_toArray, List.getElem_cons_succ, List.getElem_cons_zero, List.setIfInBounds_toArray, List.set_cons_zero, List.set_cons_succ]
  refine wpAnyH_take (i := 1) (v := .int .i64 k) rfl (by kernel_rfl) (by kernel_rfl) (by kernel_rfl) (fun _ _ _ h => h) (Or.inl ⟨by rfl, ?_⟩) hS0 ?_
  · intro w hSw; go_simp
  try simp only [Act.put, List.getElem_toArray, List.getElem_cons_succ, List.getElem_cons_zero, List.setIfInBounds_toArray, List.set_cons_zero, List.set_cons_succ]
  refine wpAnyH_take (i := 2) (v := .pointer (some ⟨b, off + k * 2, none⟩)) rfl (by kernel_rfl) (by kernel_rfl) (by kernel_rfl) (fun _ _ _ h => h) (Or.inl ⟨by rfl, ?_⟩) hS0 ?_
  · intro w hSw; go_simp; first | done | (intro h; exfalso; omega)
  try simp only [Act.put, List.getElem_toArray, List.getElem_cons_succ, List.getElem_cons_zero, List.setIfInBounds_toArray, List.set_cons_zero, List.set_cons_succ]
  refine wpAnyH_take (i := 3) (v := .agg #[.int .i64 A, .int .i64 B]) rfl (by kernel_rfl) (by kernel_rfl) (by kernel_rfl) (fun _ _ _ h => h) (Or.inl ⟨by rfl, ?_⟩) hS0 ?_
  · intro w hSw; obtain ⟨s0, s1, s2, s3, s4⟩ := hSw; go_simp
  try simp only [Act.put, List.getElem_toArray, List.getElem_cons_succ, List.getElem_cons_zero, List.setIfInBounds_toArray, List.set_cons_zero, List.set_cons_succ]
  refine wpAnyH_take (i := 4) (v := .slice (some ⟨b, off, none⟩) n cap) rfl (by kernel_rfl) (by kernel_rfl) (by kernel_rfl) (fun _ _ _ h => h) (Or.inl ⟨by rfl, ?_⟩) hS0 ?_
  · intro w hSw; obtain ⟨s0, s1, s2, s3, s4⟩ := hSw; go_simp
  try simp only [Act.put, List.getElem_toArray, List.getElem_cons_succ, List.getElem_cons_zero, List.setIfInBounds_toArray, List.set_cons_zero, List.set_cons_succ]
  refine wpAnyH_take (i := 5) (v := .int .i64 k) rfl (by kernel_rfl) (by kernel_rfl) (by kernel_rfl) (fun _ _ _ h => h) (Or.inl ⟨by rfl, ?_⟩) hS0 ?_
  · intro w hSw; go_simp
  try simp only [Act.put, List.getElem_toArray, List.getElem_cons_succ, List.getElem_cons_zero, List.setIfInBounds_toArray, List.set_cons_zero, List.set_cons_succ]
  refine wpAnyH_take (i := 6) (v := .int .i64 ((k + 1 : Nat) : Int)) rfl (by kernel_rfl) (by kernel_rfl) (by kernel_rfl) (fun _ _ _ h => h) (Or.inl ⟨by rfl, ?_⟩) hS0 ?_
  · intro w hSw; go_simp
  try simp only [Act.put, List.getElem_toArray, List.getElem_cons_succ, List.getElem_cons_zero, List.setIfInBounds_toArray, List.set_cons_zero, List.set_cons_succ]
  refine wpAnyH_take (i := 7) (v := .pointer (some ⟨b, off + (k + 1) * 2, none⟩)) rfl (by kernel_rfl) (by kernel_rfl) (by kernel_rfl) (fun _ _ _ h => h) (Or.inl ⟨by rfl, ?_⟩) hS0 ?_
  · intro w hSw; go_simp; first | done | (intro h; exfalso; omega)
  try simp only [Act.put, List.getElem_toArray, List.getElem_cons_succ, List.getElem_cons_zero, List.setIfInBounds_toArray, List.set_cons_zero, List.set_cons_succ]
  refine wpAnyH_take (i := 8) (v := .agg #[.int .i64 C, .int .i64 D]) rfl (by kernel_rfl) (by kernel_rfl) (by kernel_rfl) (fun _ _ _ h => h) (Or.inl ⟨by rfl, ?_⟩) hS0 ?_
  · intro w hSw; obtain ⟨s0, s1, s2, s3, s4⟩ := hSw; go_simp
  try simp only [Act.put, List.getElem_toArray, List.getElem_cons_succ, List.getElem_cons_zero, List.setIfInBounds_toArray, List.set_cons_zero, List.set_cons_succ]
  refine wpAnyH_take (i := 9) (v := vSg A B C D) rfl (by kernel_rfl) (by kernel_rfl) (by kernel_rfl) (fun _ _ _ h => h) (Or.inl ⟨by rfl, ?_⟩) hS0 ?_
  · intro w hSw; go_simp
  try simp only [Act.put, List.getElem_toArray, List.getElem_cons_succ, List.getElem_cons_zero, List.setIfInBounds_toArray, List.set_cons_zero, List.set_cons_succ]
  obtain ⟨q0, q1, q2, q3, g0, g1, g2, g3⟩ := id HB6.out
  obtain ⟨F, G⟩ := HB6.out.store A B C D HG6.out (by omega)
  have HF6 := Lib.hid F
  have HG7 := Lib.hid G
  clear F G
  refine wpAnyH_ready (rs := [10]) (by kernel_rfl) (by simp) (AllReadyH.cons rfl (fun K' hK' => ?_) AllReadyH.nil)
  go_simp
  refine hK'.out _ _ ⟨(sfW_other (by omega)).trans hS0.1, (sfW_other (by omega)).trans hS0.2.1, (sfW_other (by omega)).trans hS0.2.2.1, (sfW_other (by omega)).trans hS0.2.2.2.1, (sfW_other (by omega)).trans hS0.2.2.2.2⟩ (fun hS1 => ?_)
  clear hK' K'
  try simp only [Act.put, List.getElem_toArray, List.getElem_cons_succ, List.getElem_cons_zero, List.setIfInBounds_toArray, List.set_cons_zero, List.set_cons_succ]
  refine wpAnyH_done (by kernel_rfl) ?_ _
  clear q0 q1 q2 q3 g0 g1 g2 g3 hS0 hS1
  go_wp2
  obtain ⟨q0, q1, q2, q3, -⟩ := HF6.out
  refine bodyPost_ret (v := vSg A B C D) (by simp [results, Tryz.results41, go_sem, q0, q1, q2, q3]) rfl ⟨HE.out, HG7.out⟩
end
end Go.Proofs.YtlbnibicehpobaaGreatDoor

/- Curves: climb of the program, walked over texts. -/
namespace Go.Proofs.YtlbnibicehpobaaGreatDoor
open Go.RowKit Go.Shelf
open Z
section
variable {w0 : World}
abbrev clW (w : World) (fx fy tx ty : Int) : World := (w.alloc (oSg fx fy tx ty)).alloc (.cells #[.int .i64 0] 114)
theorem clW_at (w : World) (fx fy tx ty : Int) : Gr w (clW w fx fy tx ty) ∧ Pen (clW w fx fy tx ty) (w.heap.size + 1) ∧ (clW w fx fy tx ty).cell? ⟨w.heap.size, 0, none⟩ = some (.int .i64 fx) ∧ (clW w fx fy tx ty).cell? ⟨w.heap.size, 1, none⟩ = some (.int .i64 fy) ∧ (clW w fx fy tx ty).cell? ⟨w.heap.size, 2, none⟩ = some (.int .i64 tx) ∧ (clW w fx fy tx ty).cell? ⟨w.heap.size, 3, none⟩ = some (.int .i64 ty) := by
  have k := sg_new w fx fy tx ty
  have hg : Gr (w.alloc (oSg fx fy tx ty)) (clW w fx fy tx ty) := (Gr.refl _).alloc _
  refine ⟨((Gr.refl w).alloc _).alloc _, ⟨?_, ?_⟩, cv_cell hg k.1, cv_cell hg k.2.1, cv_cell hg k.2.2.1, cv_cell hg k.2.2.2⟩
  · rw [World.cell?_alloc_at _ _ _ _ (by simp)]; rfl
  · exact World.frozen?_alloc_at _ _ _ _ (by simp)
set_option maxHeartbeats 8000000 in
set_option maxRecDepth 100000 in
theorem cv_climbW {fx fy tx ty : Int} {v sl tfy tfx R tn td twh tre td1 tw m1 tu m2 tba tg1 tu1 tde1 tq3 tdl tq4 trl m3 m4 tsA tc2 tdw tdl2 trw trl2 m5 m6 tsB tle m7 m8 tsC tnu tw2 tdn : ByteArray} (hx : -65535 ≤ fx ∧ fx ≤ 65535) (hx' : -65535 ≤ tx ∧ tx ≤ 65535) (hy : -65535 ≤ fy ∧ fy ≤ 65535) (hy' : -65535 ≤ ty ∧ ty ≤ 65535)
    (HPart : RetG w0 98 #[.int .i64 (ty - fy), .int .i64 (tx - fx)] (.tuple #[.string sl, .int .i64 0]))
    (HPs : RetG w0 99 #[.string sl] (.tuple #[.string tu, .string tw]))
    (HPv : RetG w0 99 #[.string v] (.tuple #[.string tn, .string td]))
    (O1 : RetG w0 102 #[.int .i64 fy] (.string tfy))
    (O2 : RetG w0 102 #[.int .i64 fx] (.string tfx))
    (OF : RetG w0 108 #[.string tnu, .string tdn] (.tuple #[.string R, .int .i64 0]))
    (Q1 : RetG w0 95 #[.string tn, .string td] (.tuple #[.string twh, .int .i64 0]))
    (R1 : RetG w0 123 #[.string tn, .string td] (.tuple #[.string tre, .int .i64 0]))
    (S1 : RetG w0 104 #[.string twh, .string tfx] (.tuple #[.string td1, .int .i64 0]))
    (M1 : RetG w0 107 #[.string tw, .string tfy] (.tuple #[.string m1, .int .i64 0]))
    (M2 : RetG w0 107 #[.string tu, .string td1] (.tuple #[.string m2, .int .i64 0]))
    (A1 : RetG w0 106 #[.string m1, .string m2] (.tuple #[.string tba, .int .i64 0]))
    (GG1 : RetG w0 105 #[.string tu, .string td] (.tuple #[.string tg1, .int .i64 0]))
    (Q2 : RetG w0 95 #[.string tu, .string tg1] (.tuple #[.string tu1, .int .i64 0]))
    (Q3 : RetG w0 95 #[.string td, .string tg1] (.tuple #[.string tde1, .int .i64 0]))
    (Q4 : RetG w0 95 #[.string tde1, .string tw] (.tuple #[.string tq3, .int .i64 0]))
    (R4 : RetG w0 123 #[.string tde1, .string tw] (.tuple #[.string tdl, .int .i64 0]))
    (Q5 : RetG w0 95 #[.string tre, .string tw] (.tuple #[.string tq4, .int .i64 0]))
    (R5 : RetG w0 123 #[.string tre, .string tw] (.tuple #[.string trl, .int .i64 0]))
    (M3 : RetG w0 107 #[.string tba, .string tdl] (.tuple #[.string m3, .int .i64 0]))
    (M4 : RetG w0 107 #[.string tu1, .string trl] (.tuple #[.string m4, .int .i64 0]))
    (A2 : RetG w0 106 #[.string m3, .string m4] (.tuple #[.string tsA, .int .i64 0]))
    (GG2 : RetG w0 105 #[.string tsA, .string tw] (.tuple #[.string tc2, .int .i64 0]))
    (Q6 : RetG w0 95 #[.string tde1, .string tc2] (.tuple #[.string tdw, .int .i64 0]))
    (R6 : RetG w0 123 #[.string tde1, .string tc2] (.tuple #[.string tdl2, .int .i64 0]))
    (Q7 : RetG w0 95 #[.string tre, .string tc2] (.tuple #[.string trw, .int .i64 0]))
    (R7 : RetG w0 123 #[.string tre, .string tc2] (.tuple #[.string trl2, .int .i64 0]))
    (M5 : RetG w0 107 #[.string tba, .string tdl2] (.tuple #[.string m5, .int .i64 0]))
    (M6 : RetG w0 107 #[.string tu1, .string trl2] (.tuple #[.string m6, .int .i64 0]))
    (A3 : RetG w0 106 #[.string m5, .string m6] (.tuple #[.string tsB, .int .i64 0]))
    (Q8 : RetG w0 95 #[.string tsB, .string tc2] (.tuple #[.string tle, .int .i64 0]))
    (M7 : RetG w0 107 #[.string tba, .string tdw] (.tuple #[.string m7, .int .i64 0]))
    (M8 : RetG w0 107 #[.string tu1, .string trw] (.tuple #[.string m8, .int .i64 0]))
    (A4 : RetG w0 106 #[.string m7, .string m8] (.tuple #[.string tsC, .int .i64 0]))
    (A5 : RetG w0 106 #[.string tsC, .string tle] (.tuple #[.string tnu, .int .i64 0]))
    (Q9 : RetG w0 95 #[.string tw, .string tc2] (.tuple #[.string tw2, .int .i64 0]))
    (M9 : RetG w0 107 #[.string tw2, .string tde1] (.tuple #[.string tdn, .int .i64 0])) :
    RetG w0 73 #[vSg fx fy tx ty, .string v] (.tuple #[.string R, .int .i64 0]) := by
  intro w hg
  have HW := Lib.hid (clW_at w fx fy tx ty)
  have hg1 := Gr.trans hg HW.out.1
  have HHPart := Lib.hid (HPart.up hg1)
  have HHPs := Lib.hid (HPs.up hg1)
  have HHPv := Lib.hid (HPv.up hg1)
  have HO1 := Lib.hid (O1.up hg1)
  have HO2 := Lib.hid (O2.up hg1)
  have HOF := Lib.hid (OF.up hg1)
  have HQ1 := Lib.hid (Q1.up hg1)
  have HR1 := Lib.hid (R1.up hg1)
  have HS1 := Lib.hid (S1.up hg1)
  have HM1 := Lib.hid (M1.up hg1)
  have HM2 := Lib.hid (M2.up hg1)
  have HA1 := Lib.hid (A1.up hg1)
  have HGG1 := Lib.hid (GG1.up hg1)
  have HQ2 := Lib.hid (Q2.up hg1)
  have HQ3 := Lib.hid (Q3.up hg1)
  have HQ4 := Lib.hid (Q4.up hg1)
  have HR4 := Lib.hid (R4.up hg1)
  have HQ5 := Lib.hid (Q5.up hg1)
  have HR5 := Lib.hid (R5.up hg1)
  have HM3 := Lib.hid (M3.up hg1)
  have HM4 := Lib.hid (M4.up hg1)
  have HA2 := Lib.hid (A2.up hg1)
  have HGG2 := Lib.hid (GG2.up hg1)
  have HQ6 := Lib.hid (Q6.up hg1)
  have HR6 := Lib.hid (R6.up hg1)
  have HQ7 := Lib.hid (Q7.up hg1)
  have HR7 := Lib.hid (R7.up hg1)
  have HM5 := Lib.hid (M5.up hg1)
  have HM6 := Lib.hid (M6.up hg1)
  have HA3 := Lib.hid (A3.up hg1)
  have HQ8 := Lib.hid (Q8.up hg1)
  have HM7 := Lib.hid (M7.up hg1)
  have HM8 := Lib.hid (M8.up hg1)
  have HA4 := Lib.hid (A4.up hg1)
  have HA5 := Lib.hid (A5.up hg1)
  have HQ9 := Lib.hid (Q9.up hg1)
  have HM9 := Lib.hid (M9.up hg1)
  clear hg hg1 HPart HPs HPv O1 O2 OF Q1 R1 S1 M1 M2 A1 GG1 Q2 Q3 Q4 R4 Q5 R5 M3 M4 A2 GG2 Q6 R6 Q7 R7 M5 M6 A3 Q8 M7 M8 A4 A5 Q9 M9
  obtain ⟨W, hW⟩ : ∃ W, clW w fx fy tx ty = W := ⟨_, rfl⟩
  have HP : Hid (Pen W (w.heap.size + 1)) := Lib.hid (hW ▸ HW.out.2.1)
  have HC : Hid (W.cell? ⟨w.heap.size, 0, none⟩ = some (.int .i64 fx) ∧ W.cell? ⟨w.heap.size, 1, none⟩ = some (.int .i64 fy) ∧ W.cell? ⟨w.heap.size, 2, none⟩ = some (.int .i64 tx) ∧ W.cell? ⟨w.heap.size, 3, none⟩ = some (.int .i64 ty)) := Lib.hid (hW ▸ HW.out.2.2)
  have HG0 : Hid (Gr w W) := Lib.hid (hW ▸ HW.out.1)
  rw [hW] at HHPart HHPs HHPv HO1 HO2 HOF HQ1 HR1 HS1 HM1 HM2 HA1 HGG1 HQ2 HQ3 HQ4 HR4 HQ5 HR5 HM3 HM4 HA2 HGG2 HQ6 HR6 HQ7 HR7 HM5 HM6 HA3 HQ8 HM7 HM8 HA4 HA5 HQ9 HM9
  have HWW := Lib.hid hW
  go_enter Tryz.func73, Tryz.ntmps73
  go_wp2_with fail
  clear hW
  have hS0 : (fun w' : World => Gr W w') W.drew := (Gr.refl _).drew
  refine wp_region_held (S := fun w' : World => Gr W w') (by kernel_rfl) ?_
  change wpAnyH _ _ _ _ _ _ _ _ W.drew
  refine wpAnyH_take (i := 0) (v := vSg fx fy tx ty) rfl (by kernel_rfl) (by kernel_rfl) (by kernel_rfl) (fun _ _ _ h => h) (Or.inl ⟨by rfl, ?_⟩) hS0 ?_
  · intro w hSw; have s0 := cv_cell hSw HC.out.1; have s1 := cv_cell hSw HC.out.2.1; have s2 := cv_cell hSw HC.out.2.2.1; have s3 := cv_cell hSw HC.out.2.2.2; go_simp
  try simp only [Act.put, List.getElem_toArray, List.getElem_cons_succ, List.getElem_cons_zero, List.setIfInBounds_toArray, List.set_cons_zero, List.set_cons_succ]
  refine wpAnyH_take (i := 2) (v := vSg fx fy tx ty) rfl (by kernel_rfl) (by kernel_rfl) (by kernel_rfl) (fun _ _ _ h => h) (Or.inl ⟨by rfl, ?_⟩) hS0 ?_
  · intro w hSw; have s0 := cv_cell hSw HC.out.1; have s1 := cv_cell hSw HC.out.2.1; have s2 := cv_cell hSw HC.out.2.2.1; have s3 := cv_cell hSw HC.out.2.2.2; go_simp
  try simp only [Act.put, List.getElem_toArray, List.getElem_cons_succ, List.getElem_cons_zero, List.setIfInBounds_toArray, List.set_cons_zero, List.set_cons_succ]
  refine wpAnyH_ready (rs := [1]) (by kernel_rfl) (by simp) (AllReadyH.cons rfl (fun K' hK' => ?_) AllReadyH.nil)
  go_simp
  refine (cv_rise fx fy tx ty _ hy hy').mono ?_; rintro e w1 ⟨rfl, hgw1⟩
  refine hK'.out _ _ ((hS0).trans hgw1) (fun hS1 => ?_)
  clear hK' K'
  try simp only [Act.put, List.getElem_toArray, List.getElem_cons_succ, List.getElem_cons_zero, List.setIfInBounds_toArray, List.set_cons_zero, List.set_cons_succ]
  refine wpAnyH_ready (rs := [3]) (by kernel_rfl) (by simp) (AllReadyH.cons rfl (fun K' hK' => ?_) AllReadyH.nil)
  go_simp
  refine (cv_width fx fy tx ty _ hx hx').mono ?_; rintro e w2 ⟨rfl, hgw2⟩
  refine hK'.out _ _ ((hS1).trans hgw2) (fun hS2 => ?_)
  clear hK' K'
  try simp only [Act.put, List.getElem_toArray, List.getElem_cons_succ, List.getElem_cons_zero, List.setIfInBounds_toArray, List.set_cons_zero, List.set_cons_succ]
  refine wpAnyH_ready (rs := [4]) (by kernel_rfl) (by simp) (AllReadyH.cons rfl (fun K' hK' => ?_) AllReadyH.nil)
  go_simp
  refine (HHPart.out _ hS2).mono ?_; rintro e w3 ⟨rfl, hgw3⟩
  refine hK'.out _ _ ((hS2).trans hgw3) (fun hS3 => ?_)
  clear hK' K'
  try simp only [Act.put, List.getElem_toArray, List.getElem_cons_succ, List.getElem_cons_zero, List.setIfInBounds_toArray, List.set_cons_zero, List.set_cons_succ]
  refine wpAnyH_take (i := 5) (v := .tuple #[.string sl, .int .i64 0]) rfl (by kernel_rfl) (by kernel_rfl) (by kernel_rfl) (fun _ _ _ h => h) (Or.inl ⟨by rfl, ?_⟩) hS3 ?_
  · intro w hSw; go_simp
  try simp only [Act.put, List.getElem_toArray, List.getElem_cons_succ, List.getElem_cons_zero, List.setIfInBounds_toArray, List.set_cons_zero, List.set_cons_succ]
  refine wpAnyH_take (i := 6) (v := .string sl) rfl (by kernel_rfl) (by kernel_rfl) (by kernel_rfl) (fun _ _ _ h => h) (Or.inl ⟨by rfl, ?_⟩) hS3 ?_
  · intro w hSw; go_simp
  try simp only [Act.put, List.getElem_toArray, List.getElem_cons_succ, List.getElem_cons_zero, List.setIfInBounds_toArray, List.set_cons_zero, List.set_cons_succ]
  refine wpAnyH_take (i := 7) (v := .int .i64 0) rfl (by kernel_rfl) (by kernel_rfl) (by kernel_rfl) (fun _ _ _ h => h) (Or.inl ⟨by rfl, ?_⟩) hS3 ?_
  · intro w hSw; go_simp
  try simp only [Act.put, List.getElem_toArray, List.getElem_cons_succ, List.getElem_cons_zero, List.setIfInBounds_toArray, List.set_cons_zero, List.set_cons_succ]
  refine wpAnyH_take (i := 8) (v := .string sl) rfl (by kernel_rfl) (by kernel_rfl) (by kernel_rfl) (fun _ _ _ h => h) (Or.inl ⟨by rfl, ?_⟩) hS3 ?_
  · intro w hSw; go_simp
  try simp only [Act.put, List.getElem_toArray, List.getElem_cons_succ, List.getElem_cons_zero, List.setIfInBounds_toArray, List.set_cons_zero, List.set_cons_succ]
  refine wpAnyH_take (i := 9) (v := .int .i64 0) rfl (by kernel_rfl) (by kernel_rfl) (by kernel_rfl) (fun _ _ _ h => h) (Or.inl ⟨by rfl, ?_⟩) hS3 ?_
  · intro w hSw; go_simp
  try simp only [Act.put, List.getElem_toArray, List.getElem_cons_succ, List.getElem_cons_zero, List.setIfInBounds_toArray, List.set_cons_zero, List.set_cons_succ]
  refine wpAnyH_done (by kernel_rfl) ?_ _
  have HG3 := Lib.hid hS3
  clear hS0 hS1 hS2 hS3 hgw1 hgw2 hgw3
  go_wp2_with fail
  refine (HHPs.out _ HG3.out).mono ?_
  rintro e w4 ⟨rfl, hg⟩
  have HG4 := Lib.hid (Gr.trans HG3.out hg)
  clear hg
  go_wp2_with fail
  refine (HHPv.out _ HG4.out).mono ?_
  rintro e w5 ⟨rfl, hg⟩
  have HG5 := Lib.hid (Gr.trans HG4.out hg)
  clear hg
  go_wp2_with fail
  refine (cv_split HP.out HQ1.out HR1.out _ HG5.out).mono ?_
  rintro e w6 ⟨rfl, hg⟩
  have HG6 := Lib.hid (Gr.trans HG5.out hg)
  clear hg
  go_wp2_with fail
  have hS0 : (fun w' : World => Gr w6 w') w6.drew := (Gr.refl _).drew
  refine wp_region_held (S := fun w' : World => Gr w6 w') (by kernel_rfl) ?_
  change wpAnyH _ _ _ _ _ _ _ _ w6.drew
  refine wpAnyH_take (i := 0) (v := .string tw) rfl (by kernel_rfl) (by kernel_rfl) (by kernel_rfl) (fun _ _ _ h => h) (Or.inl ⟨by rfl, ?_⟩) hS0 ?_
  · intro w hSw; go_simp
  try simp only [Act.put, List.getElem_toArray, List.getElem_cons_succ, List.getElem_cons_zero, List.setIfInBounds_toArray, List.set_cons_zero, List.set_cons_succ]
  refine wpAnyH_take (i := 1) (v := .pointer (some ⟨w.heap.size, 0, none⟩)) rfl (by kernel_rfl) (by kernel_rfl) (by kernel_rfl) (fun _ _ _ h => h) (Or.inl ⟨by rfl, ?_⟩) hS0 ?_
  · intro w hSw; go_simp
  try simp only [Act.put, List.getElem_toArray, List.getElem_cons_succ, List.getElem_cons_zero, List.setIfInBounds_toArray, List.set_cons_zero, List.set_cons_succ]
  refine wpAnyH_take (i := 2) (v := .pointer (some ⟨w.heap.size, 1, none⟩)) rfl (by kernel_rfl) (by kernel_rfl) (by kernel_rfl) (fun _ _ _ h => h) (Or.inl ⟨by rfl, ?_⟩) hS0 ?_
  · intro w hSw; go_simp
  try simp only [Act.put, List.getElem_toArray, List.getElem_cons_succ, List.getElem_cons_zero, List.setIfInBounds_toArray, List.set_cons_zero, List.set_cons_succ]
  refine wpAnyH_take (i := 3) (v := .int .i64 fy) rfl (by kernel_rfl) (by kernel_rfl) (by kernel_rfl) (fun _ _ _ h => h) (Or.inl ⟨by rfl, ?_⟩) hS0 ?_
  · intro w hSw; have s0 := cv_cell (Gr.trans HG6.out hSw) HC.out.1; have s1 := cv_cell (Gr.trans HG6.out hSw) HC.out.2.1; go_simp
  try simp only [Act.put, List.getElem_toArray, List.getElem_cons_succ, List.getElem_cons_zero, List.setIfInBounds_toArray, List.set_cons_zero, List.set_cons_succ]
  refine wpAnyH_take (i := 5) (v := .string tu) rfl (by kernel_rfl) (by kernel_rfl) (by kernel_rfl) (fun _ _ _ h => h) (Or.inl ⟨by rfl, ?_⟩) hS0 ?_
  · intro w hSw; go_simp
  try simp only [Act.put, List.getElem_toArray, List.getElem_cons_succ, List.getElem_cons_zero, List.setIfInBounds_toArray, List.set_cons_zero, List.set_cons_succ]
  refine wpAnyH_take (i := 6) (v := .string twh) rfl (by kernel_rfl) (by kernel_rfl) (by kernel_rfl) (fun _ _ _ h => h) (Or.inl ⟨by rfl, ?_⟩) hS0 ?_
  · intro w hSw; go_simp
  try simp only [Act.put, List.getElem_toArray, List.getElem_cons_succ, List.getElem_cons_zero, List.setIfInBounds_toArray, List.set_cons_zero, List.set_cons_succ]
  refine wpAnyH_take (i := 7) (v := .pointer (some ⟨w.heap.size, 0, none⟩)) rfl (by kernel_rfl) (by kernel_rfl) (by kernel_rfl) (fun _ _ _ h => h) (Or.inl ⟨by rfl, ?_⟩) hS0 ?_
  · intro w hSw; go_simp
  try simp only [Act.put, List.getElem_toArray, List.getElem_cons_succ, List.getElem_cons_zero, List.setIfInBounds_toArray, List.set_cons_zero, List.set_cons_succ]
  refine wpAnyH_take (i := 8) (v := .pointer (some ⟨w.heap.size, 0, none⟩)) rfl (by kernel_rfl) (by kernel_rfl) (by kernel_rfl) (fun _ _ _ h => h) (Or.inl ⟨by rfl, ?_⟩) hS0 ?_
  · intro w hSw; go_simp
  try simp only [Act.put, List.getElem_toArray, List.getElem_cons_succ, List.getElem_cons_zero, List.setIfInBounds_toArray, List.set_cons_zero, List.set_cons_succ]
  refine wpAnyH_take (i := 9) (v := .int .i64 fx) rfl (by kernel_rfl) (by kernel_rfl) (by kernel_rfl) (fun _ _ _ h => h) (Or.inl ⟨by rfl, ?_⟩) hS0 ?_
  · intro w hSw; have s0 := cv_cell (Gr.trans HG6.out hSw) HC.out.1; have s1 := cv_cell (Gr.trans HG6.out hSw) HC.out.2.1; go_simp
  try simp only [Act.put, List.getElem_toArray, List.getElem_cons_succ, List.getElem_cons_zero, List.setIfInBounds_toArray, List.set_cons_zero, List.set_cons_succ]
  refine wpAnyH_ready (rs := [4]) (by kernel_rfl) (by simp) (AllReadyH.cons rfl (fun K' hK' => ?_) AllReadyH.nil)
  go_simp
  refine (HO1.out _ (Gr.trans HG6.out hS0)).mono ?_; rintro e w51 ⟨rfl, hgw51⟩
  refine hK'.out _ _ ((hS0).trans hgw51) (fun hS1 => ?_)
  clear hK' K'
  try simp only [Act.put, List.getElem_toArray, List.getElem_cons_succ, List.getElem_cons_zero, List.setIfInBounds_toArray, List.set_cons_zero, List.set_cons_succ]
  refine wpAnyH_ready (rs := [10]) (by kernel_rfl) (by simp) (AllReadyH.cons rfl (fun K' hK' => ?_) AllReadyH.nil)
  go_simp
  refine (HO2.out _ (Gr.trans HG6.out hS1)).mono ?_; rintro e w52 ⟨rfl, hgw52⟩
  refine hK'.out _ _ ((hS1).trans hgw52) (fun hS2 => ?_)
  clear hK' K'
  try simp only [Act.put, List.getElem_toArray, List.getElem_cons_succ, List.getElem_cons_zero, List.setIfInBounds_toArray, List.set_cons_zero, List.set_cons_succ]
  refine wpAnyH_ready (rs := [11]) (by kernel_rfl) (by simp) (AllReadyH.cons rfl (fun K' hK' => ?_) AllReadyH.nil)
  go_simp
  refine (cv_doSub HP.out HS1.out _ (Gr.trans HG6.out hS2)).mono ?_; rintro e w53 ⟨rfl, hgw53⟩
  refine hK'.out _ _ ((hS2).trans hgw53) (fun hS3 => ?_)
  clear hK' K'
  try simp only [Act.put, List.getElem_toArray, List.getElem_cons_succ, List.getElem_cons_zero, List.setIfInBounds_toArray, List.set_cons_zero, List.set_cons_succ]
  refine wpAnyH_ready (rs := [12]) (by kernel_rfl) (by simp) (AllReadyH.cons rfl (fun K' hK' => ?_) AllReadyH.nil)
  go_simp
  refine (cv_sum HP.out HM1.out HM2.out HA1.out _ (Gr.trans HG6.out hS3)).mono ?_; rintro e w54 ⟨rfl, hgw54⟩
  refine hK'.out _ _ ((hS3).trans hgw54) (fun hS4 => ?_)
  clear hK' K'
  try simp only [Act.put, List.getElem_toArray, List.getElem_cons_succ, List.getElem_cons_zero, List.setIfInBounds_toArray, List.set_cons_zero, List.set_cons_succ]
  refine wpAnyH_take (i := 13) (v := .string tba) rfl (by kernel_rfl) (by kernel_rfl) (by kernel_rfl) (fun _ _ _ h => h) (Or.inl ⟨by rfl, ?_⟩) hS4 ?_
  · intro w hSw; go_simp
  try simp only [Act.put, List.getElem_toArray, List.getElem_cons_succ, List.getElem_cons_zero, List.setIfInBounds_toArray, List.set_cons_zero, List.set_cons_succ]
  refine wpAnyH_done (by kernel_rfl) ?_ _
  have HG7 := Lib.hid (Gr.trans HG6.out hS4)
  clear hS0 hS1 hS2 hS3 hS4 hgw51 hgw52 hgw53 hgw54
  generalize w54 = w7 at *
  go_wp2_with fail
  refine (cv_doGcd HP.out HGG1.out _ HG7.out).mono ?_
  rintro e w8 ⟨rfl, hg⟩
  have HG8 := Lib.hid (Gr.trans HG7.out hg)
  clear hg
  go_wp2_with fail
  refine (cv_doQuo HP.out HQ2.out _ HG8.out).mono ?_
  rintro e w9 ⟨rfl, hg⟩
  have HG9 := Lib.hid (Gr.trans HG8.out hg)
  clear hg
  go_wp2_with fail
  refine (cv_doQuo HP.out HQ3.out _ HG9.out).mono ?_
  rintro e w10 ⟨rfl, hg⟩
  have HG10 := Lib.hid (Gr.trans HG9.out hg)
  clear hg
  go_wp2_with fail
  refine (cv_split HP.out HQ4.out HR4.out _ HG10.out).mono ?_
  rintro e w11 ⟨rfl, hg⟩
  have HG11 := Lib.hid (Gr.trans HG10.out hg)
  clear hg
  go_wp2_with fail
  refine (cv_split HP.out HQ5.out HR5.out _ HG11.out).mono ?_
  rintro e w12 ⟨rfl, hg⟩
  have HG12 := Lib.hid (Gr.trans HG11.out hg)
  clear hg
  go_wp2_with fail
  refine (cv_sum HP.out HM3.out HM4.out HA2.out _ HG12.out).mono ?_
  rintro e w13 ⟨rfl, hg⟩
  have HG13 := Lib.hid (Gr.trans HG12.out hg)
  clear hg
  go_wp2_with fail
  refine (cv_doGcd HP.out HGG2.out _ HG13.out).mono ?_
  rintro e w14 ⟨rfl, hg⟩
  have HG14 := Lib.hid (Gr.trans HG13.out hg)
  clear hg
  go_wp2_with fail
  refine (cv_split HP.out HQ6.out HR6.out _ HG14.out).mono ?_
  rintro e w15 ⟨rfl, hg⟩
  have HG15 := Lib.hid (Gr.trans HG14.out hg)
  clear hg
  go_wp2_with fail
  refine (cv_split HP.out HQ7.out HR7.out _ HG15.out).mono ?_
  rintro e w16 ⟨rfl, hg⟩
  have HG16 := Lib.hid (Gr.trans HG15.out hg)
  clear hg
  go_wp2_with fail
  refine (cv_sum HP.out HM5.out HM6.out HA3.out _ HG16.out).mono ?_
  rintro e w17 ⟨rfl, hg⟩
  have HG17 := Lib.hid (Gr.trans HG16.out hg)
  clear hg
  go_wp2_with fail
  refine (cv_doQuo HP.out HQ8.out _ HG17.out).mono ?_
  rintro e w18 ⟨rfl, hg⟩
  have HG18 := Lib.hid (Gr.trans HG17.out hg)
  clear hg
  go_wp2_with fail
  refine (cv_sum HP.out HM7.out HM8.out HA4.out _ HG18.out).mono ?_
  rintro e w19 ⟨rfl, hg⟩
  have HG19 := Lib.hid (Gr.trans HG18.out hg)
  clear hg
  go_wp2_with fail
  refine (cv_doAdd HP.out HA5.out _ HG19.out).mono ?_
  rintro e w20 ⟨rfl, hg⟩
  have HG20 := Lib.hid (Gr.trans HG19.out hg)
  clear hg
  go_wp2_with fail
  refine (cv_doQuo HP.out HQ9.out _ HG20.out).mono ?_
  rintro e w21 ⟨rfl, hg⟩
  have HG21 := Lib.hid (Gr.trans HG20.out hg)
  clear hg
  go_wp2_with fail
  refine (cv_doMul HP.out HM9.out _ HG21.out).mono ?_
  rintro e w22 ⟨rfl, hg⟩
  have HG22 := Lib.hid (Gr.trans HG21.out hg)
  clear hg
  obtain ⟨k0, -⟩ := HP.out.gr HG22.out
  go_wp2_with fail
  refine (HOF.out _ HG22.out).mono ?_
  rintro e w23 ⟨rfl, hg⟩
  have HG23 := Lib.hid (Gr.trans HG22.out hg)
  clear hg
  go_wp2
  go_ret2
  exact ⟨rfl, Gr.trans HG0.out HG23.out⟩
end
end Go.Proofs.YtlbnibicehpobaaGreatDoor
