/- RaTW: RaT, RaU, RaV, RaW, joined. -/
import Derived.Test.YtjideokeokmbaaaGreatDoorRaOS
set_option linter.unusedVariables false
set_option linter.unusedSimpArgs false

/- Sets of channels: the program's Holds. -/
namespace Go.Proofs.YtjideokeokmbaaaGreatDoor.Z
open Go
def hasR (c : Int) (r : Int × Int) : Bool := decide (r.1 ≤ c) && decide (c ≤ r.2)
def holdsR (R : List (Int × Int)) (c : Int) : Bool × Int := if checkR R ≠ 0 then (false, checkR R) else (R.any (hasR c), 0)
end Go.Proofs.YtjideokeokmbaaaGreatDoor.Z
namespace Go.Proofs.YtjideokeokmbaaaGreatDoor
open Go.RowKit Go.Shelf
open Z
end Go.Proofs.YtjideokeokmbaaaGreatDoor

/- Sets of channels: slices.Equal of integers and of ranges. -/
namespace Go.Proofs.YtjideokeokmbaaaGreatDoor
open Go.RowKit Go.Shelf
open Z
theorem IntsAt.gr {w w' : World} {a : Option Addr} {L : List Int} (h : IntsAt w a L) (hg : Gr w w') : IntsAt w' a L := by
  rcases h with h | ⟨b, off, ha, hc⟩
  · exact .inl h
  · exact .inr ⟨b, off, ha, fun j hj => cell_gr hg (hc j hj)⟩
theorem IntsAt.at {w : World} {a : Option Addr} {L : List Int} (h : IntsAt w a L) {j : Nat} (hj : j < L.length) : ∃ b off, a = some ⟨b, off, none⟩ ∧ w.cell? ⟨b, off + j, none⟩ = some (.int .i64 L[j]) := by
  rcases h with ⟨-, h⟩ | ⟨b, off, ha, hc⟩
  · rw [h] at hj; simp at hj
  · exact ⟨b, off, ha, hc j hj⟩
theorem RngAt.at {w : World} {a : Option Addr} {R : List (Int × Int)} (h : RngAt w a R) {j : Nat} (hj : j < R.length) : ∃ b off, a = some ⟨b, off, none⟩ ∧ w.cell? ⟨b, off + j * 2, none⟩ = some (.int .i64 R[j].1) ∧ w.cell? ⟨b, off + j * 2 + 1, none⟩ = some (.int .i64 R[j].2) := by
  rcases h with ⟨-, h⟩ | ⟨b, off, ha, hc⟩
  · rw [h] at hj; simp at hj
  · exact ⟨b, off, ha, hc j hj⟩
set_option maxHeartbeats 1000000 in
set_option maxRecDepth 100000 in
theorem sl_EqualR (a b : Option Addr) (L M : List (Int × Int)) (ca cb : Nat) (w : World) (hL : RngAt w a L) (hM : RngAt w b M) (hl : L.length ≤ 10000000000000) (hm : M.length ≤ 10000000000000) :
    Calls Tryz.prog 13 #[.slice a L.length ca, .slice b M.length cb] w fun e w' => e = .returned (.bool (decide (L = M))) ∧ Gr w w' := by
  have HL := Lib.hid hL
  have HM := Lib.hid hM
  clear hL hM
  by_cases hlm : L.length = M.length
  · obtain ⟨n, hn⟩ : ∃ n, L.length = n := ⟨_, rfl⟩
    have HN := Lib.hid hn
    have HN2 := Lib.hid (hlm.symm.trans hn)
    rw [hn] at hl
    rw [hn, hlm.symm.trans hn]
    clear hlm hn hm
    obtain ⟨V, hV⟩ : ∃ V, decide (L = M) = V := ⟨_, rfl⟩
    rw [hV]
    have HV := Lib.hid hV
    clear hV
    go_enter Tryz.func13, Tryz.ntmps13
    go_wp2
    go_loopw [13] (fun i wr => ∃ j : Nat, i = .int .i64 j ∧ j ≤ n ∧ Hid (∀ k (h : k < L.length) (h' : k < M.length), k < j → L[k] = M[k]) ∧ Hid (Gr w wr)) (fun i _ => n - (intOf i).toNat)
    case atStart => exact ⟨0, rfl, Nat.zero_le _, Lib.hid (fun k _ _ h => absurd h (by omega)), Lib.hid (Gr.refl w)⟩
    case round =>
      obtain ⟨j, rfl, hj, HP, HG⟩ := hrel
      by_cases hlt : j < n
      · have j1 : j < L.length := by rw [HN.out]; exact hlt
        have j2 : j < M.length := by rw [HN2.out]; exact hlt
        obtain ⟨p, o, rfl, c0, c0'⟩ := (HL.out.gr HG.out).at j1
        obtain ⟨q, r, rfl, c1, c1'⟩ := (HM.out.gr HG.out).at j2
        by_cases he : L[j] = M[j]
        · have HP3 : Hid (∀ k (h : k < L.length) (h' : k < M.length), k < j + 1 → L[k] = M[k]) := Lib.hid fun k h h' hkj => by
            by_cases e : k = j
            · subst e; exact he
            · exact HP.out k h h' (by omega)
          rw [← he] at c1 c1'
          generalize L[j] = x at *
          obtain ⟨f, t⟩ := x
          simp only at c0 c0' c1 c1'
          clear he HP
          go_wp2_with fail
          go_quiet (fail)
          rename_i nq
          have HG3 := Lib.hid (below_drewN HG.out nq)
          go_wp2
          go_roundw
          case rel => exact ⟨j + 1, by go_num, by omega, HP3, HG3⟩
          case measure => simp [intOf]; omega
        · have hv : V = false := by rw [← HV.out, decide_eq_false_iff_not]; rintro rfl; exact he rfl
          subst hv
          generalize L[j] = x at *
          generalize M[j] = y at *
          obtain ⟨f, t⟩ := x
          obtain ⟨f', t'⟩ := y
          simp only at c0 c0' c1 c1'
          clear HP HV
          by_cases hf : f = f'
          · subst hf
            have ht : (t == t') = false := by rw [beq_eq_false_iff_ne]; rintro rfl; exact he rfl
            clear he
            go_wp2_with fail
            go_quiet (fail)
            rename_i nq
            have HG3 := Lib.hid (below_drewN HG.out nq)
            go_wp2
            go_ret
            exact ⟨rfl, HG3.out⟩
          · have hff : (f == f') = false := by rw [beq_eq_false_iff_ne]; exact hf
            clear he
            go_wp2_with fail
            go_quiet (fail)
            rename_i nq
            have HG3 := Lib.hid (below_drewN HG.out nq)
            go_wp2
            go_ret
            exact ⟨rfl, HG3.out⟩
      · have hv : V = true := by
          rw [← HV.out, decide_eq_true_iff]
          refine List.ext_getElem (HN.out.trans HN2.out.symm) fun k h1 h2 => HP.out k h1 h2 ?_
          have := HN.out; omega
        subst hv
        clear HP HV
        go_wp2
        go_ret
        exact ⟨rfl, HG.out⟩
  · rw [decide_eq_false (fun e => hlm (by rw [e]))]
    generalize L.length = n at *
    generalize M.length = m at *
    go_enter Tryz.func13, Tryz.ntmps13
    go_wp2
    go_ret
    exact ⟨rfl, Gr.refl w⟩
end Go.Proofs.YtjideokeokmbaaaGreatDoor

/- Sets of channels: the examples of the chapter, worked out. -/
namespace Go.Proofs.YtjideokeokmbaaaGreatDoor.Z
open Go
theorem setStep_off {g : Nat → Bool} {l : List (Int × Int)} {k : Nat} (h : g k = false) : setStep g l k = l := by unfold setStep; rw [h]; simp
theorem setS_stop {g : Nat → Bool} {n : Nat} (h : ∀ k, n ≤ k → g k = false) : ∀ m, setS g (n + m) = setS g n
  | 0 => rfl
  | m + 1 => (setStep_off (h (n + m) (by omega))).trans (setS_stop h m)
theorem setS_congr {g h : Nat → Bool} : ∀ n, (∀ k, k < n → g k = h k) → setS g n = setS h n
  | 0, _ => rfl
  | n + 1, e => by
    have ih := setS_congr n fun k hk => e k (by omega)
    show setStep g (setS g n) n = setStep h (setS h n) n
    unfold setStep
    rw [ih, e n (by omega), e (n - 1) (by omega)]
theorem mem_runL {r : Int × Int} {x : Int} : x ∈ runL r ↔ r.1 ≤ x ∧ x ≤ r.2 := by
  unfold runL runP
  rw [List.mem_map]
  constructor
  · rintro ⟨i, hi, rfl⟩
    rw [List.mem_range] at hi
    omega
  · intro ⟨h1, h2⟩
    exact ⟨(x - r.1).toNat, by rw [List.mem_range]; omega, by omega⟩
theorem mem_chans {R : List (Int × Int)} {x : Int} : x ∈ chans R ↔ ∃ r ∈ R, r.1 ≤ x ∧ x ≤ r.2 := by
  unfold chans
  rw [List.mem_flatMap]
  exact exists_congr fun r => and_congr_right fun _ => mem_runL
theorem inR_eq (R : List (Int × Int)) (k : Nat) : inR R k = R.any (hasR k) := by
  unfold inR updM
  by_cases h : (k : Int) ∈ chans R
  · rw [if_pos h]
    obtain ⟨r, hr, h1, h2⟩ := mem_chans.1 h
    exact (List.any_eq_true.2 ⟨r, hr, by unfold hasR; simp [h1, h2]⟩).symm
  · rw [if_neg h]
    refine (List.any_eq_false.2 fun r hr e => h (mem_chans.2 ⟨r, hr, ?_⟩)).symm
    unfold hasR at e
    simpa using e
theorem combG_all (rem : Bool → Bool → Bool) (gA gB : Nat → Bool) (k : Nat) : combG rem gA gB (chans [(1, 999)]) k = if 1 ≤ k ∧ k ≤ 999 then rem (gA k) (gB k) else false := by
  unfold combG
  have : (k : Int) ∈ chans [(1, 999)] ↔ 1 ≤ k ∧ k ≤ 999 := by
    rw [mem_chans]; simp; omega
  by_cases h : 1 ≤ k ∧ k ≤ 999
  · rw [if_pos h, if_pos (this.2 h)]
  · rw [if_neg h, if_neg (fun e => h (this.1 e))]
theorem setS_comb (rem : Bool → Bool → Bool) (A B : List (Int × Int)) (n : Nat) (hn : n ≤ 1000) (hr : rem false false = false) (hA : ∀ r ∈ A, r.2 < n) (hB : ∀ r ∈ B, r.2 < n) :
    setS (combG rem (inR A) (inR B) (chans [(1, 999)])) 1000 = setS (fun k => if 1 ≤ k ∧ k ≤ 999 then rem (A.any (hasR k)) (B.any (hasR k)) else false) n := by
  have off : ∀ (R : List (Int × Int)) (k : Nat), (∀ r ∈ R, r.2 < n) → n ≤ k → R.any (hasR k) = false := fun R k h hk =>
    List.any_eq_false.2 fun r hr e => by
      have := h r hr
      unfold hasR at e
      simp at e
      omega
  rw [setS_congr 1000 (h := fun k => if 1 ≤ k ∧ k ≤ 999 then rem (A.any (hasR k)) (B.any (hasR k)) else false) fun k _ => by rw [combG_all, inR_eq, inR_eq]]
  have := setS_stop (g := fun k => if 1 ≤ k ∧ k ≤ 999 then rem (A.any (hasR k)) (B.any (hasR k)) else false) (n := n) (fun k hk => by
    simp only [off A k hA hk, off B k hB hk, hr]; simp) (1000 - n)
  rwa [show n + (1000 - n) = 1000 by omega] at this
theorem aw_list : listR [(1, 2), (4, 5), (9, 9)] = ([1, 2, 4, 5, 9], 0) := by decide +kernel
theorem aw_format : formatR [(1, 2), (4, 5), (9, 9)] = ([49, 32, 116, 104, 114, 117, 32, 50, 32, 43, 32, 52, 32, 116, 104, 114, 117, 32, 53, 32, 43, 32, 57], 0) := by decide +kernel
theorem aw_union : combR (fun x y => x || y) [(1, 3)] [(4, 6)] = ([(1, 6)], 0) := by
  unfold combR
  rw [if_neg (by decide), if_neg (by decide), setS_comb _ _ _ 7 (by omega) rfl (by decide) (by decide)]
  decide +kernel
theorem aw_minus : combR (fun x y => x && !y) [(1, 6)] [(2, 5)] = ([(1, 1), (6, 6)], 0) := by
  unfold combR
  rw [if_neg (by decide), if_neg (by decide), setS_comb _ _ _ 7 (by omega) rfl (by decide) (by decide)]
  decide +kernel
theorem updM_far {g : Nat → Bool} {R : List (Int × Int)} {v : Bool} {n k : Nat} (hR : ∀ r ∈ R, r.2 < n) (hk : n ≤ k) : updM g (chans R) v k = g k := by
  unfold updM
  rw [if_neg]
  intro h
  obtain ⟨r, hr, h1, h2⟩ := mem_chans.1 h
  have := hR r hr
  omega
theorem aw_mem1 : membersR [49, 32, 116, 104, 114, 117, 32, 53, 32, 43, 32, 57, 32, 45, 32, 51] = (updM (updM (updM (fun _ => false) (chans [(1, 5)]) true) (chans [(9, 9)]) true) (chans [(3, 3)]) false, 0, 16) := by kernel_rfl
theorem aw_mem2 : membersR [55, 32, 116, 104, 114, 117, 32, 53] = (updM (fun _ => false) (chans [(5, 7)]) true, 0, 8) := by kernel_rfl
theorem aw_mem3 : (membersR [49, 32, 43, 32, 49, 48, 48, 48]).2 = (2, 4) := by kernel_rfl
theorem aw_parse1 : parseR [49, 32, 116, 104, 114, 117, 32, 53, 32, 43, 32, 57, 32, 45, 32, 51] = ([(1, 2), (4, 5), (9, 9)], 0, 0) := by
  unfold parseR
  rw [if_neg (by decide), aw_mem1, if_neg (by decide)]
  simp only
  rw [show (1000 : Nat) = 10 + 990 from rfl, setS_stop (n := 10) (fun k hk => by rw [updM_far (n := 10) (by decide) hk, updM_far (n := 10) (by decide) hk, updM_far (n := 10) (by decide) hk])]
  decide +kernel
theorem aw_parse2 : parseR [55, 32, 116, 104, 114, 117, 32, 53] = ([(5, 7)], 0, 0) := by
  unfold parseR
  rw [if_neg (by decide), aw_mem2, if_neg (by decide)]
  simp only
  rw [show (1000 : Nat) = 10 + 990 from rfl, setS_stop (n := 10) (fun k hk => by rw [updM_far (n := 10) (by decide) hk])]
  decide +kernel
theorem aw_parse3 : parseR [49, 32, 43, 32, 49, 48, 48, 48] = ([], 4, 2) := by
  unfold parseR
  rw [if_neg (by decide), show (membersR [49, 32, 43, 32, 49, 48, 48, 48]).2.1 = 2 from by rw [aw_mem3], show (membersR [49, 32, 43, 32, 49, 48, 48, 48]).2.2 = 4 from by rw [aw_mem3]]
  rfl
end Go.Proofs.YtjideokeokmbaaaGreatDoor.Z

/- Sets of channels: the examples of the chapter, walked. -/
namespace Go.Proofs.YtjideokeokmbaaaGreatDoor
open Go.RowKit Go.Shelf
open Z
theorem OwnR.shape2 {B : Nat} {w : World} {v : Value} {l : List (Int × Int)} (h : OwnR B w v l) : ∃ a cap, v = .slice a l.length cap ∧ RngAt w a l ∧ (a = none → cap = 0) ∧ ∀ p o, a = some ⟨p, o, none⟩ → p < w.heap.size := by
  obtain ⟨a, cap, rfl, hr, hc, -, -⟩ := id h.shape
  refine ⟨a, cap, rfl, hr, hc, fun p o e => ?_⟩
  subst e
  exact (World.ownsRow.lt h p rfl).2
theorem OwnI.shape2 {B : Nat} {w : World} {v : Value} {l : List Int} (h : OwnI B w v l) : ∃ a cap, v = .slice a l.length cap ∧ IntsAt w a l ∧ (a = none → cap = 0) := by
  rcases h.2 with ⟨rfl, h0⟩ | ⟨g, cap, cur, rfl, hb, hg, hrest⟩
  · have : l = [] := List.eq_nil_of_length_eq_zero h0
    subst this
    exact ⟨none, 0, rfl, .inl ⟨rfl, rfl⟩, fun _ => rfl⟩
  · refine ⟨some ⟨g, 0, none⟩, cap, rfl, .inr ⟨g, 0, rfl, fun j hj => ?_⟩, fun e => by cases e⟩
    rw [Nat.zero_add, World.ownsRow.cellAt h j (by omega)]
    simp [hj]
theorem OwnI.gr {B : Nat} {w w' : World} {v : Value} {l : List Int} (h : OwnI B w v l) (hg : Gr w w') : OwnI B w' v l := World.ownsRow.kept h (⟨hg.os, hg.tape, hg.output, hg.size, fun i hi _ => hg.block i hi⟩ : w.grownBy w' none) (by cases hv : v.ownBlock with | none => exact .inl rfl | some k => exact .inr (by simp))
theorem rng_one (W : World) (f t : Int) (ty : TypeId) : RngAt (W.alloc (.cells #[.int .i64 f, .int .i64 t] ty)) (some ⟨W.heap.size, 0, none⟩) [(f, t)] := .inr ⟨_, 0, rfl, fun j hj => by
  have : j = 0 := by simpa using hj
  subst this
  exact ⟨by simp, by simp⟩⟩
theorem rng_two (W : World) (f t f' t' : Int) (ty : TypeId) : RngAt (W.alloc (.cells #[.int .i64 f, .int .i64 t, .int .i64 f', .int .i64 t'] ty)) (some ⟨W.heap.size, 0, none⟩) [(f, t), (f', t')] := .inr ⟨_, 0, rfl, fun j hj => by
  match j, hj with
  | 0, _ => exact ⟨by simp, by simp⟩
  | 1, _ => exact ⟨by simp, by simp⟩
  | j + 2, hj => exfalso; simp at hj; omega⟩
theorem ints_five (W : World) (a b c d e : Int) (ty : TypeId) : IntsAt (W.alloc (.cells #[.int .i64 a, .int .i64 b, .int .i64 c, .int .i64 d, .int .i64 e] ty)) (some ⟨W.heap.size, 0, none⟩) [a, b, c, d, e] := .inr ⟨_, 0, rfl, fun j hj => by
  match j, hj with
  | 0, _ => simp
  | 1, _ => simp
  | 2, _ => simp
  | 3, _ => simp
  | 4, _ => simp
  | j + 5, hj => exfalso; simp at hj; omega⟩
theorem sl_SameR {a b : Option Addr} {L : List (Int × Int)} {ca cb : Nat} {w : World} (hL : RngAt w a L) (hM : RngAt w b L) (hl : L.length ≤ 10000000000000) :
    Calls Tryz.prog 13 #[.slice a L.length ca, .slice b L.length cb] w fun e w' => e = .returned (.bool true) ∧ Gr w w' := by
  have := sl_EqualR a b L L ca cb w hL hM hl hl
  rwa [decide_eq_true rfl] at this
end Go.Proofs.YtjideokeokmbaaaGreatDoor
