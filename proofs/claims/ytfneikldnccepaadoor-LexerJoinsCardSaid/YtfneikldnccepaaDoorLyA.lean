/- Law 7: the reference's Join. -/
import Derived.Test.YtfneikldnccepaaDoorLxZ
import Derived.Lib.Join
set_option linter.unusedVariables false
set_option linter.unusedSimpArgs false
namespace Go.Proofs.YtfneikldnccepaaDoor
open Go.RowKit Go.Shelf
open Z
/-- the end of a list of tokens is its last one alone -/
def Ends (L : List Tk) : Prop := 0 < L.length ∧ ∀ j (h : j < L.length), (L[j].1 = 3 ↔ j + 1 = L.length)
/-- the first error of some tokens -/
def errF : List Tk → Int
  | [] => 0
  | t :: r => if chkR t.1 t.2.1 ≠ 0 then chkR t.1 t.2.1 else errF r
/-- the texts of the first tokens, joined -/
def jt (L : List Tk) (j : Nat) : List UInt8 := Lib.join ((L.take j).map fun t => t.2.1) [32]
open Classical in
noncomputable def joinR (L : List Tk) : List UInt8 × Int :=
  if ¬ Ends L then ([], 12)
  else if errF (L.take (L.length - 1)) ≠ 0 then ([], errF (L.take (L.length - 1)))
  else if (L.getLast?.map fun t => t.2.1) ≠ some [] then ([], 3)
  else if 4097 < sumT (L.take (L.length - 1)) + (L.length - 1) then ([], 13)
  else (jt L (L.length - 1), 0)
theorem joinTail_snoc (r : List (List UInt8)) (x sep : List UInt8) : Lib.joinTail sep (r ++ [x]) = Lib.joinTail sep r ++ (sep ++ x) := by unfold Lib.joinTail; simp
theorem jt_zero (L : List Tk) : jt L 0 = [] := by unfold jt; simp [Lib.join_nil]
theorem jt_succ {L : List Tk} {j : Nat} (h : j < L.length) : jt L (j + 1) = (if 0 < j then jt L j ++ [32] else jt L j) ++ L[j].2.1 := by
  unfold jt
  rw [List.take_succ_eq_append_getElem h, List.map_append]
  simp only [List.map_cons, List.map_nil]
  cases hx : (L.take j).map fun t => t.2.1 with
  | nil =>
    have hj : j = 0 := by
      have := congrArg List.length hx
      simp at this
      rcases this with h1 | h1
      · exact h1
      · rw [h1] at h; simp at h
    subst hj
    simp [Lib.join_one, Lib.join_nil]
  | cons y r =>
    have hj : 0 < j := by
      rcases Nat.eq_zero_or_pos j with e | e
      · subst e; simp at hx
      · exact e
    rw [if_pos hj, List.cons_append, Lib.join_cons, Lib.join_cons, joinTail_snoc]
    simp
theorem jt_len {L : List Tk} : ∀ j, j ≤ L.length → (jt L j).length ≤ sumT (L.take j) + j
  | 0, _ => by rw [jt_zero]; simp
  | j + 1, h => by
    have := jt_len (L := L) j (by omega)
    rw [jt_succ (by omega), sumT_snoc (by omega)]
    split <;> simp <;> omega
theorem errF_drop {L : List Tk} {j : Nat} (h : j + 1 < L.length) : errF ((L.take (L.length - 1)).drop j) = if chkR L[j].1 L[j].2.1 ≠ 0 then chkR L[j].1 L[j].2.1 else errF ((L.take (L.length - 1)).drop (j + 1)) := by
  rw [List.drop_eq_getElem_cons (i := j) (by simp; omega)]
  simp only [List.getElem_take]
  rfl
theorem joinR_no {L : List Tk} (h : ¬ Ends L) : joinR L = ([], 12) := by unfold joinR; rw [if_pos h]
theorem joinR_yes {L : List Tk} (h : Ends L) : joinR L = if errF (L.take (L.length - 1)) ≠ 0 then ([], errF (L.take (L.length - 1)))
  else if (L.getLast?.map fun t => t.2.1) ≠ some [] then ([], 3)
  else if 4097 < sumT (L.take (L.length - 1)) + (L.length - 1) then ([], 13)
  else (jt L (L.length - 1), 0) := by unfold joinR; rw [if_neg (by simpa using h)]
set_option maxRecDepth 100000 in
set_option maxHeartbeats 4000000 in
theorem r7_Join {a : Option Addr} {L : List Tk} {c : Nat} (w : World) (hL : TksAt w a L) (hl : L.length ≤ 400) (hs : sumT L ≤ 6000) (hb : ∀ j (h : j < L.length), L[j].2.1.length ≤ 6000) :
    Calls Tryd.prog 27 #[.slice a L.length c] w fun e w' => e = .returned (.tuple #[.string (str (joinR L).1), .int .i64 (joinR L).2]) ∧ Gr w w' := by
  have HL := Lib.hid hL
  have HBB := Lib.hid hb
  obtain ⟨V, hV⟩ : ∃ V, joinR L = V := ⟨_, rfl⟩
  have HV := Lib.hid hV
  rw [hV]
  clear hV
  obtain ⟨n, hn⟩ : ∃ n, L.length = n := ⟨_, rfl⟩
  have HN := Lib.hid hn
  rw [hn] at hl ⊢
  clear hL hn hb
  by_cases h0 : n = 0
  · have hv := HV.out
    rw [joinR_no (fun h => by have := h.1; rw [HN.out] at this; omega)] at hv
    subst hv
    have hz : ((n : Int) == 0) = true := by simp [h0]
    clear h0
    go_enter Tryd.func27, Tryd.ntmps27
    go_wp2
    go_ret2
    exact ⟨rfl, Gr.refl _⟩
  · have hz : ((n : Int) == 0) = false := by rw [beq_eq_false_iff_ne]; omega
    have hw : IntKind.i64.wrap ((n : Int) - 1) = ((n - 1 : Nat) : Int) := by rw [IntKind.wrap_i64]; omega
    have hpos : 0 < n := by omega
    clear h0
    go_enter Tryd.func27, Tryd.ntmps27
    go_wp2
    go_loop [4] (fun i => ∃ j : Nat, j ≤ n ∧ i = .int .i64 (j : Nat) ∧ Hid (∀ k (h : k < L.length), k < j → (L[k].1 = 3 ↔ k + 1 = L.length))) (fun i => n - (intOf i).toNat)
    case atStart => exact ⟨0, by omega, rfl, fun k _ h => absurd h (by omega)⟩
    case round =>
      obtain ⟨j, hj, rfl, HE⟩ := hrel
      by_cases hlt : j < n
      · have j1 : j < L.length := by rw [HN.out]; exact hlt
        obtain ⟨p, o, rfl, c0, c1, c2⟩ := HL.out.at j1
        have HIF : Hid ((L[j].1 == 3) = true ↔ L[j].1 = 3) := Lib.hid (by simp)
        have HJN : Hid (((j : Int) == ((n - 1 : Nat) : Int)) = true ↔ j + 1 = L.length) := Lib.hid (by rw [HN.out, beq_iff_eq]; omega)
        have HNO : Hid (¬ (L[j].1 = 3 ↔ j + 1 = L.length) → V = ([], 12)) := Lib.hid fun h => by
          rw [← HV.out]; exact joinR_no fun e => h (e.2 j j1)
        have HYE : Hid ((L[j].1 = 3 ↔ j + 1 = L.length) → ∀ k (h : k < L.length), k < j + 1 → (L[k].1 = 3 ↔ k + 1 = L.length)) := Lib.hid fun h k hk hkj => by
          by_cases e : k = j
          · subst e; exact h
          · exact HE.out k hk (by omega)
        generalize L[j] = x at *
        obtain ⟨kd, tx, ta⟩ := x
        simp only at c0 c1 c2 HIF HNO HYE
        cases hp : (kd == 3) <;> cases hq : ((j : Int) == ((n - 1 : Nat) : Int))
        · have HS := Lib.hid (HYE.out (by rw [← HIF.out, ← HJN.out, hp, hq]))
          clear HYE HNO HIF HJN HE
          go_wp2
          go_round
          case rel => exact ⟨j + 1, by omega, by go_num, HS⟩
          case measure => simp [intOf]; omega
        · have hv := HNO.out (by rw [← HIF.out, ← HJN.out, hp, hq]; simp)
          subst hv
          clear HYE HNO HIF HJN HE
          go_wp2
          go_ret2
          exact ⟨rfl, Gr.refl _⟩
        · have hv := HNO.out (by rw [← HIF.out, ← HJN.out, hp, hq]; simp)
          subst hv
          clear HYE HNO HIF HJN HE
          go_wp2
          go_ret2
          exact ⟨rfl, Gr.refl _⟩
        · have HS := Lib.hid (HYE.out (by rw [← HIF.out, ← HJN.out, hp, hq]))
          clear HYE HNO HIF HJN HE
          go_wp2
          go_round
          case rel => exact ⟨j + 1, by omega, by go_num, HS⟩
          case measure => simp [intOf]; omega
      · have hjn : j = n := by omega
        have hEnds : Ends L := ⟨by rw [HN.out]; exact hpos, fun k hk => HE.out k hk (by rw [HN.out] at hk; omega)⟩
        have hv := HV.out
        rw [joinR_yes hEnds, HN.out] at hv
        have HV2 := Lib.hid hv
        have HEN := Lib.hid hEnds.2
        clear hv hEnds HV HE hjn
        go_wp2
        have HSUM : ∀ j, j ≤ n → sumT (L.take j) ≤ 6000 := fun j hj => by
          have : sumT L = sumT (L.take j) + sumT (L.drop j) := by
            unfold sumT
            conv => lhs; rw [← List.take_append_drop j L]
            rw [List.map_append, List.sum_append]
          omega
        have HSU := Lib.hid HSUM
        have HJL := Lib.hid (jt_len (L := L))
        rw [HN.out] at HJL
        clear HSUM
        go_loopw [5, 6] (fun x i wr => ∃ j : Nat, j ≤ n - 1 ∧ i = .int .i64 (j : Nat) ∧ x = .int .i64 ((sumT (L.take j) + j : Nat) : Int) ∧ Hid (errF ((L.take (n - 1)).drop j) = errF (L.take (n - 1))) ∧ Hid (Gr w wr)) (fun _ i _ => n - (intOf i).toNat)
        case atStart => exact ⟨0, by omega, rfl, rfl, Lib.hid rfl, Lib.hid (Gr.refl w)⟩
        case round =>
          obtain ⟨j, hj, rfl, rfl, HF, HG⟩ := hrel
          have hsu := HSU.out j (by omega)
          by_cases hlt : j < n - 1
          · have j1 : j < L.length := by rw [HN.out]; omega
            obtain ⟨p, o, rfl, c0, c1, c2⟩ := (HL.out.gr HG.out).at j1
            have hb := HBB.out j j1
            have HS := Lib.hid (sumT_snoc j1)
            have h3 : L[j].1 ≠ 3 := fun e => by have := (HEN.out j j1).1 e; rw [HN.out] at this; omega
            have HD : Hid (errF ((L.take (n - 1)).drop j) = if chkR L[j].1 L[j].2.1 ≠ 0 then chkR L[j].1 L[j].2.1 else errF ((L.take (n - 1)).drop (j + 1))) := Lib.hid (by
              have e := errF_drop (L := L) (j := j) (by rw [HN.out]; omega)
              rw [show n - 1 = L.length - 1 by rw [HN.out]]
              exact e)
            have HTKN := Lib.hid (fun w => r7_token L[j].1 (str L[j].2.1) L[j].2.2 w (by rw [str_size]; omega) h3)
            have hts : (str L[j].2.1).size = L[j].2.1.length := str_size _
            have hdd : (str L[j].2.1).data.toList = L[j].2.1 := rfl
            rw [hdd] at HTKN
            clear hdd h3
            generalize L[j] = x at *
            obtain ⟨kd, tx, ta⟩ := x
            simp only at c0 c1 c2 hb HS hts HD HTKN
            generalize chkR kd tx = er at *
            generalize str tx = ts at *
            generalize tx.length = tl at *
            generalize sumT (List.take j L) = su at *
            go_wp2_with fail
            refine (HTKN.out _).mono ?_; rintro e w2 ⟨rfl, hg⟩
            have HG2 := Lib.hid (Gr.trans HG.out hg)
            have HC := Lib.hid (cell_gr hg c1)
            clear HTKN c0 c1 c2 hg HG
            have c1 := HC.out
            by_cases he : er = 0
            · have z : (er != 0) = false := by simp [he]
              have HF2 : Hid (errF ((L.take (n - 1)).drop (j + 1)) = errF (L.take (n - 1))) := Lib.hid (by
                have := HD.out
                rw [HF.out, if_neg (by simpa using he)] at this
                exact this.symm)
              clear he HF HD
              go_wp2
              go_roundw
              case rel => exact ⟨j + 1, by omega, by go_num, by rw [HS.out]; go_num, HF2, HG2⟩
              case measure => simp [intOf]; omega
            · have z : (er != 0) = true := by simp [he]
              have hv := HV2.out
              have hd := HD.out
              rw [HF.out, if_pos he] at hd
              rw [hd, if_pos he] at hv
              subst hv
              clear he HF HD hd HV2
              go_wp2
              go_ret2
              exact ⟨rfl, HG2.out⟩
          · have hjn : j = n - 1 := by omega
            subst hjn
            have hv := HV2.out
            have hf := HF.out
            rw [List.drop_of_length_le (by rw [List.length_take]; omega)] at hf
            rw [if_neg (by rw [← hf]; simp [errF])] at hv
            have n1 : n - 1 < L.length := by rw [HN.out]; omega
            have hlast : L.getLast? = some L[n - 1] := by rw [List.getLast?_eq_getElem?, HN.out, List.getElem?_eq_getElem n1]
            rw [hlast] at hv
            simp only [Option.map_some] at hv
            have HV3 := Lib.hid hv
            clear hv HF hf hlast HV2 hlt
            obtain ⟨p, o, rfl, c0, c1, c2⟩ := (HL.out.gr HG.out).at n1
            have hem := empty_beq (str L[n - 1].2.1)
            have hne := bne_not (str L[n - 1].2.1).toList []
            rw [str_size] at hem
            generalize sumT (List.take (n - 1) L) = su at *
            generalize L[n - 1] = x at *
            obtain ⟨kd, tx, ta⟩ := x
            simp only at c0 c1 c2 hem hne HV3
            by_cases ht : tx = []
            · have hv := HV3.out
              rw [if_neg (by simp [ht])] at hv
              rw [decide_eq_true (by rw [ht]; rfl)] at hem
              rw [hem] at hne
              have HV4 := Lib.hid hv
              clear hv HV3 ht
              generalize str tx = ts at *
              by_cases h4 : 4097 < su + (n - 1)
              · have hv := HV4.out
                rw [if_pos h4] at hv
                subst hv
                clear HV4
                go_wp2
                go_ret2
                exact ⟨rfl, HG.out⟩
              · have hv := HV4.out
                rw [if_neg h4] at hv
                subst hv
                have h4b : su + (n - 1) ≤ 4097 := by omega
                clear HV4 h4 c0 c2
                go_wp2
                go_loop [8, 9] (fun x i => ∃ j : Nat, j ≤ n - 1 ∧ i = .int .i64 (j : Nat) ∧ x = .string (str (jt L j))) (fun _ i => n - (intOf i).toNat)
                case atStart => exact ⟨0, by omega, rfl, by rw [jt_zero]; rfl⟩
                case round =>
                  obtain ⟨j, hj, rfl, rfl⟩ := hrel
                  have hjl := HJL.out j (by omega)
                  have hsj := HSU.out j (by omega)
                  have hjz : (str (jt L j)).size ≤ 7000 := by rw [str_size]; omega
                  by_cases hlt : j < n - 1
                  · have j1 : j < L.length := by rw [HN.out]; omega
                    obtain ⟨p2, o2, hpe, c0, c1, c2⟩ := (HL.out.gr HG.out).at j1
                    cases hpe
                    have hb := HBB.out j j1
                    have hts : (str L[j].2.1).size = L[j].2.1.length := str_size _
                    have HJ := Lib.hid (jt_succ j1)
                    generalize L[j] = x at *
                    obtain ⟨kd, tx2, ta⟩ := x
                    simp only at c0 c1 c2 hb hts HJ
                    have HX : Hid (∀ t, t = (if 0 < j then jt L j ++ [32] else jt L j) → str t ++ str tx2 = str (jt L (j + 1))) := Lib.hid fun t ht => by rw [HJ.out, ← ht, str_app]
                    by_cases hj0 : 0 < j
                    · have HX1 := Lib.hid (HX.out (jt L j ++ [32]) (by rw [if_pos hj0]))
                      have h32 : str (jt L j) ++ (⟨#[32]⟩ : ByteArray) = str (jt L j ++ [32]) := str_app (jt L j) [32]
                      have hz2 : (str (jt L j ++ [32])).size ≤ 7001 := by rw [str_size]; simp; omega
                      generalize str (jt L j ++ [32]) = o3 at *
                      generalize str (jt L j) = o1 at *
                      generalize str tx2 = ts2 at *
                      clear HJ HX hjl
                      go_wp2
                      go_round
                      case rel => exact ⟨j + 1, by omega, by go_num, by rw [HX1.out]⟩
                      case measure => simp [intOf]; omega
                    · have HX1 := Lib.hid (HX.out (jt L j) (by rw [if_neg hj0]))
                      generalize str (jt L j) = o1 at *
                      generalize str tx2 = ts2 at *
                      clear HJ HX hjl
                      go_wp2
                      go_round
                      case rel => exact ⟨j + 1, by omega, by go_num, by rw [HX1.out]⟩
                      case measure => simp [intOf]; omega
                  · have hjn : j = n - 1 := by omega
                    subst hjn
                    go_wp2
                    go_ret2
                    exact ⟨rfl, HG.out⟩
            · have hv := HV3.out
              rw [if_pos (by simpa using ht)] at hv
              subst hv
              rw [decide_eq_false (by simpa using ht)] at hem
              rw [hem] at hne
              clear HV3 ht
              generalize str tx = ts at *
              go_wp2
              go_ret2
              exact ⟨rfl, HG.out⟩
end Go.Proofs.YtfneikldnccepaaDoor
