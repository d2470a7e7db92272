/- Law 6: the reference's Union, Minus, Common. -/
import Derived.Test.YtifccpdkpgfnlaaDoorRbL
import Derived.Laws.AppendOwnNone
set_option linter.unusedVariables false
set_option linter.unusedSimpArgs false
namespace Go.Proofs.YtifccpdkpgfnlaaDoor.Z
open Go
theorem filter_nxt {L : List Int} {k : Nat} (h : k < L.length) (p : Int → Bool) : (L.take (k + 1)).filter p = (L.take k).filter p ++ (if p L[k] = true then [L[k]] else []) := by
  rw [List.take_succ_eq_append_getElem h, List.filter_append]
  by_cases hp : p L[k] = true
  · rw [if_pos hp, List.filter_cons_of_pos hp, List.filter_nil]
  · rw [if_neg hp, List.filter_cons_of_neg hp, List.filter_nil]
end Go.Proofs.YtifccpdkpgfnlaaDoor.Z
namespace Go.Proofs.YtifccpdkpgfnlaaDoor
open Go.RowKit Go.Shelf
open Z
theorem join_i {i : TypeInfo} (hi : Tryd.prog.info? 3 = some i) (hz0 : i.zero = some (.int .i64 0)) (hz1 : i.size = 1) (hz2 : i.bytes = 8)
    {ops : Array Oper} {rest : List Oper} {o : Oper} {a : Act} {Q : Exit → Act → World → Prop} {w0 w : World} (hgd : o.guard = none) (s x : Operand)
    (ho : o.op = .call { callee := .builtin .append, args := #[s, x], argTypes := #[35, 35] }) (v : Value) (xs : List Int) (hs : a.eval s = v) (hown : OwnI w0.heap.size w v xs) (hg : Gr w0 w)
    (b : Option Addr) (ys : List Int) (c : Nat) (hx : a.eval x = .slice b ys.length c) (hy : IntsAt w b ys) (hc : b = none → c = 0) (hlen : xs.length + ys.length ≤ 10000000)
    (h : ∀ v' w', Hid (OwnI w0.heap.size w' v' (xs ++ ys)) → Gr w0 w' → wpList Tryd.prog ops Q rest (a.put o.dst v') w') :
    wpList Tryd.prog ops Q (o :: rest) a w := by
  cases b with
  | none =>
    have hys : ys = [] := by
      rcases hy with ⟨-, h⟩ | ⟨_, _, h, -⟩
      · exact h
      · cases h
    subst hys
    have hc0 := hc rfl
    subst hc0
    refine wpList_append_own_none hgd s x _ ho w0.heap.size 3 i 1 Tryd.underlying35 hi v xs.length (xs.map (Value.int .i64)) hs hown hx (h v w (Lib.hid (by rw [List.append_nil]; exact hown)) hg)
  | some ad =>
    obtain ⟨p, off, rfl, hcs⟩ : ∃ p off, ad = ⟨p, off, none⟩ ∧ ∀ j (h : j < ys.length), w.cell? ⟨p, off + j, none⟩ = some (.int .i64 ys[j]) := by
      rcases hy with ⟨h, -⟩ | ⟨p, off, h, h2⟩
      · cases h
      · cases h; exact ⟨p, off, rfl, h2⟩
    refine wpList_append_own _ hgd s x _ ho w0.heap.size 3 i (.int .i64 0) 1 8 Tryd.underlying35 hi hz0 hz1 hz2 rfl (by decide) v xs.length (xs.map (Value.int .i64)) hs hown ⟨p, off, none⟩ ys.length c (ys.map (Value.int .i64)) hx (by simp)
      (fun j u hj => ?_) (fun u hu => by obtain ⟨y, -, rfl⟩ := List.mem_map.1 hu; rfl) (by unfold maxLen; omega) (by omega) hg.size (fun v' w' hown' hgrow _ => h v' w' ?_ (Below.grown hg hgrow hg.size (fun k hk => (World.ownsRow.lt hown k hk).1)))
    · rw [WideShapes.add_plain]
      rw [List.getElem?_map] at hj
      by_cases hjl : j < ys.length
      · rw [List.getElem?_eq_getElem hjl] at hj
        simp only [Option.map_some, Option.some.injEq] at hj
        subst hj
        exact hcs j hjl
      · rw [List.getElem?_eq_none (by omega)] at hj; cases hj
    · show World.ownsRow _ _ _ _ _ _ _
      rw [List.map_append, List.length_append]; exact hown'
set_option maxRecDepth 100000 in
set_option maxHeartbeats 1000000 in
theorem r6_Both (a b : Option Addr) (A B : List (Int × Int)) (ca cb : Nat) (w : World) (hA : RngAt w a A) (hB : RngAt w b B) (hla : A.length ≤ 10000000000000) (hlb : B.length ≤ 10000000000000) :
    Calls Tryd.prog 60 #[.slice a A.length ca, .slice b B.length cb] w fun e w' => e = .returned (.int .i64 (if checkR A ≠ 0 then checkR A else checkR B)) ∧ Gr w w' := by
  have C := Lib.hid (r6_Check a A ca w hA hla)
  have D := Lib.hid (fun w' (hg : Gr w w') => r6_Check b B cb w' (hB.gr hg) hlb)
  by_cases h : checkR A = 0
  · rw [h] at C ⊢
    rw [if_neg (by simp)]
    generalize checkR B = V at *
    generalize A.length = n at *
    generalize B.length = m at *
    clear hA hB h
    go_enter Tryd.func60, Tryd.ntmps60
    go_wp2_with fail
    refine C.out.mono ?_; rintro e w2 ⟨rfl, hg2⟩
    have HG2 := Lib.hid hg2
    clear hg2
    go_wp2_with fail
    refine (D.out _ HG2.out).mono ?_; rintro e w3 ⟨rfl, hg2⟩
    have HG3 := Lib.hid (Gr.trans HG2.out hg2)
    clear hg2
    go_wp2
    go_ret
    exact ⟨rfl, HG3.out⟩
  · rw [if_pos h]
    generalize checkR A = v at *
    have hv : (v == 0) = false := by rw [beq_eq_false_iff_ne]; exact h
    generalize A.length = n at *
    generalize B.length = m at *
    clear hA hB D
    go_enter Tryd.func60, Tryd.ntmps60
    go_wp2_with fail
    refine C.out.mono ?_; rintro e w2 ⟨rfl, hg2⟩
    have HG2 := Lib.hid hg2
    clear hg2
    go_wp2
    go_ret
    exact ⟨rfl, HG2.out⟩
set_option maxRecDepth 100000 in
set_option maxHeartbeats 1000000 in
theorem r6_United (a b : Option Addr) (A B : List (Int × Int)) (ca cb : Nat) (w : World) (hA : RngAt w a A) (hB : RngAt w b B) (h0 : checkR A = 0) (h1 : checkR B = 0) (hla : A.length ≤ 1000) (hlb : B.length ≤ 1000) :
    Calls Tryd.prog 61 #[.slice a A.length ca, .slice b B.length cb] w fun e w' => ∃ v, e = .returned v ∧ OwnF w.heap.size w' v (combR (fun x y => x || y) A B).1 ∧ Gr w w' := by
  obtain ⟨i0, hi, hz0, hz1, hz2⟩ := info_parts Tryd.infoInt
  have C := Lib.hid (r6_Listed a A ca w hA hla (checkL_each h0))
  have D := Lib.hid (fun w' (hg : Gr w w') => r6_Listed b B cb w' (hB.gr hg) hlb (checkL_each h1))
  have HY := Lib.hid (united h0 h1)
  have hca := chans_le h0
  have hcb := chans_le h1
  have hch : ∀ x ∈ chans A ++ chans B, isCh x = true := fun x hx => by
    rw [isCh_iff]
    rcases List.mem_append.1 hx with h | h
    · exact chan_rng h0 h
    · exact chan_rng h1 h
  have HCH := Lib.hid hch
  clear hch h0 h1 hA hB
  generalize (combR (fun x y => x || y) A B).1 = Y at *
  generalize chans A = xs at *
  generalize chans B = ys at *
  generalize A.length = n at *
  generalize B.length = m at *
  go_enter Tryd.func61, Tryd.ntmps61
  go_wp2_with fail
  refine C.out.mono ?_; rintro e w2 ⟨v, rfl, ho, hg2⟩
  have HG2 := Lib.hid hg2
  have HO := Lib.hid ho
  clear hg2 ho C
  go_wp2_with fail
  refine (D.out _ HG2.out).mono ?_; rintro e w3 ⟨u, rfl, ho, hg2⟩
  have HG3 := Lib.hid (Gr.trans HG2.out hg2)
  have HO3 := Lib.hid (HO.out.gr hg2)
  obtain ⟨b2, c2, rfl, hy, hc⟩ := ho.shape2
  have HY2 := Lib.hid hy
  have HC2 := Lib.hid hc
  clear hg2 ho HO HG2 D hy hc
  go_wp2_with (at_builtin; refine join_i hi hz0 hz1 hz2 rfl _ _ rfl _ xs rfl HO3.out HG3.out b2 ys c2 rfl HY2.out HC2.out (by omega) ?_; rintro v5 w5 HO5 hg5; have HG5 := Lib.hid hg5; clear hg5; obtain ⟨b5, c5, rfl, h5, -⟩ := HO5.out.shape2; have HS := Lib.hid (r6_Set b5 (xs ++ ys) c5 w5 h5 (by rw [List.length_append]; omega) HCH.out); rw [HY.out] at HS; clear h5 HY HCH; generalize (xs ++ ys).length = l5 at *)
  refine HS.out.mono ?_; rintro e w6 ⟨v, rfl, ho, hg⟩
  have HOe := Lib.hid (ho.low HG5.out.size)
  have HG6 := Lib.hid (Gr.trans HG5.out hg)
  clear ho hg HS
  go_wp2
  go_ret
  exact ⟨_, rfl, HOe.out, HG6.out⟩
set_option maxRecDepth 100000 in
set_option maxHeartbeats 2000000 in
theorem r6_kept (a b : Option Addr) (A B : List (Int × Int)) (ca cb : Nat) (v : Bool) (w : World) (hA : RngAt w a A) (hB : RngAt w b B) (h0 : checkR A = 0) (h1 : checkR B = 0) (hla : A.length ≤ 1000) (hlb : B.length ≤ 1000) :
    Calls Tryd.prog 65 #[.slice a A.length ca, .slice b B.length cb, .bool v] w fun e w' => ∃ r, e = .returned r ∧ OwnF w.heap.size w' r (combR (fun x y => x && (y == v)) A B).1 ∧ Gr w w' := by
  obtain ⟨i0, hi, hz0, hz1, hz2⟩ := info_parts Tryd.infoInt
  have C := Lib.hid (r6_Listed a A ca w hA hla (checkL_each h0))
  have D := Lib.hid (fun c w' (hg : Gr w w') => r6_In b B cb c w' (hB.gr hg) (by omega))
  have HY := Lib.hid (keptR h0 h1 v)
  have hca := chans_le h0
  have HCH : Hid (∀ x ∈ (chans A).filter (fun c => B.any (hasR c) == v), isCh x = true) := Lib.hid fun x hx => (isCh_iff x).2 (chan_rng h0 (List.mem_filter.1 hx).1)
  clear h0 h1 hA hB
  generalize (combR (fun x y => x && (y == v)) A B).1 = Y at *
  generalize hp : (fun c : Int => B.any (hasR c)) = p at *
  have D2 : Hid (∀ c w', Gr w w' → Calls Tryd.prog 45 #[.slice b B.length cb, .int .i64 c] w' fun e w2 => e = .returned (.bool (p c)) ∧ Gr w' w2) := Lib.hid (by rw [← hp]; exact D.out)
  have HY2 : Hid (setS (ofL ((chans A).filter fun c => p c == v)) 1000 = Y) := Lib.hid (by rw [← hp]; exact HY.out)
  have HCH2 : Hid (∀ x ∈ (chans A).filter (fun c => p c == v), isCh x = true) := Lib.hid (by rw [← hp]; exact HCH.out)
  clear D HY HCH hp
  generalize chans A = L at *
  generalize A.length = n at *
  generalize B.length = m at *
  have HFL : Hid (∀ k, ((L.take k).filter fun c => p c == v).length ≤ 999) := Lib.hid fun k => by
    have h1 := List.length_filter_le (fun c => p c == v) (L.take k)
    rw [List.length_take] at h1; omega
  go_enter Tryd.func65, Tryd.ntmps65
  go_wp2_with fail
  refine C.out.mono ?_; rintro e w2 ⟨u, rfl, ho, hg2⟩
  obtain ⟨b2, c2, rfl, hy, hc⟩ := ho.shape2
  have HG2 := Lib.hid hg2
  have HL := Lib.hid hy
  obtain ⟨len, hl⟩ : ∃ len, L.length = len := ⟨_, rfl⟩
  have HN := Lib.hid hl
  rw [hl]
  clear hg2 ho hy hc C hl
  go_wp2
  go_loopw [7, 9] (fun ow i wr => ∃ k : Nat, i = .int .i64 k ∧ k ≤ len ∧ Hid (OwnI w2.heap.size wr ow ((L.take k).filter fun c => p c == v)) ∧ Hid (Gr w2 wr)) (fun _ i _ => len - (intOf i).toNat)
  case atStart => exact ⟨0, rfl, by omega, OwnI.nil _ _, Lib.hid (Gr.refl w2)⟩
  case round =>
    obtain ⟨k, rfl, hk, HO, HH⟩ := hrel
    have HG := Lib.hid (Gr.trans HG2.out HH.out)
    by_cases hlt : k < len
    · have hkL : k < L.length := by rw [HN.out]; exact hlt
      obtain ⟨q, off, rfl, d0⟩ := (HL.out.gr HH.out).at hkL
      have HF := Lib.hid (filter_nxt hkL fun c => p c == v)
      have hfl := HFL.out k
      generalize L[k] = x at *
      have HI := Lib.hid (D2.out x wr HG.out)
      generalize (L.take k).filter (fun c => p c == v) = xs at *
      by_cases hx : (p x == v) = true
      · rw [if_pos hx] at HF
        generalize p x = y at *
        have hyv : y = v := beq_iff_eq.1 hx
        subst hyv
        have HD := Lib.hid (fun w' (hg : Gr wr w') => cell_gr hg d0)
        clear hx
        go_wp2_with fail
        refine HI.out.mono ?_; rintro e w3 ⟨rfl, hg3⟩
        have d3 := HD.out w3 hg3
        have HG3 := Lib.hid (Gr.trans HG.out hg3)
        have HH3 := Lib.hid (Gr.trans HH.out hg3)
        have HO3 := Lib.hid (HO.out.gr hg3)
        clear hg3 HI HO HG HH HD d0
        have hyy : (y == y) = true := by simp
        go_wp2_with (at_builtin; refine push_i hi hz0 hz1 hz2 rfl _ _ rfl _ xs rfl HO3.out HH3.out x w3.heap.size rfl rfl (by omega) ?_; rintro v5 w5 HO5 hg5; have HG5 := Lib.hid hg5; clear hg5)
        go_roundw
        case rel => exact ⟨k + 1, by go_num, by omega, Lib.hid (by rw [HF.out]; exact HO5.out), HG5⟩
        case measure => simp [intOf]; omega
      · rw [if_neg hx, List.append_nil] at HF
        generalize p x = y at *
        have hyy : (y == v) = false := by simpa using hx
        clear hx
        go_wp2_with fail
        refine HI.out.mono ?_; rintro e w3 ⟨rfl, hg3⟩
        have HG3 := Lib.hid (Gr.trans HG.out hg3)
        have HH3 := Lib.hid (Gr.trans HH.out hg3)
        have HO3 := Lib.hid (HO.out.gr hg3)
        clear hg3 HI HO HG HH d0
        go_wp2
        go_roundw
        case rel => exact ⟨k + 1, by go_num, by omega, Lib.hid (by rw [HF.out]; exact HO3.out), HH3⟩
        case measure => simp [intOf]; omega
    · have hk2 : k = L.length := by rw [HN.out]; omega
      have ho := HO.out
      rw [hk2, List.take_length] at ho
      have hfl := HFL.out k
      rw [hk2, List.take_length] at hfl
      clear HO hk2
      generalize L.filter (fun c => p c == v) = xs at *
      obtain ⟨b5, c5, rfl, h5, -⟩ := ho.shape2
      have HS := Lib.hid (r6_Set b5 xs c5 wr h5 (by omega) HCH2.out)
      rw [HY2.out] at HS
      clear h5 HY2 HCH2 ho
      generalize xs.length = l5 at *
      go_wp2_with fail
      refine HS.out.mono ?_; rintro e w6 ⟨v, rfl, ho, hg⟩
      have HOe := Lib.hid (ho.low HG.out.size)
      have HG6 := Lib.hid (Gr.trans HG.out hg)
      clear ho hg HS
      go_wp2
      go_ret
      exact ⟨_, rfl, HOe.out, HG6.out⟩
set_option maxRecDepth 100000 in
set_option maxHeartbeats 1000000 in
theorem r6_Without (a b : Option Addr) (A B : List (Int × Int)) (ca cb : Nat) (w : World) (hA : RngAt w a A) (hB : RngAt w b B) (h0 : checkR A = 0) (h1 : checkR B = 0) (hla : A.length ≤ 1000) (hlb : B.length ≤ 1000) :
    Calls Tryd.prog 63 #[.slice a A.length ca, .slice b B.length cb] w fun e w' => ∃ r, e = .returned r ∧ OwnF w.heap.size w' r (combR (fun x y => x && !y) A B).1 ∧ Gr w w' := by
  have C := Lib.hid (r6_kept a b A B ca cb false w hA hB h0 h1 hla hlb)
  rw [show (fun x y : Bool => x && (y == false)) = (fun x y => x && !y) from by funext x y; cases y <;> rfl] at C
  clear hA hB h0 h1
  generalize (combR (fun x y => x && !y) A B).1 = Y at *
  generalize A.length = n at *
  generalize B.length = m at *
  go_enter Tryd.func63, Tryd.ntmps63
  go_wp2_with fail
  refine C.out.mono ?_; rintro e w2 ⟨v, rfl, ho, hg2⟩
  have HG2 := Lib.hid hg2
  have HO := Lib.hid ho
  clear hg2 ho C
  go_wp2
  go_ret
  exact ⟨_, rfl, HO.out, HG2.out⟩
set_option maxRecDepth 100000 in
set_option maxHeartbeats 1000000 in
theorem r6_Union (a b : Option Addr) (A B : List (Int × Int)) (ca cb : Nat) (w : World) (hA : RngAt w a A) (hB : RngAt w b B) (hla : A.length ≤ 1000) (hlb : B.length ≤ 1000) :
    Calls Tryd.prog 28 #[.slice a A.length ca, .slice b B.length cb] w fun e w' => ∃ v, e = .returned (.tuple #[v, .int .i64 (combR (fun x y => x || y) A B).2]) ∧ OwnF w.heap.size w' v (combR (fun x y => x || y) A B).1 ∧ Gr w w' := by
  have C := Lib.hid (r6_Both a b A B ca cb w hA hB (by omega) (by omega))
  have D := Lib.hid (fun w' (hg : Gr w w') (h0 : checkR A = 0) (h1 : checkR B = 0) => r6_United a b A B ca cb w' (hA.gr hg) (hB.gr hg) h0 h1 hla hlb)
  by_cases h0 : checkR A = 0
  · by_cases h1 : checkR B = 0
    · have D2 := Lib.hid (fun w' (hg : Gr w w') => D.out w' hg h0 h1)
      rw [h0, h1] at C
      simp only [ne_eq, not_true_eq_false, if_false] at C
      have hE : (combR (fun x y => x || y) A B).2 = 0 := by rw [combR_ok h0 h1]
      rw [hE]
      clear hA hB h0 h1 D hE
      generalize (combR (fun x y => x || y) A B).1 = Y at *
      generalize A.length = n at *
      generalize B.length = m at *
      go_enter Tryd.func28, Tryd.ntmps28
      go_wp2_with fail
      refine C.out.mono ?_; rintro e w2 ⟨rfl, hg2⟩
      have HG2 := Lib.hid hg2
      clear hg2 C
      go_wp2_with fail
      refine (D2.out _ HG2.out).mono ?_; rintro e w3 ⟨v, rfl, ho, hg2⟩
      have HG3 := Lib.hid (Gr.trans HG2.out hg2)
      have HO := Lib.hid (ho.low HG2.out.size)
      clear hg2 ho
      go_wp2
      go_ret2
      exact ⟨v, rfl, HO.out, HG3.out⟩
    · rw [h0] at C
      simp only [ne_eq, not_true_eq_false, if_false] at C
      have hE : combR (fun x y => x || y) A B = ([], checkR B) := by unfold combR; rw [if_neg (by simp [h0]), if_pos h1]
      rw [hE]
      clear hA hB h0 D hE
      generalize checkR B = e at *
      have hv : (e == 0) = false := by rw [beq_eq_false_iff_ne]; exact h1
      generalize A.length = n at *
      generalize B.length = m at *
      go_enter Tryd.func28, Tryd.ntmps28
      go_wp2_with fail
      refine C.out.mono ?_; rintro e w2 ⟨rfl, hg2⟩
      have HG2 := Lib.hid hg2
      clear hg2 C
      go_wp2
      go_ret2
      exact ⟨_, rfl, OwnF.nil _ _, HG2.out⟩
  · rw [if_pos h0] at C
    have hE : combR (fun x y => x || y) A B = ([], checkR A) := by unfold combR; rw [if_pos h0]
    rw [hE]
    clear hA hB D hE
    generalize checkR A = e at *
    have hv : (e == 0) = false := by rw [beq_eq_false_iff_ne]; exact h0
    generalize A.length = n at *
    generalize B.length = m at *
    go_enter Tryd.func28, Tryd.ntmps28
    go_wp2_with fail
    refine C.out.mono ?_; rintro e w2 ⟨rfl, hg2⟩
    have HG2 := Lib.hid hg2
    clear hg2 C
    go_wp2
    go_ret2
    exact ⟨_, rfl, OwnF.nil _ _, HG2.out⟩
set_option maxRecDepth 100000 in
set_option maxHeartbeats 1000000 in
theorem r6_Minus (a b : Option Addr) (A B : List (Int × Int)) (ca cb : Nat) (w : World) (hA : RngAt w a A) (hB : RngAt w b B) (hla : A.length ≤ 1000) (hlb : B.length ≤ 1000) :
    Calls Tryd.prog 30 #[.slice a A.length ca, .slice b B.length cb] w fun e w' => ∃ v, e = .returned (.tuple #[v, .int .i64 (combR (fun x y => x && !y) A B).2]) ∧ OwnF w.heap.size w' v (combR (fun x y => x && !y) A B).1 ∧ Gr w w' := by
  have C := Lib.hid (r6_Both a b A B ca cb w hA hB (by omega) (by omega))
  have D := Lib.hid (fun w' (hg : Gr w w') (h0 : checkR A = 0) (h1 : checkR B = 0) => r6_Without a b A B ca cb w' (hA.gr hg) (hB.gr hg) h0 h1 hla hlb)
  by_cases h0 : checkR A = 0
  · by_cases h1 : checkR B = 0
    · have D2 := Lib.hid (fun w' (hg : Gr w w') => D.out w' hg h0 h1)
      rw [h0, h1] at C
      simp only [ne_eq, not_true_eq_false, if_false] at C
      have hE : (combR (fun x y => x && !y) A B).2 = 0 := by rw [combR_ok h0 h1]
      rw [hE]
      clear hA hB h0 h1 D hE
      generalize (combR (fun x y => x && !y) A B).1 = Y at *
      generalize A.length = n at *
      generalize B.length = m at *
      go_enter Tryd.func30, Tryd.ntmps30
      go_wp2_with fail
      refine C.out.mono ?_; rintro e w2 ⟨rfl, hg2⟩
      have HG2 := Lib.hid hg2
      clear hg2 C
      go_wp2_with fail
      refine (D2.out _ HG2.out).mono ?_; rintro e w3 ⟨v, rfl, ho, hg2⟩
      have HG3 := Lib.hid (Gr.trans HG2.out hg2)
      have HO := Lib.hid (ho.low HG2.out.size)
      clear hg2 ho
      go_wp2
      go_ret2
      exact ⟨v, rfl, HO.out, HG3.out⟩
    · rw [h0] at C
      simp only [ne_eq, not_true_eq_false, if_false] at C
      have hE : combR (fun x y => x && !y) A B = ([], checkR B) := by unfold combR; rw [if_neg (by simp [h0]), if_pos h1]
      rw [hE]
      clear hA hB h0 D hE
      generalize checkR B = e at *
      have hv : (e == 0) = false := by rw [beq_eq_false_iff_ne]; exact h1
      generalize A.length = n at *
      generalize B.length = m at *
      go_enter Tryd.func30, Tryd.ntmps30
      go_wp2_with fail
      refine C.out.mono ?_; rintro e w2 ⟨rfl, hg2⟩
      have HG2 := Lib.hid hg2
      clear hg2 C
      go_wp2
      go_ret2
      exact ⟨_, rfl, OwnF.nil _ _, HG2.out⟩
  · rw [if_pos h0] at C
    have hE : combR (fun x y => x && !y) A B = ([], checkR A) := by unfold combR; rw [if_pos h0]
    rw [hE]
    clear hA hB D hE
    generalize checkR A = e at *
    have hv : (e == 0) = false := by rw [beq_eq_false_iff_ne]; exact h0
    generalize A.length = n at *
    generalize B.length = m at *
    go_enter Tryd.func30, Tryd.ntmps30
    go_wp2_with fail
    refine C.out.mono ?_; rintro e w2 ⟨rfl, hg2⟩
    have HG2 := Lib.hid hg2
    clear hg2 C
    go_wp2
    go_ret2
    exact ⟨_, rfl, OwnF.nil _ _, HG2.out⟩
set_option maxRecDepth 100000 in
set_option maxHeartbeats 1000000 in
theorem r6_Common (a b : Option Addr) (A B : List (Int × Int)) (ca cb : Nat) (w : World) (hA : RngAt w a A) (hB : RngAt w b B) (hla : A.length ≤ 1000) (hlb : B.length ≤ 1000) :
    Calls Tryd.prog 32 #[.slice a A.length ca, .slice b B.length cb] w fun e w' => ∃ v, e = .returned (.tuple #[v, .int .i64 (combR (fun x y => x && y) A B).2]) ∧ OwnF w.heap.size w' v (combR (fun x y => x && y) A B).1 ∧ Gr w w' := by
  have C := Lib.hid (r6_Both a b A B ca cb w hA hB (by omega) (by omega))
  have D := Lib.hid (fun w' (hg : Gr w w') (h0 : checkR A = 0) (h1 : checkR B = 0) => r6_kept a b A B ca cb true w' (hA.gr hg) (hB.gr hg) h0 h1 hla hlb)
  rw [show (fun x y : Bool => x && (y == true)) = (fun x y => x && y) from by funext x y; cases y <;> rfl] at D
  by_cases h0 : checkR A = 0
  · by_cases h1 : checkR B = 0
    · have D2 := Lib.hid (fun w' (hg : Gr w w') => D.out w' hg h0 h1)
      rw [h0, h1] at C
      simp only [ne_eq, not_true_eq_false, if_false] at C
      have hE : (combR (fun x y => x && y) A B).2 = 0 := by rw [combR_ok h0 h1]
      rw [hE]
      clear hA hB h0 h1 D hE
      generalize (combR (fun x y => x && y) A B).1 = Y at *
      generalize A.length = n at *
      generalize B.length = m at *
      go_enter Tryd.func32, Tryd.ntmps32
      go_wp2_with fail
      refine C.out.mono ?_; rintro e w2 ⟨rfl, hg2⟩
      have HG2 := Lib.hid hg2
      clear hg2 C
      go_wp2_with fail
      refine (D2.out _ HG2.out).mono ?_; rintro e w3 ⟨v, rfl, ho, hg2⟩
      have HG3 := Lib.hid (Gr.trans HG2.out hg2)
      have HO := Lib.hid (ho.low HG2.out.size)
      clear hg2 ho
      go_wp2
      go_ret2
      exact ⟨v, rfl, HO.out, HG3.out⟩
    · rw [h0] at C
      simp only [ne_eq, not_true_eq_false, if_false] at C
      have hE : combR (fun x y => x && y) A B = ([], checkR B) := by unfold combR; rw [if_neg (by simp [h0]), if_pos h1]
      rw [hE]
      clear hA hB h0 D hE
      generalize checkR B = e at *
      have hv : (e == 0) = false := by rw [beq_eq_false_iff_ne]; exact h1
      generalize A.length = n at *
      generalize B.length = m at *
      go_enter Tryd.func32, Tryd.ntmps32
      go_wp2_with fail
      refine C.out.mono ?_; rintro e w2 ⟨rfl, hg2⟩
      have HG2 := Lib.hid hg2
      clear hg2 C
      go_wp2
      go_ret2
      exact ⟨_, rfl, OwnF.nil _ _, HG2.out⟩
  · rw [if_pos h0] at C
    have hE : combR (fun x y => x && y) A B = ([], checkR A) := by unfold combR; rw [if_pos h0]
    rw [hE]
    clear hA hB D hE
    generalize checkR A = e at *
    have hv : (e == 0) = false := by rw [beq_eq_false_iff_ne]; exact h0
    generalize A.length = n at *
    generalize B.length = m at *
    go_enter Tryd.func32, Tryd.ntmps32
    go_wp2_with fail
    refine C.out.mono ?_; rintro e w2 ⟨rfl, hg2⟩
    have HG2 := Lib.hid hg2
    clear hg2 C
    go_wp2
    go_ret2
    exact ⟨_, rfl, OwnF.nil _ _, HG2.out⟩
end Go.Proofs.YtifccpdkpgfnlaaDoor
