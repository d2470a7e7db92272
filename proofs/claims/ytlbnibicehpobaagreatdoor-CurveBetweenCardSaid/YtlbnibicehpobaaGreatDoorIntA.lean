/- IntA: Int01a, Int01b, Int01c, Int01d, Int02a, Int02b, Int02c, joined. -/
import Derived.Test.YtlbnibicehpobaaGreatDoorRefB
import Derived.Test.YtlbnibicehpobaaGreatDoorRange
set_option linter.unusedVariables false
set_option linter.unusedSimpArgs false

/- The iterator of words from the top down, and what is built on it: trim, compare, small. -/
namespace Go.Proofs.YtlbnibicehpobaaGreatDoor
open Go.RowKit Go.Shelf
open Z
attribute [local go_sem] Oper.semAt_some

set_option maxHeartbeats 400000 in
theorem i_backwards (a : Option Addr) (n c : Nat) (w : World) :
    Calls Tryz.prog 169 #[.slice a n c] w fun e w' => e = .returned (.func (.func 192) #[] #[.pointer (some ⟨w.heap.size, 0, none⟩)]) ∧ w' = w.alloc (.cells #[.slice a n c] 136) := by
  have hmf : ∀ (fn : Fn) (first cap : Array Value) (w : World), (Instr.makeFunc fn first cap).run Tryz.prog w = .ok (.func fn first cap) w := fun _ _ _ _ => rfl
  go_enter Tryz.func169, Tryz.ntmps169
  go_wp2
  go_ret
  exact ⟨rfl, rfl⟩

/-- the arguments of the k-th round over words from the top down -/
def downArgs (xs : List Nat) (k : Nat) : Array Value := #[.int .i64 ((xs.length - 1 - k : Nat) : Int), .int .u64 ((xs.getD (xs.length - 1 - k) 0 : Nat) : Int)]

set_option maxHeartbeats 2000000 in
set_option maxRecDepth 100000 in
theorem i_rounds (xs : List Nat) (a : Option Addr) (n cap : Nat) (Bs : Nat) (S : Nat → Prop) (w0 : World) (hr : Rd .u32 w0 (.slice a n cap) xs) (hS : S Bs) (hSa : ∀ g off, xs ≠ [] → a = some ⟨g, off, none⟩ → S g)
    (hB : w0.cell? ⟨Bs, 0, none⟩ = some (.slice a n cap)) (hsm : small 1000000000 xs) (hlen : xs.length ≤ 3000000) :
    Rounds Tryz.prog 192 #[.pointer (some ⟨Bs, 0, none⟩)] (downArgs xs) xs.length S w0 := by
  intro l J Jx W hW hY h0
  obtain ⟨a', cap', he, -, hr⟩ := hr
  simp only [Value.slice.injEq] at he
  obtain ⟨rfl, rfl, rfl⟩ := he
  have hcB : ∀ X, KeepB S w0 X → X.cell? ⟨Bs, 0, none⟩ = some (.slice a xs.length cap) := fun X hX => (hX.cell (p := ⟨Bs, 0, none⟩) hS).trans hB
  have HCB := Lib.hid hcB; clear hcB
  have HR := Lib.hid hr; clear hr
  have HY := Lib.hid hY; clear hY
  have HSM := Lib.hid hsm; clear hsm
  have HSA := Lib.hid hSa; clear hSa
  have hc0 := HCB.out W hW
  refine callsIn_of_wp Tryz.func192 rfl trivial ?_ rfl
  simp only [Tryz.ntmps192, List.size_toArray, List.length_cons, List.length_nil, Nat.reduceAdd, Nat.reduceSub, Array.replicate_succ, Array.replicate_zero, List.push_toArray, List.append_toArray, List.nil_append, List.cons_append]
  gi_wp2
  gi_loopw [3] (fun i wr => ∃ q : Int, i = .int .i64 q ∧ -1 ≤ q ∧ q < xs.length ∧ Hid (J (xs.length - (q + 1).toNat) wr) ∧ KeepB S w0 wr) (fun i _ => (intOf i + 1).toNat)
  case atStart => exact ⟨_, rfl, by omega, by omega, by show J _ _; rw [show xs.length - ((xs.length : Int) - 1 + 1).toNat = 0 by omega]; exact h0, hW⟩
  case round =>
    obtain ⟨q, rfl, q1, q2, HJ, hnx⟩ := hrel
    have hcx := HCB.out wr hnx
    by_cases hq : 0 ≤ q
    · obtain ⟨j, rfl⟩ : ∃ j : Nat, q = j := ⟨q.toNat, by omega⟩
      have hjl : j < xs.length := by omega
      obtain ⟨g, off, rfl, hgl, hc⟩ := HR.out.resolve_left (fun h => by rw [h] at hjl; simp at hjl)
      have hx : xs[j] < 1000000000 := HSM.out _ (List.getElem_mem hjl)
      have hcj : wr.cell? ⟨g, off + j, none⟩ = some (.int .u32 (xs[j] : Nat)) := (hnx.cell (p := ⟨g, off + j, none⟩) (HSA.out g off (fun e => by rw [e] at hjl; simp at hjl) rfl)).trans (hc j hjl)
      have hgd : xs.getD (xs.length - 1 - (xs.length - (j + 1))) 0 = xs[j] := by
        rw [show xs.length - 1 - (xs.length - (j + 1)) = j by omega]; simp [hjl]
      obtain ⟨fn, tmps, assign, body, hy, hR⟩ := HY.out (xs.length - (j + 1)) wr (by omega) (by have := HJ.out; rwa [show ((j : Int) + 1).toNat = j + 1 by omega] at this)
      unfold downArgs at hy
      rw [hgd, show xs.length - 1 - (xs.length - (j + 1)) = j by omega] at hy
      clear hgd hc
      generalize xs[j] = x at hx hcj hy
      gi_wp2
      refine hR.mono ?_
      rintro e W3 (⟨rfl, hJ3, hk3⟩ | ⟨rfl, hJx3⟩)
      · have HJ3 := Lib.hid hJ3; clear hJ3
        gi_wp2
        go_roundw
        case rel => exact ⟨(j : Int) - 1, rfl, by omega, by omega, by have h := HJ3.out; show J _ _; rwa [show xs.length - ((j : Int) - 1 + 1).toNat = xs.length - (j + 1) + 1 by omega], hnx.trans hk3⟩
        case measure => simp [intOf]
      · have HX3 := Lib.hid hJx3; clear hJx3
        gi_wp2
        refine bodyPost_ret (results_none rfl _ _ _) rfl ?_
        exact ⟨⟨_, rfl⟩, .inr HX3.out⟩
    · have hq1 : q = -1 := by omega
      subst hq1
      gi_wp2
      go_end0
      exact ⟨⟨_, rfl⟩, .inl (by have h := HJ.out; rwa [show xs.length - ((-1 : Int) + 1).toNat = xs.length by omega] at h)⟩

/-- the cells and the bounds of a slice that starts at an offset -/
theorem Rd.take {k : IntKind} {w : World} {a : Option Addr} {n cap : Nat} {xs : List Nat} (h : Rd k w (.slice a n cap) xs) (m : Nat) (hm : m ≤ xs.length) : Rd k w (.slice a m cap) (xs.take m) := by
  obtain ⟨a', cap', he, h0, h1⟩ := h
  simp only [Value.slice.injEq] at he
  obtain ⟨rfl, -, rfl⟩ := he
  refine ⟨a, cap, by rw [List.length_take, Nat.min_eq_left hm], ⟨by rw [List.length_take]; omega, h0.2⟩, ?_⟩
  rcases h1 with h1 | ⟨g, off, rfl, hg', hc⟩
  · left; rw [h1]; simp
  · refine .inr ⟨g, off, rfl, hg', fun i hi => ?_⟩
    simp only [List.length_take] at hi
    rw [hc i (by omega)]; simp
theorem Rd.nil (k : IntKind) (w : World) : Rd k w (.slice none 0 0) [] := ⟨none, 0, rfl, ⟨by simp, by unfold maxLen; omega⟩, .inl rfl⟩
/-- words without zeros at the top -/
def trimL (xs : List Nat) : List Nat := (xs.reverse.dropWhile (· == 0)).reverse
theorem dropWhile_nil {α : Type} {p : α → Bool} {l : List α} (h : ∀ x ∈ l, p x = true) : l.dropWhile p = [] := by
  induction l with
  | nil => rfl
  | cons x l ih => rw [List.dropWhile_cons, if_pos (h x (by simp)), ih (fun y hy => h y (by simp [hy]))]
theorem trimL_all {xs : List Nat} (h : ∀ x ∈ xs, x = 0) : trimL xs = [] := by
  unfold trimL
  rw [List.reverse_eq_nil_iff]
  refine dropWhile_nil fun x hx => ?_
  simp [h x (by simpa using hx)]
theorem trimL_at {xs : List Nat} {j : Nat} (hj : j < xs.length) (hx : xs[j] ≠ 0) (h : ∀ i (hi : i < xs.length), j < i → xs[i] = 0) : trimL xs = xs.take (j + 1) := by
  have h1 : xs.reverse = (xs.drop (j + 1)).reverse ++ (xs.take (j + 1)).reverse := by rw [← List.reverse_append, List.take_append_drop]
  have h2 : (xs.drop (j + 1)).reverse.dropWhile (· == 0) = [] := by
    refine dropWhile_nil fun x hx => ?_
    rw [List.mem_reverse] at hx
    obtain ⟨i, hi, rfl⟩ := List.getElem_of_mem hx
    rw [List.getElem_drop, h _ _ (by omega)]; rfl
  unfold trimL
  rw [h1, List.dropWhile_append, h2]
  simp only [List.isEmpty_nil, if_true]
  rw [List.take_succ_eq_append_getElem hj, List.reverse_append]
  simp [hx]
theorem wv_trimL (B : Nat) (xs : List Nat) : wv B (trimL xs) = wv B xs := by
  suffices h : ∀ ys : List Nat, wv B ((ys.dropWhile (· == 0)).reverse) = wv B ys.reverse by
    have := h xs.reverse; rwa [List.reverse_reverse] at this
  intro ys
  induction ys with
  | nil => rfl
  | cons y ys ih =>
    simp only [List.dropWhile_cons]
    split
    · rename_i hy
      rw [ih, List.reverse_cons, wv_snoc]
      simp only [beq_iff_eq] at hy
      rw [hy]; simp
    · rfl
theorem trimL_sub {B : Nat} {xs : List Nat} (h : small B xs) : small B (trimL xs) ∧ (trimL xs).length ≤ xs.length := by
  unfold trimL
  refine ⟨fun x hx => h x ?_, ?_⟩
  · rw [List.mem_reverse] at hx
    have := List.dropWhile_sublist (· == 0) (l := xs.reverse)
    have := this.subset hx
    simpa using this
  · rw [List.length_reverse]
    have := (List.dropWhile_sublist (· == 0) (l := xs.reverse)).length_le
    simpa using this
theorem trimL_top {xs : List Nat} : (trimL xs).getLast? ≠ some 0 := by
  unfold trimL
  rw [List.getLast?_reverse]
  intro h
  have h1 := List.head?_dropWhile_not (· == 0) xs.reverse
  rw [h] at h1
  simp at h1

/-- the blocks that an iterator over words reads: what was there when the call began, and the box of the words -/
def ownB (n b : Nat) (k : Nat) : Prop := k < n ∨ k = b
theorem ownB.lt {n b k : Nat} (h : ownB n b k) : k < max n (b + 1) := by unfold ownB at h; omega
theorem Rd.inB {kd : IntKind} {w : World} {a : Option Addr} {n cap b : Nat} {xs : List Nat} (h : Rd kd w (.slice a n cap) xs) : ∀ g off, xs ≠ [] → a = some ⟨g, off, none⟩ → ownB w.heap.size b g := by
  intro g off hne e
  obtain ⟨a', cap', he, -, h1⟩ := h
  simp only [Value.slice.injEq] at he
  obtain ⟨rfl, -, -⟩ := he
  obtain ⟨g', off', e', hg, -⟩ := h1.resolve_left hne
  rw [e] at e'
  simp only [Option.some.injEq, Addr.mk.injEq, and_true] at e'
  rw [e'.1]; exact .inl hg
def TrimRetB (w w' : World) (xs : List Nat) (a : Option Addr) (e : Ending) : Prop := ∃ a' n c, e = .returned (.slice a' n c) ∧ (a' = none ∨ a' = a) ∧ Rd .u32 w' (.slice a' n c) (trimL xs) ∧ Gr w w'
def TrimRet (w w' : World) (xs : List Nat) (a : Option Addr) (e : Ending) : Prop := ∃ v, e = .returned v ∧ Rd .u32 w' v (trimL xs) ∧ Gr w w'

set_option maxHeartbeats 2000000 in
set_option maxRecDepth 100000 in
theorem i_trimB (a : Option Addr) (n cap : Nat) (xs : List Nat) (w : World) (hr : Rd .u32 w (.slice a n cap) xs) (hsm : small 1000000000 xs) (hlen : xs.length ≤ 3000000) :
    Calls Tryz.prog 167 #[.slice a n cap] w (fun e w' => TrimRetB w w' xs a e) := by
  refine (callsIn_wide (n := 3)).1 ?_
  refine callsIn_of_wp_marks Tryz.func167 rfl trivial ?_ rfl
  simp only [Tryz.ntmps167, List.size_toArray, List.length_cons, List.length_nil, Nat.reduceAdd, Nat.reduceSub, Array.replicate_succ, Array.replicate_zero, List.push_toArray, List.append_toArray, List.nil_append, List.cons_append]
  gi_wp2_with (refine ⟨trivial, ?_⟩; gi_at_call 169; refine (callsIn_wide.2 (i_backwards _ _ _ _)).mono ?_; rintro e w' ⟨rfl, rfl⟩)
  generalize hW3 : (((w.alloc (.cells #[.slice a n cap] 136)).alloc (.cells #[.slice none 0 0] 136)).alloc (.cells #[.slice a n cap] 136)) = W3
  have hs3 : W3.heap.size = w.heap.size + 3 := by rw [← hW3]; simp
  have hg3 : Gr w W3 := by rw [← hW3]; exact (((Gr.refl w).alloc _).alloc _).alloc _
  have hc0 : W3.cell? ⟨w.heap.size, 0, none⟩ = some (.slice a n cap) := by
    rw [← hW3, World.cell?_alloc_past _ _ _ (by simp; omega), World.cell?_alloc_past _ _ _ (by simp), World.cell?_alloc_at _ _ _ _ rfl]; rfl
  have hc1 : W3.cell? ⟨w.heap.size + 1, 0, none⟩ = some (.slice none 0 0) ∧ W3.frozen? ⟨w.heap.size + 1, 0, none⟩ = false := by
    rw [← hW3, World.cell?_alloc_past _ _ _ (by simp), World.cell?_alloc_at _ _ _ _ (by simp), World.frozen?_alloc_past _ _ _ (by simp)]
    exact ⟨rfl, World.frozen?_alloc_at _ _ _ _ (by simp)⟩
  have hc2 : W3.cell? ⟨w.heap.size + 1 + 1, 0, none⟩ = some (.slice a n cap) := by
    rw [← hW3, World.cell?_alloc_at _ _ _ _ (by simp)]; rfl
  have HR3 := Lib.hid (hr.gr hg3)
  have hnl : n = xs.length ∧ n ≤ cap ∧ cap ≤ maxLen := by
    obtain ⟨a', cap', he, h0, -⟩ := hr
    simp only [Value.slice.injEq] at he
    obtain ⟨-, rfl, rfl⟩ := he
    exact ⟨rfl, h0.1, h0.2⟩
  obtain ⟨rfl, hnc, hcm⟩ := hnl
  refine wp_rounds (gf := 192) (lb := #[.pointer (some ⟨w.heap.size + 1 + 1, 0, none⟩)]) rfl (enters_of Tryz.func192 (by kernel_rfl) rfl) (S := ownB w.heap.size (w.heap.size + 1 + 1)) (fun k hk => by have := hk.lt; omega)
    (i_rounds xs a xs.length cap (w.heap.size + 1 + 1) _ W3 HR3.out (.inr rfl) hr.inB hc2 hsm hlen) (fun _ => rfl)
    (fun k W => Gr w W ∧ (W.cell? ⟨w.heap.size, 0, none⟩ = some (.slice a xs.length cap) ∧ W.cell? ⟨w.heap.size + 1, 0, none⟩ = some (.slice none 0 0) ∧ W.frozen? ⟨w.heap.size + 1, 0, none⟩ = false) ∧ ∀ i (h : i < xs.length), xs.length - k ≤ i → xs[i] = 0)
    (fun c W => c = .ret ∧ Gr w W ∧ ∃ j, ∃ h : j < xs.length, xs[j] ≠ 0 ∧ (∀ i (h : i < xs.length), j < i → xs[i] = 0) ∧ W.cell? ⟨w.heap.size + 1, 0, none⟩ = some (.slice a (j + 1) cap))
    (fun s A B row hs hg hr => ⟨Below.grown hs.1 hg hs.1.size (fun k e => by have := (hr k e).1; omega), ⟨cell_kept hs.2.1.1 hg (fun r e => (hr r e).2), cell_kept hs.2.1.2.1 hg (fun r e => (hr r e).2), (frozen_kept hs.2.1.2.1 hg (fun r e => (hr r e).2)).trans hs.2.1.2.2⟩, hs.2.2⟩)
    (fun c s A B row hs hg hr => ⟨hs.1, Below.grown hs.2.1 hg hs.2.1.size (fun k e => by have := (hr k e).1; omega), by
      obtain ⟨j, h, h1, h2, h3⟩ := hs.2.2
      exact ⟨j, h, h1, h2, cell_kept h3 hg (fun r e => (hr r e).2)⟩⟩)
    ⟨hg3, ⟨hc0, hc1⟩, fun i h1 h2 => absurd h1 (by omega)⟩
    (fun k => { tmps := #[.slice a xs.length cap, .pointer (some ⟨w.heap.size, 0, none⟩), .pointer (some ⟨w.heap.size + 1, 0, none⟩), .int .i64 ((xs.length - 1 - k : Nat) : Int), .int .u64 ((xs.getD (xs.length - 1 - k) 0 : Nat) : Int), .slice a xs.length cap, .func (.func 192) #[] #[.pointer (some ⟨w.heap.size + 1 + 1, 0, none⟩)], .int .i64 ((xs.length - 1 - k : Nat) : Int), .int .u64 ((xs.getD (xs.length - 1 - k) 0 : Nat) : Int), undef, undef, undef, undef, undef, undef], defers := [] }) ?assign ?body ?done ?stop
  case assign =>
    intro l k W K hK
    unfold downArgs
    gi_wp2
    exact hK
  case body =>
    rintro l k W hk ⟨hg, ⟨h0, h1, h2⟩, h3⟩
    have HB := Lib.hid h3; clear h3
    obtain ⟨j, hj⟩ : ∃ j, j = xs.length - 1 - k := ⟨_, rfl⟩
    rw [← hj]
    have hjl : j < xs.length := by omega
    obtain ⟨x, HX⟩ : ∃ x, Hid (x = xs.getD j 0) := ⟨_, rfl⟩
    rw [← HX.out]
    have hx' : x = xs[j] := by rw [HX.out]; simp [hjl]
    have HX' := Lib.hid hx'; clear hx'
    have HJ := Lib.hid hj; clear hj
    by_cases hx : x = 0
    · have hx1 : ((x : Int) != 0) = false := by simp [hx]
      have HZ := Lib.hid hx; clear hx
      gi_wp2
      refine ⟨KeepsFrom.refl _ _, KeepB.refl _ _, hg, ⟨h0, h1, h2⟩, fun i hi hik => ?_⟩
      by_cases hij : i = j
      · subst hij; rw [← HX'.out]; exact HZ.out
      · exact HB.out i hi (by have := HJ.out; omega)
    · have hx1 : ((x : Int) != 0) = true := by simp [hx]
      have HZ := Lib.hid hx; clear hx
      have hcap : j + 1 ≤ cap := by omega
      unfold maxLen at hcm
      gi_wp2
      refine ⟨(KeepsOthers.setCell _ _ _).from _, rfl, Below.setCell hg (show w.heap.size ≤ w.heap.size + 1 by omega) _, j, hjl, by rw [← HX'.out]; exact HZ.out, fun i hi hji => HB.out i hi (by have := HJ.out; omega), ?_⟩
      exact World.cell?_setCell_same' _ _ _ (by rw [h1]; rfl)
  case done =>
    rintro D W hD ⟨hg, ⟨h0, h1, h2⟩, h3⟩ hK
    have HF : Hid (trimL xs = []) := trimL_all fun x hx => by
      obtain ⟨i, hi, rfl⟩ := List.getElem_of_mem hx
      exact h3 i hi (by omega)
    clear h3
    gi_wp2
    have hc : (W.setCell ⟨w.heap.size + 1, 0, none⟩ (.slice none 0 0)).cell? ⟨w.heap.size + 1, 0, none⟩ = some (.slice none 0 0) := World.cell?_setCell_same' _ _ _ (by rw [h1]; rfl)
    have hK' := (KeepsOthers.setCell W ⟨w.heap.size + 1, 0, none⟩ (.slice none 0 0)).same D _ hK rfl
    have hgX : Gr w (W.setCell ⟨w.heap.size + 1, 0, none⟩ (.slice none 0 0)) := Below.setCell hg (show w.heap.size ≤ w.heap.size + 1 by omega) _
    generalize W.setCell ⟨w.heap.size + 1, 0, none⟩ (.slice none 0 0) = X at hc hK' hgX
    have hc' : (X.putObj D (.deferred none)).cell? ⟨w.heap.size + 1, 0, none⟩ = some (.slice none 0 0) := cell_kept hc (grownBy_putObj' _ D (.deferred none)) (fun r e => by cases e; exact ⟨_, hK', rfl⟩)
    refine ⟨by simp, .inl ⟨_, _, rfl, run_takeDeferred hK', ?_⟩⟩
    refine ⟨.slice none 0 0, ?_, none, 0, 0, rfl, .inl rfl, ?_, ?_⟩
    · simp [results, Tryz.results167, go_sem, hc']
    · rw [HF.out]; exact Rd.nil _ _
    · exact Below.trans hgX (below_putObj (by omega))
  case stop =>
    rintro D c W hD ⟨rfl, hg, j, hj, hx, hz, hc⟩ hK
    have HF := Lib.hid (trimL_at hj hx hz)
    clear hx hz
    gi_wp2
    have hc' : (W.putObj D (.deferred none)).cell? ⟨w.heap.size + 1, 0, none⟩ = some (.slice a (j + 1) cap) := cell_kept hc (grownBy_putObj' _ D (.deferred none)) (fun r e => by cases e; exact ⟨_, hK, rfl⟩)
    have hgX : Gr w (W.putObj D (.deferred none)) := Below.trans hg (below_putObj (by omega))
    refine ⟨by simp, .inl ⟨_, _, rfl, run_takeDeferred hK, ?_⟩⟩
    refine ⟨.slice a (j + 1) cap, ?_, a, j + 1, cap, rfl, .inr rfl, ?_, hgX⟩
    · simp [results, Tryz.results167, go_sem, hc']
    · rw [HF.out]
      exact (hr.take (j + 1) (by omega)).gr hgX
theorem i_trim (a : Option Addr) (n cap : Nat) (xs : List Nat) (w : World) (hr : Rd .u32 w (.slice a n cap) xs) (hsm : small 1000000000 xs) (hlen : xs.length ≤ 3000000) :
    Calls Tryz.prog 167 #[.slice a n cap] w (fun e w' => TrimRet w w' xs a e) := by
  refine (i_trimB a n cap xs w hr hsm hlen).mono ?_
  rintro e w' ⟨a', n', c, rfl, -, h1, h2⟩
  exact ⟨_, rfl, h1, h2⟩
end Go.Proofs.YtlbnibicehpobaaGreatDoor

/- Comparing of words; words as an unsigned number; reading of words. -/
namespace Go.Proofs.YtlbnibicehpobaaGreatDoor
open Go.RowKit Go.Shelf
open Z
attribute [local go_sem] Oper.semAt_some

set_option maxHeartbeats 400000 in
theorem i_cmp_int (x y : Int) (w : World) : Calls Tryz.prog 168 #[.int .i64 x, .int .i64 y] w fun e w' => e = .returned (.int .i64 (cmpZ x y)) ∧ w = w' := by
  rcases Int.lt_trichotomy x y with h | h | h
  · have HF := Lib.hid (cmpZ_lt h)
    go_enter Tryz.func168, Tryz.ntmps168
    go_wp2
    go_ret
    exact ⟨ret_int HF.out.symm, rfl⟩
  · subst h
    have HF : Hid (cmpZ x x = 0) := by show _ = _; unfold cmpZ; simp
    go_enter Tryz.func168, Tryz.ntmps168
    go_wp2
    go_ret
    exact ⟨ret_int HF.out.symm, rfl⟩
  · have HF := Lib.hid (cmpZ_gt h)
    have h' : ¬ x < y := by omega
    go_enter Tryz.func168, Tryz.ntmps168
    go_wp2
    go_ret
    exact ⟨ret_int HF.out.symm, rfl⟩
set_option maxHeartbeats 400000 in
theorem i_cmp_u64 (x y : Int) (w : World) : Calls Tryz.prog 170 #[.int .u64 x, .int .u64 y] w fun e w' => e = .returned (.int .i64 (cmpZ x y)) ∧ w = w' := by
  rcases Int.lt_trichotomy x y with h | h | h
  · have HF := Lib.hid (cmpZ_lt h)
    go_enter Tryz.func170, Tryz.ntmps170
    go_wp2
    go_ret
    exact ⟨ret_int HF.out.symm, rfl⟩
  · subst h
    have HF : Hid (cmpZ x x = 0) := by show _ = _; unfold cmpZ; simp
    go_enter Tryz.func170, Tryz.ntmps170
    go_wp2
    go_ret
    exact ⟨ret_int HF.out.symm, rfl⟩
  · have HF := Lib.hid (cmpZ_gt h)
    have h' : ¬ x < y := by omega
    go_enter Tryz.func170, Tryz.ntmps170
    go_wp2
    go_ret
    exact ⟨ret_int HF.out.symm, rfl⟩

/-- words of nine digits without zeros at the top -/
def Nm (xs : List Nat) : Prop := small 1000000000 xs ∧ xs.getLast? ≠ some 0
theorem Nm.trim {xs : List Nat} (h : small 1000000000 xs) : Nm (trimL xs) := ⟨(trimL_sub h).1, trimL_top⟩
theorem wv_split (B : Nat) (l : List Nat) (j : Nat) (h : j < l.length) : wv B l = wv B (l.take j) + B ^ j * (l[j] + B * wv B (l.drop (j + 1))) := by
  have h1 := wv_append B (l.take j) (l.drop j)
  rw [List.take_append_drop, List.length_take, Nat.min_eq_left (by omega), ← List.getElem_cons_drop (h := h)] at h1
  exact h1
theorem Nm.ge {xs : List Nat} (h : Nm xs) (h0 : xs ≠ []) : 1000000000 ^ (xs.length - 1) ≤ wv 1000000000 xs := by
  obtain ⟨t, c, rfl⟩ := snoc_of_ne xs h0
  have hc : c ≠ 0 := by have := h.2; simpa using this
  rw [wv_snoc, List.length_append]
  simp only [List.length_cons, List.length_nil, Nat.zero_add, Nat.add_sub_cancel]
  have : 1000000000 ^ t.length * 1 ≤ 1000000000 ^ t.length * c := Nat.mul_le_mul_left _ (by omega)
  omega
theorem Nm.lt_len {xa xb : List Nat} (ha : small 1000000000 xa) (hb : Nm xb) (h : xa.length < xb.length) : wv 1000000000 xa < wv 1000000000 xb := by
  have h1 := wv_lt ha
  have h2 := hb.ge (by intro e; rw [e] at h; simp at h)
  have h3 : 1000000000 ^ xa.length ≤ 1000000000 ^ (xb.length - 1) := Nat.pow_le_pow_right (by decide) (by omega)
  omega
theorem wv_lt_top {B : Nat} {xa xb : List Nat} (ha : small B xa) (hl : xa.length = xb.length) (j : Nat) (hj : j < xa.length) (hj' : j < xb.length) (heq : ∀ i (h1 : i < xa.length) (h2 : i < xb.length), j < i → xa[i] = xb[i]) (hlt : xa[j] < xb[j]) : wv B xa < wv B xb := by
  rw [wv_split B xa j hj, wv_split B xb j hj']
  have h1 : xa.drop (j + 1) = xb.drop (j + 1) := by
    apply List.ext_getElem
    · simp [hl]
    · intro i h1 h2
      rw [List.getElem_drop, List.getElem_drop]
      exact heq _ _ _ (by omega)
  rw [h1]
  have h2 : wv B (xa.take j) < B ^ (xa.take j).length := wv_lt (fun x hx => ha x (List.mem_of_mem_take hx))
  rw [List.length_take, Nat.min_eq_left (by omega)] at h2
  have h3 : B ^ j * (xa[j] + 1 + B * wv B (xb.drop (j + 1))) ≤ B ^ j * (xb[j] + B * wv B (xb.drop (j + 1))) := Nat.mul_le_mul_left _ (by omega)
  rw [show xa[j] + 1 + B * wv B (xb.drop (j + 1)) = (xa[j] + B * wv B (xb.drop (j + 1))) + 1 by omega, Nat.mul_add (B ^ j) _ 1] at h3
  omega
theorem cmpZ_nat (n m : Nat) : cmpZ n m = cmpN n m := by unfold cmpZ cmpN; repeat' split <;> omega
theorem Rd.len {k : IntKind} {w : World} {a : Option Addr} {n cap : Nat} {xs : List Nat} (h : Rd k w (.slice a n cap) xs) : n = xs.length ∧ n ≤ cap ∧ cap ≤ maxLen := by
  obtain ⟨a', cap', he, h0, -⟩ := h
  simp only [Value.slice.injEq] at he
  obtain ⟨-, rfl, rfl⟩ := he
  exact ⟨rfl, h0.1, h0.2⟩
set_option maxHeartbeats 2000000 in
set_option maxRecDepth 100000 in
theorem i_compare (aa ab : Option Addr) (na nb ca cb : Nat) (xa xb : List Nat) (w : World) (hra : Rd .u32 w (.slice aa na ca) xa) (hrb : Rd .u32 w (.slice ab nb cb) xb) (hna : Nm xa) (hnb : Nm xb) (hl1 : xa.length ≤ 3000000) (hl2 : xb.length ≤ 3000000) :
    Calls Tryz.prog 151 #[.slice aa na ca, .slice ab nb cb] w fun e w' => e = .returned (.int .i64 (cmpN (wv 1000000000 xa) (wv 1000000000 xb))) ∧ Gr w w' := by
  refine (callsIn_wide (n := 3)).1 ?_
  refine callsIn_of_wp_marks Tryz.func151 rfl trivial ?_ rfl
  obtain ⟨rfl, hc1, hc2⟩ := hra.len
  obtain ⟨rfl, hc3, hc4⟩ := hrb.len
  unfold maxLen at hc2 hc4
  simp only [Tryz.ntmps151, List.size_toArray, List.length_cons, List.length_nil, Nat.reduceAdd, Nat.reduceSub, Array.replicate_succ, Array.replicate_zero, List.push_toArray, List.append_toArray, List.nil_append, List.cons_append]
  by_cases hl : xa.length = xb.length
  · have heq : ((xa.length : Int) == (xb.length : Int)) = true := beq_iff_eq.2 (by omega)
    have HL := Lib.hid hl
    clear hl
    gi_wp2_with (refine ⟨trivial, ?_⟩; gi_at_call 169; refine (callsIn_wide.2 (i_backwards _ _ _ _)).mono ?_; rintro e w' ⟨rfl, rfl⟩)
    generalize hW3 : (((w.alloc (.cells #[.slice ab xb.length cb] 136)).alloc (.cells #[.int .i64 0] 3)).alloc (.cells #[.slice aa xa.length ca] 136)) = W3
    have hs3 : W3.heap.size = w.heap.size + 3 := by rw [← hW3]; simp
    have hg3 : Gr w W3 := by rw [← hW3]; exact (((Gr.refl w).alloc _).alloc _).alloc _
    have hc0 : W3.cell? ⟨w.heap.size, 0, none⟩ = some (.slice ab xb.length cb) := by
      rw [← hW3, World.cell?_alloc_past _ _ _ (by simp; omega), World.cell?_alloc_past _ _ _ (by simp), World.cell?_alloc_at _ _ _ _ rfl]; rfl
    have hr0 : W3.cell? ⟨w.heap.size + 1, 0, none⟩ = some (.int .i64 0) ∧ W3.frozen? ⟨w.heap.size + 1, 0, none⟩ = false := by
      rw [← hW3, World.cell?_alloc_past _ _ _ (by simp), World.cell?_alloc_at _ _ _ _ (by simp), World.frozen?_alloc_past _ _ _ (by simp)]
      exact ⟨rfl, World.frozen?_alloc_at _ _ _ _ (by simp)⟩
    have hb2 : W3.cell? ⟨w.heap.size + 1 + 1, 0, none⟩ = some (.slice aa xa.length ca) := by
      rw [← hW3, World.cell?_alloc_at _ _ _ _ (by simp)]; rfl
    refine wp_rounds (gf := 192) (lb := #[.pointer (some ⟨w.heap.size + 1 + 1, 0, none⟩)]) rfl (enters_of Tryz.func192 (by kernel_rfl) rfl) (S := ownB w.heap.size (w.heap.size + 1 + 1)) (fun k hk => by have := hk.lt; omega)
      (i_rounds xa aa xa.length ca (w.heap.size + 1 + 1) _ W3 (hra.gr hg3) (.inr rfl) hra.inB hb2 hna.1 hl1) (fun _ => rfl)
      (fun k W => Gr w W ∧ (W.cell? ⟨w.heap.size, 0, none⟩ = some (.slice ab xb.length cb) ∧ W.cell? ⟨w.heap.size + 1, 0, none⟩ = some (.int .i64 0) ∧ W.frozen? ⟨w.heap.size + 1, 0, none⟩ = false) ∧ ∀ i (h1 : i < xa.length) (h2 : i < xb.length), xa.length - k ≤ i → xa[i] = xb[i])
      (fun c W => c = .ret ∧ Gr w W ∧ W.cell? ⟨w.heap.size + 1, 0, none⟩ = some (.int .i64 (cmpN (wv 1000000000 xa) (wv 1000000000 xb))))
      (fun s A B row hs hg hr => ⟨Below.grown hs.1 hg hs.1.size (fun k e => by have := (hr k e).1; omega), ⟨cell_kept hs.2.1.1 hg (fun r e => (hr r e).2), cell_kept hs.2.1.2.1 hg (fun r e => (hr r e).2), (frozen_kept hs.2.1.2.1 hg (fun r e => (hr r e).2)).trans hs.2.1.2.2⟩, hs.2.2⟩)
      (fun c s A B row hs hg hr => ⟨hs.1, Below.grown hs.2.1 hg hs.2.1.size (fun k e => by have := (hr k e).1; omega), cell_kept hs.2.2 hg (fun r e => (hr r e).2)⟩)
      ⟨hg3, ⟨hc0, hr0⟩, fun i h1 h2 h3 => absurd h1 (by omega)⟩
      (fun k => { tmps := #[.slice aa xa.length ca, .slice ab xb.length cb, undef, .pointer (some ⟨w.heap.size, 0, none⟩), .pointer (some ⟨w.heap.size + 1, 0, none⟩), .int .i64 ((xa.length - 1 - k : Nat) : Int), .int .u64 ((xa.getD (xa.length - 1 - k) 0 : Nat) : Int), undef, .slice aa xa.length ca, .int .i64 (xa.length : Nat), .slice ab xb.length cb, .int .i64 (xb.length : Nat), .bool false, undef, undef, undef, undef, undef, .slice aa xa.length ca, .func (.func 192) #[] #[.pointer (some ⟨w.heap.size + 1 + 1, 0, none⟩)], .int .i64 ((xa.length - 1 - k : Nat) : Int), .int .u64 ((xa.getD (xa.length - 1 - k) 0 : Nat) : Int), undef, undef, undef, undef, undef, undef, undef, undef, undef, undef, undef], defers := [] }) ?assign ?body ?done ?stop
    case assign =>
      intro l k W K hK
      unfold downArgs
      gi_wp2
      exact hK
    case body =>
      rintro l k W hk ⟨hg, ⟨h0, h1, h2⟩, h3⟩
      have HB := Lib.hid h3; clear h3
      obtain ⟨j, hj⟩ : ∃ j, j = xa.length - 1 - k := ⟨_, rfl⟩
      rw [← hj]
      have hjl : j < xa.length := by omega
      have hjb : j < xb.length := by have := HL.out; omega
      obtain ⟨x, hx⟩ : ∃ x, x = xa.getD j 0 := ⟨_, rfl⟩
      rw [← hx]
      have HX : Hid (x = xa[j]) := by show _ = _; rw [hx]; simp [hjl]
      obtain ⟨y, hy⟩ : ∃ y, y = xb[j] := ⟨_, rfl⟩
      have HY := Lib.hid hy
      have hy9 : y < 1000000000 := by rw [hy]; exact hnb.1 _ (List.getElem_mem hjb)
      have hx9 : x < 1000000000 := by rw [HX.out]; exact hna.1 _ (List.getElem_mem hjl)
      obtain ⟨gb, ob, rfl, hcb⟩ := hrb.at hg j hjb
      rw [show xb.getD j 0 = y by rw [hy]; simp [hjb]] at hcb
      clear hx hy
      have HJ := Lib.hid hj; clear hj
      by_cases hxy : x = y
      · have hx1 : ((x : Int) != (y : Int)) = false := by simp [hxy]
        have HZ := Lib.hid hxy; clear hxy
        gi_wp2
        refine ⟨KeepsFrom.refl _ _, KeepB.refl _ _, hg, ⟨h0, h1, h2⟩, fun i hi hi' hik => ?_⟩
        by_cases hij : i = j
        · subst hij; rw [← HX.out, ← HY.out]; exact HZ.out
        · exact HB.out i hi hi' (by have := HJ.out; omega)
      · have hx1 : ((x : Int) != (y : Int)) = true := by rw [bne_iff_ne]; omega
        have HF : Hid (cmpZ x y = cmpN (wv 1000000000 xa) (wv 1000000000 xb)) := by
          show _ = _
          rw [cmpZ_nat]
          have hup : ∀ i (h1 : i < xa.length) (h2 : i < xb.length), j < i → xa[i] = xb[i] := fun i h1 h2 hij => HB.out i h1 h2 (by have := HJ.out; omega)
          rcases Nat.lt_or_gt_of_ne hxy with h | h
          · rw [cmpN_lt h, cmpN_lt (wv_lt_top hna.1 HL.out j hjl hjb hup (by rw [← HX.out, ← HY.out]; exact h))]
          · rw [cmpN_gt h, cmpN_gt (wv_lt_top hnb.1 HL.out.symm j hjb hjl (fun i h1 h2 h3 => (hup i h2 h1 h3).symm) (by rw [← HX.out, ← HY.out]; exact h))]
        clear hxy
        gi_wp2_with (refine ⟨trivial, ?_⟩; gi_at_call 170; refine (CallsIn.inRound l (callsIn_wide.2 (i_cmp_u64 _ _ _))).mono ?_; rintro e w' ⟨rfl, rfl⟩)
        refine ⟨(KeepsOthers.setCell _ _ _).from _, rfl, Below.setCell hg (show w.heap.size ≤ w.heap.size + 1 by omega) _, ?_⟩
        rw [← HF.out]
        exact World.cell?_setCell_same' _ _ _ (by rw [h1]; rfl)
    case done =>
      rintro D W hD ⟨hg, ⟨h0, h1, h2⟩, h3⟩ hK
      have HF : Hid (cmpN (wv 1000000000 xa) (wv 1000000000 xb) = 0) := by
        have : xa = xb := List.ext_getElem HL.out (fun i h1 h2 => h3 i h1 h2 (by omega))
        show _ = _
        rw [this]; exact cmpN_eq rfl
      clear h3
      gi_wp2
      have hc : (W.setCell ⟨w.heap.size + 1, 0, none⟩ (.int .i64 0)).cell? ⟨w.heap.size + 1, 0, none⟩ = some (.int .i64 0) := World.cell?_setCell_same' _ _ _ (by rw [h1]; rfl)
      have hK' := (KeepsOthers.setCell W ⟨w.heap.size + 1, 0, none⟩ (.int .i64 0)).same D _ hK rfl
      have hgX : Gr w (W.setCell ⟨w.heap.size + 1, 0, none⟩ (.int .i64 0)) := Below.setCell hg (show w.heap.size ≤ w.heap.size + 1 by omega) _
      generalize W.setCell ⟨w.heap.size + 1, 0, none⟩ (.int .i64 0) = X at hc hK' hgX
      have hc' : (X.putObj D (.deferred none)).cell? ⟨w.heap.size + 1, 0, none⟩ = some (.int .i64 0) := cell_kept hc (grownBy_putObj' _ D (.deferred none)) (fun r e => by cases e; exact ⟨_, hK', rfl⟩)
      refine ⟨by simp, .inl ⟨_, _, rfl, run_takeDeferred hK', ?_⟩⟩
      refine ⟨.int .i64 0, ?_, ?_, ?_⟩
      · simp [results, Tryz.results151, go_sem, hc']
      · rw [HF.out]
      · exact Below.trans hgX (below_putObj (by omega))
    case stop =>
      rintro D c W hD ⟨rfl, hg, hc⟩ hK
      gi_wp2
      have hc' : (W.putObj D (.deferred none)).cell? ⟨w.heap.size + 1, 0, none⟩ = some (.int .i64 (cmpN (wv 1000000000 xa) (wv 1000000000 xb))) := cell_kept hc (grownBy_putObj' _ D (.deferred none)) (fun r e => by cases e; exact ⟨_, hK, rfl⟩)
      have hgX : Gr w (W.putObj D (.deferred none)) := Below.trans hg (below_putObj (by omega))
      refine ⟨by simp, .inl ⟨_, _, rfl, run_takeDeferred hK, ?_⟩⟩
      refine ⟨.int .i64 (cmpN (wv 1000000000 xa) (wv 1000000000 xb)), ?_, rfl, hgX⟩
      simp [results, Tryz.results151, go_sem, hc']
  · have hne : ((xa.length : Int) == (xb.length : Int)) = false := beq_eq_false_iff_ne.2 (by omega)
    have HF : Hid (cmpZ xa.length xb.length = cmpN (wv 1000000000 xa) (wv 1000000000 xb)) := by
      show _ = _
      rcases Nat.lt_or_ge xa.length xb.length with h | h
      · rw [cmpZ_lt (by omega), cmpN_lt (Nm.lt_len hna.1 hnb h)]
      · rw [cmpZ_gt (by omega), cmpN_gt (Nm.lt_len hnb.1 hna (by omega))]
    gi_wp2_with (refine ⟨trivial, ?_⟩; gi_at_call 168; refine (callsIn_wide.2 (i_cmp_int _ _ _)).mono ?_; rintro e w' ⟨rfl, rfl⟩)
    refine ⟨.int .i64 (cmpZ xa.length xb.length), ?_, ?_, ((Gr.refl w).alloc _).alloc _⟩
    · simp [results, Tryz.results151, go_sem]
    · rw [HF.out]
end Go.Proofs.YtlbnibicehpobaaGreatDoor

/- Words as an unsigned number; reading of words. -/
namespace Go.Proofs.YtlbnibicehpobaaGreatDoor
open Go.RowKit Go.Shelf
open Z
attribute [local go_sem] Oper.semAt_some

theorem wv_dropB {l : List Nat} {i : Nat} (B : Nat) (h : i < l.length) : wv B (l.drop i) = l[i] + B * wv B (l.drop (i + 1)) := by
  rw [← List.getElem_cons_drop (h := h)]; rfl
theorem small_drop {B : Nat} {l : List Nat} (h : small B l) (i : Nat) : small B (l.drop i) := fun x hx => h x (List.mem_of_mem_drop hx)

set_option maxHeartbeats 2000000 in
set_option maxRecDepth 100000 in
theorem i_small (aa : Option Addr) (na ca : Nat) (xs : List Nat) (w : World) (hr : Rd .u32 w (.slice aa na ca) xs) (hsm : small 1000000000 xs) (hl : xs.length ≤ 2) :
    Calls Tryz.prog 166 #[.slice aa na ca] w fun e w' => e = .returned (.int .u64 (wv 1000000000 xs : Nat)) ∧ Gr w w' := by
  refine (callsIn_wide (n := 3)).1 ?_
  refine callsIn_of_wp_marks Tryz.func166 rfl trivial ?_ rfl
  obtain ⟨rfl, hc1, hc2⟩ := hr.len
  simp only [Tryz.ntmps166, List.size_toArray, List.length_cons, List.length_nil, Nat.reduceAdd, Nat.reduceSub, Array.replicate_succ, Array.replicate_zero, List.push_toArray, List.append_toArray, List.nil_append, List.cons_append]
  gi_wp2_with (refine ⟨trivial, ?_⟩; gi_at_call 169; refine (callsIn_wide.2 (i_backwards _ _ _ _)).mono ?_; rintro e w' ⟨rfl, rfl⟩)
  generalize hW2 : ((w.alloc (.cells #[.int .u64 0] 152)).alloc (.cells #[.slice aa xs.length ca] 136)) = W2
  have hs2 : W2.heap.size = w.heap.size + 2 := by rw [← hW2]; simp
  have hg2 : Gr w W2 := by rw [← hW2]; exact ((Gr.refl w).alloc _).alloc _
  have hc0 : W2.cell? ⟨w.heap.size, 0, none⟩ = some (.int .u64 0) ∧ W2.frozen? ⟨w.heap.size, 0, none⟩ = false := by
    rw [← hW2, World.cell?_alloc_past _ _ _ (by simp), World.cell?_alloc_at _ _ _ _ rfl, World.frozen?_alloc_past _ _ _ (by simp)]
    exact ⟨rfl, World.frozen?_alloc_at _ _ _ _ rfl⟩
  have hb2 : W2.cell? ⟨w.heap.size + 1, 0, none⟩ = some (.slice aa xs.length ca) := by
    rw [← hW2, World.cell?_alloc_at _ _ _ _ (by simp)]; rfl
  have HS := Lib.hid hsm
  refine wp_rounds (gf := 192) (lb := #[.pointer (some ⟨w.heap.size + 1, 0, none⟩)]) rfl (enters_of Tryz.func192 (by kernel_rfl) rfl) (S := ownB w.heap.size (w.heap.size + 1)) (fun k hk => by have := hk.lt; omega)
    (i_rounds xs aa xs.length ca (w.heap.size + 1) _ W2 (hr.gr hg2) (.inr rfl) hr.inB hb2 hsm (by omega)) (fun _ => rfl)
    (fun k W => Gr w W ∧ W.cell? ⟨w.heap.size, 0, none⟩ = some (.int .u64 ((wv 1000000000 (xs.drop (xs.length - k)) : Nat) : Int)) ∧ W.frozen? ⟨w.heap.size, 0, none⟩ = false)
    (fun _ _ => False)
    (fun s A B row hs hg hr => ⟨Below.grown hs.1 hg hs.1.size (fun k e => by have := (hr k e).1; omega), cell_kept hs.2.1 hg (fun r e => (hr r e).2), (frozen_kept hs.2.1 hg (fun r e => (hr r e).2)).trans hs.2.2⟩)
    (fun c s A B row hs hg hr => hs)
    ⟨hg2, by rw [List.drop_of_length_le (by omega)]; exact hc0.1, hc0.2⟩
    (fun k => { tmps := #[.slice aa xs.length ca, undef, .int .u64 0, .pointer (some ⟨w.heap.size, 0, none⟩), undef, .int .u64 ((xs.getD (xs.length - 1 - k) 0 : Nat) : Int), .slice aa xs.length ca, .func (.func 192) #[] #[.pointer (some ⟨w.heap.size + 1, 0, none⟩)], .int .i64 ((xs.length - 1 - k : Nat) : Int), .int .u64 ((xs.getD (xs.length - 1 - k) 0 : Nat) : Int), undef, undef, undef, undef, undef], defers := [] }) ?assign ?body ?done ?stop
  case assign =>
    intro l k W K hK
    unfold downArgs
    gi_wp2
    exact hK
  case body =>
    rintro l k W hk ⟨hg, h1, h2⟩
    have hj : xs.length - 1 - k < xs.length := by omega
    have hx : xs.getD (xs.length - 1 - k) 0 < 1000000000 := small_getD (by omega) HS.out _
    have hv : wv 1000000000 (xs.drop (xs.length - k)) < 1000000000 := by
      have h := wv_lt (small_drop HS.out (xs.length - k))
      have h' : 1000000000 ^ (xs.drop (xs.length - k)).length ≤ 1000000000 ^ 1 := Nat.pow_le_pow_right (by decide) (by simp; omega)
      omega
    have HN : Hid (wv 1000000000 (xs.drop (xs.length - (k + 1))) = xs.getD (xs.length - 1 - k) 0 + 1000000000 * wv 1000000000 (xs.drop (xs.length - k))) := by
      show _ = _
      rw [show xs.length - (k + 1) = xs.length - 1 - k by omega, wv_dropB _ hj, show xs.length - 1 - k + 1 = xs.length - k by omega]
      simp [hj]
    generalize xs.getD (xs.length - 1 - k) 0 = x at hx HN ⊢
    generalize wv 1000000000 (xs.drop (xs.length - k)) = v at hv HN h1
    gi_wp2
    refine ⟨(KeepsOthers.setCell _ _ _).from _, KeepB.setCell (show ¬ ownB w.heap.size (w.heap.size + 1) w.heap.size from fun h => by unfold ownB at h; omega) _, Below.setCell hg (Nat.le_refl _) _, ?_, (World.frozen?_setCell _ _ _ _).trans h2⟩
    rw [HN.out, show ((x + 1000000000 * v : Nat) : Int) = (v : Int) * 1000000000 + x by omega]
    exact World.cell?_setCell_same' _ _ _ (by rw [h1]; rfl)
  case done =>
    rintro D W hD ⟨hg, h1, h2⟩ hK
    rw [Nat.sub_self, List.drop_zero] at h1
    gi_wp2
    refine ⟨by simp, .inl ⟨_, _, rfl, run_takeDeferred hK, ?_⟩⟩
    refine ⟨.int .u64 (wv 1000000000 xs : Nat), ?_, rfl, Below.trans hg (below_putObj (by omega))⟩
    simp [results, Tryz.results166, go_sem]
  case stop =>
    rintro D c W hD h hK
    exact h.elim

set_option maxHeartbeats 1000000 in
theorem i_readWord (s : ByteArray) (w : World) (hs : s.size ≤ 9) (hall : s.data.toList.all isD = true) :
    Calls Tryz.prog 188 #[.string s] w fun e w' => e = .returned (.int .u32 (dec s.data.toList : Nat)) ∧ w = w' := by
  have hlen : s.data.toList.length = s.size := by simp
  have hgt : ∀ k (h : k < s.size), dec (s.data.toList.take (k + 1)) = 10 * dec (s.data.toList.take k) + (s[k].toNat - 48) ∧ 48 ≤ s[k].toNat ∧ s[k].toNat ≤ 57 := by
    intro k h
    have h1 : k < s.data.toList.length := by omega
    rw [take_snoc _ _ h1, dec_snoc, get_data]
    refine ⟨rfl, ?_⟩
    rw [List.all_eq_true] at hall
    exact isD_iff.1 (hall _ (List.getElem_mem h1))
  have hbd : ∀ k, k < s.size → dec (s.data.toList.take k) < 100000000 := fun k hk => by
    have h1 := dec_take_le s.data.toList k hall
    have h2 : 10 ^ k ≤ 10 ^ 8 := Nat.pow_le_pow_right (by decide) (by omega)
    omega
  have htot : dec (s.data.toList.take s.size) = dec s.data.toList := by rw [← hlen, List.take_length]
  have HT := Lib.hid htot
  have HG := Lib.hid hgt
  have HB := Lib.hid hbd
  clear htot hgt hbd hlen hall
  go_enter Tryz.func188, Tryz.ntmps188
  go_wp2
  go_loop [3, 7] (fun n i => ∃ k : Nat, k ≤ s.size ∧ i = .int .i64 k ∧ n = .int .u32 (dec (s.data.toList.take k) : Nat)) (fun _ i => s.size - (intOf i).toNat)
  case atStart => exact ⟨0, Nat.zero_le _, rfl, rfl⟩
  case round =>
    obtain ⟨k, hk, rfl, rfl⟩ := hrel
    by_cases hlt : k < s.size
    · have hv := HB.out k hlt
      obtain ⟨g1, g2, g3⟩ := HG.out k hlt
      have G1 := Lib.hid g1; clear g1
      go_wp2
      go_round
      case rel => exact ⟨k + 1, by omega, by go_num, by rw [G1.out]; congr 1; omega⟩
      case measure => simp [intOf]; omega
    · have hkt : k = s.size := by omega
      have HT' : Hid (dec (s.data.toList.take k) = dec s.data.toList) := by show _ = _; rw [hkt]; exact HT.out
      clear hkt
      go_wp2
      go_ret
      exact ⟨ret_int (by rw [HT'.out]), rfl⟩

/-- a slice of words that reads as a number -/
def WD (w : World) (v : Value) (n : Nat) : Prop := ∃ xs, Rd .u32 w v xs ∧ Nm xs ∧ wv 1000000000 xs = n
theorem WD.gr {w w' : World} {v : Value} {n : Nat} (h : WD w v n) (hg : Gr w w') : WD w' v n := by
  obtain ⟨xs, h1, h2, h3⟩ := h
  exact ⟨xs, h1.gr hg, h2, h3⟩
def WRet (n : Nat) (w w' : World) (e : Ending) : Prop := ∃ v, e = .returned v ∧ WD w' v n ∧ Gr w w'
theorem pow10_9 (n : Nat) : 10 ^ (9 * n) = 1000000000 ^ n := by rw [Nat.pow_mul]
theorem words_step9 {l : List UInt8} {xs : List Nat} {i lo : Nat} (hlo : lo ≤ i) (hi : i ≤ l.length) (hx : wv 1000000000 xs = dec (l.drop i)) (hn : l.length - i = 9 * xs.length) :
    wv 1000000000 (xs ++ [dec (seg l lo i)]) = dec (l.drop lo) := by
  rw [wv_snoc, hx, seg_drop l lo i hlo, dec_append, List.length_drop, hn, pow10_9, Nat.mul_comm]; omega
theorem Tryz.infoU32 : (Tryz.prog.info? 173).map (fun i => (i.zero, i.size, i.bytes)) = some (some (.int .u32 0), 1, 4) := by kernel_rfl
theorem Own.rd' {e : TypeId} {k : IntKind} {B : Nat} {w : World} {v : Value} {xs : List Nat} (h : Own e k B w v xs) : ∃ a cap, v = .slice a xs.length cap ∧ Rd k w (.slice a xs.length cap) xs := by
  have h1 := h.rd
  obtain ⟨a, cap, rfl, h2, h3⟩ := h.rd
  exact ⟨a, cap, rfl, h1⟩

end Go.Proofs.YtlbnibicehpobaaGreatDoor

/- Reading of words. -/
namespace Go.Proofs.YtlbnibicehpobaaGreatDoor
open Go.RowKit Go.Shelf
open Z
attribute [local go_sem] Oper.semAt_some

set_option maxHeartbeats 2000000 in
set_option maxRecDepth 100000 in
theorem i_readWords (s : ByteArray) (w : World) (hs : s.size ≤ 1000000) (hall : s.data.toList.all isD = true) :
    Calls Tryz.prog 164 #[.string s] w (fun e w' => WRet (dec s.data.toList) w w' e) := by
  have HALL := Lib.hid hall; clear hall
  have HLEN : Hid (s.data.toList.length = s.size) := by show _ = _; simp
  obtain ⟨i0, hi, hz0, hz1, hz2⟩ := info_parts Tryz.infoU32
  go_enter Tryz.func164, Tryz.ntmps164
  go_wp2_with (at_make; refine wpList_make_own w rfl _ _ 136 rfl w.heap.size 173 i0 (.int .u32 0) 1 Tryz.underlying136 hi hz0 hz1 .i64 .i64 _ (s.size / 9 + 1) rfl rfl (by omega) (by rw [hz2]; omega) (by unfold maxLen; omega) (Nat.le_refl _) ?_)
  intro w1 hown0 hgr0
  have HO0 : Hid (Own 173 .u32 w.heap.size w1 (.slice (some ⟨w.heap.size, 0, none⟩) 0 (s.size / 9 + 1)) []) := hown0
  have hg1 : Gr w w1 := Below.grown (Below.refl _ _) hgr0 (Nat.le_refl _) (fun k hk => by simp at hk)
  clear hown0 hgr0
  go_wp2
  go_loopw [3, 4] (fun v i wr => ∃ (q : Int) (xs : List Nat), i = .int .i64 q ∧ -9 ≤ q ∧ q ≤ s.size ∧ Hid (Own 173 .u32 w.heap.size wr v xs) ∧ Gr w wr ∧ Hid (small 1000000000 xs) ∧
      Hid (wv 1000000000 xs = dec (s.data.toList.drop q.toNat)) ∧ Hid (0 < q → s.data.toList.length - q.toNat = 9 * xs.length) ∧ xs.length + q.toNat ≤ s.size) (fun _ i _ => (intOf i).toNat)
  case atStart =>
    refine ⟨s.size, [], rfl, by omega, by omega, HO0.out, hg1, by intro x hx; simp at hx, ?_, ?_, by simp⟩
    · show _ = _; rw [Int.toNat_natCast, List.drop_of_length_le (by have := HLEN.out; omega)]; rfl
    · intro _; rw [Int.toNat_natCast]; have := HLEN.out; simp
  case round =>
    obtain ⟨q, xs, rfl, q1, q2, hown, hg, hsm, HW, HP, hxl⟩ := hrel
    clear HO0 hg1
    by_cases hq : 0 < q
    · obtain ⟨i, rfl⟩ : ∃ i : Nat, q = i := ⟨q.toNat, by omega⟩
      have hcase : ∃ lo : Nat, lo < i ∧ i ≤ lo + 9 ∧ ((9 ≤ i ∧ (i : Int) - 9 = lo) ∨ ((i : Int) - 9 < 0 ∧ Hid (lo = 0))) := by
        by_cases h : 9 ≤ i
        · exact ⟨i - 9, by omega, by omega, .inl ⟨h, by omega⟩⟩
        · exact ⟨0, by omega, by omega, .inr ⟨by omega, rfl⟩⟩
      obtain ⟨lo, hlo1, hlo2, hcase⟩ := hcase
      have hseg : dec (seg s.data.toList lo i) < 1000000000 := by
        have h3 := seg_lt s.data.toList lo i HALL.out
        have h4 : 10 ^ (i - lo) ≤ 10 ^ 9 := Nat.pow_le_pow_right (by decide) (by omega)
        omega
      have HW' : Hid (wv 1000000000 (xs ++ [dec (seg s.data.toList lo i)]) = dec (s.data.toList.drop lo)) := words_step9 (by omega) (by have := HLEN.out; omega) (by have := HW.out; rwa [Int.toNat_natCast] at this) (by have := HP.out hq; rwa [Int.toNat_natCast] at this)
      have HSM : Hid (small 1000000000 (xs ++ [dec (seg s.data.toList lo i)])) := small_snoc hsm.out hseg
      have HP' : Hid (∀ q : Int, q = (i : Int) - 9 → -9 ≤ q ∧ q ≤ s.size ∧ q.toNat = lo ∧ (0 < q → s.data.toList.length - q.toNat = 9 * (xs.length + 1)) ∧ xs.length + 1 + q.toNat ≤ s.size) := by
        intro q hq'; have := HP.out hq; have := HLEN.out; rcases hcase with ⟨_, h⟩ | ⟨_, h⟩
        · omega
        · have := h.out; omega
      have hRW : Hid (∀ W, Calls Tryz.prog 188 #[.string (s.extract lo i)] W fun e w' => e = .returned (.int .u32 (dec (seg s.data.toList lo i) : Nat)) ∧ W = w') := by
        have hd : (s.extract lo i).data.toList = seg s.data.toList lo i := Lib.extract_data s lo i
        intro W
        have := i_readWord (s.extract lo i) W (by rw [ByteArray.size_extract]; omega) (by rw [hd]; exact seg_all _ _ _ HALL.out)
        rw [hd] at this; exact this
      have hRW0 : Hid (lo = 0 → ∀ W, Calls Tryz.prog 188 #[.string (s.extract 0 i)] W fun e w' => e = .returned (.int .u32 (dec (seg s.data.toList lo i) : Nat)) ∧ W = w') := fun h => by have := hRW.out; rwa [h] at this ⊢
      have hxl' : xs.length ≤ 3000000 := by omega
      have his : i ≤ s.size := by omega
      clear HW HP hxl hsm hseg
      generalize dec (seg s.data.toList lo i) = x at HW' HSM hRW hRW0
      rcases hcase with ⟨hc1, hc2⟩ | ⟨hc1, hc2⟩
      · clear hRW0
        have HRW := hRW.out
        clear hRW
        go_wp2_with (first
          | (go_at_call 188; refine (HRW _).mono ?_; rintro e w' ⟨rfl, rfl⟩)
          | (at_builtin; refine push_own hi hz0 hz1 hz2 (by decide) Tryz.underlying136 rfl _ _ rfl _ xs rfl hown.out hg _ x rfl rfl hxl' ?_))
        intro v' w3 hO hg3
        go_wp2
        go_roundw
        case rel => 
          obtain ⟨p1, p2, p3, p4, p5⟩ := HP'.out ((i : Int) - 9) rfl
          exact ⟨(i : Int) - 9, xs ++ [x], by first | rfl | (rw [hc2]), p1, p2, hO, hg3, HSM, by show _ = _; rw [p3]; exact HW'.out, fun h => by rw [List.length_append]; exact p4 h, by rw [List.length_append]; exact p5⟩
        case measure => simp [intOf]; omega
      · have HRW := hRW0.out hc2.out
        clear hRW hRW0
        go_wp2_with (first
          | (go_at_call 188; refine (HRW _).mono ?_; rintro e w' ⟨rfl, rfl⟩)
          | (at_builtin; refine push_own hi hz0 hz1 hz2 (by decide) Tryz.underlying136 rfl _ _ rfl _ xs rfl hown.out hg _ x rfl rfl hxl' ?_))
        intro v' w3 hO hg3
        go_wp2
        go_roundw
        case rel => 
          obtain ⟨p1, p2, p3, p4, p5⟩ := HP'.out ((i : Int) - 9) rfl
          exact ⟨(i : Int) - 9, xs ++ [x], by first | rfl | (rw [hc2]), p1, p2, hO, hg3, HSM, by show _ = _; rw [p3]; exact HW'.out, fun h => by rw [List.length_append]; exact p4 h, by rw [List.length_append]; exact p5⟩
        case measure => simp [intOf]; omega
    · obtain ⟨aa, ca, rfl, hrd⟩ := Own.rd' hown.out
      have HWF : Hid (wv 1000000000 xs = dec s.data.toList) := by
        show _ = _
        have := HW.out
        rwa [show q.toNat = 0 by omega, List.drop_zero] at this
      have hxl' : xs.length ≤ 3000000 := by omega
      clear HW HP hown
      go_wp2_with fail
      refine (i_trim aa xs.length ca xs _ hrd hsm.out hxl').mono ?_
      rintro e w3 ⟨v, rfl, hr3, hg3⟩
      have HR3 := Lib.hid hr3; clear hr3
      go_wp2
      go_ret
      exact ⟨_, rfl, ⟨_, HR3.out, Nm.trim hsm.out, by rw [wv_trimL]; exact HWF.out⟩, Gr.trans hg hg3⟩
end Go.Proofs.YtlbnibicehpobaaGreatDoor

/- Words that are changed in place: take, decrease. -/
namespace Go.Proofs.YtlbnibicehpobaaGreatDoor
open Go.RowKit Go.Shelf
open Z

def TakeRet (x y : Nat) (w w' : World) (e : Ending) : Prop := ∃ x' c : Nat, e = .returned (.tuple #[.int .u32 x', .int .u64 c]) ∧ w = w' ∧ x' < 1000000000 ∧ x' + y = x + 1000000000 * c
set_option maxHeartbeats 1000000 in
theorem i_take (x y : Nat) (w : World) (hx : x < 1000000000) (hy : y ≤ 1000000000000000000) :
    Calls Tryz.prog 194 #[.int .u32 x, .int .u64 y] w (fun e w' => TakeRet x y w w' e) := by
  have hd : (y : Int).tdiv 1000000000 = ((y / 1000000000 : Nat) : Int) := rfl
  have hm : (y : Int).tmod 1000000000 = ((y % 1000000000 : Nat) : Int) := rfl
  have HD : Hid (1000000000 * (y / 1000000000) + y % 1000000000 = y) := Nat.div_add_mod y 1000000000
  have hr : y % 1000000000 < 1000000000 := Nat.mod_lt _ (by omega)
  have hq : y / 1000000000 ≤ 1000000000 := by have := HD.out; omega
  generalize y / 1000000000 = q at hd HD hq
  generalize y % 1000000000 = r at hm HD hr
  by_cases hlt : (x : Int) - r < 0
  · go_enter Tryz.func194, Tryz.ntmps194
    go_wp2
    go_ret2
    refine ⟨x + 1000000000 - r, q + 1, ?_, rfl, by omega, ?_⟩
    · exact ret_ii (by omega) (by omega)
    · have := HD.out; omega
  · go_enter Tryz.func194, Tryz.ntmps194
    go_wp2
    go_ret2
    refine ⟨x - r, q, ?_, rfl, by omega, ?_⟩
    · exact ret_ii (by omega) rfl
    · have := HD.out; omega

/-- nothing but block g has changed, and blocks were added -/
structure Ch (g : Nat) (w w' : World) : Prop where
  os : w'.os = w.os
  tape : w'.tape = w.tape
  output : w'.output = w.output
  size : w.heap.size ≤ w'.heap.size
  block : ∀ k, k < w.heap.size → k ≠ g → w'.heap[k]? = w.heap[k]?
theorem Ch.refl (g : Nat) (w : World) : Ch g w w := ⟨rfl, rfl, rfl, Nat.le_refl _, fun _ _ _ => rfl⟩
theorem Ch.trans {g : Nat} {a b c : World} (h : Ch g a b) (k : Ch g b c) : Ch g a c :=
  ⟨k.os.trans h.os, k.tape.trans h.tape, k.output.trans h.output, Nat.le_trans h.size k.size, fun i hi hn => (k.block i (Nat.lt_of_lt_of_le hi h.size) hn).trans (h.block i hi hn)⟩
theorem Gr.ch {a b : World} (h : Gr a b) (g : Nat) : Ch g a b := ⟨h.os, h.tape, h.output, h.size, fun k hk _ => h.block k hk⟩
theorem Ch.gr {g : Nat} {w0 a b : World} (h : Ch g a b) (hg : Gr w0 a) (hb : w0.heap.size ≤ g) : Gr w0 b :=
  ⟨h.os.trans hg.os, h.tape.trans hg.tape, h.output.trans hg.output, Nat.le_trans hg.size h.size, fun k hk => (h.block k (Nat.lt_of_lt_of_le hk hg.size) (by omega)).trans (hg.block k hk)⟩
theorem Ch.set (g : Nat) (w : World) (o : Nat) (v : Value) : Ch g w (w.setCell ⟨g, o, none⟩ v) :=
  ⟨rfl, rfl, rfl, by simp [World.setCell], fun k _ hk => Below.heap_setCell _ _ _ _ hk⟩
theorem Ch.drewN {g : Nat} {a b : World} (h : Ch g a b) (n : Nat) : Ch g a (b.drewN n) := h.trans (Gr.ch (below_drewN (Gr.refl b) n) g)
theorem OwnAt.lt {e : TypeId} {k : IntKind} {g len cap : Nat} {w : World} {xs : List Nat} (h : OwnAt e k g len cap w xs) : g < w.heap.size := (World.ownsRow.lt h.2 g rfl).2
theorem OwnAt.same {e : TypeId} {k : IntKind} {g len cap : Nat} {w w' : World} {xs : List Nat} (h : OwnAt e k g len cap w xs) (hs : w'.heap[g]? = w.heap[g]?) : OwnAt e k g len cap w' xs := by
  refine ⟨h.1, h.2.1, ?_⟩
  rcases h.2.2 with ⟨h1, h2⟩ | ⟨g', cap', cur, h1, h2, h3, h4⟩
  · exact .inl ⟨h1, h2⟩
  · refine .inr ⟨g', cap', cur, h1, h2, ?_, h4⟩
    have : g' = g := by simp only [Value.slice.injEq, Option.some.injEq, Addr.mk.injEq, and_true] at h1; exact h1.1.symm
    rw [this] at h3 ⊢; rw [hs]; exact h3
theorem OwnAt.ch {e : TypeId} {k : IntKind} {g g' len cap : Nat} {w w' : World} {xs : List Nat} (h : OwnAt e k g' len cap w xs) (hc : Ch g w w') (hn : g' ≠ g) : OwnAt e k g' len cap w' xs := h.same (hc.block g' h.lt hn)
theorem OwnAt.grow {e : TypeId} {k : IntKind} {g' len cap : Nat} {w w' : World} {xs : List Nat} (h : OwnAt e k g' len cap w xs) (hc : Gr w w') : OwnAt e k g' len cap w' xs := h.same (hc.block g' h.lt)
end Go.Proofs.YtlbnibicehpobaaGreatDoor

/- Words that are changed in place: decrease. -/
namespace Go.Proofs.YtlbnibicehpobaaGreatDoor
open Go.RowKit Go.Shelf
open Z

theorem set_mid {A s C : List Nat} {off i d : Nat} (hA : A.length = off) (hi : i < s.length) : (A ++ s ++ C).set (off + i) d = A ++ s.set i d ++ C := by
  subst hA
  rw [List.append_assoc, List.set_append_right _ _ (by omega), show A.length + i - A.length = i by omega, List.set_append_left _ _ hi, List.append_assoc]
theorem getD_mid {A s C : List Nat} {off i : Nat} (hA : A.length = off) (hi : i < s.length) : (A ++ s ++ C).getD (off + i) 0 = s.getD i 0 := by
  subst hA
  rw [List.getD_eq_getElem?_getD, List.getD_eq_getElem?_getD, List.append_assoc, List.getElem?_append_right (by omega), show A.length + i - A.length = i by omega, List.getElem?_append_left hi]
theorem dec_step {B i x x' y f bo c W V T : Nat} {s : List Nat} (hi : i < s.length) (hx : x = s.getD i 0) (ht : x' + (bo + y * f) = x + B * c) (h : W + f * T = V + B ^ i * bo) (hW : W = wv B s) :
    wv B (s.set i x') + f * (T + B ^ i * y) = V + B ^ (i + 1) * c := by
  have h1 := wv_set (B := B) (d := x') hi
  rw [← hx] at h1
  have h2 : B ^ i * (x' + (bo + y * f)) = B ^ i * (x + B * c) := by rw [ht]
  have e1 : B ^ i * (x' + (bo + y * f)) = B ^ i * x' + B ^ i * bo + f * (B ^ i * y) := by
    rw [Nat.mul_add, Nat.mul_add, Nat.add_assoc]; congr 2; ac_rfl
  have e2 : B ^ i * (x + B * c) = B ^ i * x + B ^ (i + 1) * c := by rw [Nat.mul_add, Nat.pow_succ, Nat.mul_assoc]
  subst hW
  have e3 : f * (T + B ^ i * y) = f * T + f * (B ^ i * y) := Nat.mul_add _ _ _
  omega
def DecRet (e0 : TypeId) (g L cap : Nat) (A s Z ys : List Nat) (f : Nat) (w w' : World) (e : Ending) : Prop :=
  e = .returned (.tuple #[]) ∧ ∃ s', s'.length = s.length ∧ OwnAt e0 .u32 g L cap w' (A ++ s' ++ Z) ∧ Ch g w w' ∧ small 1000000000 s' ∧ wv 1000000000 s' + f * wv 1000000000 ys = wv 1000000000 s

set_option maxHeartbeats 4000000 in
set_option maxRecDepth 100000 in
theorem i_decrease (g off cap L C : Nat) (A s Z ys : List Nat) (av : Option Addr) (cv f : Nat) (w0 w : World)
    (hO : OwnAt 173 .u32 g L C w (A ++ s ++ Z)) (hA : A.length = off) (hs : small 1000000000 s) (hr : Rd .u32 w0 (.slice av ys.length cv) ys) (hg : Gr w0 w) (hb : w0.heap.size ≤ g) (hy : small 1000000000 ys)
    (hl : ys.length ≤ s.length) (hls : s.length ≤ 3000000) (hf : f ≤ 1000000000) (hle : f * wv 1000000000 ys ≤ wv 1000000000 s) :
    Calls Tryz.prog 172 #[.slice (some ⟨g, off, none⟩) s.length cap, .slice av ys.length cv, .int .u64 f] w (fun e w' => DecRet 173 g L C A s Z ys f w w' e) := by
  have HA := Lib.hid hA; clear hA
  have HS := Lib.hid hs; clear hs
  have HR := Lib.hid hr; clear hr
  have HY := Lib.hid hy; clear hy
  have HLE := Lib.hid hle; clear hle
  have HL : Hid (L = off + s.length + Z.length) := by
    show _ = _; have := hO.1; have := HA.out; simp only [List.length_append] at *; omega
  have HO := Lib.hid hO; clear hO
  have HB := Lib.hid hb; clear hb
  have HG := Lib.hid hg; clear hg
  have HF := Lib.hid hf
  obtain ⟨n, HN⟩ : ∃ n, Hid (n = s.length) := ⟨_, rfl⟩
  rw [← HN.out] at hl hls ⊢
  obtain ⟨wo, hwo⟩ : ∃ wo : World, wo = w := ⟨_, rfl⟩
  go_enter Tryz.func172, Tryz.ntmps172
  go_wp2
  go_loopw [6, 12] (fun b i wr => ∃ (s' : List Nat) (bo ii : Nat), b = .int .u64 bo ∧ i = .int .i64 ii ∧ ii ≤ ys.length ∧ bo ≤ f ∧
      Hid (s'.length = n ∧ OwnAt 173 .u32 g L C wr (A ++ s' ++ Z) ∧ Ch g w wr ∧ small 1000000000 s' ∧ wv 1000000000 s' + f * wv 1000000000 (ys.take ii) = wv 1000000000 s + 1000000000 ^ ii * bo)) (fun _ i _ => ys.length - (intOf i).toNat)
  case atStart => exact ⟨s, 0, 0, rfl, rfl, by omega, by omega, HN.out.symm, HO.out, Ch.refl _ _, HS.out, by simp [wv]⟩
  case round =>
    obtain ⟨s', bo, ii, rfl, rfl, hii, hbo, HI⟩ := hrel
    by_cases e1 : ii < ys.length
    · obtain ⟨x, HX⟩ : ∃ x, Hid (x = s'.getD ii 0) := ⟨_, rfl⟩
      have hx : x < 1000000000 := by rw [HX.out]; exact small_getD (by omega) HI.out.2.2.2.1 _
      obtain ⟨y, HY'⟩ : ∃ y, Hid (y = ys.getD ii 0) := ⟨_, rfl⟩
      have hy : y < 1000000000 := by rw [HY'.out]; exact small_getD (by omega) HY.out _
      have hco : wr.cell? ⟨g, off + ii, none⟩ = some (.int .u32 (x : Nat)) ∧ wr.frozen? ⟨g, off + ii, none⟩ = false := by
        have := HI.out.2.1.cell (off + ii) (by rw [HL.out, ← HN.out]; omega)
        rw [getD_mid HA.out (by rw [HI.out.1]; omega), ← HX.out] at this
        exact this
      obtain ⟨hco, hfo⟩ := hco
      obtain ⟨gb, ob, rfl, hcb⟩ := HR.out.at (HI.out.2.2.1.gr HG.out HB.out) ii e1
      rw [← HY'.out] at hcb
      obtain ⟨p, HP⟩ : ∃ p : Nat, Hid (p = y * f) := ⟨_, rfl⟩
      have hp : (y : Int) * (f : Int) = (p : Int) := by rw [HP.out, Int.natCast_mul]
      have hpb : bo + p ≤ 1000000000 * f := by
        have : (y + 1) * f ≤ 1000000000 * f := Nat.mul_le_mul_right _ (by omega)
        rw [Nat.add_mul, ← HP.out] at this
        omega
      have HT := Lib.hid (fun w => i_take x (bo + p) w hx (by omega))
      go_wp2_with fail
      refine (HT.out _).mono ?_
      rintro e w' ⟨x', c, rfl, rfl, hx', ht⟩
      have HTK := Lib.hid ht; clear ht
      go_wp2
      go_roundw
      case rel =>
        have hc : c ≤ f := by have := HTK.out; omega
        obtain ⟨i1, i2, i3, i4, i5⟩ := HI.out
        have hset := OwnAt.set i2 (i3.gr HG.out HB.out) HB.out (off + ii) x' x' rfl
        rw [set_mid HA.out (by rw [i1]; omega)] at hset
        refine ⟨s'.set ii x', c, ii + 1, rfl, by go_num, by omega, hc, by rw [List.length_set]; exact i1, hset.1, i3.trans (Ch.set _ _ _ _), small_set i4 hx', ?_⟩
        rw [wv_take_succ, ← HY'.out]
        exact dec_step (by rw [i1]; omega) HX.out (by rw [← HP.out]; exact HTK.out) i5 rfl
      case measure => simp [intOf]; omega
    · obtain rfl : ii = ys.length := by omega
      have HI2 : Hid (s'.length = n ∧ OwnAt 173 .u32 g L C wr (A ++ s' ++ Z) ∧ Ch g w wr ∧ small 1000000000 s' ∧ wv 1000000000 s' + f * wv 1000000000 ys = wv 1000000000 s + 1000000000 ^ ys.length * bo) := by
        have := HI.out; rwa [List.take_length] at this
      clear HI
      obtain ⟨wq, hwq⟩ : ∃ wq : World, wq = wr := ⟨_, rfl⟩
      go_wp2
      go_loopw [6, 9] (fun b i wr => ∃ (s' : List Nat) (bo ii : Nat), b = .int .u64 bo ∧ i = .int .i64 ii ∧ ii ≤ n ∧ bo ≤ f ∧
          Hid (s'.length = n ∧ OwnAt 173 .u32 g L C wr (A ++ s' ++ Z) ∧ Ch g w wr ∧ small 1000000000 s' ∧ wv 1000000000 s' + f * wv 1000000000 ys = wv 1000000000 s + 1000000000 ^ ii * bo)) (fun _ i _ => n - (intOf i).toNat)
      case atStart => exact ⟨s', bo, ys.length, rfl, rfl, hl, hbo, HI2.out⟩
      case round =>
        clear HI2 hbo
        obtain ⟨s', bo, ii, rfl, rfl, hii, hbo, HI⟩ := hrel
        have hpos : 0 < bo → ii < n := fun hp => by
          rcases Nat.lt_or_ge ii n with h | h
          · exact h
          · have hin : ii = n := by omega
            obtain ⟨i1, i2, i3, i4, i5⟩ := HI.out
            have h1 := wv_lt i4
            rw [i1, ← hin] at h1
            have h2 := HLE.out
            have h3 : 1000000000 ^ ii * 1 ≤ 1000000000 ^ ii * bo := Nat.mul_le_mul_left _ hp
            omega
        by_cases e1 : 0 < bo
        · have hin := hpos e1
          clear hpos
          obtain ⟨x, HX⟩ : ∃ x, Hid (x = s'.getD ii 0) := ⟨_, rfl⟩
          have hx : x < 1000000000 := by rw [HX.out]; exact small_getD (by omega) HI.out.2.2.2.1 _
          have hco : wr.cell? ⟨g, off + ii, none⟩ = some (.int .u32 (x : Nat)) ∧ wr.frozen? ⟨g, off + ii, none⟩ = false := by
            have := HI.out.2.1.cell (off + ii) (by rw [HL.out, ← HN.out]; omega)
            rw [getD_mid HA.out (by rw [HI.out.1]; omega), ← HX.out] at this
            exact this
          obtain ⟨hco, hfo⟩ := hco
          have HT := Lib.hid (fun w => i_take x bo w hx (by omega))
          go_wp2_with fail
          refine (HT.out _).mono ?_
          rintro e w' ⟨x', c, rfl, rfl, hx', ht⟩
          have HTK := Lib.hid ht; clear ht
          go_wp2
          go_roundw
          case rel =>
            have hc : c ≤ f := by have := HTK.out; omega
            obtain ⟨i1, i2, i3, i4, i5⟩ := HI.out
            have hset := OwnAt.set i2 (i3.gr HG.out HB.out) HB.out (off + ii) x' x' rfl
            rw [set_mid HA.out (by rw [i1]; omega)] at hset
            refine ⟨s'.set ii x', c, ii + 1, rfl, by go_num, by omega, hc, by rw [List.length_set]; exact i1, hset.1, i3.trans (Ch.set _ _ _ _), small_set i4 hx', ?_⟩
            have := dec_step (B := 1000000000) (x' := x') (c := c) (bo := bo) (x := x) (y := 0) (f := f) (T := wv 1000000000 ys) (by rw [i1]; omega) HX.out (by have := HTK.out; omega) i5 rfl
            rwa [Nat.mul_zero, Nat.add_zero] at this
          case measure => simp [intOf]; omega
        · obtain rfl : bo = 0 := by omega
          go_wp2
          go_end0
          obtain ⟨i1, i2, i3, i4, i5⟩ := HI.out
          exact ⟨rfl, s', i1.trans HN.out, i2, i3, i4, by rw [Nat.mul_zero] at i5; omega⟩
end Go.Proofs.YtlbnibicehpobaaGreatDoor

/- The sum of words. -/
namespace Go.Proofs.YtlbnibicehpobaaGreatDoor
open Go.RowKit Go.Shelf
open Z

theorem WD.form {w : World} {v : Value} {n : Nat} (h : WD w v n) : ∃ a c xs, v = .slice a xs.length c ∧ Rd .u32 w (.slice a xs.length c) xs ∧ Nm xs ∧ wv 1000000000 xs = n := by
  obtain ⟨xs, h1, h2, h3⟩ := h
  obtain ⟨a, c, rfl, h4⟩ := id h1
  exact ⟨a, c, xs, rfl, h1, h2, h3⟩
theorem Nm.le {xs : List Nat} {K : Nat} (h : Nm xs) (hk : wv 1000000000 xs < 1000000000 ^ K) : xs.length ≤ K := by
  by_cases h0 : xs = []
  · subst h0; simp
  · have h1 := h.ge h0
    have h2 : 1000000000 ^ (xs.length - 1) < 1000000000 ^ K := Nat.lt_of_le_of_lt h1 hk
    have h3 := (Nat.pow_lt_pow_iff_right (by decide : 1 < 1000000000)).1 h2
    omega
/-- new words, all 0 -/
theorem own_zeros {e : TypeId} {g n : Nat} {w : World} (h : w.ownsRow g e 1 (.slice (some ⟨g, 0, none⟩) n n) n (madeCells #[Value.int .u32 0] n).toList) : OwnAt e .u32 g n n w (List.replicate n 0) := by
  refine ⟨by simp, ?_⟩
  rw [toList_madeCells_one] at h
  have : iv .u32 (List.replicate n 0) = List.replicate n (Value.int .u32 0) := by simp [iv]
  rw [this]; exact h
theorem add_step {B i c T : Nat} {o : List Nat} {V : Nat} (hj : i < o.length) (h0 : o.getD i 0 = 0) (h : wv B o + B ^ i * c = V) : wv B (o.set i (T % B)) + B ^ (i + 1) * (T / B) + B ^ i * c = V + B ^ i * T := by
  have h1 := wv_set (B := B) (d := T % B) hj
  rw [h0, Nat.mul_zero, Nat.add_zero] at h1
  have h3 : B ^ i * T = B ^ i * (T % B) + B ^ (i + 1) * (T / B) := by
    rw [Nat.pow_succ, Nat.mul_assoc, ← Nat.mul_add, Nat.mod_add_div]
  omega

set_option maxHeartbeats 4000000 in
set_option maxRecDepth 100000 in
theorem i_plusA (aa ab : Option Addr) (ca cb : Nat) (xa xb : List Nat) (w : World) (hra : Rd .u32 w (.slice aa xa.length ca) xa) (hrb : Rd .u32 w (.slice ab xb.length cb) xb) (hsa : small 1000000000 xa) (hsb : small 1000000000 xb) (hl1 : xa.length ≤ 1000000) (hle : xb.length ≤ xa.length) :
    Calls Tryz.prog 150 #[.slice aa xa.length ca, .slice ab xb.length cb] w (fun e w' => WRet (wv 1000000000 xa + wv 1000000000 xb) w w' e) := by
  obtain ⟨i0, hi, hz0, hz1, hz2⟩ := info_parts Tryz.infoU32
  have HA := Lib.hid hra; clear hra
  have HB := Lib.hid hrb; clear hrb
  have HSA := Lib.hid hsa; clear hsa
  have HSB := Lib.hid hsb; clear hsb
  have HTR := Lib.hid (fun a n cap xs w => i_trim a n cap xs w)
  have hlab : xb.length ≤ xa.length := by omega
  go_enter Tryz.func150, Tryz.ntmps150
  go_wp2_with (at_make; refine wpList_make_full w rfl _ _ 136 rfl w.heap.size 173 i0 (.int .u32 0) 1 Tryz.underlying136 hi hz0 hz1 .i64 .i64 _ _ (xa.length + 1) rfl rfl (by omega) (by omega) (by rw [hz2]; omega) (by unfold maxLen; omega) (Nat.le_refl _) ?_)
  intro w1 hown0 hgr0
  have HO0 : Hid (OwnAt 173 .u32 w.heap.size (xa.length + 1) (xa.length + 1) w1 (List.replicate (xa.length + 1) 0)) := own_zeros hown0
  have hg1 : Gr w w1 := Below.grown (Below.refl _ _) hgr0 (Nat.le_refl _) (fun k hk => by simp at hk)
  clear hown0 hgr0
  go_wp2
  go_loopw [6, 22] (fun c i wr => ∃ (o : List Nat) (cc ii : Nat), c = .int .u32 cc ∧ i = .int .i64 ii ∧ ii ≤ xa.length ∧ cc ≤ 1 ∧ Hid (OwnAt 173 .u32 w.heap.size (xa.length + 1) (xa.length + 1) wr o) ∧ Gr w wr ∧
      Hid (small 1000000000 o ∧ (∀ j, ii ≤ j → o.getD j 0 = 0) ∧ wv 1000000000 o + 1000000000 ^ ii * cc = wv 1000000000 (xa.take ii) + wv 1000000000 (xb.take ii))) (fun _ i _ => xa.length - (intOf i).toNat)
  case atStart => exact ⟨_, 0, 0, rfl, rfl, by omega, by omega, HO0.out, hg1, small_zeros _ (by omega), fun j _ => by simp [List.getD_eq_getElem?_getD, List.getElem?_replicate]; split <;> rfl, by rw [wv_zeros]; simp [wv]⟩
  case round =>
    obtain ⟨o, cc, ii, rfl, rfl, hii, hcc, HO, hg, HV⟩ := hrel
    clear HO0 hg1
    by_cases e1 : ii < xa.length
    · obtain ⟨x, HX⟩ : ∃ x, Hid (x = xa.getD ii 0) := ⟨_, rfl⟩
      obtain ⟨y, HY⟩ : ∃ y, Hid (y = xb.getD ii 0) := ⟨_, rfl⟩
      have hx : x < 1000000000 := by rw [HX.out]; exact small_getD (by omega) HSA.out _
      have hy : y < 1000000000 := by rw [HY.out]; exact small_getD (by omega) HSB.out _
      obtain ⟨ga, oa, rfl, hca⟩ := HA.out.at hg ii e1
      rw [← HX.out] at hca
      obtain ⟨hco, hfo⟩ := HO.out.cell ii (by omega)
      have HST : Hid (∀ T : Nat, T = cc + x + y → ∀ z : Int, z = ((T % 1000000000 : Nat) : Int) → ∃ (o' : List Nat) (c' i' : Nat), Value.int .u32 ((T / 1000000000 : Nat) : Int) = .int .u32 c' ∧ Value.int .i64 ((ii : Int) + 1) = .int .i64 i' ∧ i' ≤ xa.length ∧ c' ≤ 1 ∧ Hid (OwnAt 173 .u32 w.heap.size (xa.length + 1) (xa.length + 1) (wr.setCell ⟨w.heap.size, ii, none⟩ (.int .u32 z)) o') ∧ Gr w (wr.setCell ⟨w.heap.size, ii, none⟩ (.int .u32 z)) ∧
          Hid (small 1000000000 o' ∧ (∀ j, i' ≤ j → o'.getD j 0 = 0) ∧ wv 1000000000 o' + 1000000000 ^ i' * c' = wv 1000000000 (xa.take i') + wv 1000000000 (xb.take i'))) := by
        intro T hT z hz
        have hset := HO.out.set hg (Nat.le_refl _) ii z (T % 1000000000) hz
        have hol : ii < o.length := by rw [HO.out.1]; omega
        refine ⟨o.set ii (T % 1000000000), T / 1000000000, ii + 1, rfl, by go_num, by omega, by omega, hset.1, hset.2, small_set HV.out.1 (Nat.mod_lt _ (by omega)), fun j hj => ?_, ?_⟩
        · rw [getD_set hol, if_neg (by omega)]; exact HV.out.2.1 j (by omega)
        · have h := add_step (T := T) hol (HV.out.2.1 ii (Nat.le_refl _)) HV.out.2.2
          rw [wv_take_succ, wv_take_succ, ← HX.out, ← HY.out]
          have h' : 1000000000 ^ ii * T = 1000000000 ^ ii * cc + 1000000000 ^ ii * x + 1000000000 ^ ii * y := by rw [hT, Nat.mul_add, Nat.mul_add]
          omega
      clear HV
      by_cases e2 : ii < xb.length
      · obtain ⟨gb, ob, rfl, hcb⟩ := HB.out.at hg ii e2
        rw [← HY.out] at hcb
        go_wp2
        go_roundw
        case rel =>
          rw [show ((cc : Int) + x + y) / 1000000000 = (((cc + x + y) / 1000000000 : Nat) : Int) by omega]
          exact HST.out (cc + x + y) rfl _ (by omega)
        case measure => simp [intOf]; omega
      · have hy0 : y = 0 := by rw [HY.out]; exact getD_out (by omega)
        have HY0 := Lib.hid hy0; clear hy0
        go_wp2
        go_roundw
        case rel =>
          rw [show ((cc : Int) + x) / 1000000000 = (((cc + x) / 1000000000 : Nat) : Int) by omega]
          exact HST.out (cc + x) (by rw [HY0.out]; rfl) _ (by omega)
        case measure => simp [intOf]; omega
    · obtain rfl : ii = xa.length := by omega
      obtain ⟨hco, hfo⟩ := HO.out.cell xa.length (by omega)
      have hset := HO.out.set hg (Nat.le_refl _) xa.length cc cc rfl
      have HS2 := Lib.hid (small_set (j := xa.length) (d := cc) HV.out.1 (by omega))
      have HV2 : Hid (wv 1000000000 (o.set xa.length cc) = wv 1000000000 xa + wv 1000000000 xb) := by
        have h1 := wv_set (B := 1000000000) (l := o) (j := xa.length) (d := cc) (by rw [HO.out.1]; omega)
        have h2 := HV.out.2.2
        rw [HV.out.2.1 _ (Nat.le_refl _)] at h1
        rw [List.take_length, List.take_of_length_le hlab] at h2
        show _ = _; omega
      have HL2 : Hid ((o.set xa.length cc).length ≤ 3000000) := by show _ ≤ _; rw [List.length_set, HO.out.1]; omega
      have HS3 := Lib.hid hset.1
      have HG3 := Lib.hid hset.2
      clear hset HV
      go_wp2_with fail
      refine (HTR.out _ _ _ _ _ (OwnAt.rd HS3.out) HS2.out HL2.out).mono ?_
      rintro e w3 ⟨v, rfl, hr3, hg3⟩
      have HR3 := Lib.hid hr3; clear hr3
      go_wp2
      go_ret
      exact ⟨_, rfl, ⟨_, HR3.out, Nm.trim HS2.out, by rw [wv_trimL]; exact HV2.out⟩, Gr.trans HG3.out hg3⟩

set_option maxHeartbeats 4000000 in
set_option maxRecDepth 100000 in
theorem i_plusB (aa ab : Option Addr) (ca cb : Nat) (xa xb : List Nat) (w : World) (hra : Rd .u32 w (.slice aa xa.length ca) xa) (hrb : Rd .u32 w (.slice ab xb.length cb) xb) (hsa : small 1000000000 xa) (hsb : small 1000000000 xb) (hl1 : xa.length ≤ 1000000) (hle : xb.length < xa.length) :
    Calls Tryz.prog 150 #[.slice ab xb.length cb, .slice aa xa.length ca] w (fun e w' => WRet (wv 1000000000 xa + wv 1000000000 xb) w w' e) := by
  obtain ⟨i0, hi, hz0, hz1, hz2⟩ := info_parts Tryz.infoU32
  have HA := Lib.hid hra; clear hra
  have HB := Lib.hid hrb; clear hrb
  have HSA := Lib.hid hsa; clear hsa
  have HSB := Lib.hid hsb; clear hsb
  have HTR := Lib.hid (fun a n cap xs w => i_trim a n cap xs w)
  have hlab : xb.length ≤ xa.length := by omega
  go_enter Tryz.func150, Tryz.ntmps150
  go_wp2_with (at_make; refine wpList_make_full w rfl _ _ 136 rfl w.heap.size 173 i0 (.int .u32 0) 1 Tryz.underlying136 hi hz0 hz1 .i64 .i64 _ _ (xa.length + 1) rfl rfl (by omega) (by omega) (by rw [hz2]; omega) (by unfold maxLen; omega) (Nat.le_refl _) ?_)
  intro w1 hown0 hgr0
  have HO0 : Hid (OwnAt 173 .u32 w.heap.size (xa.length + 1) (xa.length + 1) w1 (List.replicate (xa.length + 1) 0)) := own_zeros hown0
  have hg1 : Gr w w1 := Below.grown (Below.refl _ _) hgr0 (Nat.le_refl _) (fun k hk => by simp at hk)
  clear hown0 hgr0
  go_wp2
  go_loopw [6, 22] (fun c i wr => ∃ (o : List Nat) (cc ii : Nat), c = .int .u32 cc ∧ i = .int .i64 ii ∧ ii ≤ xa.length ∧ cc ≤ 1 ∧ Hid (OwnAt 173 .u32 w.heap.size (xa.length + 1) (xa.length + 1) wr o) ∧ Gr w wr ∧
      Hid (small 1000000000 o ∧ (∀ j, ii ≤ j → o.getD j 0 = 0) ∧ wv 1000000000 o + 1000000000 ^ ii * cc = wv 1000000000 (xa.take ii) + wv 1000000000 (xb.take ii))) (fun _ i _ => xa.length - (intOf i).toNat)
  case atStart => exact ⟨_, 0, 0, rfl, rfl, by omega, by omega, HO0.out, hg1, small_zeros _ (by omega), fun j _ => by simp [List.getD_eq_getElem?_getD, List.getElem?_replicate]; split <;> rfl, by rw [wv_zeros]; simp [wv]⟩
  case round =>
    obtain ⟨o, cc, ii, rfl, rfl, hii, hcc, HO, hg, HV⟩ := hrel
    clear HO0 hg1
    by_cases e1 : ii < xa.length
    · obtain ⟨x, HX⟩ : ∃ x, Hid (x = xa.getD ii 0) := ⟨_, rfl⟩
      obtain ⟨y, HY⟩ : ∃ y, Hid (y = xb.getD ii 0) := ⟨_, rfl⟩
      have hx : x < 1000000000 := by rw [HX.out]; exact small_getD (by omega) HSA.out _
      have hy : y < 1000000000 := by rw [HY.out]; exact small_getD (by omega) HSB.out _
      obtain ⟨ga, oa, rfl, hca⟩ := HA.out.at hg ii e1
      rw [← HX.out] at hca
      obtain ⟨hco, hfo⟩ := HO.out.cell ii (by omega)
      have HST : Hid (∀ T : Nat, T = cc + x + y → ∀ z : Int, z = ((T % 1000000000 : Nat) : Int) → ∃ (o' : List Nat) (c' i' : Nat), Value.int .u32 ((T / 1000000000 : Nat) : Int) = .int .u32 c' ∧ Value.int .i64 ((ii : Int) + 1) = .int .i64 i' ∧ i' ≤ xa.length ∧ c' ≤ 1 ∧ Hid (OwnAt 173 .u32 w.heap.size (xa.length + 1) (xa.length + 1) (wr.setCell ⟨w.heap.size, ii, none⟩ (.int .u32 z)) o') ∧ Gr w (wr.setCell ⟨w.heap.size, ii, none⟩ (.int .u32 z)) ∧
          Hid (small 1000000000 o' ∧ (∀ j, i' ≤ j → o'.getD j 0 = 0) ∧ wv 1000000000 o' + 1000000000 ^ i' * c' = wv 1000000000 (xa.take i') + wv 1000000000 (xb.take i'))) := by
        intro T hT z hz
        have hset := HO.out.set hg (Nat.le_refl _) ii z (T % 1000000000) hz
        have hol : ii < o.length := by rw [HO.out.1]; omega
        refine ⟨o.set ii (T % 1000000000), T / 1000000000, ii + 1, rfl, by go_num, by omega, by omega, hset.1, hset.2, small_set HV.out.1 (Nat.mod_lt _ (by omega)), fun j hj => ?_, ?_⟩
        · rw [getD_set hol, if_neg (by omega)]; exact HV.out.2.1 j (by omega)
        · have h := add_step (T := T) hol (HV.out.2.1 ii (Nat.le_refl _)) HV.out.2.2
          rw [wv_take_succ, wv_take_succ, ← HX.out, ← HY.out]
          have h' : 1000000000 ^ ii * T = 1000000000 ^ ii * cc + 1000000000 ^ ii * x + 1000000000 ^ ii * y := by rw [hT, Nat.mul_add, Nat.mul_add]
          omega
      clear HV
      by_cases e2 : ii < xb.length
      · obtain ⟨gb, ob, rfl, hcb⟩ := HB.out.at hg ii e2
        rw [← HY.out] at hcb
        go_wp2
        go_roundw
        case rel =>
          rw [show ((cc : Int) + x + y) / 1000000000 = (((cc + x + y) / 1000000000 : Nat) : Int) by omega]
          exact HST.out (cc + x + y) rfl _ (by omega)
        case measure => simp [intOf]; omega
      · have hy0 : y = 0 := by rw [HY.out]; exact getD_out (by omega)
        have HY0 := Lib.hid hy0; clear hy0
        go_wp2
        go_roundw
        case rel =>
          rw [show ((cc : Int) + x) / 1000000000 = (((cc + x) / 1000000000 : Nat) : Int) by omega]
          exact HST.out (cc + x) (by rw [HY0.out]; rfl) _ (by omega)
        case measure => simp [intOf]; omega
    · obtain rfl : ii = xa.length := by omega
      obtain ⟨hco, hfo⟩ := HO.out.cell xa.length (by omega)
      have hset := HO.out.set hg (Nat.le_refl _) xa.length cc cc rfl
      have HS2 := Lib.hid (small_set (j := xa.length) (d := cc) HV.out.1 (by omega))
      have HV2 : Hid (wv 1000000000 (o.set xa.length cc) = wv 1000000000 xa + wv 1000000000 xb) := by
        have h1 := wv_set (B := 1000000000) (l := o) (j := xa.length) (d := cc) (by rw [HO.out.1]; omega)
        have h2 := HV.out.2.2
        rw [HV.out.2.1 _ (Nat.le_refl _)] at h1
        rw [List.take_length, List.take_of_length_le hlab] at h2
        show _ = _; omega
      have HL2 : Hid ((o.set xa.length cc).length ≤ 3000000) := by show _ ≤ _; rw [List.length_set, HO.out.1]; omega
      have HS3 := Lib.hid hset.1
      have HG3 := Lib.hid hset.2
      clear hset HV
      go_wp2_with fail
      refine (HTR.out _ _ _ _ _ (OwnAt.rd HS3.out) HS2.out HL2.out).mono ?_
      rintro e w3 ⟨v, rfl, hr3, hg3⟩
      have HR3 := Lib.hid hr3; clear hr3
      go_wp2
      go_ret
      exact ⟨_, rfl, ⟨_, HR3.out, Nm.trim HS2.out, by rw [wv_trimL]; exact HV2.out⟩, Gr.trans HG3.out hg3⟩

theorem i_plus {K : Nat} (v v' : Value) (n m : Nat) (w : World) (h : WD w v n) (h' : WD w v' m) (hn : n < 1000000000 ^ K) (hm : m < 1000000000 ^ K) (hK : K ≤ 1000000) :
    Calls Tryz.prog 150 #[v, v'] w (fun e w' => WRet (n + m) w w' e) := by
  obtain ⟨aa, ca, xa, rfl, ra, na, rfl⟩ := h.form
  obtain ⟨ab, cb, xb, rfl, rb, nb, rfl⟩ := h'.form
  have h1 := na.le hn
  have h2 := nb.le hm
  rcases Nat.lt_or_ge xa.length xb.length with hc | hc
  · rw [Nat.add_comm]
    exact i_plusB ab aa cb ca xb xa w rb ra nb.1 na.1 (by omega) hc
  · exact i_plusA aa ab ca cb xa xb w ra rb na.1 nb.1 (by omega) hc
end Go.Proofs.YtlbnibicehpobaaGreatDoor
