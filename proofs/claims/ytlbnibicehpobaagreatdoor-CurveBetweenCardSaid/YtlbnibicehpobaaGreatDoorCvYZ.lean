/- CvYZ: CvY, CvZ, joined. -/
import Derived.Test.YtlbnibicehpobaaGreatDoorCvWX
import Derived.Test.YtlbnibicehpobaaGreatDoorCvUV
import Derived.Test.YtlbnibicehpobaaGreatDoorRange4
import Derived.Stop.RegionWithIn
set_option linter.unusedVariables false
set_option linter.unusedSimpArgs false

/- Curves: the iterator over segments. -/
namespace Go.Proofs.YtlbnibicehpobaaGreatDoor
open Go.RowKit Go.Shelf
open Z
attribute [local go_sem] Oper.semAt_some
def segA (l : Pts) (k : Nat) : Array Value := match l[k]?, l[k + 1]? with
  | some p, some q => #[vSg p.1 p.2 q.1 q.2]
  | _, _ => #[.bool false]
theorem segA_size (l : Pts) (k : Nat) : (segA l k).size = 1 := by unfold segA; split <;> rfl
theorem segA_at {l : Pts} {k : Nat} (h : k + 1 < l.length) : segA l k = #[vSg (l[k]'(by omega)).1 (l[k]'(by omega)).2 l[k + 1].1 l[k + 1].2] := by
  unfold segA; rw [List.getElem?_eq_getElem (by omega), List.getElem?_eq_getElem h]
theorem sg_ways {e : Ending} {P Q : Prop} (h : (e = .returned (.bool true) ∧ P) ∨ (e = .returned (.bool false) ∧ Q)) : ∃ b : Bool, e = .returned (.bool b) ∧ ((b = true ∧ P) ∨ (b = false ∧ Q)) := by
  rcases h with ⟨rfl, h⟩ | ⟨rfl, h⟩
  · exact ⟨true, rfl, .inl ⟨rfl, h⟩⟩
  · exact ⟨false, rfl, .inr ⟨rfl, h⟩⟩
set_option maxHeartbeats 4000000 in
set_option maxRecDepth 100000 in
theorem seg_rounds (l : Pts) (b off cap n : Nat) (Bs : Nat) (S : Nat → Prop) (w0 : World) (hn : l.length = n + 2) (hr : PtAt w0 (some ⟨b, off, none⟩) l) (hcap : l.length ≤ cap) (hn16 : n ≤ 14) (hS : S Bs) (hSa : S b) (hSz : ∀ k, S k → k < w0.heap.size)
    (hB : w0.cell? ⟨Bs, 0, none⟩ = some (.slice (some ⟨b, off, none⟩) l.length cap)) (hcm : cap ≤ maxLen) :
    RoundsA Tryz.prog 75 #[.pointer (some ⟨Bs, 0, none⟩)] (segA l) (n + 1) S w0 := by
  unfold maxLen at hcm
  intro y J Jx W hW hA hY h0
  have HCB := Lib.hid (fun X (hX : KeepB S w0 X) => ((hX.cell (p := ⟨Bs, 0, none⟩) hS).trans hB : X.cell? ⟨Bs, 0, none⟩ = some (.slice (some ⟨b, off, none⟩) l.length cap)))
  have HPT := Lib.hid (fun X (hX : KeepB S w0 X) k (hk : k < l.length) => And.intro ((hX.cell (p := ⟨b, off + k * 2, none⟩) hSa).trans (pts_set hr k hk).1) ((hX.cell (p := ⟨b, off + k * 2 + 1, none⟩) hSa).trans (pts_set hr k hk).2))
  have HBL : Hid (∀ X, KeepB S w0 X → Bs < X.heap.size) := fun X hX => cell_lt (HCB.out X hX)
  have HY := Lib.hid hY; clear hY
  have HA := Lib.hid hA; clear hA
  have HSZ : Hid (∀ X, KeepB S w0 X → ∀ k, S k → k < X.heap.size) := fun X hX k hk => by
    have h1 := hX k hk
    rcases Nat.lt_or_ge k X.heap.size with h | h
    · exact h
    · rw [Array.getElem?_eq_none h] at h1
      have := hSz k hk
      rw [Array.getElem?_eq_getElem this] at h1; cases h1
  clear hSz hr
  have HN := Lib.hid hn
  have hc0 := HCB.out W hW
  rw [hn] at hc0 hcap
  have hkn : (((n + 2 : Nat)) : Int) = (n : Int) + 2 := by omega
  have hcc : (1 : Int) ≤ cap := by omega
  have hc2 : ¬ cap = 1 := by omega
  refine callsIn_of_wp Tryz.func75 rfl trivial ?_ rfl
  simp only [Tryz.ntmps75, List.size_toArray, List.length_cons, List.length_nil, Nat.reduceAdd, Nat.reduceSub, Array.replicate_succ, Array.replicate_zero, List.push_toArray, List.append_toArray, List.nil_append, List.cons_append]
  gi_wp2
  gi_loopw [3, 4, 8] (fun _ _ i wr => ∃ k : Nat, i = .int .i64 k ∧ k ≤ n + 1 ∧ Hid (J k wr) ∧ KeepB S w0 wr) (fun _ _ i _ => n + 1 - (intOf i).toNat)
  case atStart => exact ⟨0, rfl, Nat.zero_le _, h0, hW⟩
  case round =>
    obtain ⟨k, rfl, hk, HJ, hnx⟩ := hrel
    by_cases hlt : k < n + 1
    · have l0 : k < l.length := by rw [HN.out]; omega
      have l1 : k + 1 < l.length := by rw [HN.out]; omega
      obtain ⟨c0, c1⟩ := HPT.out wr hnx k l0
      obtain ⟨d0, d1⟩ := HPT.out wr hnx (k + 1) l1
      have hbl := HBL.out wr hnx
      have hbb := HSZ.out wr hnx b hSa
      have hcx := HCB.out wr hnx
      rw [HN.out] at hcx
      have HX : Hid (Gr wr ((wr.alloc (.cells #[.int .i64 l[k + 1].1, .int .i64 l[k + 1].2] 52)).drew)) := ((Gr.refl wr).alloc _).drew
      have HK2 : Hid (KeepB S wr ((wr.alloc (.cells #[.int .i64 l[k + 1].1, .int .i64 l[k + 1].2] 52)).drew)) := KeepB.gr HX.out (HSZ.out wr hnx)
      obtain ⟨fn, tmps, assign, body, hy, hR⟩ := HY.out k _ hlt (HA.out k _ _ HX.out HJ.out)
      rw [segA_at l1] at hy
      have hga := (Gr.refl wr).alloc (.cells #[.int .i64 l[k + 1].1, .int .i64 l[k + 1].2] 52)
      have a0 := cv_cell hga c0
      have a1 := cv_cell hga c1
      have a2 := cv_cell hga hcx
      obtain ⟨p0, p1⟩ := id (P2.new wr l[k + 1].1 l[k + 1].2 52)
      generalize l[k + 1] = q at *
      generalize l[k] = p at *
      obtain ⟨px, py⟩ := p
      obtain ⟨qx, qy⟩ := q
      simp only at c0 c1 d0 d1 hy hR a0 a1 a2 p0 p1
      have e1 : off + 2 + k * 2 = off + (k + 1) * 2 := by omega
      have e2 : off + 1 * 2 + k * 2 = off + (k + 1) * 2 := by omega
      have b1 : (k : Int) < (n : Int) + 2 := by omega
      have b2 : (k : Int) < (n : Int) + 1 := by omega
      have b3 : k < n + 2 := by omega
      clear hga l0 l1
      gi_wp2
      gi_region_with ((refine hR.mono ?_; rintro e W3 hE0; obtain ⟨bb, rfl, hE⟩ := sg_ways hE0; clear hE0))
      all_goals
        clear c0 c1 d0 d1 a0 a1 a2 p0 p1 e1 e2 b1 b2 b3 hcx
        rcases hE with ⟨rfl, hJ3, hk3⟩ | ⟨rfl, hJx3⟩
        · have HJ3 := Lib.hid hJ3; clear hJ3
          have HK3 := Lib.hid (hnx.trans (HK2.out.trans hk3)); clear hk3
          gi_wp2
          go_roundw
          case rel => exact ⟨k + 1, by go_num, by omega, HJ3.out, HK3.out⟩
          case measure => (simp [intOf]; try omega)
        · have HX3 := Lib.hid hJx3; clear hJx3
          gi_wp2
          refine bodyPost_ret (results_none rfl _ _ _) rfl ?_
          exact ⟨⟨_, rfl⟩, .inr HX3.out⟩
    · have hkn : k = n + 1 := by omega
      subst hkn
      gi_wp2
      go_end0
      exact ⟨⟨_, rfl⟩, .inl HJ.out⟩
end Go.Proofs.YtlbnibicehpobaaGreatDoor

/- Curves: Slope of the program. -/
namespace Go.Proofs.YtlbnibicehpobaaGreatDoor
open Go.RowKit Go.Shelf
open Z
attribute [local go_sem] Oper.semAt_some
/-- all blocks but two are as they were -/
def Tv (R T : Nat) (W W' : World) : Prop := W'.os = W.os ∧ W'.tape = W.tape ∧ W'.output = W.output ∧ W.heap.size ≤ W'.heap.size ∧ ∀ k, k < W.heap.size → k ≠ R → k ≠ T → W'.heap[k]? = W.heap[k]?
theorem Tv.refl (R T : Nat) (W : World) : Tv R T W W := ⟨rfl, rfl, rfl, Nat.le_refl _, fun _ _ _ _ => rfl⟩
theorem Tv.trans {R T : Nat} {A B C : World} (h : Tv R T A B) (k : Tv R T B C) : Tv R T A C :=
  ⟨k.1.trans h.1, k.2.1.trans h.2.1, k.2.2.1.trans h.2.2.1, Nat.le_trans h.2.2.2.1 k.2.2.2.1, fun i hi h1 h2 => (k.2.2.2.2 i (Nat.lt_of_lt_of_le hi h.2.2.2.1) h1 h2).trans (h.2.2.2.2 i hi h1 h2)⟩
theorem Tv.gr {R T : Nat} {A B : World} (h : Gr A B) : Tv R T A B := ⟨h.os, h.tape, h.output, h.size, fun i hi _ _ => h.block i hi⟩
theorem Tv.grown {R T : Nat} {A B : World} (h : A.grownBy B (some R)) : Tv R T A B := ⟨h.os, h.tape, h.output, h.size, fun i hi h1 _ => h.block i hi (fun e => h1 (Option.some.inj e))⟩
theorem tv_size (A : World) (p : Addr) (v : Value) : (A.setCell p v).heap.size = A.heap.size := by simp [World.setCell]
theorem Tv.setL (R T o : Nat) (A : World) (v : Value) : Tv R T A (A.setCell ⟨R, o, none⟩ v) :=
  ⟨rfl, rfl, rfl, by rw [tv_size]; exact Nat.le_refl _, fun i _ h1 _ => Below.heap_setCell _ _ _ _ h1⟩
theorem Tv.setR (R T o : Nat) (A : World) (v : Value) : Tv R T A (A.setCell ⟨T, o, none⟩ v) :=
  ⟨rfl, rfl, rfl, by rw [tv_size]; exact Nat.le_refl _, fun i _ _ h2 => Below.heap_setCell _ _ _ _ h2⟩
theorem Tv.below {R T : Nat} {w A B : World} (h : Tv R T A B) (hw : Gr w A) (hR : w.heap.size ≤ R) (hT : w.heap.size ≤ T) : Gr w B :=
  ⟨h.1.trans hw.os, h.2.1.trans hw.tape, h.2.2.1.trans hw.output, Nat.le_trans hw.size h.2.2.2.1, fun i hi => (h.2.2.2.2 i (Nat.lt_of_lt_of_le hi hw.size) (by omega) (by omega)).trans (hw.block i hi)⟩
theorem Tv.cell {R T b o : Nat} {A B : World} {v : Value} (h : Tv R T A B) (hc : A.cell? ⟨b, o, none⟩ = some v) (h1 : b ≠ R) (h2 : b ≠ T) : B.cell? ⟨b, o, none⟩ = some v :=
  (World.cell?_of_block (h.2.2.2.2 b (cell_lt hc) h1 h2)).trans hc
/-- a Boolean in a cell of its own -/
structure BC (W : World) (p : Nat) (u : Bool) : Prop where
  c : W.cell? ⟨p, 0, none⟩ = some (.bool u)
  f : W.frozen? ⟨p, 0, none⟩ = false
theorem BC.gr {w w' : World} {p : Nat} {u : Bool} (h : BC w p u) (hg : Gr w w') : BC w' p u := ⟨cv_cell hg h.c, (Below.frozen hg (p := ⟨p, 0, none⟩) (cell_lt h.c)).trans h.f⟩
theorem BC.of_block {w w' : World} {p : Nat} {u : Bool} (h : BC w p u) (hb : w'.heap[p]? = w.heap[p]?) : BC w' p u := ⟨(World.cell?_of_block hb).trans h.c, (World.frozen?_of_block hb).trans h.f⟩
theorem BC.set {w : World} {p : Nat} {u : Bool} (h : BC w p u) (v : Bool) : BC (w.setCell ⟨p, 0, none⟩ (.bool v)) p v := ⟨World.cell?_setCell_same _ _ _ h.c, by rw [World.frozen?_setCell]; exact h.f⟩
theorem BC.other {w : World} {p q : Nat} {u : Bool} (h : BC w p u) (hpq : q ≠ p) (v : Value) : BC (w.setCell ⟨q, 0, none⟩ v) p u := h.of_block (Below.heap_setCell _ _ _ _ (fun e => hpq e.symm))
/-- a segment's block -/
structure SB (W : World) (g : Nat) (a b c d : Int) : Prop where
  c0 : W.cell? ⟨g, 0, none⟩ = some (.int .i64 a)
  c1 : W.cell? ⟨g, 1, none⟩ = some (.int .i64 b)
  c2 : W.cell? ⟨g, 2, none⟩ = some (.int .i64 c)
  c3 : W.cell? ⟨g, 3, none⟩ = some (.int .i64 d)
theorem SB.new (w : World) (a b c d : Int) : SB (w.alloc (oSg a b c d)) w.heap.size a b c d := ⟨(sg_new w a b c d).1, (sg_new w a b c d).2.1, (sg_new w a b c d).2.2.1, (sg_new w a b c d).2.2.2⟩
theorem SB.gr {w w' : World} {g : Nat} {a b c d : Int} (h : SB w g a b c d) (hg : Gr w w') : SB w' g a b c d := ⟨cv_cell hg h.c0, cv_cell hg h.c1, cv_cell hg h.c2, cv_cell hg h.c3⟩
theorem SB.tv {w w' : World} {g R T : Nat} {a b c d : Int} (h : SB w g a b c d) (ht : Tv R T w w') (h1 : g ≠ R) (h2 : g ≠ T) : SB w' g a b c d := ⟨ht.cell h.c0 h1 h2, ht.cell h.c1 h1 h2, ht.cell h.c2 h1 h2, ht.cell h.c3 h1 h2⟩
set_option maxHeartbeats 400000 in
theorem cv_segments (a : Option Addr) (n c : Nat) (w : World) :
    Calls Tryz.prog 44 #[.slice a n c] w fun e w' => e = .returned (.func (.func 75) #[] #[.pointer (some ⟨w.heap.size, 0, none⟩)]) ∧ w' = w.alloc (.cells #[.slice a n c] 22) := by
  have hmf : ∀ (fn : Fn) (first cap : Array Value) (w : World), (Instr.makeFunc fn first cap).run Tryz.prog w = .ok (.func fn first cap) w := fun _ _ _ _ => rfl
  go_enter Tryz.func44, Tryz.ntmps44
  go_wp2
  go_ret
  exact ⟨rfl, rfl⟩
set_option maxHeartbeats 4000000 in
set_option maxRecDepth 100000 in
theorem cv_Slope (a : Option Addr) (R : Pts) (cap : Nat) (w : World) (hR : PtAt w a R) (hJ : ∀ p ∈ R, isJ p.1 ∧ isJ p.2) (hlc : R.length ≤ cap) (hcm : cap ≤ maxLen) (hlen : R.length ≤ 10000000000000) :
    Calls Tryz.prog 23 #[.slice a R.length cap] w fun e w' => e = .returned (.tuple #[.int .i64 (slopeC R).1, .int .i64 (slopeC R).2]) ∧ Gr w w' := by
  have C := Lib.hid (cv_Check a R cap w hR hJ hlen)
  unfold slopeC
  by_cases h : cvC R = 0
  · rw [if_neg (by simp [h])]
    rw [h] at C
    have hcv := (cvC_iff R).1 h
    obtain ⟨b, off, rfl, -⟩ := hR.block (by have := hcv.two; omega)
    obtain ⟨n, hn⟩ : ∃ n, R.length = n + 2 := ⟨R.length - 2, by have := hcv.two; omega⟩
    have hn14 : n ≤ 14 := by have := hcv.most; omega
    have HCV := Lib.hid hcv
    have HR := Lib.hid hR
    have HN := Lib.hid hn
    have HST : Hid (steepC R = if upT R (n + 1) = true then 1 else if dnT R (n + 1) = true then -1 else 0) := Lib.hid (by unfold steepC; rw [hn]; rfl)
    have hbw : b < w.heap.size := cell_lt (pts_set hR 0 (by omega)).1
    obtain ⟨S, hS⟩ : ∃ S, steepC R = S := ⟨_, rfl⟩
    rw [hS] at HST ⊢
    rw [hn] at C hlc hlen ⊢
    clear hR hJ h hcv hS hn
    have hkn : (((n + 2 : Nat)) : Int) = (n : Int) + 2 := by omega
    refine (callsIn_wide (n := 3)).1 ?_
    refine callsIn_of_wp_marks Tryz.func23 rfl trivial ?_ rfl
    simp only [Tryz.ntmps23, List.size_toArray, List.length_cons, List.length_nil, Nat.reduceAdd, Nat.reduceSub, Array.replicate_succ, Array.replicate_zero, List.push_toArray, List.append_toArray, List.nil_append, List.cons_append]
    gi_wp2_with (first
      | (refine ⟨trivial, ?_⟩; gi_at_call 15; refine (callsIn_wide.2 C.out).mono ?_; rintro e w1 ⟨rfl, hg1⟩)
      | (refine ⟨trivial, ?_⟩; gi_at_call 44; refine (callsIn_wide.2 (cv_segments _ _ _ _)).mono ?_; rintro e w2 ⟨rfl, rfl⟩))
    have hP : Hid (BC (((w1.alloc (.cells #[.bool true] 4)).alloc (.cells #[.bool true] 4)).alloc (.cells #[.slice (some ⟨b, off, none⟩) (n + 2) cap] 22)) w1.heap.size true ∧ BC (((w1.alloc (.cells #[.bool true] 4)).alloc (.cells #[.bool true] 4)).alloc (.cells #[.slice (some ⟨b, off, none⟩) (n + 2) cap] 22)) (w1.heap.size + 1) true ∧
        (((w1.alloc (.cells #[.bool true] 4)).alloc (.cells #[.bool true] 4)).alloc (.cells #[.slice (some ⟨b, off, none⟩) (n + 2) cap] 22)).cell? ⟨w1.heap.size + 1 + 1, 0, none⟩ = some (.slice (some ⟨b, off, none⟩) (n + 2) cap)) := Lib.hid (by
      have e1 : BC (w1.alloc (.cells #[.bool true] 4)) w1.heap.size true := ⟨by rw [World.cell?_alloc_at _ _ _ _ rfl]; rfl, World.frozen?_alloc_at _ _ _ _ rfl⟩
      have e2 : BC ((w1.alloc (.cells #[.bool true] 4)).alloc (.cells #[.bool true] 4)) (w1.heap.size + 1) true := ⟨by rw [World.cell?_alloc_at _ _ _ _ (by simp)]; rfl, World.frozen?_alloc_at _ _ _ _ (by simp)⟩
      exact ⟨e1.gr (((Gr.refl _).alloc _).alloc _), e2.gr ((Gr.refl _).alloc _), by rw [World.cell?_alloc_at _ _ _ _ (by simp)]; rfl⟩)
    have hg4 : Gr w (((w1.alloc (.cells #[.bool true] 4)).alloc (.cells #[.bool true] 4)).alloc (.cells #[.slice (some ⟨b, off, none⟩) (n + 2) cap] 22)) := Gr.trans hg1 ((((Gr.refl _).alloc _).alloc _).alloc _)
    have hs4 : (((w1.alloc (.cells #[.bool true] 4)).alloc (.cells #[.bool true] 4)).alloc (.cells #[.slice (some ⟨b, off, none⟩) (n + 2) cap] 22)).heap.size = w1.heap.size + 3 := by simp
    have hwP := hg1.size
    generalize hW4 : ((w1.alloc (.cells #[.bool true] 4)).alloc (.cells #[.bool true] 4)).alloc (.cells #[.slice (some ⟨b, off, none⟩) (n + 2) cap] 22) = W4 at *
    generalize w1.heap.size = P at *
    have HG4 := Lib.hid hg4
    have hcb := hP.out.2.2
    rw [← HN.out] at hcb
    clear hg1 hW4 hg4 C
    refine wp_roundsA (gf := 75) (lb := #[.pointer (some ⟨P + 1 + 1, 0, none⟩)]) rfl (enters_of Tryz.func75 (by kernel_rfl) rfl) (S := fun k => k < w.heap.size ∨ k = P + 1 + 1) (fun k hk => by omega)
      (seg_rounds R b off cap n (P + 1 + 1) _ W4 HN.out (HR.out.gr HG4.out) (by rw [HN.out]; exact hlc) hn14 (.inr rfl) (.inl hbw) (fun k hk => by omega) hcb hcm) (segA_size R)
      (fun k W => Gr w W ∧ BC W P (upT R k) ∧ BC W (P + 1) (dnT R k))
      (fun _ _ => False)
      (fun s A B row hs hg hr => ⟨Below.grown hs.1 hg hs.1.size (fun k e => by have := (hr k e).1; omega), hs.2.1.of_block (hg.block P (cell_lt hs.2.1.c) (fun e => by have := (hr P e.symm).1; omega)), hs.2.2.of_block (hg.block (P + 1) (cell_lt hs.2.2.c) (fun e => by have := (hr (P + 1) e.symm).1; omega))⟩)
      (fun c s A B row hs hg hr => hs.elim)
      ⟨HG4.out, hP.out.1, hP.out.2.1⟩
      (fun k a1 W => ∃ (hk : k + 1 < R.length) (G : Nat), a1 = { tmps := #[.slice (some ⟨b, off, none⟩) (n + 2) cap, undef, .int .i64 0, .int .i64 0, .int .i64 0, .pointer (some ⟨P, 0, none⟩), .pointer (some ⟨P + 1, 0, none⟩), .pointer (some ⟨G, 0, none⟩), .slice (some ⟨b, off, none⟩) (n + 2) cap, .int .i64 0, .int .i64 0, .bool false, undef, .slice (some ⟨b, off, none⟩) (n + 2) cap,
          .func (.func 75) #[] #[.pointer (some ⟨P + 1 + 1, 0, none⟩)], vSg (R[k]'(by omega)).1 (R[k]'(by omega)).2 R[k + 1].1 R[k + 1].2, undef, undef, undef, undef, undef, undef, undef, undef, undef, undef, undef, undef, undef, undef, undef, undef], defers := [] } ∧
        W4.heap.size ≤ G ∧ SB W G (R[k]'(by omega)).1 (R[k]'(by omega)).2 R[k + 1].1 R[k + 1].2 ∧ Gr w W ∧ BC W P (upT R k) ∧ BC W (P + 1) (dnT R k))
      (fun s A B row hs hg hr => by
        obtain ⟨hk, G, e, hG, hb, h1, h2, h3⟩ := hs
        exact ⟨hk, G, e, hG, ⟨cell_kept hb.c0 hg (fun r e => (hr r e).2), cell_kept hb.c1 hg (fun r e => (hr r e).2), cell_kept hb.c2 hg (fun r e => (hr r e).2), cell_kept hb.c3 hg (fun r e => (hr r e).2)⟩, Below.grown h1 hg h1.size (fun k e => by have := (hr k e).1; omega), h2.of_block (hg.block P (cell_lt h2.c) (fun e => by have := (hr P e.symm).1; omega)), h3.of_block (hg.block (P + 1) (cell_lt h3.c) (fun e => by have := (hr (P + 1) e.symm).1; omega))⟩)
      ?assign ?body ?done ?stop
    case assign =>
      rintro y k W hW hk ⟨h1, h2, h3⟩
      have hk1 : k + 1 < R.length := by rw [HN.out]; omega
      rw [segA_at hk1]
      have HB := Lib.hid (SB.new W (R[k]'(by omega)).1 (R[k]'(by omega)).2 R[k + 1].1 R[k + 1].2)
      gi_wp2
      exact ⟨⟨by omega, HB.out, h1.alloc _, h2.gr ((Gr.refl _).alloc _), h3.gr ((Gr.refl _).alloc _)⟩, (Gr.refl W).alloc _⟩
    case body =>
      rintro y k a1 W _ ⟨hk, G, rfl, hG4, hb, hgr, hu, hd⟩
      have hu1 : upT R (k + 1) = (upT R k && decide ((R[k]'(by omega)).2 < R[k + 1].2)) := by rw [upT, yAt_eq (show k < R.length by omega), yAt_eq hk]
      have hd1 : dnT R (k + 1) = (dnT R k && decide (R[k + 1].2 < (R[k]'(by omega)).2)) := by rw [dnT, yAt_eq (show k < R.length by omega), yAt_eq hk]
      have hl0 := HCV.out.lv _ (List.getElem_mem (show k < R.length by omega))
      have hl1 := HCV.out.lv _ (List.getElem_mem hk)
      have hKB : ∀ W', Tv P (P + 1) W W' → KeepB (fun k => k < w.heap.size ∨ k = P + 1 + 1) W W' := fun W' h i hi => h.2.2.2.2 i (by have := hgr.size; have := cell_lt hu.c; have := cell_lt hb.c0; omega) (by omega) (by omega)
      have hKF : ∀ W', Tv P (P + 1) W W' → KeepsFrom W4.heap.size W W' := fun W' h => ⟨h.2.2.2.1, fun i o hB hi _ => (h.2.2.2.2 i (Array.getElem?_eq_some_iff.1 hi).1 (by omega) (by omega)).trans hi⟩
      have END : Hid (∀ W', Tv P (P + 1) W W' → BC W' P (upT R k && decide ((R[k]'(by omega)).2 < R[k + 1].2)) → BC W' (P + 1) (dnT R k && decide (R[k + 1].2 < (R[k]'(by omega)).2)) → KeepsFrom W4.heap.size W W' ∧ KeepB (fun k => k < w.heap.size ∨ k = P + 1 + 1) W W' ∧ Gr w W' ∧ BC W' P (upT R (k + 1)) ∧ BC W' (P + 1) (dnT R (k + 1))) := Lib.hid fun W' ht h1 h2 => ⟨hKF _ ht, hKB _ ht, ht.below hgr hwP (by omega), by rw [hu1]; exact h1, by rw [hd1]; exact h2⟩
      have hGP : G ≠ P := by omega
      have hGQ : G ≠ P + 1 := by omega
      generalize R[k + 1] = q at *
      generalize (R[k]'(by omega)) = p at *
      generalize upT R k = U at *
      generalize dnT R k = Dn at *
      obtain ⟨px, py⟩ := p
      obtain ⟨qx, qy⟩ := q
      simp only at hb hl0 hl1 END
      have HRI := Lib.hid (fun W => cv_rise px py qx qy W (by have := hl0.2; simp only at this; omega) (by have := hl1.2; simp only at this; omega))
      have g1 : decide ((0 : Int) < qy - py) = decide (py < qy) := by rw [Bool.eq_iff_iff, decide_eq_true_iff, decide_eq_true_iff]; omega
      have g2 : decide (qy - py < (0 : Int)) = decide (qy < py) := by rw [Bool.eq_iff_iff, decide_eq_true_iff, decide_eq_true_iff]; omega
      rw [← g1, ← g2] at END
      generalize qy - py = rr at *
      have HSB := Lib.hid hb
      have HU := Lib.hid hu
      have HD := Lib.hid hd
      clear hKB hKF hu1 hd1 hl0 hl1 hgr g1 g2 hu hd hb hk
      cases U <;> cases Dn
      · obtain ⟨b0, b1, b2, b3⟩ := id HSB.out
        obtain ⟨u0, u1⟩ := id HU.out
        obtain ⟨d0, d1⟩ := id HD.out
        have hs1 := cv_setSelf u0
        gi_wp2_with (fail)
        refine ⟨trivial, ?_⟩
        gi_wp2_with (fail)
        have HT1 := Lib.hid (Tv.refl P (P + 1) W)
        have HU1 := HU
        have HD1 := HD
        have HSB1 := HSB
        clear hs1
        have hs2 := cv_setSelf d0
        refine ⟨trivial, ?_⟩
        gi_wp2
        exact END.out _ HT1.out HU1.out HD1.out
      · obtain ⟨b0, b1, b2, b3⟩ := id HSB.out
        obtain ⟨u0, u1⟩ := id HU.out
        obtain ⟨d0, d1⟩ := id HD.out
        have hs1 := cv_setSelf u0
        gi_wp2_with (fail)
        refine ⟨trivial, ?_⟩
        gi_wp2_with (fail)
        have HT1 := Lib.hid (Tv.refl P (P + 1) W)
        have HU1 := HU
        have HD1 := HD
        have HSB1 := HSB
        clear hs1
        refine ⟨trivial, ?_⟩
        refine (CallsIn.inRound y (callsIn_wide.2 (HRI.out _))).mono ?_
        rintro e w6 ⟨rfl, hg6⟩
        clear b0 b1 b2 b3 d0 d1
        obtain ⟨d0, d1⟩ := HD1.out.gr hg6
        have HD2 := Lib.hid ((HD1.out.gr hg6).set (decide (rr < 0)))
        have HU2 := Lib.hid ((HU1.out.gr hg6).other (q := P + 1) (by omega) (.bool (decide (rr < 0))))
        have HT2 := Lib.hid (HT1.out.trans ((Tv.gr hg6).trans (Tv.setR P (P + 1) 0 w6 (.bool (decide (rr < 0))))))
        gi_wp2
        exact END.out _ HT2.out HU2.out HD2.out
      · obtain ⟨b0, b1, b2, b3⟩ := id HSB.out
        obtain ⟨u0, u1⟩ := id HU.out
        obtain ⟨d0, d1⟩ := id HD.out
        gi_wp2_with (fail)
        refine ⟨trivial, ?_⟩
        refine (CallsIn.inRound y (callsIn_wide.2 (HRI.out _))).mono ?_
        rintro e w5 ⟨rfl, hg5⟩
        clear b0 b1 b2 b3 u0 u1 d0 d1
        obtain ⟨u0, u1⟩ := HU.out.gr hg5
        have HU1 := Lib.hid ((HU.out.gr hg5).set (decide (0 < rr)))
        have HD1 := Lib.hid ((HD.out.gr hg5).other (q := P) (by omega) (.bool (decide (0 < rr))))
        have HT1 := Lib.hid ((Tv.gr hg5).trans (Tv.setL P (P + 1) 0 w5 (.bool (decide (0 < rr)))))
        have HSB1 := Lib.hid (HSB.out.tv HT1.out hGP hGQ)
        obtain ⟨b0, b1, b2, b3⟩ := id HSB1.out
        obtain ⟨d0, d1⟩ := id HD1.out
        gi_wp2_with (fail)
        generalize w5.setCell ⟨P, 0, none⟩ (.bool (decide (0 < rr))) = X1 at *
        clear u0 u1
        have hs2 := cv_setSelf d0
        refine ⟨trivial, ?_⟩
        gi_wp2
        exact END.out _ HT1.out HU1.out HD1.out
      · obtain ⟨b0, b1, b2, b3⟩ := id HSB.out
        obtain ⟨u0, u1⟩ := id HU.out
        obtain ⟨d0, d1⟩ := id HD.out
        gi_wp2_with (fail)
        refine ⟨trivial, ?_⟩
        refine (CallsIn.inRound y (callsIn_wide.2 (HRI.out _))).mono ?_
        rintro e w5 ⟨rfl, hg5⟩
        clear b0 b1 b2 b3 u0 u1 d0 d1
        obtain ⟨u0, u1⟩ := HU.out.gr hg5
        have HU1 := Lib.hid ((HU.out.gr hg5).set (decide (0 < rr)))
        have HD1 := Lib.hid ((HD.out.gr hg5).other (q := P) (by omega) (.bool (decide (0 < rr))))
        have HT1 := Lib.hid ((Tv.gr hg5).trans (Tv.setL P (P + 1) 0 w5 (.bool (decide (0 < rr)))))
        have HSB1 := Lib.hid (HSB.out.tv HT1.out hGP hGQ)
        obtain ⟨b0, b1, b2, b3⟩ := id HSB1.out
        obtain ⟨d0, d1⟩ := id HD1.out
        gi_wp2_with (fail)
        generalize w5.setCell ⟨P, 0, none⟩ (.bool (decide (0 < rr))) = X1 at *
        clear u0 u1
        refine ⟨trivial, ?_⟩
        refine (CallsIn.inRound y (callsIn_wide.2 (HRI.out _))).mono ?_
        rintro e w6 ⟨rfl, hg6⟩
        clear b0 b1 b2 b3 d0 d1
        obtain ⟨d0, d1⟩ := HD1.out.gr hg6
        have HD2 := Lib.hid ((HD1.out.gr hg6).set (decide (rr < 0)))
        have HU2 := Lib.hid ((HU1.out.gr hg6).other (q := P + 1) (by omega) (.bool (decide (rr < 0))))
        have HT2 := Lib.hid (HT1.out.trans ((Tv.gr hg6).trans (Tv.setR P (P + 1) 0 w6 (.bool (decide (rr < 0))))))
        gi_wp2
        exact END.out _ HT2.out HU2.out HD2.out
    case done =>
      rintro D W hD ⟨hgr, hu, hd⟩ hK
      have hst := HST.out
      have HGR := Lib.hid hgr
      obtain ⟨u0, -⟩ := hu
      obtain ⟨d0, -⟩ := hd
      generalize upT R (n + 1) = U at *
      generalize dnT R (n + 1) = Dn at *
      have fin : ∀ x : Int, S = x → (∃ v, (results Tryz.f23 #[undef, undef, .int .i64 x, .int .i64 0]).run Tryz.prog W = .ok v W) ∨ True := fun _ _ => .inr trivial
      clear fin
      cases U <;> cases Dn
      all_goals
        obtain rfl : S = _ := hst
        gi_wp2
        refine ⟨by simp, .inl ⟨_, _, rfl, run_takeDeferred hK, ?_⟩⟩
        refine ⟨.tuple #[.int .i64 _, .int .i64 0], ?_, rfl, Below.trans HGR.out (below_putObj (by omega))⟩
        simp [results, Tryz.results23, go_sem]
    case stop =>
      rintro D c W hD h
      exact h.elim
  · rw [if_pos h]
    generalize cvC R = K at *
    generalize R.length = n at *
    have hk : (K == 0) = false := by rw [beq_eq_false_iff_ne]; exact h
    clear hR hJ
    go_enter Tryz.func23, Tryz.ntmps23
    go_wp2_with fail
    refine C.out.mono ?_; rintro e w1 ⟨rfl, hg⟩
    have HG1 := Lib.hid hg
    clear hg
    go_wp2
    go_ret2
    exact ⟨rfl, HG1.out⟩
end Go.Proofs.YtlbnibicehpobaaGreatDoor
