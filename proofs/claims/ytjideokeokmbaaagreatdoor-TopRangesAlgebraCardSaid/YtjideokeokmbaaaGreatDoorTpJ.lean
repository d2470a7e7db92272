/- T3: sets of channels are an algebra: the walk. -/
import Derived.Test.YtjideokeokmbaaaGreatDoorTpI
set_option linter.unusedVariables false
set_option linter.unusedSimpArgs false
namespace Go.Proofs.YtjideokeokmbaaaGreatDoor
open Go.RowKit Go.Shelf
open Z
/-- two slices of the same ranges -/
def EqP (w : World) (v u : Value) : Prop := ∃ X, SlR w v X ∧ SlR w u X
theorem EqP.gr {w w' : World} {v u : Value} (h : EqP w v u) (hg : Gr w w') : EqP w' v u := by
  obtain ⟨X, h1, h2⟩ := h
  exact ⟨X, h1.gr hg, h2.gr hg⟩
def EqL (w : World) (L : List (Value × Value)) : Prop := ∀ q ∈ L, EqP w q.1 q.2
theorem EqL.gr {w w' : World} {L : List (Value × Value)} (h : EqL w L) (hg : Gr w w') : EqL w' L := fun q hq => (h q hq).gr hg
theorem EqL.nil (w : World) : EqL w [] := fun q hq => absurd hq (by simp)
theorem EqL.cons {w : World} {L : List (Value × Value)} {v u : Value} {X Y : RL} (h1 : SlR w v X) (h2 : SlR w u Y) (e : X = Y) (h : EqL w L) : EqL w ((v, u) :: L) := fun q hq => by
  rcases List.mem_cons.1 hq with rfl | hq
  · subst e; exact ⟨X, h1, h2⟩
  · exact h q hq
def PB (w : World) (g : Nat) : Prop := ∀ k, k < 10 → ∃ p n c p' n' c', w.cell? ⟨g, k * 2, none⟩ = some (.slice p n c) ∧ w.cell? ⟨g, k * 2 + 1, none⟩ = some (.slice p' n' c') ∧ EqP w (.slice p n c) (.slice p' n' c')
theorem PB.gr {w w' : World} {g : Nat} (h : PB w g) (hg : Gr w w') : PB w' g := fun k hk => by
  obtain ⟨p, n, c, p', n', c', h1, h2, h3⟩ := h k hk
  exact ⟨p, n, c, p', n', c', gr_cellT hg h1, gr_cellT hg h2, h3.gr hg⟩
theorem pairs_get : ∀ (l : List (Value × Value)) (k : Nat) (h : k < l.length), (l.flatMap fun q => [q.1, q.2])[k * 2]? = some l[k].1 ∧ (l.flatMap fun q => [q.1, q.2])[k * 2 + 1]? = some l[k].2
  | x :: l, 0, h => ⟨rfl, rfl⟩
  | x :: l, k + 1, h => by
    have := pairs_get l k (by simpa using h)
    rw [show (k + 1) * 2 = k * 2 + 1 + 1 by omega]
    simpa using this
theorem PB.new {w : World} {t : TypeId} {L : List (Value × Value)} {cs : Array Value} (hL : EqL w L) (h : L.length = 10) (e : (L.reverse.flatMap fun q => [q.1, q.2]).toArray = cs) : PB (w.alloc (.cells cs t)) w.heap.size := fun k hk => by
  obtain ⟨h1, h2⟩ := pairs_get L.reverse k (by simp [h]; exact hk)
  have hq := hL _ (List.mem_reverse.1 (List.getElem_mem (l := L.reverse) (n := k) (by simp [h]; exact hk)))
  obtain ⟨X, s1, s2⟩ := id hq
  obtain ⟨p, n, c, e1⟩ := s1.slice
  obtain ⟨p', n', c', e2⟩ := s2.slice
  rw [e1] at h1 hq
  rw [e2] at h2 hq
  subst e
  refine ⟨p, n, c, p', n', c', ?_, ?_, hq.gr ((Gr.refl _).alloc _)⟩
  · rw [World.cell?_alloc_at _ _ _ _ rfl]; simpa using h1
  · rw [World.cell?_alloc_at _ _ _ _ rfl]; simpa using h2
theorem SlR.nil (w : World) : SlR w (.slice none 0 0) [] := ⟨⟨none, 0, rfl, .inl ⟨rfl, rfl⟩, fun _ => rfl, fun p o e => by cases e⟩, rfl, by simp⟩
theorem EqP.equal {w : World} {v u : Value} (h : EqP w v u) : Calls Tryz.prog 13 #[v, u] w fun e w' => e = .returned (.bool true) ∧ Gr w w' := by
  obtain ⟨X, ⟨⟨b, c, rfl, h1, -, -⟩, -, h4⟩, ⟨b', c', rfl, h2, -, -⟩, -, -⟩ := h
  exact sl_SameR h1 h2 (by omega)
theorem SlR.count {w : World} {v : Value} {X : RL} (h : SlR w v X) : Calls Tryz.prog 14 #[v] w fun e w' => e = .returned (.tuple #[.int .i64 ((chans X).length : Nat), .int .i64 0]) ∧ Gr w w' := by
  obtain ⟨⟨b, c, rfl, h1, h2, h3⟩, h4, h5⟩ := h
  have := ra_Count b X c w h1 h2 (by omega) h3
  unfold countR at this
  rwa [if_neg (by simp [h4])] at this
theorem PC.new (w : World) (t1 t2 : TypeId) : PC ((w.alloc (.cells #[.bool true] t1)).alloc (.cells #[.pointer (some ⟨w.heap.size, 0, none⟩)] t2)) (w.heap.size + 1) w.heap.size := by
  have h1 : (w.alloc (.cells #[.bool true] t1)).cell? ⟨w.heap.size, 0, none⟩ = some (.bool true) := by simp
  have h2 : (w.alloc (.cells #[.bool true] t1)).frozen? ⟨w.heap.size, 0, none⟩ = false := World.frozen?_alloc_at _ _ _ _ rfl
  have hg : Gr (w.alloc (.cells #[.bool true] t1)) ((w.alloc (.cells #[.bool true] t1)).alloc (.cells #[.pointer (some ⟨w.heap.size, 0, none⟩)] t2)) := (Gr.refl _).alloc _
  refine ⟨by rw [World.cell?_alloc_at _ _ _ _ (by simp)]; rfl, gr_cellT hg h1, ?_⟩
  have e := hg.block w.heap.size (cellLt h1)
  unfold World.frozen? at h2 ⊢; rw [e]; exact h2
set_option maxRecDepth 100000 in
set_option maxHeartbeats 16000000 in
theorem top_Alg_ok (a b c : Option Addr) (A B C : RL) (na nb nc ca cb cc : Nat) (w : World) (htab : Tab w) (hA : SlR w (.slice a na ca) A) (hB : SlR w (.slice b nb cb) B) (hC : SlR w (.slice c nc cc) C)
    (SA : Hid (∀ w', Gr w w' → Calls Tryz.prog 4 #[.slice a na ca] w' fun e w2 => e = .returned (.bool true) ∧ Gr w' w2))
    (SB : Hid (∀ w', Gr w w' → Calls Tryz.prog 4 #[.slice b nb cb] w' fun e w2 => e = .returned (.bool true) ∧ Gr w' w2))
    (SC : Hid (∀ w', Gr w w' → Calls Tryz.prog 4 #[.slice c nc cc] w' fun e w2 => e = .returned (.bool true) ∧ Gr w' w2)) :
    Calls Tryz.prog 3 #[.slice a na ca, .slice b nb cb, .slice c nc cc] w fun e w' => e = .returned (.bool true) ∧ Gr w w' := by
  have AW := Lib.hid (fun w' (hg : Gr w w') => pl_play w' (htab_gr htab hg))
  have kA : checkR A = 0 := hA.2.1
  have kB : checkR B = 0 := hB.2.1
  have kC : checkR C = 0 := hC.2.1
  have E1 := Lib.hid (al1 kA kB)
  have E2 := Lib.hid (al2 kA kB)
  have E3 := Lib.hid (al3 kA kB kC)
  have E4 := Lib.hid (al4 kA kB kC)
  have E5 := Lib.hid (al5 kA kB kC)
  have E6 := Lib.hid (al6 kA kB kC)
  have E7 := Lib.hid (al7 kA kB kC)
  have E8 := Lib.hid (al8 kA kB kC)
  have E9 := Lib.hid (al9 kA kB)
  have E10 := Lib.hid (al10 kA kB)
  have EC := Lib.hid (count_sum kA kB)
  have HA0 := Lib.hid hA
  have HB0 := Lib.hid hB
  have HC0 := Lib.hid hC
  have HG0 := Lib.hid (Gr.refl w)
  clear hA hB hC kA kB kC htab
  go_enter Tryz.func3, Tryz.ntmps3
  go_wp2_with fail
  refine (SA.out _ HG0.out).mono ?_; rintro e w1 ⟨rfl, hg⟩
  have HG1 := Lib.hid (Gr.trans HG0.out hg)
  clear hg HG0 SA
  go_wp2_with fail
  refine (SB.out _ HG1.out).mono ?_; rintro e w2 ⟨rfl, hg⟩
  have HG2 := Lib.hid (Gr.trans HG1.out hg)
  clear hg HG1 SB
  go_wp2_with fail
  refine (SC.out _ HG2.out).mono ?_; rintro e w3 ⟨rfl, hg⟩
  have HG3 := Lib.hid (Gr.trans HG2.out hg)
  clear hg HG2 SC
  go_wp2_with fail
  have HG : Hid (Gr w ((w3.alloc (.cells #[.bool true] 27)).alloc (.cells #[.pointer (some ⟨w3.heap.size, 0, none⟩)] 25))) := Lib.hid ((HG3.out.alloc _).alloc _)
  have HC := Lib.hid (PC.new w3 27 25)
  have Ha := Lib.hid (HA0.out.gr HG.out)
  have Hb := Lib.hid (HB0.out.gr HG.out)
  have Hc := Lib.hid (HC0.out.gr HG.out)
  have HL := Lib.hid (EqL.nil ((w3.alloc (.cells #[.bool true] 27)).alloc (.cells #[.pointer (some ⟨w3.heap.size, 0, none⟩)] 25)))
  clear HG3 HA0 HB0 HC0
  generalize (w3.alloc (.cells #[.bool true] 27)).alloc (.cells #[.pointer (some ⟨w3.heap.size, 0, none⟩)] 25) = W at *
  refine (al_orR _ HC.out Ha.out Hb.out).mono ?_; rintro e x0 ⟨p1, n1, c1, rfl, ho, hg⟩
  have H1 := Lib.hid ho
  clear ho
  replace Ha := Lib.hid (Ha.out.gr hg)
  replace Hb := Lib.hid (Hb.out.gr hg)
  replace Hc := Lib.hid (Hc.out.gr hg)
  replace HC := Lib.hid (HC.out.gr hg)
  replace HL := Lib.hid (HL.out.gr hg)
  replace HG := Lib.hid (Gr.trans HG.out hg)
  clear hg
  go_wp2_with fail
  refine (al_orR _ HC.out Hb.out Ha.out).mono ?_; rintro e x1 ⟨p2, n2, c2, rfl, ho, hg⟩
  have H2 := Lib.hid ho
  clear ho
  replace Ha := Lib.hid (Ha.out.gr hg)
  replace Hb := Lib.hid (Hb.out.gr hg)
  replace Hc := Lib.hid (Hc.out.gr hg)
  replace H1 := Lib.hid (H1.out.gr hg)
  replace HC := Lib.hid (HC.out.gr hg)
  replace HL := Lib.hid (HL.out.gr hg)
  replace HG := Lib.hid (Gr.trans HG.out hg)
  clear hg
  replace HL := Lib.hid (EqL.cons H1.out H2.out E1.out HL.out)
  clear H1 H2 E1
  go_wp2_with fail
  refine (al_anR _ HC.out Ha.out Hb.out).mono ?_; rintro e x2 ⟨p3, n3, c3, rfl, ho, hg⟩
  have H3 := Lib.hid ho
  clear ho
  replace Ha := Lib.hid (Ha.out.gr hg)
  replace Hb := Lib.hid (Hb.out.gr hg)
  replace Hc := Lib.hid (Hc.out.gr hg)
  replace HC := Lib.hid (HC.out.gr hg)
  replace HL := Lib.hid (HL.out.gr hg)
  replace HG := Lib.hid (Gr.trans HG.out hg)
  clear hg
  go_wp2_with fail
  refine (al_anR _ HC.out Hb.out Ha.out).mono ?_; rintro e x3 ⟨p4, n4, c4, rfl, ho, hg⟩
  have H4 := Lib.hid ho
  clear ho
  replace Ha := Lib.hid (Ha.out.gr hg)
  replace Hb := Lib.hid (Hb.out.gr hg)
  replace Hc := Lib.hid (Hc.out.gr hg)
  replace H3 := Lib.hid (H3.out.gr hg)
  replace HC := Lib.hid (HC.out.gr hg)
  replace HL := Lib.hid (HL.out.gr hg)
  replace HG := Lib.hid (Gr.trans HG.out hg)
  clear hg
  replace HL := Lib.hid (EqL.cons H3.out H4.out E2.out HL.out)
  clear H3 H4 E2
  go_wp2_with fail
  refine (al_orR _ HC.out Ha.out Hb.out).mono ?_; rintro e x4 ⟨p5, n5, c5, rfl, ho, hg⟩
  have H5 := Lib.hid ho
  clear ho
  replace Ha := Lib.hid (Ha.out.gr hg)
  replace Hb := Lib.hid (Hb.out.gr hg)
  replace Hc := Lib.hid (Hc.out.gr hg)
  replace HC := Lib.hid (HC.out.gr hg)
  replace HL := Lib.hid (HL.out.gr hg)
  replace HG := Lib.hid (Gr.trans HG.out hg)
  clear hg
  go_wp2_with fail
  refine (al_orR _ HC.out H5.out Hc.out).mono ?_; rintro e x5 ⟨p6, n6, c6, rfl, ho, hg⟩
  have H6 := Lib.hid ho
  clear ho
  replace Ha := Lib.hid (Ha.out.gr hg)
  replace Hb := Lib.hid (Hb.out.gr hg)
  replace Hc := Lib.hid (Hc.out.gr hg)
  replace H5 := Lib.hid (H5.out.gr hg)
  replace HC := Lib.hid (HC.out.gr hg)
  replace HL := Lib.hid (HL.out.gr hg)
  replace HG := Lib.hid (Gr.trans HG.out hg)
  clear hg
  go_wp2_with fail
  refine (al_orR _ HC.out Hb.out Hc.out).mono ?_; rintro e x6 ⟨p7, n7, c7, rfl, ho, hg⟩
  have H7 := Lib.hid ho
  clear ho
  replace Ha := Lib.hid (Ha.out.gr hg)
  replace Hb := Lib.hid (Hb.out.gr hg)
  replace Hc := Lib.hid (Hc.out.gr hg)
  replace H5 := Lib.hid (H5.out.gr hg)
  replace H6 := Lib.hid (H6.out.gr hg)
  replace HC := Lib.hid (HC.out.gr hg)
  replace HL := Lib.hid (HL.out.gr hg)
  replace HG := Lib.hid (Gr.trans HG.out hg)
  clear hg
  go_wp2_with fail
  refine (al_orR _ HC.out Ha.out H7.out).mono ?_; rintro e x7 ⟨p8, n8, c8, rfl, ho, hg⟩
  have H8 := Lib.hid ho
  clear ho
  replace Ha := Lib.hid (Ha.out.gr hg)
  replace Hb := Lib.hid (Hb.out.gr hg)
  replace Hc := Lib.hid (Hc.out.gr hg)
  replace H5 := Lib.hid (H5.out.gr hg)
  replace H6 := Lib.hid (H6.out.gr hg)
  replace H7 := Lib.hid (H7.out.gr hg)
  replace HC := Lib.hid (HC.out.gr hg)
  replace HL := Lib.hid (HL.out.gr hg)
  replace HG := Lib.hid (Gr.trans HG.out hg)
  clear hg
  replace HL := Lib.hid (EqL.cons H6.out H8.out E3.out HL.out)
  clear H5 H6 H7 H8 E3
  go_wp2_with fail
  refine (al_anR _ HC.out Ha.out Hb.out).mono ?_; rintro e x8 ⟨p9, n9, c9, rfl, ho, hg⟩
  have H9 := Lib.hid ho
  clear ho
  replace Ha := Lib.hid (Ha.out.gr hg)
  replace Hb := Lib.hid (Hb.out.gr hg)
  replace Hc := Lib.hid (Hc.out.gr hg)
  replace HC := Lib.hid (HC.out.gr hg)
  replace HL := Lib.hid (HL.out.gr hg)
  replace HG := Lib.hid (Gr.trans HG.out hg)
  clear hg
  go_wp2_with fail
  refine (al_anR _ HC.out H9.out Hc.out).mono ?_; rintro e x9 ⟨p10, n10, c10, rfl, ho, hg⟩
  have H10 := Lib.hid ho
  clear ho
  replace Ha := Lib.hid (Ha.out.gr hg)
  replace Hb := Lib.hid (Hb.out.gr hg)
  replace Hc := Lib.hid (Hc.out.gr hg)
  replace H9 := Lib.hid (H9.out.gr hg)
  replace HC := Lib.hid (HC.out.gr hg)
  replace HL := Lib.hid (HL.out.gr hg)
  replace HG := Lib.hid (Gr.trans HG.out hg)
  clear hg
  go_wp2_with fail
  refine (al_anR _ HC.out Hb.out Hc.out).mono ?_; rintro e x10 ⟨p11, n11, c11, rfl, ho, hg⟩
  have H11 := Lib.hid ho
  clear ho
  replace Ha := Lib.hid (Ha.out.gr hg)
  replace Hb := Lib.hid (Hb.out.gr hg)
  replace Hc := Lib.hid (Hc.out.gr hg)
  replace H9 := Lib.hid (H9.out.gr hg)
  replace H10 := Lib.hid (H10.out.gr hg)
  replace HC := Lib.hid (HC.out.gr hg)
  replace HL := Lib.hid (HL.out.gr hg)
  replace HG := Lib.hid (Gr.trans HG.out hg)
  clear hg
  go_wp2_with fail
  refine (al_anR _ HC.out Ha.out H11.out).mono ?_; rintro e x11 ⟨p12, n12, c12, rfl, ho, hg⟩
  have H12 := Lib.hid ho
  clear ho
  replace Ha := Lib.hid (Ha.out.gr hg)
  replace Hb := Lib.hid (Hb.out.gr hg)
  replace Hc := Lib.hid (Hc.out.gr hg)
  replace H9 := Lib.hid (H9.out.gr hg)
  replace H10 := Lib.hid (H10.out.gr hg)
  replace H11 := Lib.hid (H11.out.gr hg)
  replace HC := Lib.hid (HC.out.gr hg)
  replace HL := Lib.hid (HL.out.gr hg)
  replace HG := Lib.hid (Gr.trans HG.out hg)
  clear hg
  replace HL := Lib.hid (EqL.cons H10.out H12.out E4.out HL.out)
  clear H9 H10 H11 H12 E4
  go_wp2_with fail
  refine (al_orR _ HC.out Hb.out Hc.out).mono ?_; rintro e x12 ⟨p13, n13, c13, rfl, ho, hg⟩
  have H13 := Lib.hid ho
  clear ho
  replace Ha := Lib.hid (Ha.out.gr hg)
  replace Hb := Lib.hid (Hb.out.gr hg)
  replace Hc := Lib.hid (Hc.out.gr hg)
  replace HC := Lib.hid (HC.out.gr hg)
  replace HL := Lib.hid (HL.out.gr hg)
  replace HG := Lib.hid (Gr.trans HG.out hg)
  clear hg
  go_wp2_with fail
  refine (al_anR _ HC.out Ha.out H13.out).mono ?_; rintro e x13 ⟨p14, n14, c14, rfl, ho, hg⟩
  have H14 := Lib.hid ho
  clear ho
  replace Ha := Lib.hid (Ha.out.gr hg)
  replace Hb := Lib.hid (Hb.out.gr hg)
  replace Hc := Lib.hid (Hc.out.gr hg)
  replace H13 := Lib.hid (H13.out.gr hg)
  replace HC := Lib.hid (HC.out.gr hg)
  replace HL := Lib.hid (HL.out.gr hg)
  replace HG := Lib.hid (Gr.trans HG.out hg)
  clear hg
  go_wp2_with fail
  refine (al_anR _ HC.out Ha.out Hb.out).mono ?_; rintro e x14 ⟨p15, n15, c15, rfl, ho, hg⟩
  have H15 := Lib.hid ho
  clear ho
  replace Ha := Lib.hid (Ha.out.gr hg)
  replace Hb := Lib.hid (Hb.out.gr hg)
  replace Hc := Lib.hid (Hc.out.gr hg)
  replace H13 := Lib.hid (H13.out.gr hg)
  replace H14 := Lib.hid (H14.out.gr hg)
  replace HC := Lib.hid (HC.out.gr hg)
  replace HL := Lib.hid (HL.out.gr hg)
  replace HG := Lib.hid (Gr.trans HG.out hg)
  clear hg
  go_wp2_with fail
  refine (al_anR _ HC.out Ha.out Hc.out).mono ?_; rintro e x15 ⟨p16, n16, c16, rfl, ho, hg⟩
  have H16 := Lib.hid ho
  clear ho
  replace Ha := Lib.hid (Ha.out.gr hg)
  replace Hb := Lib.hid (Hb.out.gr hg)
  replace Hc := Lib.hid (Hc.out.gr hg)
  replace H13 := Lib.hid (H13.out.gr hg)
  replace H14 := Lib.hid (H14.out.gr hg)
  replace H15 := Lib.hid (H15.out.gr hg)
  replace HC := Lib.hid (HC.out.gr hg)
  replace HL := Lib.hid (HL.out.gr hg)
  replace HG := Lib.hid (Gr.trans HG.out hg)
  clear hg
  go_wp2_with fail
  refine (al_orR _ HC.out H15.out H16.out).mono ?_; rintro e x16 ⟨p17, n17, c17, rfl, ho, hg⟩
  have H17 := Lib.hid ho
  clear ho
  replace Ha := Lib.hid (Ha.out.gr hg)
  replace Hb := Lib.hid (Hb.out.gr hg)
  replace Hc := Lib.hid (Hc.out.gr hg)
  replace H13 := Lib.hid (H13.out.gr hg)
  replace H14 := Lib.hid (H14.out.gr hg)
  replace H15 := Lib.hid (H15.out.gr hg)
  replace H16 := Lib.hid (H16.out.gr hg)
  replace HC := Lib.hid (HC.out.gr hg)
  replace HL := Lib.hid (HL.out.gr hg)
  replace HG := Lib.hid (Gr.trans HG.out hg)
  clear hg
  replace HL := Lib.hid (EqL.cons H14.out H17.out E5.out HL.out)
  clear H13 H14 H15 H16 H17 E5
  go_wp2_with fail
  refine (al_anR _ HC.out Hb.out Hc.out).mono ?_; rintro e x17 ⟨p18, n18, c18, rfl, ho, hg⟩
  have H18 := Lib.hid ho
  clear ho
  replace Ha := Lib.hid (Ha.out.gr hg)
  replace Hb := Lib.hid (Hb.out.gr hg)
  replace Hc := Lib.hid (Hc.out.gr hg)
  replace HC := Lib.hid (HC.out.gr hg)
  replace HL := Lib.hid (HL.out.gr hg)
  replace HG := Lib.hid (Gr.trans HG.out hg)
  clear hg
  go_wp2_with fail
  refine (al_orR _ HC.out Ha.out H18.out).mono ?_; rintro e x18 ⟨p19, n19, c19, rfl, ho, hg⟩
  have H19 := Lib.hid ho
  clear ho
  replace Ha := Lib.hid (Ha.out.gr hg)
  replace Hb := Lib.hid (Hb.out.gr hg)
  replace Hc := Lib.hid (Hc.out.gr hg)
  replace H18 := Lib.hid (H18.out.gr hg)
  replace HC := Lib.hid (HC.out.gr hg)
  replace HL := Lib.hid (HL.out.gr hg)
  replace HG := Lib.hid (Gr.trans HG.out hg)
  clear hg
  go_wp2_with fail
  refine (al_orR _ HC.out Ha.out Hb.out).mono ?_; rintro e x19 ⟨p20, n20, c20, rfl, ho, hg⟩
  have H20 := Lib.hid ho
  clear ho
  replace Ha := Lib.hid (Ha.out.gr hg)
  replace Hb := Lib.hid (Hb.out.gr hg)
  replace Hc := Lib.hid (Hc.out.gr hg)
  replace H18 := Lib.hid (H18.out.gr hg)
  replace H19 := Lib.hid (H19.out.gr hg)
  replace HC := Lib.hid (HC.out.gr hg)
  replace HL := Lib.hid (HL.out.gr hg)
  replace HG := Lib.hid (Gr.trans HG.out hg)
  clear hg
  go_wp2_with fail
  refine (al_orR _ HC.out Ha.out Hc.out).mono ?_; rintro e x20 ⟨p21, n21, c21, rfl, ho, hg⟩
  have H21 := Lib.hid ho
  clear ho
  replace Ha := Lib.hid (Ha.out.gr hg)
  replace Hb := Lib.hid (Hb.out.gr hg)
  replace Hc := Lib.hid (Hc.out.gr hg)
  replace H18 := Lib.hid (H18.out.gr hg)
  replace H19 := Lib.hid (H19.out.gr hg)
  replace H20 := Lib.hid (H20.out.gr hg)
  replace HC := Lib.hid (HC.out.gr hg)
  replace HL := Lib.hid (HL.out.gr hg)
  replace HG := Lib.hid (Gr.trans HG.out hg)
  clear hg
  go_wp2_with fail
  refine (al_anR _ HC.out H20.out H21.out).mono ?_; rintro e x21 ⟨p22, n22, c22, rfl, ho, hg⟩
  have H22 := Lib.hid ho
  clear ho
  replace Ha := Lib.hid (Ha.out.gr hg)
  replace Hb := Lib.hid (Hb.out.gr hg)
  replace Hc := Lib.hid (Hc.out.gr hg)
  replace H18 := Lib.hid (H18.out.gr hg)
  replace H19 := Lib.hid (H19.out.gr hg)
  replace H20 := Lib.hid (H20.out.gr hg)
  replace H21 := Lib.hid (H21.out.gr hg)
  replace HC := Lib.hid (HC.out.gr hg)
  replace HL := Lib.hid (HL.out.gr hg)
  replace HG := Lib.hid (Gr.trans HG.out hg)
  clear hg
  replace HL := Lib.hid (EqL.cons H19.out H22.out E6.out HL.out)
  clear H18 H19 H20 H21 H22 E6
  go_wp2_with fail
  refine (al_orR _ HC.out Ha.out Hb.out).mono ?_; rintro e x22 ⟨p23, n23, c23, rfl, ho, hg⟩
  have H23 := Lib.hid ho
  clear ho
  replace Ha := Lib.hid (Ha.out.gr hg)
  replace Hb := Lib.hid (Hb.out.gr hg)
  replace Hc := Lib.hid (Hc.out.gr hg)
  replace HC := Lib.hid (HC.out.gr hg)
  replace HL := Lib.hid (HL.out.gr hg)
  replace HG := Lib.hid (Gr.trans HG.out hg)
  clear hg
  go_wp2_with fail
  refine (al_leR _ HC.out H23.out Hc.out).mono ?_; rintro e x23 ⟨p24, n24, c24, rfl, ho, hg⟩
  have H24 := Lib.hid ho
  clear ho
  replace Ha := Lib.hid (Ha.out.gr hg)
  replace Hb := Lib.hid (Hb.out.gr hg)
  replace Hc := Lib.hid (Hc.out.gr hg)
  replace H23 := Lib.hid (H23.out.gr hg)
  replace HC := Lib.hid (HC.out.gr hg)
  replace HL := Lib.hid (HL.out.gr hg)
  replace HG := Lib.hid (Gr.trans HG.out hg)
  clear hg
  go_wp2_with fail
  refine (al_leR _ HC.out Ha.out Hc.out).mono ?_; rintro e x24 ⟨p25, n25, c25, rfl, ho, hg⟩
  have H25 := Lib.hid ho
  clear ho
  replace Ha := Lib.hid (Ha.out.gr hg)
  replace Hb := Lib.hid (Hb.out.gr hg)
  replace Hc := Lib.hid (Hc.out.gr hg)
  replace H23 := Lib.hid (H23.out.gr hg)
  replace H24 := Lib.hid (H24.out.gr hg)
  replace HC := Lib.hid (HC.out.gr hg)
  replace HL := Lib.hid (HL.out.gr hg)
  replace HG := Lib.hid (Gr.trans HG.out hg)
  clear hg
  go_wp2_with fail
  refine (al_leR _ HC.out Hb.out Hc.out).mono ?_; rintro e x25 ⟨p26, n26, c26, rfl, ho, hg⟩
  have H26 := Lib.hid ho
  clear ho
  replace Ha := Lib.hid (Ha.out.gr hg)
  replace Hb := Lib.hid (Hb.out.gr hg)
  replace Hc := Lib.hid (Hc.out.gr hg)
  replace H23 := Lib.hid (H23.out.gr hg)
  replace H24 := Lib.hid (H24.out.gr hg)
  replace H25 := Lib.hid (H25.out.gr hg)
  replace HC := Lib.hid (HC.out.gr hg)
  replace HL := Lib.hid (HL.out.gr hg)
  replace HG := Lib.hid (Gr.trans HG.out hg)
  clear hg
  go_wp2_with fail
  refine (al_orR _ HC.out H25.out H26.out).mono ?_; rintro e x26 ⟨p27, n27, c27, rfl, ho, hg⟩
  have H27 := Lib.hid ho
  clear ho
  replace Ha := Lib.hid (Ha.out.gr hg)
  replace Hb := Lib.hid (Hb.out.gr hg)
  replace Hc := Lib.hid (Hc.out.gr hg)
  replace H23 := Lib.hid (H23.out.gr hg)
  replace H24 := Lib.hid (H24.out.gr hg)
  replace H25 := Lib.hid (H25.out.gr hg)
  replace H26 := Lib.hid (H26.out.gr hg)
  replace HC := Lib.hid (HC.out.gr hg)
  replace HL := Lib.hid (HL.out.gr hg)
  replace HG := Lib.hid (Gr.trans HG.out hg)
  clear hg
  replace HL := Lib.hid (EqL.cons H24.out H27.out E7.out HL.out)
  clear H23 H24 H25 H26 H27 E7
  go_wp2_with fail
  refine (al_orR _ HC.out Hb.out Hc.out).mono ?_; rintro e x27 ⟨p28, n28, c28, rfl, ho, hg⟩
  have H28 := Lib.hid ho
  clear ho
  replace Ha := Lib.hid (Ha.out.gr hg)
  replace Hb := Lib.hid (Hb.out.gr hg)
  replace Hc := Lib.hid (Hc.out.gr hg)
  replace HC := Lib.hid (HC.out.gr hg)
  replace HL := Lib.hid (HL.out.gr hg)
  replace HG := Lib.hid (Gr.trans HG.out hg)
  clear hg
  go_wp2_with fail
  refine (al_leR _ HC.out Ha.out H28.out).mono ?_; rintro e x28 ⟨p29, n29, c29, rfl, ho, hg⟩
  have H29 := Lib.hid ho
  clear ho
  replace Ha := Lib.hid (Ha.out.gr hg)
  replace Hb := Lib.hid (Hb.out.gr hg)
  replace Hc := Lib.hid (Hc.out.gr hg)
  replace H28 := Lib.hid (H28.out.gr hg)
  replace HC := Lib.hid (HC.out.gr hg)
  replace HL := Lib.hid (HL.out.gr hg)
  replace HG := Lib.hid (Gr.trans HG.out hg)
  clear hg
  go_wp2_with fail
  refine (al_leR _ HC.out Ha.out Hb.out).mono ?_; rintro e x29 ⟨p30, n30, c30, rfl, ho, hg⟩
  have H30 := Lib.hid ho
  clear ho
  replace Ha := Lib.hid (Ha.out.gr hg)
  replace Hb := Lib.hid (Hb.out.gr hg)
  replace Hc := Lib.hid (Hc.out.gr hg)
  replace H28 := Lib.hid (H28.out.gr hg)
  replace H29 := Lib.hid (H29.out.gr hg)
  replace HC := Lib.hid (HC.out.gr hg)
  replace HL := Lib.hid (HL.out.gr hg)
  replace HG := Lib.hid (Gr.trans HG.out hg)
  clear hg
  go_wp2_with fail
  refine (al_leR _ HC.out Ha.out Hc.out).mono ?_; rintro e x30 ⟨p31, n31, c31, rfl, ho, hg⟩
  have H31 := Lib.hid ho
  clear ho
  replace Ha := Lib.hid (Ha.out.gr hg)
  replace Hb := Lib.hid (Hb.out.gr hg)
  replace Hc := Lib.hid (Hc.out.gr hg)
  replace H28 := Lib.hid (H28.out.gr hg)
  replace H29 := Lib.hid (H29.out.gr hg)
  replace H30 := Lib.hid (H30.out.gr hg)
  replace HC := Lib.hid (HC.out.gr hg)
  replace HL := Lib.hid (HL.out.gr hg)
  replace HG := Lib.hid (Gr.trans HG.out hg)
  clear hg
  go_wp2_with fail
  refine (al_anR _ HC.out H30.out H31.out).mono ?_; rintro e x31 ⟨p32, n32, c32, rfl, ho, hg⟩
  have H32 := Lib.hid ho
  clear ho
  replace Ha := Lib.hid (Ha.out.gr hg)
  replace Hb := Lib.hid (Hb.out.gr hg)
  replace Hc := Lib.hid (Hc.out.gr hg)
  replace H28 := Lib.hid (H28.out.gr hg)
  replace H29 := Lib.hid (H29.out.gr hg)
  replace H30 := Lib.hid (H30.out.gr hg)
  replace H31 := Lib.hid (H31.out.gr hg)
  replace HC := Lib.hid (HC.out.gr hg)
  replace HL := Lib.hid (HL.out.gr hg)
  replace HG := Lib.hid (Gr.trans HG.out hg)
  clear hg
  replace HL := Lib.hid (EqL.cons H29.out H32.out E8.out HL.out)
  clear H28 H29 H30 H31 H32 E8
  go_wp2_with fail
  refine (al_leR _ HC.out Ha.out Hb.out).mono ?_; rintro e x32 ⟨p33, n33, c33, rfl, ho, hg⟩
  have H33 := Lib.hid ho
  clear ho
  replace Ha := Lib.hid (Ha.out.gr hg)
  replace Hb := Lib.hid (Hb.out.gr hg)
  replace Hc := Lib.hid (Hc.out.gr hg)
  replace HC := Lib.hid (HC.out.gr hg)
  replace HL := Lib.hid (HL.out.gr hg)
  replace HG := Lib.hid (Gr.trans HG.out hg)
  clear hg
  go_wp2_with fail
  refine (al_anR _ HC.out Ha.out Hb.out).mono ?_; rintro e x33 ⟨p34, n34, c34, rfl, ho, hg⟩
  have H34 := Lib.hid ho
  clear ho
  replace Ha := Lib.hid (Ha.out.gr hg)
  replace Hb := Lib.hid (Hb.out.gr hg)
  replace Hc := Lib.hid (Hc.out.gr hg)
  replace H33 := Lib.hid (H33.out.gr hg)
  replace HC := Lib.hid (HC.out.gr hg)
  replace HL := Lib.hid (HL.out.gr hg)
  replace HG := Lib.hid (Gr.trans HG.out hg)
  clear hg
  go_wp2_with fail
  refine (al_orR _ HC.out H33.out H34.out).mono ?_; rintro e x34 ⟨p35, n35, c35, rfl, ho, hg⟩
  have H35 := Lib.hid ho
  clear ho
  replace Ha := Lib.hid (Ha.out.gr hg)
  replace Hb := Lib.hid (Hb.out.gr hg)
  replace Hc := Lib.hid (Hc.out.gr hg)
  replace H33 := Lib.hid (H33.out.gr hg)
  replace H34 := Lib.hid (H34.out.gr hg)
  replace HC := Lib.hid (HC.out.gr hg)
  replace HL := Lib.hid (HL.out.gr hg)
  replace HG := Lib.hid (Gr.trans HG.out hg)
  clear hg
  replace HL := Lib.hid (EqL.cons H35.out Ha.out E9.out HL.out)
  clear H33 H34 H35 E9
  go_wp2_with fail
  refine (al_leR _ HC.out Ha.out Hb.out).mono ?_; rintro e x35 ⟨p36, n36, c36, rfl, ho, hg⟩
  have H36 := Lib.hid ho
  clear ho
  replace Ha := Lib.hid (Ha.out.gr hg)
  replace Hb := Lib.hid (Hb.out.gr hg)
  replace Hc := Lib.hid (Hc.out.gr hg)
  replace HC := Lib.hid (HC.out.gr hg)
  replace HL := Lib.hid (HL.out.gr hg)
  replace HG := Lib.hid (Gr.trans HG.out hg)
  clear hg
  go_wp2_with fail
  refine (al_anR _ HC.out H36.out Hb.out).mono ?_; rintro e x36 ⟨p37, n37, c37, rfl, ho, hg⟩
  have H37 := Lib.hid ho
  clear ho
  replace Ha := Lib.hid (Ha.out.gr hg)
  replace Hb := Lib.hid (Hb.out.gr hg)
  replace Hc := Lib.hid (Hc.out.gr hg)
  replace H36 := Lib.hid (H36.out.gr hg)
  replace HC := Lib.hid (HC.out.gr hg)
  replace HL := Lib.hid (HL.out.gr hg)
  replace HG := Lib.hid (Gr.trans HG.out hg)
  clear hg
  replace HL := Lib.hid (EqL.cons H37.out (SlR.nil _) E10.out HL.out)
  clear H36 H37 E10
  have HB := Lib.hid (PB.new (t := 33) (cs := #[.slice p1 n1 c1, .slice p2 n2 c2, .slice p3 n3 c3, .slice p4 n4 c4, .slice p6 n6 c6, .slice p8 n8 c8, .slice p10 n10 c10, .slice p12 n12 c12, .slice p14 n14 c14, .slice p17 n17 c17, .slice p19 n19 c19, .slice p22 n22 c22, .slice p24 n24 c24, .slice p27 n27 c27, .slice p29 n29 c29, .slice p32 n32 c32, .slice p35 n35 c35, .slice a na ca, .slice p37 n37 c37, .slice none 0 0]) HL.out rfl rfl)
  have hg : Gr x36 (x36.alloc (.cells #[.slice p1 n1 c1, .slice p2 n2 c2, .slice p3 n3 c3, .slice p4 n4 c4, .slice p6 n6 c6, .slice p8 n8 c8, .slice p10 n10 c10, .slice p12 n12 c12, .slice p14 n14 c14, .slice p17 n17 c17, .slice p19 n19 c19, .slice p22 n22 c22, .slice p24 n24 c24, .slice p27 n27 c27, .slice p29 n29 c29, .slice p32 n32 c32, .slice p35 n35 c35, .slice a na ca, .slice p37 n37 c37, .slice none 0 0] 33)) := (Gr.refl _).alloc _
  replace Ha := Lib.hid (Ha.out.gr hg)
  replace Hb := Lib.hid (Hb.out.gr hg)
  replace Hc := Lib.hid (Hc.out.gr hg)
  replace HC := Lib.hid (HC.out.gr hg)
  replace HG := Lib.hid (Gr.trans HG.out hg)
  clear hg HL
  go_wp2_with fail
  generalize x36.alloc (.cells #[.slice p1 n1 c1, .slice p2 n2 c2, .slice p3 n3 c3, .slice p4 n4 c4, .slice p6 n6 c6, .slice p8 n8 c8, .slice p10 n10 c10, .slice p12 n12 c12, .slice p14 n14 c14, .slice p17 n17 c17, .slice p19 n19 c19, .slice p22 n22 c22, .slice p24 n24 c24, .slice p27 n27 c27, .slice p29 n29 c29, .slice p32 n32 c32, .slice p35 n35 c35, .slice a na ca, .slice p37 n37 c37, .slice none 0 0] 33) = V at *
  go_loopw [184] (fun i wr => ∃ k : Nat, i = .int .i64 k ∧ k ≤ 10 ∧ Hid (Gr V wr)) (fun i _ => 10 - (intOf i).toNat)
  case atStart => exact ⟨0, rfl, by omega, Lib.hid (Gr.refl V)⟩
  case round =>
    obtain ⟨k, rfl, hk, HH⟩ := hrel
    by_cases hlt : k < 10
    · obtain ⟨p, n, c', p', n', d', c0, c1, hE⟩ := (HB.out.gr HH.out) k hlt
      have HE := Lib.hid (fun w' (hg : Gr wr w') => (hE.gr hg).equal)
      have k0 : (wr.alloc (.cells #[.slice p n c', .slice p' n' d'] 33)).cell? ⟨wr.heap.size, 0, none⟩ = some (.slice p n c') := by simp
      have k1 : (wr.alloc (.cells #[.slice p n c', .slice p' n' d'] 33)).cell? ⟨wr.heap.size, 1, none⟩ = some (.slice p' n' d') := by simp
      have hga : Gr wr (wr.alloc (.cells #[.slice p n c', .slice p' n' d'] 33)) := (Gr.refl _).alloc _
      obtain ⟨q0, q1, -⟩ := id (HC.out.gr (Gr.trans HH.out hga))
      have HGa := Lib.hid hga
      clear hE hga
      go_wp2_with fail
      refine (HE.out _ HGa.out).mono ?_; rintro e w5 ⟨rfl, hg⟩
      have HH5 := Lib.hid (Gr.trans (Gr.trans HH.out HGa.out) hg)
      clear hg HE c0 c1 k0 k1 q0 q1
      go_wp2
      go_roundw
      case rel => exact ⟨k + 1, by go_num, by omega, HH5⟩
      case measure => simp [intOf]; omega
    · obtain rfl : k = 10 := by omega
      have hg := HH.out
      replace Ha := Lib.hid (Ha.out.gr hg)
      replace Hb := Lib.hid (Hb.out.gr hg)
      replace Hc := Lib.hid (Hc.out.gr hg)
      replace HC := Lib.hid (HC.out.gr hg)
      replace HG := Lib.hid (Gr.trans HG.out hg)
      clear hg HH HB Hc
      go_wp2_with fail
      refine Ha.out.count.mono ?_; rintro e z1 ⟨rfl, hg⟩
      replace Ha := Lib.hid (Ha.out.gr hg)
      replace Hb := Lib.hid (Hb.out.gr hg)
      replace HC := Lib.hid (HC.out.gr hg)
      replace HG := Lib.hid (Gr.trans HG.out hg)
      clear hg
      generalize (chans A).length = la at *
      go_wp2_with fail
      refine Hb.out.count.mono ?_; rintro e z2 ⟨rfl, hg⟩
      replace Ha := Lib.hid (Ha.out.gr hg)
      replace Hb := Lib.hid (Hb.out.gr hg)
      replace HC := Lib.hid (HC.out.gr hg)
      replace HG := Lib.hid (Gr.trans HG.out hg)
      clear hg
      generalize (chans B).length = lb at *
      go_wp2_with fail
      refine (al_orR _ HC.out Ha.out Hb.out).mono ?_; rintro e z3 ⟨p40, n40, c40, rfl, ho, hg⟩
      have H40 := Lib.hid ho
      clear ho
      replace Ha := Lib.hid (Ha.out.gr hg)
      replace Hb := Lib.hid (Hb.out.gr hg)
      replace HC := Lib.hid (HC.out.gr hg)
      replace HG := Lib.hid (Gr.trans HG.out hg)
      clear hg
      go_wp2_with fail
      refine H40.out.count.mono ?_; rintro e z4 ⟨rfl, hg⟩
      replace Ha := Lib.hid (Ha.out.gr hg)
      replace Hb := Lib.hid (Hb.out.gr hg)
      replace HC := Lib.hid (HC.out.gr hg)
      replace HG := Lib.hid (Gr.trans HG.out hg)
      clear hg
      generalize (chans (orR A B)).length = lu at *
      go_wp2_with fail
      refine (al_anR _ HC.out Ha.out Hb.out).mono ?_; rintro e z5 ⟨p41, n41, c41, rfl, ho, hg⟩
      have H41 := Lib.hid ho
      clear ho
      replace Ha := Lib.hid (Ha.out.gr hg)
      replace Hb := Lib.hid (Hb.out.gr hg)
      replace HC := Lib.hid (HC.out.gr hg)
      replace HG := Lib.hid (Gr.trans HG.out hg)
      clear hg
      go_wp2_with fail
      refine H41.out.count.mono ?_; rintro e z6 ⟨rfl, hg⟩
      replace HC := Lib.hid (HC.out.gr hg)
      replace HG := Lib.hid (Gr.trans HG.out hg)
      clear hg
      generalize (chans (anR A B)).length = ln at *
      obtain ⟨q0, q1, -⟩ := id HC.out
      have hs : (la : Int) + (lb : Int) = (lu : Int) + (ln : Int) := by have := EC.out; omega
      go_wp2_with fail
      refine (AW.out _ HG.out).mono ?_; rintro e z7 ⟨rfl, hg⟩
      replace HG := Lib.hid (Gr.trans HG.out hg)
      clear hg q0 q1
      go_wp2
      go_ret
      exact ⟨rfl, HG.out⟩
end Go.Proofs.YtjideokeokmbaaaGreatDoor
