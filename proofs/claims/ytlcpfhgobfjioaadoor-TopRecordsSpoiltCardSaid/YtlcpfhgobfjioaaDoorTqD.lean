/- T4: TopRecordsSpoilt. -/
import Derived.Test.YtlcpfhgobfjioaaDoorTqC
set_option linter.unusedVariables false
set_option linter.unusedSimpArgs false
namespace Go.Proofs.YtlcpfhgobfjioaaDoor
open Go.RowKit Go.Shelf
open Z Rc
set_option maxHeartbeats 4000000 in
set_option maxRecDepth 100000 in
theorem top_TopRecordsSpoilt (a : Option Addr) (l : List E) (cap : Nat) (x y m : Int) (w : World) (hr : RdE w a l) (hl : l.length ≤ cap) (hc : cap ≤ maxLen) (hz : ∀ x ∈ l, x.2.size ≤ maxLen) (hx : 0 ≤ x ∧ x ≤ 255) (hy : 0 ≤ y ∧ y ≤ 255) (hm : 0 ≤ m ∧ m ≤ 255) :
    Calls Tryd.prog 7 #[.slice a l.length cap, .agg #[.int .u8 x, .int .u8 y], .int .u8 m] w fun e w' => e = .returned (.bool true) ∧ Gr w w' := by
  have PR := Lib.hid top_playRecords
  have PE := Lib.hid (fun w (hr : RdE w a l) => top_playEntries a l cap w hr hl hc hz)
  have HG0 := Lib.hid ((Gr.refl w).alloc (.cells #[.int .u8 x, .int .u8 y] 69))
  have HR0 := Lib.hid (hr.gr HG0.out)
  have e0 : (w.alloc (.cells #[.int .u8 x, .int .u8 y] 69)).cell? ⟨w.heap.size, 0, none⟩ = some (.int .u8 x) := by simp
  have e1 : (w.alloc (.cells #[.int .u8 x, .int .u8 y] 69)).cell? ⟨w.heap.size, 1, none⟩ = some (.int .u8 y) := by simp
  have HE0 := Lib.hid e0
  have HE1 := Lib.hid e1
  have HZ := Lib.hid hz
  have SM := Lib.hid (tq_small (l := l))
  obtain ⟨n, hn⟩ : ∃ n, l.length = n := ⟨_, rfl⟩
  have HN := Lib.hid hn
  rw [hn] at PE hl ⊢
  unfold maxLen at hc
  clear hr hn hz
  cases hs : smallB l
  · rw [hs] at PE
    clear hs SM HZ e0 e1
    go_enter Tryd.func7, Tryd.ntmps7
    go_wp2_with fail
    refine (PE.out _ HR0.out).mono ?_; rintro e w1 ⟨rfl, hg⟩
    have HG1 := Lib.hid (Gr.trans HG0.out hg)
    clear hg
    go_wp2_with fail
    refine (PR.out _).mono ?_; rintro e w2 ⟨rfl, hg⟩
    have HG2 := Lib.hid (Gr.trans HG1.out hg)
    clear hg
    go_wp2
    go_ret
    exact ⟨rfl, HG2.out⟩
  · rw [hs] at PE
    obtain ⟨s1, s2, s3, s4⟩ := SM.out hs
    rw [HN.out] at s1 s3
    have HCK := Lib.hid s2
    have HSZ := Lib.hid s4
    clear hs SM HZ s2 s4
    by_cases h0 : n = 0
    · have hz : ((n : Int) == 0) = true := by simp [h0]
      clear h0 e0 e1
      go_enter Tryd.func7, Tryd.ntmps7
      go_wp2_with fail
      refine (PE.out _ HR0.out).mono ?_; rintro e w1 ⟨rfl, hg⟩
      have HG1 := Lib.hid (Gr.trans HG0.out hg)
      clear hg
      go_wp2_with fail
      refine (PR.out _).mono ?_; rintro e w2 ⟨rfl, hg⟩
      have HG2 := Lib.hid (Gr.trans HG1.out hg)
      clear hg
      go_wp2
      go_ret
      exact ⟨rfl, HG2.out⟩
    · have hz : ((n : Int) == 0) = false := by rw [beq_eq_false_iff_ne]; omega
      have hpos : 0 < n := by omega
      obtain ⟨k, hk⟩ : ∃ k : Nat, x % (n : Int) = (k : Int) := ⟨(x % (n : Int)).toNat, by rw [Int.toNat_of_nonneg]; exact Int.emod_nonneg _ (by omega)⟩
      have hkt : x.tmod (n : Int) = (k : Int) := by rw [Int.tmod_eq_emod_of_nonneg hx.1]; exact hk
      have hkn : k < n := by
        have := Int.emod_lt_of_pos x (show (0 : Int) < (n : Int) by omega)
        omega
      have k1 : k < l.length := by rw [HN.out]; exact hkn
      clear h0
      go_enter Tryd.func7, Tryd.ntmps7
      go_wp2_with fail
      refine (PE.out _ HR0.out).mono ?_; rintro e w1 ⟨rfl, hg⟩
      have HG1 := Lib.hid (Gr.trans HG0.out hg)
      have HR1 := Lib.hid (HR0.out.gr hg)
      have f0 := gr_cell hg HE0.out
      have f1 := gr_cell hg HE1.out
      have HF0 := Lib.hid f0
      have HF1 := Lib.hid f1
      obtain ⟨b, o, rfl, c0, c1⟩ := HR1.out k k1
      obtain ⟨d, hd⟩ : ∃ d, l[k].2 = d := ⟨_, rfl⟩
      have HD := Lib.hid hd
      rw [hd] at c1
      have hds : d.size ≤ 300 := by rw [← hd]; exact HSZ.out _ (List.getElem_mem k1)
      clear hg e0 e1 HE0 HE1 HR0 HG0 PE hd c0
      by_cases hd0 : d.size = 0
      · have hdz : ((d.size : Int) == 0) = true := by simp [hd0]
        clear hd0
        go_wp2_with fail
        refine (PR.out _).mono ?_; rintro e w2 ⟨rfl, hg⟩
        have HG2 := Lib.hid (Gr.trans HG1.out hg)
        clear hg
        go_wp2
        go_ret
        exact ⟨rfl, HG2.out⟩
      · have hdz : ((d.size : Int) == 0) = false := by rw [beq_eq_false_iff_ne]; omega
        have J1 := Lib.hid (fun w (h : RdE w (some ⟨b, o, none⟩) (l.take k)) => rc_Join (some ⟨b, o, none⟩) (l.take k) cap w h (by rw [List.length_take]; omega) (fun x hx => Nat.le_trans (HSZ.out x (List.mem_of_mem_take hx)) (by unfold maxLen; omega)))
        have J2 := Lib.hid (fun w (h : RdE w (some ⟨b, o, none⟩) l) => rc_Join (some ⟨b, o, none⟩) l cap w h (by rw [HN.out]; omega) (fun x hx => Nat.le_trans (HSZ.out x hx) (by unfold maxLen; omega)))
        unfold joinE xV at J1 J2
        rw [joE_ok.2 (fun x hx => HCK.out x (List.mem_of_mem_take hx)), if_neg (by decide), show (l.take k).length = k by rw [List.length_take]; omega] at J1
        rw [joE_ok.2 HCK.out, if_neg (by decide), HN.out] at J2
        simp only at J1 J2
        have AT := Lib.hid (fun p hp => joB_at (l := l) (p := p) k1 hp)
        have AL := Lib.hid (fun p c b hp hb hne hm => al_spoilt (l := l) (p := p) (c := c) (b := b) k1 HCK.out hp hb hne hm)
        rw [HD.out] at AT AL
        obtain ⟨p, hp⟩ : ∃ p : Nat, y % (d.size : Int) = (p : Int) := ⟨(y % (d.size : Int)).toNat, by rw [Int.toNat_of_nonneg]; exact Int.emod_nonneg _ (by omega)⟩
        have hpt : y.tmod (d.size : Int) = (p : Int) := by rw [Int.tmod_eq_emod_of_nonneg hy.1]; exact hp
        have hpd : p < d.size := by
          have := Int.emod_lt_of_pos y (show (0 : Int) < (d.size : Int) by omega)
          omega
        have p1 : p < d.data.toList.length := by simpa using hpd
        have AT := Lib.hid (AT.out p p1)
        have AL := Lib.hid (fun c b hb hne hm => AL.out p c b p1 hb hne hm)
        obtain ⟨P, hP⟩ : ∃ P, str (joB (l.take k)) = P := ⟨_, rfl⟩
        obtain ⟨S, hS⟩ : ∃ S, str (joB l) = S := ⟨_, rfl⟩
        have hPz : P.size = (joB (l.take k)).length := by rw [← hP, str_sz]
        have hSz : S.size = (joB l).length := by rw [← hS, str_sz]
        have HSD : Hid (S.data.toList = joB l) := Lib.hid (by rw [← hS]; exact data_str _)
        rw [hP] at J1
        rw [hS] at J2
        have hPle : P.size ≤ 6100 := by
          have := joB_append (l.take k) (l.drop k)
          rw [List.take_append_drop] at this
          rw [this, List.length_append] at s3
          omega
        have hSle : S.size ≤ 6100 := by omega
        rw [← HSD.out, ← hPz] at AT AL
        have hi : P.size + 3 + p < S.size := by
          have h := AT.out
          rw [List.getElem?_eq_getElem p1] at h
          have := (List.getElem?_eq_some_iff.1 h).1
          simpa using this
        clear hd0 hP hS hSz hPz s3 HD
        go_wp2_with fail
        refine (J1.out _ (tq_take HR1.out k)).mono ?_; rintro e w2 ⟨rfl, hg⟩
        have HG2 := Lib.hid (Gr.trans HG1.out hg)
        have HR2 := Lib.hid (HR1.out.gr hg)
        have f0' := gr_cell hg HF0.out
        have f1' := gr_cell hg HF1.out
        have HF0 := Lib.hid f0'
        have HF1 := Lib.hid f1'
        have c1' := gr_cell hg c1
        have HC1 := Lib.hid c1'
        clear hg c1 f0 f1 HR1 HG1 J1 f0' f1' c1'
        go_wp2_with fail
        refine (J2.out _ HR2.out).mono ?_; rintro e w3 ⟨rfl, hg⟩
        have HG3 := Lib.hid (Gr.trans HG2.out hg)
        have HR3 := Lib.hid (HR2.out.gr hg)
        have f1 := gr_cell hg HF1.out
        have c1 := gr_cell hg HC1.out
        clear hg HR2 HG2 J2 HF0 HF1 HC1
        go_wp2_with fail
        go_quiet (fail)
        rename_i nq
        have HG4 := Lib.hid (below_drewN HG3.out nq)
        have HR4 := Lib.hid (HR3.out.gr (below_drewN (Gr.refl w3) nq))
        generalize w3.drewN nq = w4 at *
        obtain ⟨i, hiI⟩ : ∃ i, i = P.size + 3 + p := ⟨_, rfl⟩
        rw [show ((P.size : Int) + 3 + (p : Int)) = ((i : Nat) : Int) by omega]
        rw [← hiI] at hi AT AL
        have HI := Lib.hid hiI
        obtain ⟨pi, hpi⟩ : ∃ pi : Nat, S[i].toNat = pi := ⟨_, rfl⟩
        have hpb : pi < 256 := by rw [← hpi]; exact UInt8.toNat_lt _
        have hpiI : (S[i].toNat : Int) = (pi : Int) := by rw [hpi]
        obtain ⟨c, hc8, hcb⟩ : ∃ c : Nat, ((pi : Int) + m) % 256 = (c : Int) ∧ c < 256 := ⟨(((pi : Int) + m) % 256).toNat, by omega, by omega⟩
        have hcw : IntKind.u8.wrap ((pi : Int) + m) = (c : Int) := by rw [← hc8]; rfl
        have hbb : d.data.toList[p] = by8 pi := by
          have h := AT.out
          rw [List.getElem?_eq_getElem p1] at h
          obtain ⟨h1, h2⟩ := List.getElem?_eq_some_iff.1 h
          rw [← h2, ← hpi]
          exact (by8_back S[i]).symm
        have AL := Lib.hid (fun hne hm => AL.out (by8 c) (by8 pi) hbb hne hm)
        have HPI := Lib.hid hpi
        clear hbb AT hpi hiI hpt hp f1 c1
        obtain ⟨t, ht⟩ : ∃ t : Nat, ((c : Int) + (pi : Int)) % 256 = (t : Int) := ⟨(c + pi) % 256, by omega⟩
        have htw : IntKind.u8.wrap ((c : Int) + (pi : Int)) = (t : Int) := by rw [← ht]; rfl
        by_cases hA : c = pi
        · have hcp : ((c : Int) == (pi : Int)) = true := by simp [hA]
          clear hA AL
          go_wp2_with fail
          refine (PR.out _).mono ?_; rintro e w5 ⟨rfl, hg⟩
          have HG5 := Lib.hid (Gr.trans HG4.out hg)
          clear hg
          go_wp2
          go_ret
          exact ⟨rfl, HG5.out⟩
        · have hcp : ((c : Int) == (pi : Int)) = false := by rw [beq_eq_false_iff_ne]; omega
          by_cases hB : t = 255 ∧ (c = 0 ∨ pi = 0)
          · obtain ⟨hB1, hB2⟩ := hB
            have ht255 : ((t : Int) == 255) = true := by simp [hB1]
            clear hA AL hB1
            by_cases hC : c = 0
            · have hc0 : ((c : Int) == 0) = true := by simp [hC]
              clear hC hB2
              go_wp2_with fail
              refine (PR.out _).mono ?_; rintro e w5 ⟨rfl, hg⟩
              have HG5 := Lib.hid (Gr.trans HG4.out hg)
              clear hg
              go_wp2
              go_ret
              exact ⟨rfl, HG5.out⟩
            · have hc0 : ((c : Int) == 0) = false := by rw [beq_eq_false_iff_ne]; omega
              have hp0 : ((pi : Int) == 0) = true := by simp; omega
              clear hC hB2
              go_wp2_with fail
              refine (PR.out _).mono ?_; rintro e w5 ⟨rfl, hg⟩
              have HG5 := Lib.hid (Gr.trans HG4.out hg)
              clear hg
              go_wp2
              go_ret
              exact ⟨rfl, HG5.out⟩
          · have hset := set_str S i (by8 c) hi
            have ALV := AL.out (fun e => by
              have := congrArg UInt8.toNat e
              rw [by8_toNat hcb, by8_toNat hpb] at this
              exact hA this) (by rw [by8_toNat hcb, by8_toNat hpb]; intro e; exact hB ⟨by omega, e.2⟩)
            have hzz : (S.extract 0 i ++ str [by8 c] ++ S.extract (i + 1) S.size).size ≤ 100000 := by rw [hset, str_sz, List.length_set, sz]; omega
            have AA := Lib.hid (fun w => rc_All (S.extract 0 i ++ str [by8 c] ++ S.extract (i + 1) S.size) w hzz)
            rw [hset, data_str, ALV, ← hset] at AA
            have hkl : (l.take k).length = k := by rw [List.length_take]; omega
            simp only [hkl] at AA
            have HCV := Lib.hid (fun (b : Nat) (w1 : World) => cvtC (b := b) (w1 := w1) hcb)
            have q1 : (0 : Int) ≤ (i : Int) := by omega
            have q2 : (i : Int) ≤ (S.size : Int) := by omega
            have q3 : (i : Int) + 1 ≤ (S.size : Int) := by omega
            have q4 : (0 : Int) ≤ (i : Int) + 1 := by omega
            have q5 : IntKind.i64.wrap ((i : Int) + 1) = (i : Int) + 1 := by rw [IntKind.wrap_i64]; omega
            have z1 : (str [by8 c]).size = 1 := by rw [str_sz]; simp
            have z2 : (S.extract 0 i).size ≤ 6100 := by rw [ByteArray.size_extract]; omega
            have z3 : (S.extract (i + 1) S.size).size ≤ 6100 := by rw [ByteArray.size_extract]; omega
            have haddA : ∀ w, (Op.stringOp .add (S.extract 0 i) (str [by8 c])).run Tryd.prog w = .ok (.string (S.extract 0 i ++ str [by8 c])) w := fun w => run_string_add_sum _ _ _ (by omega)
            have haddB : ∀ w, (Op.stringOp .add (S.extract 0 i ++ str [by8 c]) (S.extract (i + 1) S.size)).run Tryd.prog w = .ok (.string (S.extract 0 i ++ str [by8 c] ++ S.extract (i + 1) S.size)) w := fun w => run_string_add_sum _ _ _ (by rw [ByteArray.size_append]; omega)
            have SE := Lib.hid (fun (w : World) (a2 : Option Addr) (c2 : Nat) (h1 : RdE w a2 (l.take k)) (h2 : RdE w (some ⟨b, o, none⟩) (l.take k)) => sl_SameE (ca := c2) (cb := cap) h1 h2 (by omega))
            rw [hkl] at SE
            have z255 : ((t : Int) == 255) = true → ((c : Int) == 0) = false ∧ ((pi : Int) == 0) = false := fun e => by
              rw [beq_iff_eq] at e
              constructor <;> rw [beq_eq_false_iff_ne] <;> intro h <;> exact hB ⟨by omega, by omega⟩
            have Z255 := Lib.hid z255
            clear hset ALV hzz hkl hA hB AL z255 z1 z2 z3
            have hgo : (((t : Int) == 255) = false) ∨ (((t : Int) == 255) = true ∧ ((c : Int) == 0) = false ∧ ((pi : Int) == 0) = false) := by
              cases h : ((t : Int) == 255)
              · exact .inl rfl
              · exact .inr ⟨rfl, Z255.out h⟩
            clear Z255
            have FIN : True := trivial
            rcases hgo with ht255 | ⟨ht255, hc0, hp0⟩
            · go_wp2_with fail
              refine wp_region_held (S := fun W : World => Gr w4 W) (by kernel_rfl) ?_
              change wpAnyH _ _ _ _ _ _ _ _ (World.drew _)
              have hS : Gr w4 w4.drew := (Gr.refl w4).drew
              have HG5 := Lib.hid (show Gr w w4.drew from HG4.out.drew)
              have HR5 := Lib.hid (show RdE w4.drew (some ⟨b, o, none⟩) l from HR4.out.gr hS)
              clear HG4 HR4
              generalize w4.drew = W1 at *
              refine wpAnyH_take (i := 0) (v := .string S) rfl (by kernel_rfl) (by kernel_rfl) (by kernel_rfl) (fun _ _ _ h => h) (Or.inl ⟨by rfl, ?_⟩) hS ?_
              · intro w hSw; go_simp
              try simp only [Act.put, List.getElem_toArray, List.getElem_cons_succ, List.getElem_cons_zero, List.setIfInBounds_toArray, List.set_cons_zero, List.set_cons_succ]
              refine wpAnyH_take (i := 1) (v := .int .i64 (i : Int)) rfl (by kernel_rfl) (by kernel_rfl) (by kernel_rfl) (fun _ _ _ h => h) (Or.inl ⟨by rfl, ?_⟩) hS ?_
              · intro w hSw; go_simp
              try simp only [Act.put, List.getElem_toArray, List.getElem_cons_succ, List.getElem_cons_zero, List.setIfInBounds_toArray, List.set_cons_zero, List.set_cons_succ]
              refine wpAnyH_take (i := 2) (v := .string (S.extract 0 i)) rfl (by kernel_rfl) (by kernel_rfl) (by kernel_rfl) (fun _ _ _ h => h) (Or.inl ⟨by rfl, ?_⟩) hS ?_
              · intro w hSw; go_simp
              try simp only [Act.put, List.getElem_toArray, List.getElem_cons_succ, List.getElem_cons_zero, List.setIfInBounds_toArray, List.set_cons_zero, List.set_cons_succ]
              refine wpAnyH_take (i := 3) (v := .int .u8 (c : Int)) rfl (by kernel_rfl) (by kernel_rfl) (by kernel_rfl) (fun _ _ _ h => h) (Or.inl ⟨by rfl, ?_⟩) hS ?_
              · intro w hSw; go_simp
              try simp only [Act.put, List.getElem_toArray, List.getElem_cons_succ, List.getElem_cons_zero, List.setIfInBounds_toArray, List.set_cons_zero, List.set_cons_succ]
              refine wpAnyH_take (i := 7) (v := .string S) rfl (by kernel_rfl) (by kernel_rfl) (by kernel_rfl) (fun _ _ _ h => h) (Or.inl ⟨by rfl, ?_⟩) hS ?_
              · intro w hSw; go_simp
              try simp only [Act.put, List.getElem_toArray, List.getElem_cons_succ, List.getElem_cons_zero, List.setIfInBounds_toArray, List.set_cons_zero, List.set_cons_succ]
              refine wpAnyH_take (i := 8) (v := .int .i64 (i : Int)) rfl (by kernel_rfl) (by kernel_rfl) (by kernel_rfl) (fun _ _ _ h => h) (Or.inl ⟨by rfl, ?_⟩) hS ?_
              · intro w hSw; go_simp
              try simp only [Act.put, List.getElem_toArray, List.getElem_cons_succ, List.getElem_cons_zero, List.setIfInBounds_toArray, List.set_cons_zero, List.set_cons_succ]
              refine wpAnyH_take (i := 9) (v := .int .i64 ((i : Int) + 1)) rfl (by kernel_rfl) (by kernel_rfl) (by kernel_rfl) (fun _ _ _ h => h) (Or.inl ⟨by rfl, ?_⟩) hS ?_
              · intro w hSw; go_simp
              try simp only [Act.put, List.getElem_toArray, List.getElem_cons_succ, List.getElem_cons_zero, List.setIfInBounds_toArray, List.set_cons_zero, List.set_cons_succ]
              refine wpAnyH_take (i := 10) (v := .string (S.extract (i + 1) S.size)) rfl (by kernel_rfl) (by kernel_rfl) (by kernel_rfl) (fun _ _ _ h => h) (Or.inl ⟨by rfl, ?_⟩) hS ?_
              · intro w hSw; go_simp
              try simp only [Act.put, List.getElem_toArray, List.getElem_cons_succ, List.getElem_cons_zero, List.setIfInBounds_toArray, List.set_cons_zero, List.set_cons_succ]
              refine wpAnyH_ready (rs := [4]) (by kernel_rfl) (by simp) (AllReadyH.cons rfl (fun K' hK' => ?_) AllReadyH.nil)
              go_simp
              have hb : (W1.alloc (.cells #[.int .u8 (c : Int)] 5)).cell? ⟨W1.heap.size, 0, none⟩ = some (.int .u8 (c : Int)) := by simp
              have hcv := HCV.out _ _ hb
              have hg2 : Gr W1 (W1.alloc (.cells #[.int .u8 (c : Int)] 5)) := (Gr.refl _).alloc _
              have HG6 := Lib.hid (Gr.trans HG5.out hg2)
              have HR6 := Lib.hid (HR5.out.gr hg2)
              refine hK'.out _ _ (Gr.trans hS hg2) (fun hS => ?_)
              clear hK' K' HG5 HR5 hg2
              try simp only [Act.put, List.getElem_toArray, List.getElem_cons_succ, List.getElem_cons_zero, List.setIfInBounds_toArray, List.set_cons_zero, List.set_cons_succ]
              generalize W1.alloc (.cells #[.int .u8 (c : Int)] 5) = W2 at *
              generalize W1.heap.size = B at *
              refine wpAnyH_ready (rs := [5]) (by kernel_rfl) (by simp) (AllReadyH.cons rfl (fun K' hK' => ?_) AllReadyH.nil)
              go_simp
              refine hK'.out _ _ hS (fun hS => ?_)
              clear hK' K' hcv
              try simp only [Act.put, List.getElem_toArray, List.getElem_cons_succ, List.getElem_cons_zero, List.setIfInBounds_toArray, List.set_cons_zero, List.set_cons_succ]
              refine wpAnyH_take (i := 6) (v := .string (S.extract 0 i ++ str [by8 c])) rfl (by kernel_rfl) (by kernel_rfl) (by kernel_rfl) (fun _ _ _ h => h) (Or.inl ⟨by rfl, ?_⟩) hS ?_
              · intro w hSw; go_simp
              try simp only [Act.put, List.getElem_toArray, List.getElem_cons_succ, List.getElem_cons_zero, List.setIfInBounds_toArray, List.set_cons_zero, List.set_cons_succ]
              refine wpAnyH_take (i := 11) (v := .string (S.extract 0 i ++ str [by8 c] ++ S.extract (i + 1) S.size)) rfl (by kernel_rfl) (by kernel_rfl) (by kernel_rfl) (fun _ _ _ h => h) (Or.inl ⟨by rfl, ?_⟩) hS ?_
              · intro w hSw; go_simp
              try simp only [Act.put, List.getElem_toArray, List.getElem_cons_succ, List.getElem_cons_zero, List.setIfInBounds_toArray, List.set_cons_zero, List.set_cons_succ]
              refine wpAnyH_ready (rs := [12]) (by kernel_rfl) (by simp) (AllReadyH.cons rfl (fun K' hK' => ?_) AllReadyH.nil)
              go_simp
              refine (AA.out _).mono ?_; rintro e w6 ⟨⟨a2, c2, rfl, hr2, -, -⟩, h6⟩
              have HG7 := Lib.hid (Gr.trans HG6.out h6)
              have HR7 := Lib.hid (HR6.out.gr h6)
              have HA7 := Lib.hid hr2
              refine hK'.out _ _ (Gr.trans hS h6) (fun hS => ?_)
              clear hK' K' HG6 HR6 hr2 h6
              try simp only [Act.put, List.getElem_toArray, List.getElem_cons_succ, List.getElem_cons_zero, List.setIfInBounds_toArray, List.set_cons_zero, List.set_cons_succ]
              refine wpAnyH_take (i := 13) (v := .tuple #[.slice a2 k c2, .int .i64 (P.size : Int), .int .i64 17]) rfl (by kernel_rfl) (by kernel_rfl) (by kernel_rfl) (fun _ _ _ h => h) (Or.inl ⟨by rfl, ?_⟩) hS ?_
              · intro w hSw; go_simp
              try simp only [Act.put, List.getElem_toArray, List.getElem_cons_succ, List.getElem_cons_zero, List.setIfInBounds_toArray, List.set_cons_zero, List.set_cons_succ]
              refine wpAnyH_take (i := 14) (v := .slice a2 k c2) rfl (by kernel_rfl) (by kernel_rfl) (by kernel_rfl) (fun _ _ _ h => h) (Or.inl ⟨by rfl, ?_⟩) hS ?_
              · intro w hSw; go_simp
              try simp only [Act.put, List.getElem_toArray, List.getElem_cons_succ, List.getElem_cons_zero, List.setIfInBounds_toArray, List.set_cons_zero, List.set_cons_succ]
              refine wpAnyH_take (i := 15) (v := .int .i64 (P.size : Int)) rfl (by kernel_rfl) (by kernel_rfl) (by kernel_rfl) (fun _ _ _ h => h) (Or.inl ⟨by rfl, ?_⟩) hS ?_
              · intro w hSw; go_simp
              try simp only [Act.put, List.getElem_toArray, List.getElem_cons_succ, List.getElem_cons_zero, List.setIfInBounds_toArray, List.set_cons_zero, List.set_cons_succ]
              refine wpAnyH_take (i := 16) (v := .int .i64 17) rfl (by kernel_rfl) (by kernel_rfl) (by kernel_rfl) (fun _ _ _ h => h) (Or.inl ⟨by rfl, ?_⟩) hS ?_
              · intro w hSw; go_simp
              try simp only [Act.put, List.getElem_toArray, List.getElem_cons_succ, List.getElem_cons_zero, List.setIfInBounds_toArray, List.set_cons_zero, List.set_cons_succ]
              refine wpAnyH_take (i := 17) (v := .slice a2 k c2) rfl (by kernel_rfl) (by kernel_rfl) (by kernel_rfl) (fun _ _ _ h => h) (Or.inl ⟨by rfl, ?_⟩) hS ?_
              · intro w hSw; go_simp
              try simp only [Act.put, List.getElem_toArray, List.getElem_cons_succ, List.getElem_cons_zero, List.setIfInBounds_toArray, List.set_cons_zero, List.set_cons_succ]
              refine wpAnyH_take (i := 18) (v := .int .i64 (P.size : Int)) rfl (by kernel_rfl) (by kernel_rfl) (by kernel_rfl) (fun _ _ _ h => h) (Or.inl ⟨by rfl, ?_⟩) hS ?_
              · intro w hSw; go_simp
              try simp only [Act.put, List.getElem_toArray, List.getElem_cons_succ, List.getElem_cons_zero, List.setIfInBounds_toArray, List.set_cons_zero, List.set_cons_succ]
              refine wpAnyH_take (i := 19) (v := .int .i64 17) rfl (by kernel_rfl) (by kernel_rfl) (by kernel_rfl) (fun _ _ _ h => h) (Or.inl ⟨by rfl, ?_⟩) hS ?_
              · intro w hSw; go_simp
              try simp only [Act.put, List.getElem_toArray, List.getElem_cons_succ, List.getElem_cons_zero, List.setIfInBounds_toArray, List.set_cons_zero, List.set_cons_succ]
              refine wpAnyH_done (by kernel_rfl) ?_ _
              clear haddA haddB hb
              go_wp2_with fail
              refine (SE.out _ a2 c2 HA7.out (tq_take HR7.out k)).mono ?_; rintro e w7 ⟨rfl, hg⟩
              have HG8 := Lib.hid (Gr.trans HG7.out hg)
              clear hg HG7 HR7 HA7
              go_wp2_with fail
              refine (PR.out _).mono ?_; rintro e w8 ⟨rfl, hg⟩
              have HG9 := Lib.hid (Gr.trans HG8.out hg)
              clear hg HG8
              go_wp2
              go_ret
              exact ⟨rfl, HG9.out⟩
            · go_wp2_with fail
              refine wp_region_held (S := fun W : World => Gr w4 W) (by kernel_rfl) ?_
              change wpAnyH _ _ _ _ _ _ _ _ (World.drew _)
              have hS : Gr w4 w4.drew := (Gr.refl w4).drew
              have HG5 := Lib.hid (show Gr w w4.drew from HG4.out.drew)
              have HR5 := Lib.hid (show RdE w4.drew (some ⟨b, o, none⟩) l from HR4.out.gr hS)
              clear HG4 HR4
              generalize w4.drew = W1 at *
              refine wpAnyH_take (i := 0) (v := .string S) rfl (by kernel_rfl) (by kernel_rfl) (by kernel_rfl) (fun _ _ _ h => h) (Or.inl ⟨by rfl, ?_⟩) hS ?_
              · intro w hSw; go_simp
              try simp only [Act.put, List.getElem_toArray, List.getElem_cons_succ, List.getElem_cons_zero, List.setIfInBounds_toArray, List.set_cons_zero, List.set_cons_succ]
              refine wpAnyH_take (i := 1) (v := .int .i64 (i : Int)) rfl (by kernel_rfl) (by kernel_rfl) (by kernel_rfl) (fun _ _ _ h => h) (Or.inl ⟨by rfl, ?_⟩) hS ?_
              · intro w hSw; go_simp
              try simp only [Act.put, List.getElem_toArray, List.getElem_cons_succ, List.getElem_cons_zero, List.setIfInBounds_toArray, List.set_cons_zero, List.set_cons_succ]
              refine wpAnyH_take (i := 2) (v := .string (S.extract 0 i)) rfl (by kernel_rfl) (by kernel_rfl) (by kernel_rfl) (fun _ _ _ h => h) (Or.inl ⟨by rfl, ?_⟩) hS ?_
              · intro w hSw; go_simp
              try simp only [Act.put, List.getElem_toArray, List.getElem_cons_succ, List.getElem_cons_zero, List.setIfInBounds_toArray, List.set_cons_zero, List.set_cons_succ]
              refine wpAnyH_take (i := 3) (v := .int .u8 (c : Int)) rfl (by kernel_rfl) (by kernel_rfl) (by kernel_rfl) (fun _ _ _ h => h) (Or.inl ⟨by rfl, ?_⟩) hS ?_
              · intro w hSw; go_simp
              try simp only [Act.put, List.getElem_toArray, List.getElem_cons_succ, List.getElem_cons_zero, List.setIfInBounds_toArray, List.set_cons_zero, List.set_cons_succ]
              refine wpAnyH_take (i := 7) (v := .string S) rfl (by kernel_rfl) (by kernel_rfl) (by kernel_rfl) (fun _ _ _ h => h) (Or.inl ⟨by rfl, ?_⟩) hS ?_
              · intro w hSw; go_simp
              try simp only [Act.put, List.getElem_toArray, List.getElem_cons_succ, List.getElem_cons_zero, List.setIfInBounds_toArray, List.set_cons_zero, List.set_cons_succ]
              refine wpAnyH_take (i := 8) (v := .int .i64 (i : Int)) rfl (by kernel_rfl) (by kernel_rfl) (by kernel_rfl) (fun _ _ _ h => h) (Or.inl ⟨by rfl, ?_⟩) hS ?_
              · intro w hSw; go_simp
              try simp only [Act.put, List.getElem_toArray, List.getElem_cons_succ, List.getElem_cons_zero, List.setIfInBounds_toArray, List.set_cons_zero, List.set_cons_succ]
              refine wpAnyH_take (i := 9) (v := .int .i64 ((i : Int) + 1)) rfl (by kernel_rfl) (by kernel_rfl) (by kernel_rfl) (fun _ _ _ h => h) (Or.inl ⟨by rfl, ?_⟩) hS ?_
              · intro w hSw; go_simp
              try simp only [Act.put, List.getElem_toArray, List.getElem_cons_succ, List.getElem_cons_zero, List.setIfInBounds_toArray, List.set_cons_zero, List.set_cons_succ]
              refine wpAnyH_take (i := 10) (v := .string (S.extract (i + 1) S.size)) rfl (by kernel_rfl) (by kernel_rfl) (by kernel_rfl) (fun _ _ _ h => h) (Or.inl ⟨by rfl, ?_⟩) hS ?_
              · intro w hSw; go_simp
              try simp only [Act.put, List.getElem_toArray, List.getElem_cons_succ, List.getElem_cons_zero, List.setIfInBounds_toArray, List.set_cons_zero, List.set_cons_succ]
              refine wpAnyH_ready (rs := [4]) (by kernel_rfl) (by simp) (AllReadyH.cons rfl (fun K' hK' => ?_) AllReadyH.nil)
              go_simp
              have hb : (W1.alloc (.cells #[.int .u8 (c : Int)] 5)).cell? ⟨W1.heap.size, 0, none⟩ = some (.int .u8 (c : Int)) := by simp
              have hcv := HCV.out _ _ hb
              have hg2 : Gr W1 (W1.alloc (.cells #[.int .u8 (c : Int)] 5)) := (Gr.refl _).alloc _
              have HG6 := Lib.hid (Gr.trans HG5.out hg2)
              have HR6 := Lib.hid (HR5.out.gr hg2)
              refine hK'.out _ _ (Gr.trans hS hg2) (fun hS => ?_)
              clear hK' K' HG5 HR5 hg2
              try simp only [Act.put, List.getElem_toArray, List.getElem_cons_succ, List.getElem_cons_zero, List.setIfInBounds_toArray, List.set_cons_zero, List.set_cons_succ]
              generalize W1.alloc (.cells #[.int .u8 (c : Int)] 5) = W2 at *
              generalize W1.heap.size = B at *
              refine wpAnyH_ready (rs := [5]) (by kernel_rfl) (by simp) (AllReadyH.cons rfl (fun K' hK' => ?_) AllReadyH.nil)
              go_simp
              refine hK'.out _ _ hS (fun hS => ?_)
              clear hK' K' hcv
              try simp only [Act.put, List.getElem_toArray, List.getElem_cons_succ, List.getElem_cons_zero, List.setIfInBounds_toArray, List.set_cons_zero, List.set_cons_succ]
              refine wpAnyH_take (i := 6) (v := .string (S.extract 0 i ++ str [by8 c])) rfl (by kernel_rfl) (by kernel_rfl) (by kernel_rfl) (fun _ _ _ h => h) (Or.inl ⟨by rfl, ?_⟩) hS ?_
              · intro w hSw; go_simp
              try simp only [Act.put, List.getElem_toArray, List.getElem_cons_succ, List.getElem_cons_zero, List.setIfInBounds_toArray, List.set_cons_zero, List.set_cons_succ]
              refine wpAnyH_take (i := 11) (v := .string (S.extract 0 i ++ str [by8 c] ++ S.extract (i + 1) S.size)) rfl (by kernel_rfl) (by kernel_rfl) (by kernel_rfl) (fun _ _ _ h => h) (Or.inl ⟨by rfl, ?_⟩) hS ?_
              · intro w hSw; go_simp
              try simp only [Act.put, List.getElem_toArray, List.getElem_cons_succ, List.getElem_cons_zero, List.setIfInBounds_toArray, List.set_cons_zero, List.set_cons_succ]
              refine wpAnyH_ready (rs := [12]) (by kernel_rfl) (by simp) (AllReadyH.cons rfl (fun K' hK' => ?_) AllReadyH.nil)
              go_simp
              refine (AA.out _).mono ?_; rintro e w6 ⟨⟨a2, c2, rfl, hr2, -, -⟩, h6⟩
              have HG7 := Lib.hid (Gr.trans HG6.out h6)
              have HR7 := Lib.hid (HR6.out.gr h6)
              have HA7 := Lib.hid hr2
              refine hK'.out _ _ (Gr.trans hS h6) (fun hS => ?_)
              clear hK' K' HG6 HR6 hr2 h6
              try simp only [Act.put, List.getElem_toArray, List.getElem_cons_succ, List.getElem_cons_zero, List.setIfInBounds_toArray, List.set_cons_zero, List.set_cons_succ]
              refine wpAnyH_take (i := 13) (v := .tuple #[.slice a2 k c2, .int .i64 (P.size : Int), .int .i64 17]) rfl (by kernel_rfl) (by kernel_rfl) (by kernel_rfl) (fun _ _ _ h => h) (Or.inl ⟨by rfl, ?_⟩) hS ?_
              · intro w hSw; go_simp
              try simp only [Act.put, List.getElem_toArray, List.getElem_cons_succ, List.getElem_cons_zero, List.setIfInBounds_toArray, List.set_cons_zero, List.set_cons_succ]
              refine wpAnyH_take (i := 14) (v := .slice a2 k c2) rfl (by kernel_rfl) (by kernel_rfl) (by kernel_rfl) (fun _ _ _ h => h) (Or.inl ⟨by rfl, ?_⟩) hS ?_
              · intro w hSw; go_simp
              try simp only [Act.put, List.getElem_toArray, List.getElem_cons_succ, List.getElem_cons_zero, List.setIfInBounds_toArray, List.set_cons_zero, List.set_cons_succ]
              refine wpAnyH_take (i := 15) (v := .int .i64 (P.size : Int)) rfl (by kernel_rfl) (by kernel_rfl) (by kernel_rfl) (fun _ _ _ h => h) (Or.inl ⟨by rfl, ?_⟩) hS ?_
              · intro w hSw; go_simp
              try simp only [Act.put, List.getElem_toArray, List.getElem_cons_succ, List.getElem_cons_zero, List.setIfInBounds_toArray, List.set_cons_zero, List.set_cons_succ]
              refine wpAnyH_take (i := 16) (v := .int .i64 17) rfl (by kernel_rfl) (by kernel_rfl) (by kernel_rfl) (fun _ _ _ h => h) (Or.inl ⟨by rfl, ?_⟩) hS ?_
              · intro w hSw; go_simp
              try simp only [Act.put, List.getElem_toArray, List.getElem_cons_succ, List.getElem_cons_zero, List.setIfInBounds_toArray, List.set_cons_zero, List.set_cons_succ]
              refine wpAnyH_take (i := 17) (v := .slice a2 k c2) rfl (by kernel_rfl) (by kernel_rfl) (by kernel_rfl) (fun _ _ _ h => h) (Or.inl ⟨by rfl, ?_⟩) hS ?_
              · intro w hSw; go_simp
              try simp only [Act.put, List.getElem_toArray, List.getElem_cons_succ, List.getElem_cons_zero, List.setIfInBounds_toArray, List.set_cons_zero, List.set_cons_succ]
              refine wpAnyH_take (i := 18) (v := .int .i64 (P.size : Int)) rfl (by kernel_rfl) (by kernel_rfl) (by kernel_rfl) (fun _ _ _ h => h) (Or.inl ⟨by rfl, ?_⟩) hS ?_
              · intro w hSw; go_simp
              try simp only [Act.put, List.getElem_toArray, List.getElem_cons_succ, List.getElem_cons_zero, List.setIfInBounds_toArray, List.set_cons_zero, List.set_cons_succ]
              refine wpAnyH_take (i := 19) (v := .int .i64 17) rfl (by kernel_rfl) (by kernel_rfl) (by kernel_rfl) (fun _ _ _ h => h) (Or.inl ⟨by rfl, ?_⟩) hS ?_
              · intro w hSw; go_simp
              try simp only [Act.put, List.getElem_toArray, List.getElem_cons_succ, List.getElem_cons_zero, List.setIfInBounds_toArray, List.set_cons_zero, List.set_cons_succ]
              refine wpAnyH_done (by kernel_rfl) ?_ _
              clear haddA haddB hb
              go_wp2_with fail
              refine (SE.out _ a2 c2 HA7.out (tq_take HR7.out k)).mono ?_; rintro e w7 ⟨rfl, hg⟩
              have HG8 := Lib.hid (Gr.trans HG7.out hg)
              clear hg HG7 HR7 HA7
              go_wp2_with fail
              refine (PR.out _).mono ?_; rintro e w8 ⟨rfl, hg⟩
              have HG9 := Lib.hid (Gr.trans HG8.out hg)
              clear hg HG8
              go_wp2
              go_ret
              exact ⟨rfl, HG9.out⟩
end Go.Proofs.YtlcpfhgobfjioaaDoor
