/- IntB: Int02d, Int02e, Int02f, joined. -/
import Derived.Test.YtlbnibicehpobaaGreatDoorIntA
import Derived.Lib.SliceRun
set_option linter.unusedVariables false
set_option linter.unusedSimpArgs false

/- A copy of words; decrease by nothing, and once. -/
namespace Go.Proofs.YtlbnibicehpobaaGreatDoor
open Go.RowKit Go.Shelf
open Z

theorem Own.place {e : TypeId} {k : IntKind} {B : Nat} {w : World} {v : Value} {xs : List Nat} (h : Own e k B w v xs) (h0 : xs ≠ []) :
    ∃ g cap, v = .slice (some ⟨g, 0, none⟩) xs.length cap ∧ B ≤ g ∧ OwnAt e k g xs.length cap w xs := by
  obtain ⟨h1, h2⟩ := h
  rcases h2 with ⟨h2, h3⟩ | ⟨g, cap, cur, rfl, h3, h4⟩
  · exact absurd (List.eq_nil_of_length_eq_zero h3) h0
  · exact ⟨g, cap, rfl, h3, rfl, h1, .inr ⟨g, cap, cur, rfl, Nat.le_refl _, h4⟩⟩

set_option maxHeartbeats 2000000 in
set_option maxRecDepth 100000 in
theorem i_Clone (aa : Option Addr) (ca : Nat) (xs : List Nat) (w : World) (hr : Rd .u32 w (.slice aa xs.length ca) xs) (hl : xs.length ≤ 3000000) :
    Calls Tryz.prog 171 #[.slice aa xs.length ca] w fun e w' => ∃ v', e = .returned v' ∧ Own 173 .u32 w.heap.size w' v' xs ∧ Gr w w' := by
  obtain ⟨i0, hi, hz0, hz1, hz2⟩ := info_parts Tryz.infoU32
  have q22 : ∀ (w : World) (a : Option Addr) (n c n' c' : Nat), (binOp .eql 136 (.slice a n c) (.slice none n' c')).run Tryz.prog w = .ok (.bool a.isNone) w := fun w a n c n' c' => Lib.run_eql_slice_nil w _ _ a n c n' c' Tryz.underlying136
  have HR := Lib.hid hr; clear hr
  cases aa with
  | none =>
    have hx : xs = [] := by
      obtain ⟨a, c, he, -, h1⟩ := HR.out
      rcases h1 with h1 | ⟨g, off, h1, -⟩
      · exact h1
      · simp only [Value.slice.injEq] at he; rw [h1] at he; exact absurd he.1 (by simp)
    subst hx
    go_enter Tryz.func171, Tryz.ntmps171
    go_wp2
    go_ret
    exact ⟨_, rfl, Own.nil _ _ _ _, Gr.refl _⟩
  | some ad =>
    go_enter Tryz.func171, Tryz.ntmps171
    go_wp2_with (at_builtin; refine wpList_append_own _ rfl _ _ 136 rfl w.heap.size 173 i0 (.int .u32 0) 1 4 Tryz.underlying136 hi hz0 hz1 hz2 rfl (by decide) _ _ _ rfl (World.ownsRow_made w #[] 0 (Nat.le_refl _) (Nat.zero_le _) rfl) ad xs.length ca (iv .u32 xs) rfl ?qc1 ?qc2 ?qc3 ?qc4 ?qc5 ?qc6 ?_)
    case qc1 => simp [iv]
    case qc2 =>
      intro j u hj
      have hjn : j < xs.length := by
        have := (List.getElem?_eq_some_iff.1 hj).1
        simpa [iv] using this
      obtain ⟨g, off, e, hc⟩ := HR.out.at (Gr.refl _) j hjn
      simp only [Option.some.injEq] at e
      subst e
      rw [Addr.add_lit]
      refine Lib.cell?_alloc_some _ ?_
      rw [hc, ← hj]
      simp [iv, hjn]
    case qc3 => intro u hu; obtain ⟨x, _, rfl⟩ := List.mem_map.1 hu; rfl
    case qc4 => unfold maxLen; omega
    case qc5 => omega
    case qc6 => simp
    intro v' w1 hown hgrow hnil
    have HO : Hid (Own 173 .u32 w.heap.size w1 v' xs) := by
      show World.ownsRow _ _ _ _ _ _ _
      simpa using hown
    have HG : Hid (Gr w w1) := ((Below.refl _ w).alloc (Nat.le_refl _) _).grown hgrow (by simp) (by intro k hk; simp [Value.ownBlock] at hk; omega)
    clear hown hgrow hnil
    go_wp2
    go_ret
    exact ⟨v', rfl, HO.out, HG.out⟩

set_option maxHeartbeats 1000000 in
theorem i_decrease0 (v : Value) (av : Option Addr) (cv f : Nat) (w : World) :
    Calls Tryz.prog 172 #[v, .slice av 0 cv, .int .u64 f] w (fun e w' => e = .returned (.tuple #[]) ∧ w = w') := by
  go_enter Tryz.func172, Tryz.ntmps172
  go_wp2
  go_loopw [6, 12] (fun b i wr => b = .int .u64 0 ∧ i = .int .i64 0 ∧ Hid (w = wr)) (fun _ _ _ => 0)
  case atStart => exact ⟨rfl, rfl, rfl⟩
  case round =>
    obtain ⟨rfl, rfl, H⟩ := hrel
    go_wp2
    go_loopw [6, 9] (fun b i wr => b = .int .u64 0 ∧ Hid (w = wr)) (fun _ _ _ => 0)
    case atStart => exact ⟨rfl, H⟩
    case round =>
      obtain ⟨rfl, H'⟩ := hrel
      go_wp2
      go_end0
      exact ⟨rfl, H'.out⟩
theorem i_decreaseB (g off cap L C : Nat) (A s Z ys : List Nat) (av : Option Addr) (cv : Nat) (w0 w : World)
    (hO : OwnAt 173 .u32 g L C w (A ++ s ++ Z)) (hA : A.length = off) (hs : small 1000000000 s) (hr : Rd .u32 w0 (.slice av ys.length cv) ys) (hg : Gr w0 w) (hb : w0.heap.size ≤ g) (hy : small 1000000000 ys)
    (hl : ys.length ≤ s.length) (hls : s.length ≤ 3000000) (hle : wv 1000000000 ys ≤ wv 1000000000 s) :
    Calls Tryz.prog 172 #[.slice (some ⟨g, off, none⟩) s.length cap, .slice av ys.length cv, .int .u64 1] w (fun e w' => DecRet 173 g L C A s Z ys 1 w w' e) :=
  i_decrease g off cap L C A s Z ys av cv 1 w0 w hO hA hs hr hg hb hy hl hls (by decide) (by omega)
theorem i_decreaseA (xs : List Nat) (g cap : Nat) (ys : List Nat) (av : Option Addr) (cv : Nat) (w0 w : World)
    (hO : OwnAt 173 .u32 g xs.length cap w xs) (hs : small 1000000000 xs) (hr : Rd .u32 w0 (.slice av ys.length cv) ys) (hg : Gr w0 w) (hb : w0.heap.size ≤ g) (hy : small 1000000000 ys)
    (hl : ys.length ≤ xs.length) (hls : xs.length ≤ 3000000) (hle : wv 1000000000 ys ≤ wv 1000000000 xs) :
    Calls Tryz.prog 172 #[.slice (some ⟨g, 0, none⟩) xs.length cap, .slice av ys.length cv, .int .u64 1] w (fun e w' => e = .returned (.tuple #[]) ∧ ∃ s', s'.length = xs.length ∧ OwnAt 173 .u32 g xs.length cap w' s' ∧ Ch g w w' ∧ small 1000000000 s' ∧ wv 1000000000 s' = wv 1000000000 xs - wv 1000000000 ys) := by
  refine (i_decreaseB g 0 cap xs.length cap [] xs [] ys av cv w0 w (by rw [List.nil_append, List.append_nil]; exact hO) rfl hs hr hg hb hy hl hls hle).mono ?_
  rintro e w' ⟨rfl, s', h1, h2, h3, h4, h5⟩
  rw [List.nil_append, List.append_nil] at h2
  exact ⟨rfl, s', h1, h2, h3, h4, by omega⟩

end Go.Proofs.YtlbnibicehpobaaGreatDoor

/- The difference of words. -/
namespace Go.Proofs.YtlbnibicehpobaaGreatDoor
open Go.RowKit Go.Shelf
open Z

set_option maxHeartbeats 2000000 in
set_option maxRecDepth 100000 in
theorem i_minus0 (aa ab : Option Addr) (ca cb : Nat) (w : World) (hr : Rd .u32 w (.slice aa 0 ca) []) :
    Calls Tryz.prog 152 #[.slice aa 0 ca, .slice ab 0 cb] w (fun e w' => WRet 0 w w' e) := by
  have HTR := Lib.hid (fun a n cap xs w => i_trim a n cap xs w)
  have HC := Lib.hid (i_Clone aa ca [] w hr (by decide))
  go_enter Tryz.func152, Tryz.ntmps152
  go_wp2_with fail
  refine HC.out.mono ?_
  rintro e w1 ⟨v1, rfl, ho, hg1⟩
  have HO := Lib.hid ho; clear ho
  go_wp2_with fail
  refine (i_decrease0 v1 ab cb 1 w1).mono ?_
  rintro e w2 ⟨rfl, rfl⟩
  obtain ⟨a1, c1, rfl, hr1⟩ := HO.out.rd'
  have HR1 := Lib.hid hr1; clear hr1
  go_wp2_with fail
  refine (HTR.out _ _ _ _ _ HR1.out (fun x hx => by simp at hx) (by decide)).mono ?_
  rintro e w3 ⟨v, rfl, hr3, hg3⟩
  have HR3 := Lib.hid hr3; clear hr3
  go_wp2
  go_ret
  exact ⟨_, rfl, ⟨_, HR3.out, Nm.trim (fun x hx => by simp at hx), by rw [wv_trimL]; rfl⟩, Gr.trans hg1 hg3⟩

set_option maxHeartbeats 2000000 in
set_option maxRecDepth 100000 in
theorem i_minus {K : Nat} (v v' : Value) (n m : Nat) (w : World) (h : WD w v n) (h' : WD w v' m) (hn : n < 1000000000 ^ K) (hm : m ≤ n) (hK : K ≤ 1000000) :
    Calls Tryz.prog 152 #[v, v'] w (fun e w' => WRet (n - m) w w' e) := by
  obtain ⟨aa, ca, xa, rfl, ra, na, rfl⟩ := h.form
  obtain ⟨ab, cb, xb, rfl, rb, nb, rfl⟩ := h'.form
  have h1 := na.le hn
  have h2 := nb.le (Nat.lt_of_le_of_lt hm hn)
  have hlen : xb.length ≤ xa.length := by
    rcases Nat.lt_or_ge xa.length xb.length with hc | hc
    · have := Nm.lt_len na.1 nb hc; omega
    · exact hc
  have HTR := Lib.hid (fun a n cap xs w => i_trim a n cap xs w)
  have HM := Lib.hid hm
  have HNA := Lib.hid na
  have HNB := Lib.hid nb
  have HRA := Lib.hid ra
  have HRB := Lib.hid rb
  clear hn h h' na nb ra rb hm
  by_cases h0 : xa = []
  · subst h0
    have hb0 : xb = [] := List.eq_nil_of_length_eq_zero (by simpa using hlen)
    subst hb0
    exact i_minus0 aa ab ca cb w HRA.out
  have HH0 := Lib.hid h0; clear h0
  go_enter Tryz.func152, Tryz.ntmps152
  go_wp2_with fail
  refine (i_Clone aa ca xa w HRA.out (by omega)).mono ?_
  rintro e w1 ⟨v1, rfl, ho, hg1⟩
  obtain ⟨g, cap, rfl, hbg, hat⟩ := ho.place HH0.out
  have HAT := Lib.hid hat; clear hat ho
  have HBG := Lib.hid hbg; clear hbg
  go_wp2_with fail
  refine (i_decreaseA xa g cap xb ab cb w w1 HAT.out HNA.out.1 HRB.out hg1 HBG.out HNB.out.1 hlen (by omega) HM.out).mono ?_
  rintro e w2 ⟨rfl, s', hl', ho', hch, hsm', hv⟩
  have HO' := Lib.hid ho'; clear ho'
  have HSM := Lib.hid hsm'; clear hsm'
  have HV := Lib.hid hv; clear hv
  have HC := Lib.hid hch; clear hch
  have HL := Lib.hid hl'; clear hl'
  go_wp2_with fail
  refine (HTR.out _ _ _ _ _ (OwnAt.rd HO'.out) HSM.out (by have := HL.out; omega)).mono ?_
  rintro e w3 ⟨v, rfl, hr3, hg3⟩
  have HR3 := Lib.hid hr3; clear hr3
  go_wp2
  go_ret
  exact ⟨_, rfl, ⟨_, HR3.out, Nm.trim HSM.out, by rw [wv_trimL]; exact HV.out⟩, Gr.trans (HC.out.gr hg1 HBG.out) hg3⟩
end Go.Proofs.YtlbnibicehpobaaGreatDoor

/- The product of words. -/
namespace Go.Proofs.YtlbnibicehpobaaGreatDoor
open Go.RowKit Go.Shelf
open Z

theorem w_mulU {z c x y : Nat} (hz : z < 1000000000) (hc : c < 1000000000) (hx : x < 1000000000) (hy : y < 1000000000) : ∃ p : Nat, (x : Int) * (y : Int) = (p : Int) ∧ Hid (p = x * y) ∧ p ≤ 999999999 * 999999999 ∧ c + (z + p) < 1000000000 * 1000000000 := by
  have h1 : x * y ≤ 999999999 * 999999999 := Nat.mul_le_mul (by omega) (by omega)
  exact ⟨x * y, by rw [Int.natCast_mul], rfl, h1, by omega⟩

set_option maxHeartbeats 4000000 in
set_option maxRecDepth 100000 in
theorem i_times0 (aa ab : Option Addr) (ca cb : Nat) (xa xb : List Nat) (w : World) (hra : Rd .u32 w (.slice aa xa.length ca) xa) (hrb : Rd .u32 w (.slice ab xb.length cb) xb) (hsa : small 1000000000 xa) (hsb : small 1000000000 xb) (hl1 : xa.length ≤ 1000000) (hl2 : xb.length ≤ 1000000) :
    Calls Tryz.prog 153 #[.slice aa xa.length ca, .slice ab xb.length cb] w (fun e w' => WRet (wv 1000000000 xa * wv 1000000000 xb) w w' e) := by
  obtain ⟨i0, hi, hz0, hz1, hz2⟩ := info_parts Tryz.infoU32
  have HA := Lib.hid hra; clear hra
  have HB := Lib.hid hrb; clear hrb
  have HSA := Lib.hid hsa; clear hsa
  have HSB := Lib.hid hsb; clear hsb
  have HTR := Lib.hid (fun a n cap xs w => i_trim a n cap xs w)
  go_enter Tryz.func153, Tryz.ntmps153
  go_wp2_with (at_make; refine wpList_make_full w rfl _ _ 136 rfl w.heap.size 173 i0 (.int .u32 0) 1 Tryz.underlying136 hi hz0 hz1 .i64 .i64 _ _ (xa.length + xb.length) rfl rfl (by omega) (by omega) (by rw [hz2]; omega) (by unfold maxLen; omega) (Nat.le_refl _) ?_)
  intro w1 hown0 hgr0
  have HO0 : Hid (OwnAt 173 .u32 w.heap.size (xa.length + xb.length) (xa.length + xb.length) w1 (List.replicate (xa.length + xb.length) 0)) := own_zeros hown0
  have hg1 : Gr w w1 := Below.grown (Below.refl _ _) hgr0 (Nat.le_refl _) (fun k hk => by simp at hk)
  clear hown0 hgr0
  go_wp2
  go_loopw [19] (fun i wr => ∃ (o : List Nat) (ii : Nat), i = .int .i64 ii ∧ ii ≤ xa.length ∧ Hid (OwnAt 173 .u32 w.heap.size (xa.length + xb.length) (xa.length + xb.length) wr o) ∧ Gr w wr ∧
      Hid (small 1000000000 o ∧ wv 1000000000 o = wv 1000000000 (xa.take ii) * wv 1000000000 xb)) (fun i _ => xa.length - (intOf i).toNat)
  case atStart => exact ⟨_, 0, rfl, Nat.zero_le _, HO0.out, hg1, small_zeros _ (by omega), by rw [wv_zeros]; simp [wv]⟩
  case round =>
    obtain ⟨o, ii, rfl, hii, HO, hg, HV⟩ := hrel
    clear HO0 hg1
    by_cases e1 : ii < xa.length
    · obtain ⟨x, HX⟩ : ∃ x, Hid (x = xa.getD ii 0) := ⟨_, rfl⟩
      have hx : x < 1000000000 := by rw [HX.out]; exact small_getD (by omega) HSA.out _
      obtain ⟨ga, oa, rfl, hca⟩ := HA.out.at hg ii e1
      rw [← HX.out] at hca
      obtain ⟨wo, hwo⟩ : ∃ wo : World, wo = wr := ⟨_, rfl⟩
      go_wp2
      go_loopw [8, 26] (fun c k wi => ∃ (o' : List Nat) (cc kk : Nat), c = .int .u64 cc ∧ k = .int .i64 kk ∧ kk ≤ xb.length ∧ cc < 1000000000 ∧
          Hid (OwnAt 173 .u32 w.heap.size (xa.length + xb.length) (xa.length + xb.length) wi o') ∧ Gr w wi ∧
          Hid (small 1000000000 o' ∧ wv 1000000000 o' + cc * 1000000000 ^ (ii + kk) = wv 1000000000 o + x * wv 1000000000 (xb.take kk) * 1000000000 ^ ii ∧ ∀ j, ii + kk ≤ j → o'.getD j 0 = o.getD j 0)) (fun _ k _ => xb.length - (intOf k).toNat)
      case atStart => exact ⟨o, 0, 0, rfl, rfl, by omega, by omega, HO.out, hg, HV.out.1, by simp [wv], fun _ _ => rfl⟩
      case round =>
        obtain ⟨o', cc, kk, rfl, rfl, hkk, hcc, HO', hgi, HV'⟩ := hrel
        clear hg hwo hca
        obtain ⟨z, HZ⟩ : ∃ z, Hid (z = o'.getD (ii + kk) 0) := ⟨_, rfl⟩
        have hz : z < 1000000000 := by rw [HZ.out]; exact small_getD (by omega) HV'.out.1 _
        obtain ⟨hco, hfo⟩ := HO'.out.cell (ii + kk) (by omega)
        rw [← HZ.out] at hco
        by_cases e2 : kk < xb.length
        · obtain ⟨y, HY⟩ : ∃ y, Hid (y = xb.getD kk 0) := ⟨_, rfl⟩
          have hy : y < 1000000000 := by rw [HY.out]; exact small_getD (by omega) HSB.out _
          obtain ⟨gb, ob, rfl, hcb⟩ := HB.out.at hgi kk e2
          rw [← HY.out] at hcb
          obtain ⟨p, hp, HP, hp1, hp2⟩ := w_mulU hz hcc hx hy
          go_wp2
          go_roundw
          case rel =>
            rw [show ((cc : Int) + ((z : Int) + p)) / 1000000000 = (((cc + (z + p)) / 1000000000 : Nat) : Int) by omega]
            have hset := HO'.out.set hgi (Nat.le_refl _) (ii + kk) (((cc : Int) + ((z : Int) + p)) % 1000000000) ((cc + (z + p)) % 1000000000) (by omega)
            refine ⟨o'.set (ii + kk) ((cc + (z + p)) % 1000000000), (cc + (z + p)) / 1000000000, kk + 1, rfl, by go_num, by omega, Nat.div_lt_of_lt_mul hp2, hset.1, hset.2, small_set HV'.out.1 (Nat.mod_lt _ (by omega)), ?_, ?_⟩
            · rw [wv_take_succ, ← HY.out, ← Nat.add_assoc ii kk 1]
              exact times_step (by rw [HO'.out.1]; omega) HV'.out.2.1 (by rw [← HZ.out, ← HP.out]; omega)
            · intro j hj
              rw [getD_set (by rw [HO'.out.1]; omega), if_neg (by omega)]
              exact HV'.out.2.2 j (by omega)
          case measure => simp [intOf]; omega
        · obtain rfl : kk = xb.length := by omega
          go_wp2
          go_roundw
          case rel =>
            have hset := HO'.out.set hgi (Nat.le_refl _) (ii + xb.length) cc cc rfl
            refine ⟨o'.set (ii + xb.length) cc, ii + 1, by go_num, by omega, hset.1, hset.2, small_set HV'.out.1 hcc, ?_⟩
            have h0 : o'.getD (ii + xb.length) 0 = 0 := by
              rw [HV'.out.2.2 _ (Nat.le_refl _)]
              refine high_zero (B := 1000000000) ?_
              rw [HV.out.2]
              exact mul_lt_pow HSA.out HSB.out (by omega) (by omega)
            have h1 := wv_set (B := 1000000000) (l := o') (j := ii + xb.length) (d := cc) (by rw [HO'.out.1]; omega)
            have h2 := HV'.out.2.1
            rw [h0, Nat.mul_zero, Nat.add_zero] at h1
            rw [List.take_length, HV.out.2] at h2
            rw [wv_take_succ, ← HX.out, Nat.add_mul]
            have h3 : 1000000000 ^ ii * x * wv 1000000000 xb = x * wv 1000000000 xb * 1000000000 ^ ii := by ac_rfl
            have h4 : 1000000000 ^ (ii + xb.length) * cc = cc * 1000000000 ^ (ii + xb.length) := Nat.mul_comm _ _
            omega
          case measure => simp [intOf]; omega
    · obtain rfl : ii = xa.length := by omega
      have HF : Hid (wv 1000000000 o = wv 1000000000 xa * wv 1000000000 xb) := by
        have := HV.out.2; rwa [List.take_length] at this
      have HS2 := Lib.hid HV.out.1
      have HL2 : Hid (o.length ≤ 3000000) := by show _ ≤ _; rw [HO.out.1]; omega
      clear HV
      go_wp2_with fail
      refine (HTR.out _ _ _ _ _ (OwnAt.rd HO.out) HS2.out HL2.out).mono ?_
      rintro e w3 ⟨v, rfl, hr3, hg3⟩
      have HR3 := Lib.hid hr3; clear hr3
      go_wp2
      go_ret
      exact ⟨_, rfl, ⟨_, HR3.out, Nm.trim HS2.out, by rw [wv_trimL]; exact HF.out⟩, Gr.trans hg hg3⟩
theorem i_times {K : Nat} (v v' : Value) (n m : Nat) (w : World) (h : WD w v n) (h' : WD w v' m) (hn : n < 1000000000 ^ K) (hm : m < 1000000000 ^ K) (hK : K ≤ 1000000) :
    Calls Tryz.prog 153 #[v, v'] w (fun e w' => WRet (n * m) w w' e) := by
  obtain ⟨aa, ca, xa, rfl, ra, na, rfl⟩ := h.form
  obtain ⟨ab, cb, xb, rfl, rb, nb, rfl⟩ := h'.form
  have h1 := na.le hn
  have h2 := nb.le hm
  exact i_times0 aa ab ca cb xa xb w ra rb na.1 nb.1 (by omega) (by omega)
end Go.Proofs.YtlbnibicehpobaaGreatDoor
