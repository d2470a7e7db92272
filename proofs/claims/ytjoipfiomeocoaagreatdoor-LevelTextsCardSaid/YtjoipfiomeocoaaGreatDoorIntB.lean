/- IntB: Int02d, Int02e, Int02f, joined. -/
import Derived.Test.YtjoipfiomeocoaaGreatDoorIntA
import Derived.Lib.SliceRun
set_option linter.unusedVariables false
set_option linter.unusedSimpArgs false

/- A copy of words; decrease by nothing, and once. -/
namespace Go.Proofs.YtjoipfiomeocoaaGreatDoor
open Go.RowKit Go.Shelf
open Z

theorem Own.place {e : TypeId} {k : IntKind} {B : Nat} {w : World} {v : Value} {xs : List Nat} (h : Own e k B w v xs) (h0 : xs ≠ []) :
    ∃ g cap, v = .slice (some ⟨g, 0, none⟩) xs.length cap ∧ B ≤ g ∧ OwnAt e k g xs.length cap w xs := by
  obtain ⟨h1, h2⟩ := h
  rcases h2 with ⟨h2, h3⟩ | ⟨g, cap, cur, rfl, h3, h4⟩
  · exact absurd (List.eq_nil_of_length_eq_zero h3) h0
  · exact ⟨g, cap, rfl, h3, rfl, h1, .inr ⟨g, cap, cur, rfl, Nat.le_refl _, h4⟩⟩

set_option maxHeartbeats 2000000 in
set_option maxRecDepth 100000 in
theorem i_Clone (aa : Option Addr) (ca : Nat) (xs : List Nat) (w : World) (hr : Rd .u32 w (.slice aa xs.length ca) xs) (hl : xs.length ≤ 3000000) :
    Calls Tryz.prog 171 #[.slice aa xs.length ca] w fun e w' => ∃ v', e = .returned v' ∧ Own 138 .u32 w.heap.size w' v' xs ∧ Gr w w' := by
  obtain ⟨i0, hi, hz0, hz1, hz2⟩ := info_parts Tryz.infoU32
  have q22 : ∀ (w : World) (a : Option Addr) (n c n' c' : Nat), (binOp .eql 123 (.slice a n c) (.slice none n' c')).run Tryz.prog w = .ok (.bool a.isNone) w := fun w a n c n' c' => Lib.run_eql_slice_nil w _ _ a n c n' c' Tryz.underlying123
  have HR := Lib.hid hr; clear hr
  cases aa with
  | none =>
    have hx : xs = [] := by
      obtain ⟨a, c, he, -, h1⟩ := HR.out
      rcases h1 with h1 | ⟨g, off, h1, -⟩
      · exact h1
      · simp only [Value.slice.injEq] at he; rw [h1] at he; exact absurd he.1 (by simp)
    subst hx
    go_enter Tryz.func171, Tryz.ntmps171
    go_wp2
    go_ret
    exact ⟨_, rfl, Own.nil _ _ _ _, Gr.refl _⟩
  | some ad =>
    go_enter Tryz.func171, Tryz.ntmps171
    go_wp2_with (at_builtin; refine wpList_append_own _ rfl _ _ 123 rfl w.heap.size 138 i0 (.int .u32 0) 1 4 Tryz.underlying123 hi hz0 hz1 hz2 rfl (by decide) _ _ _ rfl (World.ownsRow_made w #[] 0 (Nat.le_refl _) (Nat.zero_le _) rfl) ad xs.length ca (iv .u32 xs) rfl ?qc1 ?qc2 ?qc3 ?qc4 ?qc5 ?qc6 ?_)
    case qc1 => simp [iv]
    case qc2 =>
      intro j u hj
      have hjn : j < xs.length := by
        have := (List.getElem?_eq_some_iff.1 hj).1
        simpa [iv] using this
      obtain ⟨g, off, e, hc⟩ := HR.out.at (Gr.refl _) j hjn
      simp only [Option.some.injEq] at e
      subst e
      rw [Addr.add_lit]
      refine Lib.cell?_alloc_some _ ?_
      rw [hc, ← hj]
      simp [iv, hjn]
    case qc3 => intro u hu; obtain ⟨x, _, rfl⟩ := List.mem_map.1 hu; rfl
    case qc4 => unfold maxLen; omega
    case qc5 => omega
    case qc6 => simp
    intro v' w1 hown hgrow hnil
    have HO : Hid (Own 138 .u32 w.heap.size w1 v' xs) := by
      show World.ownsRow _ _ _ _ _ _ _
      simpa using hown
    have HG : Hid (Gr w w1) := ((Below.refl _ w).alloc (Nat.le_refl _) _).grown hgrow (by simp) (by intro k hk; simp [Value.ownBlock] at hk; omega)
    clear hown hgrow hnil
    go_wp2
    go_ret
    exact ⟨v', rfl, HO.out, HG.out⟩

set_option maxHeartbeats 1000000 in
theorem i_decrease0 (v : Value) (av : Option Addr) (cv f : Nat) (w : World) :
    Calls Tryz.prog 172 #[v, .slice av 0 cv, .int .u64 f] w (fun e w' => e = .returned (.tuple #[]) ∧ w = w') := by
  go_enter Tryz.func172, Tryz.ntmps172
  go_wp2
  go_loopw [6, 12] (fun b i wr => b = .int .u64 0 ∧ i = .int .i64 0 ∧ Hid (w = wr)) (fun _ _ _ => 0)
  case atStart => exact ⟨rfl, rfl, rfl⟩
  case round =>
    obtain ⟨rfl, rfl, H⟩ := hrel
    go_wp2
    go_loopw [6, 9] (fun b i wr => b = .int .u64 0 ∧ Hid (w = wr)) (fun _ _ _ => 0)
    case atStart => exact ⟨rfl, H⟩
    case round =>
      obtain ⟨rfl, H'⟩ := hrel
      go_wp2
      go_end0
      exact ⟨rfl, H'.out⟩
theorem i_decreaseB (g off cap L C : Nat) (A s Z ys : List Nat) (av : Option Addr) (cv : Nat) (w0 w : World)
    (hO : OwnAt 138 .u32 g L C w (A ++ s ++ Z)) (hA : A.length = off) (hs : small 1000000000 s) (hr : Rd .u32 w0 (.slice av ys.length cv) ys) (hg : Gr w0 w) (hb : w0.heap.size ≤ g) (hy : small 1000000000 ys)
    (hl : ys.length ≤ s.length) (hls : s.length ≤ 3000000) (hle : wv 1000000000 ys ≤ wv 1000000000 s) :
    Calls Tryz.prog 172 #[.slice (some ⟨g, off, none⟩) s.length cap, .slice av ys.length cv, .int .u64 1] w (fun e w' => DecRet 138 g L C A s Z ys 1 w w' e) :=
  i_decrease g off cap L C A s Z ys av cv 1 w0 w hO hA hs hr hg hb hy hl hls (by decide) (by omega)
theorem i_decreaseA (xs : List Nat) (g cap : Nat) (ys : List Nat) (av : Option Addr) (cv : Nat) (w0 w : World)
    (hO : OwnAt 138 .u32 g xs.length cap w xs) (hs : small 1000000000 xs) (hr : Rd .u32 w0 (.slice av ys.length cv) ys) (hg : Gr w0 w) (hb : w0.heap.size ≤ g) (hy : small 1000000000 ys)
    (hl : ys.length ≤ xs.length) (hls : xs.length ≤ 3000000) (hle : wv 1000000000 ys ≤ wv 1000000000 xs) :
    Calls Tryz.prog 172 #[.slice (some ⟨g, 0, none⟩) xs.length cap, .slice av ys.length cv, .int .u64 1] w (fun e w' => e = .returned (.tuple #[]) ∧ ∃ s', s'.length = xs.length ∧ OwnAt 138 .u32 g xs.length cap w' s' ∧ Ch g w w' ∧ small 1000000000 s' ∧ wv 1000000000 s' = wv 1000000000 xs - wv 1000000000 ys) := by
  refine (i_decreaseB g 0 cap xs.length cap [] xs [] ys av cv w0 w (by rw [List.nil_append, List.append_nil]; exact hO) rfl hs hr hg hb hy hl hls hle).mono ?_
  rintro e w' ⟨rfl, s', h1, h2, h3, h4, h5⟩
  rw [List.nil_append, List.append_nil] at h2
  exact ⟨rfl, s', h1, h2, h3, h4, by omega⟩

end Go.Proofs.YtjoipfiomeocoaaGreatDoor

/- The difference of words. -/
namespace Go.Proofs.YtjoipfiomeocoaaGreatDoor
open Go.RowKit Go.Shelf
open Z

set_option maxHeartbeats 2000000 in
set_option maxRecDepth 100000 in
theorem i_minus0 (aa ab : Option Addr) (ca cb : Nat) (w : World) (hr : Rd .u32 w (.slice aa 0 ca) []) :
    Calls Tryz.prog 147 #[.slice aa 0 ca, .slice ab 0 cb] w (fun e w' => WRet 0 w w' e) := by
  have HTR := Lib.hid (fun a n cap xs w => i_trim a n cap xs w)
  have HC := Lib.hid (i_Clone aa ca [] w hr (by decide))
  go_enter Tryz.func147, Tryz.ntmps147
  go_wp2_with fail
  refine HC.out.mono ?_
  rintro e w1 ⟨v1, rfl, ho, hg1⟩
  have HO := Lib.hid ho; clear ho
  go_wp2_with fail
  refine (i_decrease0 v1 ab cb 1 w1).mono ?_
  rintro e w2 ⟨rfl, rfl⟩
  obtain ⟨a1, c1, rfl, hr1⟩ := HO.out.rd'
  have HR1 := Lib.hid hr1; clear hr1
  go_wp2_with fail
  refine (HTR.out _ _ _ _ _ HR1.out (fun x hx => by simp at hx) (by decide)).mono ?_
  rintro e w3 ⟨v, rfl, hr3, hg3⟩
  have HR3 := Lib.hid hr3; clear hr3
  go_wp2
  go_ret
  exact ⟨_, rfl, ⟨_, HR3.out, Nm.trim (fun x hx => by simp at hx), by rw [wv_trimL]; rfl⟩, Gr.trans hg1 hg3⟩

set_option maxHeartbeats 2000000 in
set_option maxRecDepth 100000 in
theorem i_minus {K : Nat} (v v' : Value) (n m : Nat) (w : World) (h : WD w v n) (h' : WD w v' m) (hn : n < 1000000000 ^ K) (hm : m ≤ n) (hK : K ≤ 1000000) :
    Calls Tryz.prog 147 #[v, v'] w (fun e w' => WRet (n - m) w w' e) := by
  obtain ⟨aa, ca, xa, rfl, ra, na, rfl⟩ := h.form
  obtain ⟨ab, cb, xb, rfl, rb, nb, rfl⟩ := h'.form
  have h1 := na.le hn
  have h2 := nb.le (Nat.lt_of_le_of_lt hm hn)
  have hlen : xb.length ≤ xa.length := by
    rcases Nat.lt_or_ge xa.length xb.length with hc | hc
    · have := Nm.lt_len na.1 nb hc; omega
    · exact hc
  have HTR := Lib.hid (fun a n cap xs w => i_trim a n cap xs w)
  have HM := Lib.hid hm
  have HNA := Lib.hid na
  have HNB := Lib.hid nb
  have HRA := Lib.hid ra
  have HRB := Lib.hid rb
  clear hn h h' na nb ra rb hm
  by_cases h0 : xa = []
  · subst h0
    have hb0 : xb = [] := List.eq_nil_of_length_eq_zero (by simpa using hlen)
    subst hb0
    exact i_minus0 aa ab ca cb w HRA.out
  have HH0 := Lib.hid h0; clear h0
  go_enter Tryz.func147, Tryz.ntmps147
  go_wp2_with fail
  refine (i_Clone aa ca xa w HRA.out (by omega)).mono ?_
  rintro e w1 ⟨v1, rfl, ho, hg1⟩
  obtain ⟨g, cap, rfl, hbg, hat⟩ := ho.place HH0.out
  have HAT := Lib.hid hat; clear hat ho
  have HBG := Lib.hid hbg; clear hbg
  go_wp2_with fail
  refine (i_decreaseA xa g cap xb ab cb w w1 HAT.out HNA.out.1 HRB.out hg1 HBG.out HNB.out.1 hlen (by omega) HM.out).mono ?_
  rintro e w2 ⟨rfl, s', hl', ho', hch, hsm', hv⟩
  have HO' := Lib.hid ho'; clear ho'
  have HSM := Lib.hid hsm'; clear hsm'
  have HV := Lib.hid hv; clear hv
  have HC := Lib.hid hch; clear hch
  have HL := Lib.hid hl'; clear hl'
  go_wp2_with fail
  refine (HTR.out _ _ _ _ _ (OwnAt.rd HO'.out) HSM.out (by have := HL.out; omega)).mono ?_
  rintro e w3 ⟨v, rfl, hr3, hg3⟩
  have HR3 := Lib.hid hr3; clear hr3
  go_wp2
  go_ret
  exact ⟨_, rfl, ⟨_, HR3.out, Nm.trim HSM.out, by rw [wv_trimL]; exact HV.out⟩, Gr.trans (HC.out.gr hg1 HBG.out) hg3⟩
end Go.Proofs.YtjoipfiomeocoaaGreatDoor

/- The product of words. -/
namespace Go.Proofs.YtjoipfiomeocoaaGreatDoor
open Go.RowKit Go.Shelf
open Z

theorem w_mulU {z c x y : Nat} (hz : z < 1000000000) (hc : c < 1000000000) (hx : x < 1000000000) (hy : y < 1000000000) : ∃ p : Nat, (x : Int) * (y : Int) = (p : Int) ∧ Hid (p = x * y) ∧ p ≤ 999999999 * 999999999 ∧ c + (z + p) < 1000000000 * 1000000000 := by
  have h1 : x * y ≤ 999999999 * 999999999 := Nat.mul_le_mul (by omega) (by omega)
  exact ⟨x * y, by rw [Int.natCast_mul], rfl, h1, by omega⟩

end Go.Proofs.YtjoipfiomeocoaaGreatDoor
