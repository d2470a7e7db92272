/- Law 7: LexerIgnores. -/
import Derived.Test.YtlcpfhgobfjioaaDoorLyJ
set_option linter.unusedVariables false
set_option linter.unusedSimpArgs false
namespace Go.Proofs.YtlcpfhgobfjioaaDoor
open Go.RowKit Go.Shelf
open Z
theorem blk_new (w : World) (o : Obj) : (w.alloc o).heap[w.heap.size]? = some o := by
  show (w.heap.push o)[w.heap.size]? = some o
  simp
/-- a token in a block of its own, as a block -/
def TBb (w : World) (n : Nat) (kd : Int) (t : ByteArray) (a : Int) : Prop := w.heap[n]? = some (.cells #[.int .i64 kd, .string t, .int .i64 a] 32)
theorem TBb.cells {w : World} {n : Nat} {kd : Int} {t : ByteArray} {a : Int} (h : TBb w n kd t a) : w.cell? ⟨n, 0, none⟩ = some (.int .i64 kd) ∧ w.cell? ⟨n, 1, none⟩ = some (.string t) ∧ w.cell? ⟨n, 2, none⟩ = some (.int .i64 a) := by
  unfold TBb at h
  exact ⟨by rw [Lib.cell_of_heap h]; rfl, by rw [Lib.cell_of_heap h]; rfl, by rw [Lib.cell_of_heap h]; rfl⟩
theorem TBb.lt {w : World} {n : Nat} {kd : Int} {t : ByteArray} {a : Int} (h : TBb w n kd t a) : n < w.heap.size := (Array.getElem?_eq_some_iff.1 h).1
theorem TBb.gr {w w' : World} {n : Nat} {kd : Int} {t : ByteArray} {a : Int} (h : TBb w n kd t a) (hg : Gr w w') : TBb w' n kd t a := (hg.block n h.lt).trans h
theorem TBb.kept {w w' : World} {n b : Nat} {kd : Int} {t : ByteArray} {a : Int} (h : TBb w n kd t a) (hk : Lib.OthersKept 5 (some b) w w') (hne : n ≠ b) : TBb w' n kd t a :=
  hk n _ h (by simpa using hne) (fun c fz e => by simp at e)
theorem rep_len (r : Nat) : Lib.repeatL [32] r = List.replicate r 32 := by
  induction r with
  | zero => rfl
  | succ r ih => unfold Lib.repeatL; rw [ih]; rfl
theorem SB.lt {B b : Nat} {l : List UInt8} {w : World} (h : SB B b l w) : b < w.heap.size := by
  rcases h with h | h <;> (obtain ⟨-, v, hb, -, -⟩ := h; exact (Array.getElem?_eq_some_iff.1 hb).1)
theorem str_list (s : ByteArray) : ∃ l, s = str l ∧ s.data.toList = l := ⟨s.data.toList, rfl, rfl⟩
theorem lx_blanks (r : Nat) (hr : r ≤ 3) (w : World) : Calls Tryd.prog 15 #[.string ⟨#[32]⟩, .int .i64 (r : Int)] w fun e w' => e = .returned (.string (str (List.replicate r 32))) ∧ Gr w w' := by
  refine (Tryd.strings_Repeat ⟨#[32]⟩ r w (by omega) ?_).mono fun e w' h => ⟨?_, h.2⟩
  · rw [show (⟨#[32]⟩ : ByteArray).size = 1 from rfl]; omega
  · rw [h.1, show (⟨#[32]⟩ : ByteArray).data.toList = [32] from rfl, rep_len]; rfl
theorem ig_asc {s : List UInt8} {L : List Tk} (T : Toks s L) {j : Nat} (hj : j < L.length) (h0 : L[j].1 = 0) (hq : Lib.hasPrefix L[j].2.1 [34] = false) : ∀ c ∈ L[j].2.1, c.toNat < 128 := by
  have htk := T.tok j hj
  have h3 : (tokR s (kAt s j)).1.1 ≠ 3 := by rw [← htk, h0]; decide
  have := (tok_up (kAt_le s j) (T.ok j hj) h3).2.2.2.2.2
  rw [← htk] at this
  exact this h0 hq
set_option maxRecDepth 100000 in
set_option maxHeartbeats 4000000 in
theorem l7_LexerIgnores {s : ByteArray} {m : Int} (hs : s.size ≤ maxLen) (hm : 0 ≤ m ∧ m ≤ 255) (w : World) : Calls Tryd.prog 4 #[.string s, .int .u8 m] w fun e w' => e = .returned (.bool true) ∧ Gr w w' := by
  have AW := Lib.hid (fun w => l7_awake w)
  obtain ⟨m0, m1⟩ := hm
  unfold maxLen at hs
  have A := Lib.hid (fun w => lx_Scan s w)
  have HS := Lib.hid (fun r => ig_scan (s := s.data.toList) (r := r))
  have HTK : Hid ((scanR s.data.toList).2.2 = 0 → Toks s.data.toList (scanR s.data.toList).1) := Lib.hid scan_toks
  have hlen := scanR_256 s.data.toList
  have hsz : s.data.toList.length = s.size := by simp
  rw [hsz] at HS
  by_cases h3 : 300 < s.size
  · go_enter Tryd.func4, Tryd.ntmps4
    go_wp2_with fail
    refine (AW.out _).mono ?_; rintro e w1 ⟨rfl, hg⟩
    have HG := Lib.hid hg
    clear hg
    go_wp2
    go_ret
    exact ⟨rfl, HG.out⟩
  · by_cases h0 : (scanR s.data.toList).2.2 = 0
    · have hle : s.size ≤ 300 := by omega
      obtain ⟨r, hr⟩ : ∃ r : Nat, (r : Int) = 1 + m % 3 := ⟨(1 + m % 3).toNat, by omega⟩
      have r1 : 0 < r := by omega
      have r3 : r ≤ 3 := by omega
      have HI := Lib.hid (HS.out r hle h0 r1 r3)
      have T := Lib.hid (HTK.out h0)
      have BL : Hid (∀ j, j ≤ (scanR s.data.toList).1.length → (blow (scanR s.data.toList).1 r j).length ≤ 1100) := Lib.hid fun j hj => by
        have h1 := blow_len (r := r) T.out j hj
        have h2 := kAt_le s.data.toList j
        have h3 : r * j ≤ 3 * 256 := Nat.mul_le_mul r3 (by omega)
        rw [hsz] at h2; omega
      have TL : Hid (∀ j (hj : j < (scanR s.data.toList).1.length), (scanR s.data.toList).1[j].2.1.length ≤ 300) := Lib.hid fun j hj => by
        obtain ⟨kd, tx, a, ea, -, e2, e3, -⟩ := place_facts T.out hj
        rw [ea]; simp only; rw [hsz] at e3; omega
      have AS := Lib.hid (fun j hj => ig_asc T.out (j := j) hj)
      have RP := Lib.hid (lx_blanks r r3)
      have HR := Lib.hid hr
      clear HS HTK hsz T hr
      generalize hR : scanR s.data.toList = R at *
      obtain ⟨L, at_, er⟩ := R
      simp only at A HI h0 hlen BL TL AS
      subst h0
      obtain ⟨n, hn⟩ : ∃ n, L.length = n := ⟨_, rfl⟩
      have HN := Lib.hid hn
      rw [hn] at HI BL hlen
      have BLL := Lib.hid (fun (w : World) (a : Option Addr) (ca : Nat) (h : TksAt w a L) => l7_bare a ca L w h (by omega))
      have hbl : Hid ((bareL L).length = n) := Lib.hid (by rw [bareL_len]; exact hn)
      rw [hn] at BLL
      have A2 := Lib.hid (fun w => lx_Scan (str (blow L r n)) w)
      have hdd : (str (blow L r n)).data.toList = blow L r n := rfl
      rw [hdd] at A2
      obtain ⟨-, i1, i2, i3⟩ := HI.out
      have h256 : n ≤ 256 := hlen
      clear hR hdd HI
      generalize scanR (blow L r n) = R2 at *
      obtain ⟨M, at2, er2⟩ := R2
      simp only at i1 i2 i3 A2
      subst i1
      have HI2 := Lib.hid i2
      have HI3 := Lib.hid i3
      clear i2 i3
      go_enter Tryd.func4, Tryd.ntmps4
      go_wp2_with fail
      refine (A.out _).mono ?_; rintro e w1 ⟨v, rfl, hv, hg⟩
      obtain ⟨a, ca, rfl, ht, -⟩ := hv.shape
      have HT := Lib.hid ht
      have HG := Lib.hid hg
      have HB0 := Lib.hid (SB.new w1)
      have HG0 := Lib.hid ((Gr.refl w1).alloc (.cells #[.pointer none, .slice none 0 0] 37))
      rw [hn]
      clear hg ht hv A hn
      go_wp2
      go_loopw [29] (fun i wr => ∃ j : Nat, i = .int .i64 j ∧ j ≤ n ∧ Hid (SB w1.heap.size w1.heap.size (blow L r j) wr) ∧ Hid (Gr w1 wr)) (fun i _ => n - (intOf i).toNat)
      case atStart => exact ⟨0, rfl, Nat.zero_le _, by rw [blow_zero]; exact HB0, HG0⟩
      case round =>
        obtain ⟨j, rfl, hj, HB, HGr⟩ := hrel
        clear HB0 HG0
        by_cases hlt : j < n
        · have j1 : j < L.length := by rw [HN.out]; exact hlt
          obtain ⟨p, o, rfl, c0, c1, c2⟩ := (HT.out.gr HGr.out).at j1
          have HBS := Lib.hid (blow_succ (r := r) j1)
          have hbj := BL.out j hj
          have htl := TL.out j j1
          have HAS := Lib.hid (AS.out j j1)
          have hup : Hid (upT L[j] = if L[j].1 = 0 ∧ Lib.hasPrefix L[j].2.1 [34] = false then Lib.toUpperA L[j].2.1 else L[j].2.1) := Lib.hid rfl
          generalize L[j] = x at *
          obtain ⟨kd, tx, ta⟩ := x
          simp only at c0 c1 c2 htl HAS hup
          have hts : (str tx).size = tx.length := str_size _
          have hsp : (str (List.replicate r (32 : UInt8))).size = r := by rw [str_size]; simp
          have HSP : Hid ((str (List.replicate r (32 : UInt8))).data.toList = List.replicate r 32) := Lib.hid rfl
          have HTX : Hid ((str tx).data.toList = tx) := Lib.hid rfl
          have PF := Lib.hid (fun w => Tryd.strings_HasPrefix (str tx) ⟨#[34]⟩ w)
          rw [HTX.out, show (⟨#[34]⟩ : ByteArray).data.toList = [34] from rfl] at PF
          have UP : Hid (kd = 0 → Lib.hasPrefix tx [34] = false → ∀ w, Calls Tryd.prog 17 #[.string (str tx)] w fun e w' => e = .returned (.string (str (Lib.toUpperA tx))) ∧ Gr w w') := Lib.hid fun h1 h2 w => by
            refine (Tryd.strings_ToUpper_ascii (str tx) w (by rw [str_size]; omega) fun k c hk => ?_).mono fun e w' h => ⟨h.1, h.2⟩
            exact HAS.out h1 h2 c (List.mem_of_getElem? hk)
          have huz : (str (Lib.toUpperA tx)).size = tx.length := by rw [str_size]; simp [Lib.toUpperA]
          have HUX : Hid ((str (Lib.toUpperA tx)).data.toList = Lib.toUpperA tx) := Lib.hid rfl
          have HTB1 : Hid (TBb (wr.alloc (.cells #[.int .i64 kd, .string (str tx), .int .i64 ta] 32)) wr.heap.size kd (str tx) ta) := Lib.hid (blk_new _ _)
          have HG1 := Lib.hid (HGr.out.alloc (.cells #[.int .i64 kd, .string (str tx), .int .i64 ta] 32))
          have HB1 := Lib.hid (HB.out.gr ((Gr.refl wr).alloc (.cells #[.int .i64 kd, .string (str tx), .int .i64 ta] 32)))
          have hne : wr.heap.size ≠ w1.heap.size := by have := HB.out.lt; omega
          clear HAS HB HGr
          generalize Lib.toUpperA tx = ux at *
          generalize str ux = us at *
          generalize str tx = ts at *
          generalize str (List.replicate r (32 : UInt8)) = sp at *
          generalize Lib.hasPrefix tx [34] = q at *
          go_wp2_with fail
          rw [← HR.out]
          refine (RP.out _).mono ?_; rintro e w2 ⟨rfl, hg⟩
          have HTB2 := Lib.hid (HTB1.out.gr hg)
          have HG2 := Lib.hid (Gr.trans HG1.out hg)
          have HB2 := Lib.hid (HB1.out.gr hg)
          clear hg HTB1 HG1 HB1 c0 c1 c2
          go_wp2_with fail
          refine (sb_WriteString _ _ (blow L r j) sp _ HB2.out (by omega) HG2.out.size).mono ?_; rintro e w3 ⟨rfl, hb3, hg3, hk3⟩
          have HTB3 := Lib.hid (HTB2.out.kept hk3 hne)
          have HG3 := Lib.hid (Below.trans HG2.out hg3)
          rw [HSP.out] at hb3
          have HB3 := Lib.hid hb3
          have hl3 : (blow L r j ++ List.replicate r (32 : UInt8)).length ≤ 1103 := by rw [List.length_append, List.length_replicate]; omega
          obtain ⟨k0, k1, k2⟩ := HTB3.out.cells
          clear hb3 hg3 hk3 HTB2 HG2 HB2
          rw [← List.append_assoc] at HBS
          generalize blow L r j ++ List.replicate r (32 : UInt8) = acc at *
          have PLAIN : Hid (∀ w4, SB w1.heap.size w1.heap.size acc w4 → True) := Lib.hid fun _ _ => trivial
          by_cases hk : kd = 0
          · have hz : (kd == 0) = true := by simp [hk]
            cases q
            · have UP2 := Lib.hid (UP.out hk rfl)
              clear UP
              have hu := hup.out
              rw [if_pos ⟨hk, rfl⟩] at hu
              rw [hu] at HBS
              clear hup hk hu
              go_wp2_with fail
              refine (PF.out _).mono ?_; rintro e w4 ⟨rfl, rfl⟩
              go_wp2_with fail
              refine (UP2.out _).mono ?_; rintro e w5 ⟨rfl, hg⟩
              have HG5 := Lib.hid (Gr.trans HG3.out hg)
              have HB5 := Lib.hid (HB3.out.gr hg)
              clear hg HG3 HB3 HTB3 k0 k1 k2
              go_wp2_with fail
              refine (sb_WriteString _ _ acc us _ HB5.out (by omega) HG5.out.size).mono ?_; rintro e w6 ⟨rfl, hb6, hg6, -⟩
              have HG6 := Lib.hid (Below.trans HG5.out hg6)
              rw [HUX.out] at hb6
              have HB6 := Lib.hid hb6
              clear hb6 hg6 HG5 HB5
              go_wp2
              go_roundw
              case rel => exact ⟨j + 1, by go_num, by omega, by rw [HBS.out]; exact HB6, HG6⟩
              case measure => simp [intOf]; omega
            · have hu := hup.out
              rw [if_neg (by simp)] at hu
              rw [hu] at HBS
              clear hup hk hu UP
              go_wp2_with fail
              refine (PF.out _).mono ?_; rintro e w4 ⟨rfl, rfl⟩
              go_wp2_with fail
              refine (sb_WriteString _ _ acc ts _ HB3.out (by omega) HG3.out.size).mono ?_; rintro e w6 ⟨rfl, hb6, hg6, -⟩
              have HG6 := Lib.hid (Below.trans HG3.out hg6)
              rw [HTX.out] at hb6
              have HB6 := Lib.hid hb6
              clear hb6 hg6 HG3 HB3 HTB3 k0 k1 k2
              go_wp2
              go_roundw
              case rel => exact ⟨j + 1, by go_num, by omega, by rw [HBS.out]; exact HB6, HG6⟩
              case measure => simp [intOf]; omega
          · have hz : (kd == 0) = false := by rw [beq_eq_false_iff_ne]; exact hk
            have hu := hup.out
            rw [if_neg (fun e => hk e.1)] at hu
            rw [hu] at HBS
            clear hup hk hu UP PF
            go_wp2_with fail
            refine (sb_WriteString _ _ acc ts _ HB3.out (by omega) HG3.out.size).mono ?_; rintro e w6 ⟨rfl, hb6, hg6, -⟩
            have HG6 := Lib.hid (Below.trans HG3.out hg6)
            rw [HTX.out] at hb6
            have HB6 := Lib.hid hb6
            clear hb6 hg6 HG3 HB3 HTB3 k0 k1 k2
            go_wp2
            go_roundw
            case rel => exact ⟨j + 1, by go_num, by omega, by rw [HBS.out]; exact HB6, HG6⟩
            case measure => simp [intOf]; omega
        · have hjn : j = n := by omega
          subst hjn
          clear BL TL AS RP HR hlt hj
          go_wp2_with fail
          refine (Tryd.Builder_String_any_f _ _ (blow L r j) _ HB.out HGr.out.size).mono ?_; rintro e w2 ⟨rfl, -, hg⟩
          have HG2 := Lib.hid (Below.trans HGr.out hg)
          clear hg HB HGr
          go_wp2_with fail
          refine (A2.out _).mono ?_; rintro e w3 ⟨v, rfl, ho, hg⟩
          obtain ⟨b2, cb, rfl, ht2, -⟩ := ho.shape
          have HG3 := Lib.hid (Gr.trans HG2.out hg)
          have HT3 := Lib.hid ht2
          have BM := Lib.hid (fun w (h : TksAt w b2 M) => l7_bare b2 cb M w h (by rw [HI2.out]; omega))
          rw [HI2.out] at BM ⊢
          clear hg ht2 ho A2 HG2
          go_wp2_with fail
          refine (BLL.out _ _ _ (HT.out.gr HG3.out)).mono ?_; rintro e w4 ⟨a1, c1, rfl, h1, hg⟩
          have H1 := Lib.hid h1
          have HG4 := Lib.hid (Gr.trans HG3.out hg)
          have HT4 := Lib.hid (HT3.out.gr hg)
          clear hg h1 HT3 HG3 BLL
          go_wp2_with fail
          refine (BM.out _ HT4.out).mono ?_; rintro e w5 ⟨a2, c2, rfl, h1, hg⟩
          rw [HI3.out] at h1
          have EQ := Lib.hid (sl_SameTk (ca := c1) (cb := c2) (H1.out.gr hg) h1 (by rw [hbl.out]; omega))
          rw [hbl.out] at EQ
          have HG5 := Lib.hid (Gr.trans HG4.out hg)
          clear hg h1 H1 HG4 HT4 BM
          go_wp2_with fail
          refine EQ.out.mono ?_; rintro e w6 ⟨rfl, hg⟩
          have HG6 := Lib.hid (Gr.trans HG5.out hg)
          clear hg EQ HG5
          go_wp2_with fail
          refine (AW.out _).mono ?_; rintro e w7 ⟨rfl, hg⟩
          have HG7 := Lib.hid (Gr.trans HG.out (Gr.trans HG6.out hg))
          clear hg HG6
          go_wp2
          go_ret
          exact ⟨rfl, HG7.out⟩
    · have hz : ((scanR s.data.toList).2.2 != 0) = true := by simp [h0]
      have hle : s.size ≤ 300 := by omega
      clear HS HTK hlen hsz h0
      generalize scanR s.data.toList = R at *
      obtain ⟨L, at_, er⟩ := R
      simp only at A hz
      go_enter Tryd.func4, Tryd.ntmps4
      go_wp2_with fail
      refine (A.out _).mono ?_; rintro e w1 ⟨v, rfl, hv, hg⟩
      have HG := Lib.hid hg
      clear hg hv A
      go_wp2_with fail
      refine (AW.out _).mono ?_; rintro e w2 ⟨rfl, hg⟩
      have HG2 := Lib.hid (Gr.trans HG.out hg)
      clear hg HG
      go_wp2
      go_ret
      exact ⟨rfl, HG2.out⟩
end Go.Proofs.YtlcpfhgobfjioaaDoor
