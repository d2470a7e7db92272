/- IntG: Int03a, Int03b, Int04a, Int04b, Int04c, Int04d, joined. -/
import Derived.Test.YtlbnibicehpobaaGreatDoorIntF
import Derived.Lib.OthersKept
import Derived.Lib.LaidTab
import Derived.RangeFuncBox
set_option linter.unusedVariables false
set_option linter.unusedSimpArgs false

/- Words as decimal digits. -/
namespace Go.Proofs.YtlbnibicehpobaaGreatDoor
open Go.RowKit Go.Shelf
open Z

/-- the nine digits of a word, as bytes -/
def d9 (x : Nat) : List UInt8 := (dig9 x).map UInt8.ofNat
theorem d9_eq (x : Nat) : d9 x = [UInt8.ofNat (48 + x / 100000000 % 10), UInt8.ofNat (48 + x / 10000000 % 10), UInt8.ofNat (48 + x / 1000000 % 10), UInt8.ofNat (48 + x / 100000 % 10), UInt8.ofNat (48 + x / 10000 % 10), UInt8.ofNat (48 + x / 1000 % 10), UInt8.ofNat (48 + x / 100 % 10), UInt8.ofNat (48 + x / 10 % 10), UInt8.ofNat (48 + x / 1 % 10)] := rfl
theorem d9_all (x : Nat) : (d9 x).all isD = true := by
  rw [List.all_eq_true]
  intro c hc
  obtain ⟨n, hn, rfl⟩ := List.mem_map.1 hc
  obtain ⟨i, -, rfl⟩ := List.mem_map.1 hn
  exact (ofNat_digit (Nat.mod_lt _ (by omega))).1
theorem d9_len (x : Nat) : (d9 x).length = 9 := by simp [d9, dig9]
theorem dec_d9 (x : Nat) (hx : x < 1000000000) : dec (d9 x) = x := by
  have h : ∀ k, dv (UInt8.ofNat (48 + x / k % 10)) = x / k % 10 := fun k => (ofNat_digit (Nat.mod_lt _ (by omega))).2
  rw [d9_eq]
  simp only [dec, List.foldl_cons, List.foldl_nil, h]
  omega
theorem d9_cells (x : Nat) : (d9 x).map (fun b => Value.int .u8 (b.toNat : Int)) = (dig9 x).map (fun (d : Nat) => Value.int .u8 (d : Int)) := by
  unfold d9
  rw [List.map_map]
  apply List.map_congr_left
  intro n hn
  obtain ⟨i, -, rfl⟩ := List.mem_map.1 hn
  have : x / 10 ^ (8 - i) % 10 < 10 := Nat.mod_lt _ (by omega)
  show Value.int .u8 (((UInt8.ofNat (48 + x / 10 ^ (8 - i) % 10)).toNat : Nat) : Int) = _
  rw [show (UInt8.ofNat (48 + x / 10 ^ (8 - i) % 10)).toNat = 48 + x / 10 ^ (8 - i) % 10 by rw [UInt8.toNat_ofNat']; omega]
theorem lead_append {a b : List UInt8} (ha : lead a = true) (hb : b.all isD = true) : lead (a ++ b) = true := by
  unfold lead at ha ⊢
  simp only [Bool.and_eq_true, Bool.not_eq_true'] at ha ⊢
  obtain ⟨⟨h1, h2⟩, h3⟩ := ha
  refine ⟨⟨by rw [List.all_append, h1, hb]; rfl, ?_⟩, ?_⟩
  · cases a with
    | nil => simp at h2
    | cons c l => rfl
  · cases a with
    | nil => simp at h2
    | cons c l => exact h3
/-- the digits of a number that has nine digits more -/
theorem decDigits_more {v x : Nat} (hv : 0 < v) (hx : x < 1000000000) : Lib.decDigits (x + 1000000000 * v) = Lib.decDigits v ++ d9 x := by
  obtain ⟨h1, h2, h3⟩ := dec_decDigits v
  have h := decDigits_dec _ (Lib.decDigits v ++ d9 x) rfl (lead_append (h3 hv) (d9_all x))
  rw [dec_append, h1, dec_d9 x hx, d9_len] at h
  rw [show x + 1000000000 * v = v * 10 ^ 9 + x by omega]
  exact h
/-- what text has written behind k words -/
def digs (xs : List Nat) (k : Nat) : List UInt8 := if k = 0 then [] else Lib.decDigits (wv 1000000000 (xs.drop (xs.length - k)))
theorem top_pos {xs : List Nat} (h : Nm xs) {j : Nat} (hj : j < xs.length) : 0 < wv 1000000000 (xs.drop j) := by
  have hn : Nm (xs.drop j) := ⟨small_drop h.1 j, by rw [List.getLast?_drop, if_neg (by omega)]; exact h.2⟩
  have := hn.ge (by intro e; have := congrArg List.length e; rw [List.length_drop] at this; simp at this; omega)
  have h2 : 0 < 1000000000 ^ ((xs.drop j).length - 1) := Nat.pow_pos (by omega)
  omega
theorem digs_first {xs : List Nat} (h0 : 0 < xs.length) : digs xs 1 = Lib.decDigits (xs.getD (xs.length - 1) 0) := by
  unfold digs
  rw [if_neg (by omega), wv_dropB (l := xs) (i := xs.length - 1) _ (by omega), List.drop_of_length_le (by omega)]
  simp only [wv, Nat.mul_zero, Nat.add_zero]
  congr 1
  simp [show xs.length - 1 < xs.length by omega]
theorem digs_next {xs : List Nat} (h : Nm xs) {k : Nat} (h0 : 0 < k) (hk : k < xs.length) : digs xs (k + 1) = digs xs k ++ d9 (xs.getD (xs.length - 1 - k) 0) := by
  unfold digs
  rw [if_neg (by omega), if_neg (by omega), wv_dropB (l := xs) (i := xs.length - (k + 1)) _ (by omega), show xs.length - (k + 1) + 1 = xs.length - k by omega]
  have e : xs.getD (xs.length - 1 - k) 0 = xs[xs.length - (k + 1)]'(by omega) := by
    rw [show xs.length - 1 - k = xs.length - (k + 1) by omega]; simp [show xs.length - (k + 1) < xs.length by omega]
  rw [e]
  exact decDigits_more (top_pos h (by omega)) (h.1 _ (List.getElem_mem _))
theorem digs_all {xs : List Nat} (h0 : 0 < xs.length) : digs xs xs.length = Lib.decDigits (wv 1000000000 xs) := by
  unfold digs
  rw [if_neg (by omega), Nat.sub_self, List.drop_zero]
theorem digs_len {xs : List Nat} (h : Nm xs) : ∀ k, k ≤ xs.length → (digs xs k).length ≤ 9 * k
  | 0, _ => by simp [digs]
  | 1, h1 => by
    rw [digs_first (by omega), Lib.decDigits_length]
    exact (nDigits_le_iff _ 9 (by omega)).2 (small_getD (by omega) h.1 _)
  | k + 2, hk => by
    rw [digs_next h (by omega) (by omega), List.length_append, d9_len]
    have := digs_len h (k + 1) (by omega)
    omega
end Go.Proofs.YtlbnibicehpobaaGreatDoor

/- text of words. -/
namespace Go.Proofs.YtlbnibicehpobaaGreatDoor
open Go.RowKit Go.Shelf
open Z
attribute [local go_sem] Oper.semAt_some

/-- the table of powers of ten reads as it should -/
def Tab (w : World) : Prop := Lib.TabIs Tryz.prog w "internal/strconv.uint64pow10" .u64 Lib.pow10Tab
def TextRet (n : Nat) (w w' : World) (e : Ending) : Prop := e = .returned (.string (str (Lib.decDigits n))) ∧ Gr w w'
set_option maxHeartbeats 4000000 in
set_option maxRecDepth 100000 in
theorem i_text0 (aa : Option Addr) (ca : Nat) (w : World) :
    Calls Tryz.prog 165 #[.slice aa 0 ca] w (fun e w' => TextRet 0 w w' e) := by
  refine (callsIn_wide (n := 3)).1 ?_
  refine callsIn_of_wp_marks Tryz.func165 rfl trivial ?_ rfl
  simp only [Tryz.ntmps165, List.size_toArray, List.length_cons, List.length_nil, Nat.reduceAdd, Nat.reduceSub, Array.replicate_succ, Array.replicate_zero, List.push_toArray, List.append_toArray, List.nil_append, List.cons_append]
  gi_wp2
  refine ⟨.string ⟨#[48]⟩, ?_, ?_, ?_⟩
  · simp [results, Tryz.results165, go_sem]
  · rw [decDigits_zero]; rfl
  · exact (Gr.refl w).alloc _
theorem boxed_kept {W W' : World} {row : Option Nat} {B : Nat} {t : TypeId} {v : Value} (h : Boxed W B t v) (hg : W.grownBy W' row) (hr : ∀ r, row = some r → ∃ o : Obj, W.heap[r]? = some o ∧ o.isCells = false) : Boxed W' B t v := by
  refine h.kept hg ?_
  intro e
  obtain ⟨o, ho, hc⟩ := hr B e.symm
  rw [show W.heap[B]? = _ from h] at ho
  cases ho
  simp [Obj.isCells] at hc
theorem OwnB.kept {B : Nat} {W W' : World} {v : Value} {l : List UInt8} {row : Option Nat} (h : OwnB B W v l) (hg : W.grownBy W' row) (hr : ∀ r, row = some r → ∃ o : Obj, W.heap[r]? = some o ∧ o.isCells = false) : OwnB B W' v l := by
  refine ⟨h.1, ?_⟩
  rcases h.2 with ⟨h1, h2⟩ | ⟨g, cap, cur, h1, h2, h3, h4⟩
  · exact .inl ⟨h1, h2⟩
  · refine .inr ⟨g, cap, cur, h1, h2, ?_, h4⟩
    rw [hg.block g (Array.getElem?_eq_some_iff.1 h3).1 ?_]
    · exact h3
    · intro e
      obtain ⟨o, ho, hc⟩ := hr g e.symm
      rw [h3] at ho
      cases ho
      simp [Obj.isCells] at hc
theorem OwnB.nilKept {B : Nat} {W W' : World} {v : Value} {l : List UInt8} (h : OwnB B W v l) (hs : ∀ g o c, v = .slice (some ⟨g, o, none⟩) l.length c → W'.heap[g]? = W.heap[g]?) : OwnB B W' v l := by
  refine ⟨h.1, ?_⟩
  rcases h.2 with ⟨h1, h2⟩ | ⟨g, cap, cur, h1, h2, h3, h4⟩
  · exact .inl ⟨h1, h2⟩
  · exact .inr ⟨g, cap, cur, h1, h2, (hs g 0 cap h1).trans h3, h4⟩
/-- what an append of digits does -/
def AppRet (B : Nat) (l : List UInt8) (w w' : World) (e : Ending) : Prop := ∃ v', e = .returned v' ∧ OwnB B w' v' l ∧ Below B w w' ∧ Lib.OthersKept 5 none w w'
set_option maxHeartbeats 1000000 in
theorem i_AppendUint (B u : Nat) (l : List UInt8) (sv : Value) (w : World) (hu : u < 1000000000) (hown : OwnB B w sv l) (hBw : B ≤ w.heap.size) (hlim : l.length ≤ 100000000) (htab : Tab w) :
    Calls Tryz.prog 189 #[sv, .int .u64 u, .int .i64 10] w (fun e w' => AppRet B (l ++ Lib.decDigits u) w w' e) := by
  have H := Lib.hid (Tryz.internal_strconv_AppendUint_10 B l.length u (by omega) sv _ w hown hBw (by omega) htab)
  clear hown htab
  go_enter Tryz.func189, Tryz.ntmps189
  go_wp2_with fail
  refine H.out.mono ?_
  rintro e w' ⟨v', rfl, h1, h2, h3⟩
  have H1 : Hid (OwnB B w' v' (l ++ Lib.decDigits u)) := by
    show World.ownsRow _ _ _ _ _ _ _
    rw [List.length_append, List.map_append]; exact h1
  have H2 := Lib.hid h2
  have H3 := Lib.hid h3
  obtain ⟨a, n', c, rfl⟩ : ∃ a n' c, v' = .slice a n' c := by obtain ⟨a, c, h⟩ := H1.out.form; exact ⟨a, _, c, h⟩
  clear h1 h2 h3
  go_wp2
  go_ret
  exact ⟨_, rfl, H1.out, H2.out, H3.out⟩
theorem boxed_other {W : World} {b b' : Nat} {t : TypeId} {v u : Value} (h : Boxed W b t v) (hn : b ≠ b') : Boxed (W.setCell ⟨b', 0, none⟩ u) b t v := (Below.heap_setCell _ _ _ _ hn).trans h
/-- nine digits as a value -/
def WTRet (x : Nat) (w w' : World) (e : Ending) : Prop := ∃ d0 d1 d2 d3 d4 d5 d6 d7 d8 : Nat, e = .returned (.agg #[.int .u8 d0, .int .u8 d1, .int .u8 d2, .int .u8 d3, .int .u8 d4, .int .u8 d5, .int .u8 d6, .int .u8 d7, .int .u8 d8]) ∧ Hid ([d0, d1, d2, d3, d4, d5, d6, d7, d8] = dig9 x) ∧ Gr w w'
theorem i_wordText' (x : Nat) (w : World) (hx : x < 1000000000) : Calls Tryz.prog 190 #[.int .u64 x] w (fun e w' => WTRet x w w' e) := by
  refine (i_wordText x w hx).mono ?_
  rintro e w' ⟨rfl, hg⟩
  exact ⟨48 + x / 10 ^ 8 % 10, 48 + x / 10 ^ 7 % 10, 48 + x / 10 ^ 6 % 10, 48 + x / 10 ^ 5 % 10, 48 + x / 10 ^ 4 % 10, 48 + x / 10 ^ 3 % 10, 48 + x / 10 ^ 2 % 10, 48 + x / 10 ^ 1 % 10, 48 + x / 10 ^ 0 % 10, rfl, rfl, hg⟩
theorem htab_gr {w w' : World} (h : Tab w) (hg : Gr w w') : Tab w' := by
  unfold Tab Lib.TabIs World.var? at *
  cases hn : Tryz.prog.globalNamed "internal/strconv.uint64pow10" with
  | none => rw [hn] at h; simp at h
  | some g =>
    rw [hn] at h
    simp only [Option.bind_some] at h ⊢
    cases ho : w.heap[g]? with
    | none => rw [ho] at h; simp at h
    | some o =>
      have : w'.heap[g]? = some o := (hg.block g (Array.getElem?_eq_some_iff.1 ho).1).trans ho
      rw [this]; rw [ho] at h; exact h
def TXI (w : World) (bb bo B : Nat) (xs : List Nat) (vb : Value) (k : Nat) (W : World) : Prop :=
  Gr w W ∧ Boxed W bb 136 vb ∧ Boxed W w.heap.size 136 vb ∧ ∃ v, Boxed W bo 94 v ∧ OwnB B W v (digs xs k)
set_option maxHeartbeats 4000000 in
set_option maxRecDepth 100000 in
theorem i_text1 (aa : Option Addr) (ca : Nat) (xs : List Nat) (w : World) (hr : Rd .u32 w (.slice aa xs.length ca) xs) (hnm : Nm xs) (h0 : 0 < xs.length) (hl : xs.length ≤ 1000000) (htab : Tab w) :
    Calls Tryz.prog 165 #[.slice aa xs.length ca] w (fun e w' => TextRet (wv 1000000000 xs) w w' e) := by
  obtain ⟨i0, hi, hz0, hz1, hz2⟩ := info_parts Tryz.infoU8
  have HR := Lib.hid hr; clear hr
  have HNM := Lib.hid hnm; clear hnm
  have HTAB := Lib.hid htab; clear htab
  refine (callsIn_wide (n := 3)).1 ?_
  refine callsIn_of_wp_marks Tryz.func165 rfl trivial ?_ rfl
  simp only [Tryz.ntmps165, List.size_toArray, List.length_cons, List.length_nil, Nat.reduceAdd, Nat.reduceSub, Array.replicate_succ, Array.replicate_zero, List.push_toArray, List.append_toArray, List.nil_append, List.cons_append]
  gi_wp2_with (gi_at_make; refine wpListIn_make_own _ rfl _ _ 94 rfl (w.heap.size + 1) 5 i0 (.int .u8 0) 1 Tryz.underlying94 hi hz0 hz1 .i64 .i64 _ (xs.length * 9) rfl rfl (by omega) (by rw [hz2]; omega) (by unfold maxLen; omega) (by simp) ?_)
  intro w1 hown0 hgr0
  have hO0 : OwnB (w.heap.size + 1) w1 (.slice (some ⟨w.heap.size + 1, 0, none⟩) 0 (xs.length * 9)) [] := hown0
  have hb0 : Boxed w1 w.heap.size 136 (.slice aa xs.length ca) := (Boxed.new w _ _).kept hgr0 (by simp)
  have hg1 : Gr w w1 := Below.grown ((Gr.refl w).alloc _) hgr0 (by simp) (fun k hk => by simp at hk)
  have hlt1 : w.heap.size + 1 < w1.heap.size := by
    have := World.ownsRow.lt hown0 (w.heap.size + 1) rfl; omega
  have HO0 := Lib.hid hO0
  have HB0 := Lib.hid hb0
  have HG1 := Lib.hid hg1
  have c0 : ∀ o, (w1.alloc o).cell? ⟨w.heap.size, 0, none⟩ = some (.slice aa xs.length ca) := fun o => (hb0.alloc o).cell
  clear hown0 hgr0 hO0 hb0 hg1
  gi_wp2_with (refine ⟨trivial, ?_⟩; gi_at_call 169; refine (callsIn_wide.2 (i_backwards _ _ _ _)).mono ?_; rintro e w' ⟨rfl, rfl⟩)
  generalize hW3 : ((w1.alloc (.cells #[.slice (some ⟨w.heap.size + 1, 0, none⟩) 0 (xs.length * 9)] 94)).alloc (.cells #[.slice aa xs.length ca] 136)) = W3
  have hbx : ∃ bx bo bb B, bx = w.heap.size ∧ bo = w1.heap.size ∧ bb = w1.heap.size + 1 ∧ B = w.heap.size + 1 := ⟨_, _, _, _, rfl, rfl, rfl, rfl⟩
  obtain ⟨bx, bo, bb, B, hbx, hbo, hbb, hB⟩ := hbx
  have hs3 : W3.heap.size = bb + 1 := by rw [← hW3, hbb]; simp
  have hg3 : Gr w W3 := by rw [← hW3]; exact (HG1.out.alloc _).alloc _
  have b3x : Boxed W3 w.heap.size 136 (.slice aa xs.length ca) := by rw [← hW3]; exact (HB0.out.alloc _).alloc _
  have b3o : Boxed W3 bo 94 (.slice (some ⟨B, 0, none⟩) 0 (xs.length * 9)) := by rw [← hW3, hbo, hB]; exact (Boxed.new w1 _ _).alloc _
  have b3b : Boxed W3 bb 136 (.slice aa xs.length ca) := by
    have := Boxed.new (w1.alloc (.cells #[.slice (some ⟨w.heap.size + 1, 0, none⟩) 0 (xs.length * 9)] 94)) 136 (.slice aa xs.length ca)
    rw [World.size_alloc] at this
    rw [← hW3, hbb]; exact this
  have o3 : OwnB B W3 (.slice (some ⟨B, 0, none⟩) 0 (xs.length * 9)) (digs xs 0) := by
    rw [← hW3, hB]; exact World.ownsRow.alloc (World.ownsRow.alloc HO0.out _) _
  have hI0 : TXI w bb bo B xs (.slice aa xs.length ca) 0 W3 := ⟨hg3, b3b, b3x, _, b3o, o3⟩
  have HI0 := Lib.hid hI0
  have hr3 := HR.out.gr hg3
  have c3b := b3b.cell
  have hsz : W3.heap.size = bb + 1 := hs3
  have hord1 : w.heap.size < B := by omega
  have hord2 : B < bo := by omega
  have hord3 : bo < bb := by omega
  have HBB : Hid (B = w.heap.size + 1) := by show _ = _; omega
  rw [show (some ⟨w1.heap.size, 0, none⟩ : Option Addr) = some ⟨bo, 0, none⟩ by rw [hbo], show (some ⟨w1.heap.size + 1, 0, none⟩ : Option Addr) = some ⟨bb, 0, none⟩ by rw [hbb], ← hB]
  have hrs := i_rounds xs aa xs.length ca bb (ownB w.heap.size bb) W3 hr3 (.inr rfl) HR.out.inB c3b HNM.out.1 (by omega)
  clear hI0 b3x b3o b3b o3 hg3 hW3 hs3 hbx hbo hbb hB hr3 c3b HG1 HB0 HO0 c0 hlt1
  have hsz' : bb < W3.heap.size := by omega
  clear hsz
  refine wp_rounds (gf := 192) (lb := #[.pointer (some ⟨bb, 0, none⟩)]) rfl (enters_of Tryz.func192 (by kernel_rfl) rfl) (S := ownB w.heap.size bb) (fun k hk => by have := hk.lt; omega)
    hrs (fun _ => rfl)
    (TXI w bb bo B xs (.slice aa xs.length ca))
    (fun _ _ => False)
    (fun s A B' row hs hg hr => ⟨Below.grown hs.1 hg hs.1.size (fun k e => by have := (hr k e).1; omega), boxed_kept hs.2.1 hg (fun r e => (hr r e).2), boxed_kept hs.2.2.1 hg (fun r e => (hr r e).2), by
      obtain ⟨v, h1, h2⟩ := hs.2.2.2
      exact ⟨v, boxed_kept h1 hg (fun r e => (hr r e).2), h2.kept hg (fun r e => (hr r e).2)⟩⟩)
    (fun c s A B row hs hg hr => hs)
    HI0.out
    (fun k => { tmps := #[.slice aa xs.length ca, .pointer (some ⟨w.heap.size, 0, none⟩), .string ⟨#[]⟩, .pointer (some ⟨bo, 0, none⟩), .int .i64 ((xs.length - 1 - k : Nat) : Int), .int .u64 ((xs.getD (xs.length - 1 - k) 0 : Nat) : Int), undef, .slice aa xs.length ca, .int .i64 xs.length, .bool false, .slice aa xs.length ca, .int .i64 xs.length, .int .i64 ((xs.length : Int) * 9),
      .slice (some ⟨B, 0, none⟩) 0 (xs.length * 9), .slice aa xs.length ca, .func (.func 192) #[] #[.pointer (some ⟨bb, 0, none⟩)], .int .i64 ((xs.length - 1 - k : Nat) : Int), .int .u64 ((xs.getD (xs.length - 1 - k) 0 : Nat) : Int), undef, undef, undef, undef, undef, undef, undef, undef, undef, undef, undef, undef, undef, undef, undef], defers := [] }) ?assign ?body ?done ?stop
  case assign =>
    intro l k W K hK
    unfold downArgs
    gi_wp2
    exact hK
  case stop =>
    rintro D c W hD h hK
    exact h.elim
  case done =>
    rintro D W hD ⟨hg, hbb, hbx, v, hbo, hown⟩ hK
    have hcv := OwnB.convert hown (by rw [digs_all h0]; exact decDigits_ne _)
    rw [digs_all h0] at hcv
    have HG := Lib.hid hg
    have HK := Lib.hid hK
    obtain ⟨ao, no, cco, rfl⟩ : ∃ a n c, v = .slice a n c := by obtain ⟨a, c, h⟩ := hown.form; exact ⟨a, _, c, h⟩
    have co := hbo.cell
    clear hg hbb hbx hbo hown hK
    gi_wp2
    refine ⟨by simp, .inl ⟨_, _, rfl, run_takeDeferred HK.out, ?_⟩⟩
    refine ⟨.string ⟨(Lib.decDigits (wv 1000000000 xs)).toArray⟩, ?_, rfl, Below.trans HG.out (below_putObj (by omega))⟩
    simp [results, Tryz.results165, go_sem]
  case body =>
    rintro l k W hk ⟨hg, hbb, hbx, v, hbo, hown⟩
    obtain ⟨x, HX⟩ : ∃ x, Hid (x = xs.getD (xs.length - 1 - k) 0) := ⟨_, rfl⟩
    obtain ⟨j, HJ⟩ : ∃ j, Hid (j = xs.length - 1 - k) := ⟨_, rfl⟩
    rw [← HX.out, ← HJ.out]
    have hxb : x < 1000000000 := by rw [HX.out]; exact small_getD (by omega) HNM.out.1 _
    have cx := hbx.cell
    have co := hbo.cell
    have fo := hbo.frozen
    have hTW : Tab W := htab_gr HTAB.out hg
    obtain ⟨ao, no, cco, rfl⟩ : ∃ a n c, v = .slice a n c := by obtain ⟨a, c, h⟩ := hown.form; exact ⟨a, _, c, h⟩
    have HOWN := Lib.hid hown
    have HBO := Lib.hid hbo
    have HBB2 := Lib.hid hbb
    have HBX := Lib.hid hbx
    have HGW := Lib.hid hg
    rcases Nat.eq_zero_or_pos k with rfl | hkp
    · have HD1 : Hid (digs xs 1 = digs xs 0 ++ Lib.decDigits x) := by show _ = _; rw [digs_first h0, HX.out]; rfl
      have ht : ((j : Int) == (xs.length : Int) - 1) = true := by have := HJ.out; simp; omega
      have HAP := Lib.hid (i_AppendUint B x (digs xs 0) _ W hxb hown (by have := hbb.lt; omega) (by simp [digs]) hTW)
      clear hown hbo hbb hbx hg hTW
      gi_wp2_with (refine ⟨trivial, ?_⟩; gi_at_call 189; (with_reducible refine (CallsIn.inRound l (callsIn_wide.2 HAP.out)).mono ?_); rintro e w5 ⟨v5, rfl, ho5, hb5, hk5⟩
                   obtain ⟨a5, n5, c5, rfl⟩ : ∃ a n c, v5 = .slice a n c := by obtain ⟨a, c, h⟩ := ho5.form; exact ⟨a, _, c, h⟩
                   have HO5 := Lib.hid ho5
                   have HB5 := Lib.hid hb5
                   have HK5 := Lib.hid hk5
                   have hbo5 : Boxed w5 bo 94 (.slice ao no cco) := hk5 bo _ HBO.out (by simp) (by intro c fz h; cases h)
                   have HBO5 := Lib.hid hbo5
                   have co5 := hbo5.cell
                   have fo5 := hbo5.frozen
                   clear ho5 hb5 hk5 hbo5)
      have hk6 : KeepsFrom W3.heap.size W (w5.setCell ⟨bo, 0, none⟩ (.slice a5 n5 c5)) := by
        have h : KeepsFrom W3.heap.size W w5 := ⟨HB5.out.size, fun k o _ hk hc => HK5.out k o hk (by simp) (by intro c fz h; rw [h] at hc; simp [Obj.isCells] at hc)⟩
        exact h.trans ((KeepsOthers.setCell _ _ _).from _)
      have hb6 : Boxed w5 bb 136 (.slice aa xs.length ca) := HK5.out bb _ HBB2.out (by simp) (by intro c fz h; cases h)
      have hbx6 : Boxed w5 w.heap.size 136 (.slice aa xs.length ca) := HK5.out w.heap.size _ HBX.out (by simp) (by intro c fz h; cases h)
      refine ⟨hk6, ?_, ?_, boxed_other hb6 (by omega), boxed_other hbx6 (by omega), .slice a5 n5 c5, Boxed.set _ HBO5.out, ?_⟩
      · have h : KeepB (ownB w.heap.size bb) W w5 := by
          intro q hq
          rcases hq with hq | rfl
          · exact HB5.out.block q (by omega)
          · exact (show w5.heap[_]? = _ from hb6).trans (show W.heap[_]? = _ from HBB2.out).symm
        exact h.trans (KeepB.setCell (show ¬ ownB w.heap.size bb bo from fun h => by unfold ownB at h; omega) _)
      · exact Below.setCell (Below.trans HGW.out (Below.mono HB5.out (by omega))) (show w.heap.size ≤ bo by omega) _
      · rw [HD1.out]
        exact World.ownsRow.kept HO5.out (grownBy_setCell' w5 bo _) (.inr (HBO5.out.not_row (by decide) HO5.out).symm)
    · have ht : ((j : Int) == (xs.length : Int) - 1) = false := by have := HJ.out; simp; omega
      have HWT := Lib.hid (i_wordText' x W hxb)
      have HD1 : Hid (digs xs (k + 1) = digs xs k ++ d9 x) := by show _ = _; rw [digs_next HNM.out hkp hk, HX.out]
      have HLN := Lib.hid (digs_len HNM.out k (by omega))
      clear hown hbo hbb hbx hg hTW
      gi_wp2_with (refine ⟨trivial, ?_⟩; gi_at_call 190; (with_reducible refine (CallsIn.inRound l (callsIn_wide.2 HWT.out)).mono ?_); rintro e w5 ⟨d0, d1, d2, d3, d4, d5, d6, d7, d8, rfl, HDG, hg5⟩
                   have HG5 := Lib.hid hg5
                   have hbo5 : Boxed w5 bo 94 (.slice ao no cco) := (hg5.block bo HBO.out.lt).trans HBO.out
                   have HBO5 := Lib.hid hbo5
                   have co5 : ∀ o, (w5.alloc o).cell? ⟨bo, 0, none⟩ = some (.slice ao no cco) := fun o => (hbo5.alloc o).cell
                   have fo5 : ∀ o, (w5.alloc o).frozen? ⟨bo, 0, none⟩ = false := fun o => (hbo5.alloc o).frozen
                   clear hg5 hbo5)
      have HO5 : Hid (OwnB B w5 (.slice ao no cco) (digs xs k)) := HOWN.out.nilKept (fun g o c h => HG5.out.block g (by
        have h1 := HOWN.out.2
        rcases h1 with ⟨h1, -⟩ | ⟨g', cap, cur, h1, -, h3, -⟩
        · rw [h1] at h; cases h
        · rw [h1] at h; cases h; exact (Array.getElem?_eq_some_iff.1 h3).1))
      have hll : (digs xs k).length ≤ 9000000 := by have := HLN.out; omega
      have hlW : W.heap.size ≤ w5.heap.size := HG5.out.size
      have hBW : B ≤ W.heap.size := by have := HBB2.out.lt; omega
      refine wpIn_region_still_tail 2 (by kernel_rfl) (by kernel_rfl) (by kernel_rfl) (by rintro ⟨a, w, h⟩; exact h) ?_
      simp only [List.take_succ_cons, List.take_zero, List.drop_succ_cons, List.drop_zero]
      repeat still_step
      try refine wpStill_nil ?_
      go_wp2_with (at_builtin; refine wpList_append_own _ rfl _ _ 94 rfl B 5 i0 (.int .u8 0) 1 1 Tryz.underlying94 hi hz0 hz1 hz2 rfl (by decide) _ _ _ rfl (World.ownsRow.alloc HO5.out (.cells #[.int .u8 d0, .int .u8 d1, .int .u8 d2, .int .u8 d3, .int .u8 d4, .int .u8 d5, .int .u8 d6, .int .u8 d7, .int .u8 d8] 208)) ⟨w5.heap.size, 0, none⟩ 9 9 [.int .u8 d0, .int .u8 d1, .int .u8 d2, .int .u8 d3, .int .u8 d4, .int .u8 d5, .int .u8 d6, .int .u8 d7, .int .u8 d8] rfl rfl ?c1 ?c2 ?c3 ?c4 ?c5 ?_)
      case c1 =>
        intro j u hj
        have hj9 : j < 9 := by have := (List.getElem?_eq_some_iff.1 hj).1; simpa using this
        have hc : j = 0 ∨ j = 1 ∨ j = 2 ∨ j = 3 ∨ j = 4 ∨ j = 5 ∨ j = 6 ∨ j = 7 ∨ j = 8 := by omega
        have hcell : ∀ i v, (#[Value.int .u8 d0, .int .u8 d1, .int .u8 d2, .int .u8 d3, .int .u8 d4, .int .u8 d5, .int .u8 d6, .int .u8 d7, .int .u8 d8] : Array Value)[i]? = some v → (w5.alloc (.cells #[.int .u8 d0, .int .u8 d1, .int .u8 d2, .int .u8 d3, .int .u8 d4, .int .u8 d5, .int .u8 d6, .int .u8 d7, .int .u8 d8] 208)).cell? ⟨w5.heap.size, i, none⟩ = some v := by
          intro i v hv
          rw [World.cell?_alloc_at _ _ _ _ rfl]; exact hv
        rcases hc with rfl | rfl | rfl | rfl | rfl | rfl | rfl | rfl | rfl <;> exact hcell _ _ hj
      case c2 =>
        intro u hu
        simp only [List.mem_cons, List.not_mem_nil, or_false] at hu
        rcases hu with rfl | rfl | rfl | rfl | rfl | rfl | rfl | rfl | rfl <;> rfl
      case c3 => unfold maxLen; omega
      case c4 => omega
      case c5 => simp; omega
      intro v7 w7 hown7 hgr7 hnil7
      have hO7 : OwnB B w7 v7 (digs xs k ++ d9 x) := by
        show World.ownsRow _ _ _ _ _ _ _
        rw [List.length_append, d9_len, List.map_append, d9_cells, ← HDG.out]
        exact hown7
      have hgr : (w5.alloc (.cells #[.int .u8 d0, .int .u8 d1, .int .u8 d2, .int .u8 d3, .int .u8 d4, .int .u8 d5, .int .u8 d6, .int .u8 d7, .int .u8 d8] 208)).grownBy w7 (Value.slice ao no cco).ownBlock := ⟨hgr7.os, hgr7.tape, hgr7.output, hgr7.size, hgr7.block⟩
      obtain ⟨p1, p2, p3, p4, p5⟩ := Boxed.appended HBO5.out (by decide) HO5.out (by omega) (by omega) hO7 hgr
      obtain ⟨a7, n7, c7, rfl⟩ : ∃ a n c, v7 = .slice a n c := by obtain ⟨a, c, h⟩ := hO7.form; exact ⟨a, _, c, h⟩
      have co7 := p1.cell
      have fo7 := p1.frozen
      have hbb7 : Boxed w7 bb 136 (.slice aa xs.length ca) := by
        have h5 : Boxed w5 bb 136 (.slice aa xs.length ca) := (HG5.out.block bb HBB2.out.lt).trans HBB2.out
        exact (h5.alloc _).kept hgr (h5.not_row (by decide) HO5.out)
      have hbx7 : Boxed w7 w.heap.size 136 (.slice aa xs.length ca) := by
        have h5 : Boxed w5 w.heap.size 136 (.slice aa xs.length ca) := (HG5.out.block _ HBX.out.lt).trans HBX.out
        exact (h5.alloc _).kept hgr (h5.not_row (by decide) HO5.out)
      have HBB7 := Lib.hid hbb7
      have HBX7 := Lib.hid hbx7
      have HP2 := Lib.hid p2
      have HP3 := Lib.hid p3
      have HP4 := Lib.hid p4
      have HP5 := Lib.hid p5
      clear hown7 hgr7 hnil7 hO7 hgr p1 p2 p3 p4 p5 hbb7 hbx7 co5 fo5
      go_wp2
      have hk : KeepsFrom W3.heap.size W (w7.setCell ⟨bo, 0, none⟩ (.slice a7 n7 c7)) := (HG5.out.keeps _).trans (HP4.out.from _)
      have hGB : Below B W (w7.setCell ⟨bo, 0, none⟩ (.slice a7 n7 c7)) := Below.trans (Below.mono HG5.out (by omega)) HP5.out
      have hbb8 := boxed_other (u := .slice a7 n7 c7) (b' := bo) HBB7.out (by omega)
      refine ⟨hk, ?_, Below.trans HGW.out (Below.mono hGB (by omega)), hbb8, boxed_other HBX7.out (by omega), .slice a7 n7 c7, HP2.out, ?_⟩
      · intro q hq
        rcases hq with hq | rfl
        · exact hGB.block q (by omega)
        · exact (show (w7.setCell ⟨bo, 0, none⟩ (.slice a7 n7 c7)).heap[_]? = _ from hbb8).trans (show W.heap[_]? = _ from HBB2.out).symm
      · rw [HD1.out]; exact HP3.out
theorem i_text {K : Nat} (v : Value) (n : Nat) (w : World) (h : WD w v n) (hn : n < 1000000000 ^ K) (hK : K ≤ 1000000) (htab : Tab w) :
    Calls Tryz.prog 165 #[v] w (fun e w' => TextRet n w w' e) := by
  obtain ⟨aa, ca, xa, rfl, ra, na, rfl⟩ := h.form
  have h1 := na.le hn
  rcases Nat.eq_zero_or_pos xa.length with h0 | h0
  · have : xa = [] := List.eq_nil_of_length_eq_zero h0
    subst this
    exact i_text0 aa ca w
  · exact i_text1 aa ca xa w ra na h0 (by omega) htab
end Go.Proofs.YtlbnibicehpobaaGreatDoor

/- Numbers: signed, compare, opposite. -/
namespace Go.Proofs.YtlbnibicehpobaaGreatDoor
open Go.RowKit Go.Shelf
open Z

/-- v is the number a -/
def NV (w : World) (v : Value) (a : Int) : Prop := ∃ s, v = .agg #[.bool (decide (a < 0)), s] ∧ WD w s a.natAbs
theorem NV.gr {w w' : World} {v : Value} {a : Int} (h : NV w v a) (hg : Gr w w') : NV w' v a := by
  obtain ⟨s, h1, h2⟩ := h; exact ⟨s, h1, h2.gr hg⟩
theorem NV.form {w : World} {v : Value} {a : Int} (h : NV w v a) : ∃ ad n c, v = .agg #[.bool (decide (a < 0)), .slice ad n c] ∧ WD w (.slice ad n c) a.natAbs := by
  obtain ⟨s, rfl, h2⟩ := h
  obtain ⟨ad, n, c, rfl⟩ := h2.sh
  exact ⟨ad, n, c, rfl, h2⟩
/-- a call returns the number a -/
def NRet (a : Int) (w w' : World) (e : Ending) : Prop := ∃ v, e = .returned v ∧ NV w' v a ∧ Gr w w'
/-- the number with a sign and a size, where the sign of 0 is none -/
def sg (neg : Bool) (n : Nat) : Int := if neg then -(n : Int) else n
theorem sg_abs (neg : Bool) (n : Nat) : (sg neg n).natAbs = n := by unfold sg; split <;> simp
theorem sg_neg (neg : Bool) (n : Nat) : decide (sg neg n < 0) = (neg && decide (0 < n)) := by
  unfold sg
  cases neg
  · simp
  · simp

/-- a store into a cell that held no word -/
theorem WD.setNot {w : World} {v u u0 : Value} {m : Nat} {p : Addr} (h : WD w v m) (hc : w.cell? p = some u0) (hu : ∀ i, u0 ≠ .int .u32 i) : WD (w.setCell p u) v m := by
  obtain ⟨xs, h1, h2⟩ := h
  refine ⟨xs, ?_, h2⟩
  obtain ⟨a', c', rfl, h0, h1⟩ := h1
  refine ⟨a', c', rfl, h0, ?_⟩
  rcases h1 with h1 | ⟨g, off, rfl, h2, h3⟩
  · exact .inl h1
  · refine .inr ⟨g, off, rfl, by simpa [World.setCell] using h2, fun i hi => ?_⟩
    rw [World.cell?_setCell_other _ _ _ _ ?_]
    · exact h3 i hi
    · intro e
      have := h3 i hi
      rw [← e, hc] at this
      exact hu _ (Option.some.inj this)
/-- a number that was stored into a result's block -/
theorem nv_store {w w3 : World} {b n3 c3 n : Nat} {a3 : Option Addr} {t : Bool} {u0 u1 : Value} (hG : Gr w w3) (hb : w.heap.size ≤ b) (hw : WD w3 (.slice a3 n3 c3) n) (k1 : w3.cell? ⟨b, 0, none⟩ = some u0) (h0 : ∀ i, u0 ≠ .int .u32 i) (k2 : w3.cell? ⟨b, 1, none⟩ = some u1) (h1 : ∀ i, u1 ≠ .int .u32 i) :
    Gr w ((w3.setCell ⟨b, 0, none⟩ (.bool t)).setCell ⟨b, 1, none⟩ (.slice a3 n3 c3)) ∧ WD ((w3.setCell ⟨b, 0, none⟩ (.bool t)).setCell ⟨b, 1, none⟩ (.slice a3 n3 c3)) (.slice a3 n3 c3) n ∧
      ((w3.setCell ⟨b, 0, none⟩ (.bool t)).setCell ⟨b, 1, none⟩ (.slice a3 n3 c3)).cell? ⟨b, 0, none⟩ = some (.bool t) ∧ ((w3.setCell ⟨b, 0, none⟩ (.bool t)).setCell ⟨b, 1, none⟩ (.slice a3 n3 c3)).cell? ⟨b, 1, none⟩ = some (.slice a3 n3 c3) := by
  have e1 : (w3.setCell ⟨b, 0, none⟩ (.bool t)).cell? ⟨b, 1, none⟩ = some u1 := (World.cell?_setCell_other _ _ _ _ (by simp)).trans k2
  refine ⟨Below.setCell (Below.setCell hG (show w.heap.size ≤ b from hb) _) (show w.heap.size ≤ b from hb) _, (hw.setNot k1 h0).setNot e1 h1, ?_, ?_⟩
  · rw [World.cell?_setCell_other _ _ _ _ (by simp)]
    exact World.cell?_setCell_same' _ _ _ (by rw [k1]; rfl)
  · exact World.cell?_setCell_same' _ _ _ (by rw [e1]; rfl)
theorem nv_agg {w : World} {a3 : Option Addr} {n3 c3 n : Nat} {neg : Bool} (h : WD w (.slice a3 n3 c3) n) : NV w (.agg #[.bool (neg && decide (0 < n3)), .slice a3 n3 c3]) (sg neg n) := by
  refine ⟨_, ?_, by rw [sg_abs]; exact h⟩
  rw [sg_neg]
  have := h.zero
  rw [show decide (0 < n3) = decide (0 < n) by rw [decide_eq_decide]; omega]

set_option maxHeartbeats 1000000 in
theorem i_signed_plus (neg : Bool) (s v : Value) (n : Nat) (w : World) (h : ∀ w', Gr w w' → Calls Tryz.prog 150 #[s, v] w' (fun e w'' => WRet n w' w'' e)) :
    Calls Tryz.prog 148 #[.bool neg, .func (.func 150) #[s] #[], v] w (fun e w' => NRet (sg neg n) w w' e) := by
  have H := Lib.hid (fun w' hg => h w' hg)
  clear h
  have hg0 : Gr w (w.alloc (.cells #[.bool false, .slice none 0 0] 138)) := (Gr.refl w).alloc _
  go_enter Tryz.func148, Tryz.ntmps148
  go_wp2_with fail
  refine (H.out _ hg0).mono ?_
  rintro e w3 ⟨v3, rfl, hw3, hg3⟩
  obtain ⟨a3, n3, c3, rfl⟩ := hw3.sh
  have HW3 := Lib.hid hw3
  have HZ : Hid (n3 = 0 ↔ n = 0) := hw3.zero
  have HG3 := Lib.hid (Gr.trans hg0 hg3)
  have k1 : w3.cell? ⟨w.heap.size, 0, none⟩ = some (.bool false) := (Below.cell hg3 (p := ⟨w.heap.size, 0, none⟩) (by simp)).trans (by rw [World.cell?_alloc_at _ _ _ _ rfl]; rfl)
  have k2 : w3.cell? ⟨w.heap.size, 1, none⟩ = some (.slice none 0 0) := (Below.cell hg3 (p := ⟨w.heap.size, 1, none⟩) (by simp)).trans (by rw [World.cell?_alloc_at _ _ _ _ rfl]; rfl)
  have f1 : w3.frozen? ⟨w.heap.size, 0, none⟩ = false := (Below.frozen hg3 (p := ⟨w.heap.size, 0, none⟩) (by simp)).trans (World.frozen?_alloc_at _ _ _ _ rfl)
  have f2 : w3.frozen? ⟨w.heap.size, 1, none⟩ = false := (Below.frozen hg3 (p := ⟨w.heap.size, 1, none⟩) (by simp)).trans (World.frozen?_alloc_at _ _ _ _ rfl)
  clear hg0 hg3 hw3
  go_wp2
  · have HS := nv_store (t := decide (0 < n3)) HG3.out (Nat.le_refl _) HW3.out k1 (by simp) k2 (by simp)
    obtain ⟨hG, hW, hc1, hc2⟩ := HS
    refine bodyPost_ret (v := .agg #[.bool (decide (0 < n3)), .slice a3 n3 c3]) (by simp [results, Tryz.results148, go_sem, hc1, hc2]) rfl ⟨_, rfl, ?_, hG⟩
    have := nv_agg (neg := true) hW
    rw [Bool.true_and] at this; rwa [show neg = true by assumption]
  · have HS := nv_store (t := false) HG3.out (Nat.le_refl _) HW3.out k1 (by simp) k2 (by simp)
    obtain ⟨hG, hW, hc1, hc2⟩ := HS
    refine bodyPost_ret (v := .agg #[.bool false, .slice a3 n3 c3]) (by simp [results, Tryz.results148, go_sem, hc1, hc2]) rfl ⟨_, rfl, ?_, hG⟩
    have := nv_agg (neg := false) hW
    rw [Bool.false_and] at this
    have hn : neg = false := by cases neg <;> simp_all
    rw [hn]; exact this


set_option maxHeartbeats 1000000 in
theorem i_signed_minus (neg : Bool) (s v : Value) (n : Nat) (w : World) (h : ∀ w', Gr w w' → Calls Tryz.prog 152 #[s, v] w' (fun e w'' => WRet n w' w'' e)) :
    Calls Tryz.prog 148 #[.bool neg, .func (.func 152) #[s] #[], v] w (fun e w' => NRet (sg neg n) w w' e) := by
  have H := Lib.hid (fun w' hg => h w' hg)
  clear h
  have hg0 : Gr w (w.alloc (.cells #[.bool false, .slice none 0 0] 138)) := (Gr.refl w).alloc _
  go_enter Tryz.func148, Tryz.ntmps148
  go_wp2_with fail
  refine (H.out _ hg0).mono ?_
  rintro e w3 ⟨v3, rfl, hw3, hg3⟩
  obtain ⟨a3, n3, c3, rfl⟩ := hw3.sh
  have HW3 := Lib.hid hw3
  have HZ : Hid (n3 = 0 ↔ n = 0) := hw3.zero
  have HG3 := Lib.hid (Gr.trans hg0 hg3)
  have k1 : w3.cell? ⟨w.heap.size, 0, none⟩ = some (.bool false) := (Below.cell hg3 (p := ⟨w.heap.size, 0, none⟩) (by simp)).trans (by rw [World.cell?_alloc_at _ _ _ _ rfl]; rfl)
  have k2 : w3.cell? ⟨w.heap.size, 1, none⟩ = some (.slice none 0 0) := (Below.cell hg3 (p := ⟨w.heap.size, 1, none⟩) (by simp)).trans (by rw [World.cell?_alloc_at _ _ _ _ rfl]; rfl)
  have f1 : w3.frozen? ⟨w.heap.size, 0, none⟩ = false := (Below.frozen hg3 (p := ⟨w.heap.size, 0, none⟩) (by simp)).trans (World.frozen?_alloc_at _ _ _ _ rfl)
  have f2 : w3.frozen? ⟨w.heap.size, 1, none⟩ = false := (Below.frozen hg3 (p := ⟨w.heap.size, 1, none⟩) (by simp)).trans (World.frozen?_alloc_at _ _ _ _ rfl)
  clear hg0 hg3 hw3
  go_wp2
  · have HS := nv_store (t := decide (0 < n3)) HG3.out (Nat.le_refl _) HW3.out k1 (by simp) k2 (by simp)
    obtain ⟨hG, hW, hc1, hc2⟩ := HS
    refine bodyPost_ret (v := .agg #[.bool (decide (0 < n3)), .slice a3 n3 c3]) (by simp [results, Tryz.results148, go_sem, hc1, hc2]) rfl ⟨_, rfl, ?_, hG⟩
    have := nv_agg (neg := true) hW
    rw [Bool.true_and] at this; rwa [show neg = true by assumption]
  · have HS := nv_store (t := false) HG3.out (Nat.le_refl _) HW3.out k1 (by simp) k2 (by simp)
    obtain ⟨hG, hW, hc1, hc2⟩ := HS
    refine bodyPost_ret (v := .agg #[.bool false, .slice a3 n3 c3]) (by simp [results, Tryz.results148, go_sem, hc1, hc2]) rfl ⟨_, rfl, ?_, hG⟩
    have := nv_agg (neg := false) hW
    rw [Bool.false_and] at this
    have hn : neg = false := by cases neg <;> simp_all
    rw [hn]; exact this


set_option maxHeartbeats 1000000 in
theorem i_signed_times (neg : Bool) (s v : Value) (n : Nat) (w : World) (h : ∀ w', Gr w w' → Calls Tryz.prog 153 #[s, v] w' (fun e w'' => WRet n w' w'' e)) :
    Calls Tryz.prog 148 #[.bool neg, .func (.func 153) #[s] #[], v] w (fun e w' => NRet (sg neg n) w w' e) := by
  have H := Lib.hid (fun w' hg => h w' hg)
  clear h
  have hg0 : Gr w (w.alloc (.cells #[.bool false, .slice none 0 0] 138)) := (Gr.refl w).alloc _
  go_enter Tryz.func148, Tryz.ntmps148
  go_wp2_with fail
  refine (H.out _ hg0).mono ?_
  rintro e w3 ⟨v3, rfl, hw3, hg3⟩
  obtain ⟨a3, n3, c3, rfl⟩ := hw3.sh
  have HW3 := Lib.hid hw3
  have HZ : Hid (n3 = 0 ↔ n = 0) := hw3.zero
  have HG3 := Lib.hid (Gr.trans hg0 hg3)
  have k1 : w3.cell? ⟨w.heap.size, 0, none⟩ = some (.bool false) := (Below.cell hg3 (p := ⟨w.heap.size, 0, none⟩) (by simp)).trans (by rw [World.cell?_alloc_at _ _ _ _ rfl]; rfl)
  have k2 : w3.cell? ⟨w.heap.size, 1, none⟩ = some (.slice none 0 0) := (Below.cell hg3 (p := ⟨w.heap.size, 1, none⟩) (by simp)).trans (by rw [World.cell?_alloc_at _ _ _ _ rfl]; rfl)
  have f1 : w3.frozen? ⟨w.heap.size, 0, none⟩ = false := (Below.frozen hg3 (p := ⟨w.heap.size, 0, none⟩) (by simp)).trans (World.frozen?_alloc_at _ _ _ _ rfl)
  have f2 : w3.frozen? ⟨w.heap.size, 1, none⟩ = false := (Below.frozen hg3 (p := ⟨w.heap.size, 1, none⟩) (by simp)).trans (World.frozen?_alloc_at _ _ _ _ rfl)
  clear hg0 hg3 hw3
  go_wp2
  · have HS := nv_store (t := decide (0 < n3)) HG3.out (Nat.le_refl _) HW3.out k1 (by simp) k2 (by simp)
    obtain ⟨hG, hW, hc1, hc2⟩ := HS
    refine bodyPost_ret (v := .agg #[.bool (decide (0 < n3)), .slice a3 n3 c3]) (by simp [results, Tryz.results148, go_sem, hc1, hc2]) rfl ⟨_, rfl, ?_, hG⟩
    have := nv_agg (neg := true) hW
    rw [Bool.true_and] at this; rwa [show neg = true by assumption]
  · have HS := nv_store (t := false) HG3.out (Nat.le_refl _) HW3.out k1 (by simp) k2 (by simp)
    obtain ⟨hG, hW, hc1, hc2⟩ := HS
    refine bodyPost_ret (v := .agg #[.bool false, .slice a3 n3 c3]) (by simp [results, Tryz.results148, go_sem, hc1, hc2]) rfl ⟨_, rfl, ?_, hG⟩
    have := nv_agg (neg := false) hW
    rw [Bool.false_and] at this
    have hn : neg = false := by cases neg <;> simp_all
    rw [hn]; exact this


set_option maxHeartbeats 1000000 in
theorem i_signed_gcd (neg : Bool) (s v : Value) (n : Nat) (w : World) (h : ∀ w', Gr w w' → Calls Tryz.prog 149 #[s, v] w' (fun e w'' => WRet n w' w'' e)) :
    Calls Tryz.prog 148 #[.bool neg, .func (.func 149) #[s] #[], v] w (fun e w' => NRet (sg neg n) w w' e) := by
  have H := Lib.hid (fun w' hg => h w' hg)
  clear h
  have hg0 : Gr w (w.alloc (.cells #[.bool false, .slice none 0 0] 138)) := (Gr.refl w).alloc _
  go_enter Tryz.func148, Tryz.ntmps148
  go_wp2_with fail
  refine (H.out _ hg0).mono ?_
  rintro e w3 ⟨v3, rfl, hw3, hg3⟩
  obtain ⟨a3, n3, c3, rfl⟩ := hw3.sh
  have HW3 := Lib.hid hw3
  have HZ : Hid (n3 = 0 ↔ n = 0) := hw3.zero
  have HG3 := Lib.hid (Gr.trans hg0 hg3)
  have k1 : w3.cell? ⟨w.heap.size, 0, none⟩ = some (.bool false) := (Below.cell hg3 (p := ⟨w.heap.size, 0, none⟩) (by simp)).trans (by rw [World.cell?_alloc_at _ _ _ _ rfl]; rfl)
  have k2 : w3.cell? ⟨w.heap.size, 1, none⟩ = some (.slice none 0 0) := (Below.cell hg3 (p := ⟨w.heap.size, 1, none⟩) (by simp)).trans (by rw [World.cell?_alloc_at _ _ _ _ rfl]; rfl)
  have f1 : w3.frozen? ⟨w.heap.size, 0, none⟩ = false := (Below.frozen hg3 (p := ⟨w.heap.size, 0, none⟩) (by simp)).trans (World.frozen?_alloc_at _ _ _ _ rfl)
  have f2 : w3.frozen? ⟨w.heap.size, 1, none⟩ = false := (Below.frozen hg3 (p := ⟨w.heap.size, 1, none⟩) (by simp)).trans (World.frozen?_alloc_at _ _ _ _ rfl)
  clear hg0 hg3 hw3
  go_wp2
  · have HS := nv_store (t := decide (0 < n3)) HG3.out (Nat.le_refl _) HW3.out k1 (by simp) k2 (by simp)
    obtain ⟨hG, hW, hc1, hc2⟩ := HS
    refine bodyPost_ret (v := .agg #[.bool (decide (0 < n3)), .slice a3 n3 c3]) (by simp [results, Tryz.results148, go_sem, hc1, hc2]) rfl ⟨_, rfl, ?_, hG⟩
    have := nv_agg (neg := true) hW
    rw [Bool.true_and] at this; rwa [show neg = true by assumption]
  · have HS := nv_store (t := false) HG3.out (Nat.le_refl _) HW3.out k1 (by simp) k2 (by simp)
    obtain ⟨hG, hW, hc1, hc2⟩ := HS
    refine bodyPost_ret (v := .agg #[.bool false, .slice a3 n3 c3]) (by simp [results, Tryz.results148, go_sem, hc1, hc2]) rfl ⟨_, rfl, ?_, hG⟩
    have := nv_agg (neg := false) hW
    rw [Bool.false_and] at this
    have hn : neg = false := by cases neg <;> simp_all
    rw [hn]; exact this

end Go.Proofs.YtlbnibicehpobaaGreatDoor

/- Numbers: compare, opposite. -/
namespace Go.Proofs.YtlbnibicehpobaaGreatDoor
open Go.RowKit Go.Shelf
open Z

/-- words that a cell of a block holds, behind new blocks -/
theorem cmpZ_sg {a b : Int} : cmpZ a b = if a < 0 then (if b < 0 then cmpN b.natAbs a.natAbs else -1) else if b < 0 then 1 else cmpN a.natAbs b.natAbs := by
  unfold cmpZ cmpN
  by_cases h1 : a < 0 <;> by_cases h2 : b < 0 <;> simp only [h1, h2, if_true, if_false] <;> (repeat' split) <;> omega
set_option maxHeartbeats 2000000 in
set_option maxRecDepth 100000 in
theorem i_opposite (v : Value) (a : Int) (w : World) (h : NV w v a) :
    Calls Tryz.prog 147 #[v] w (fun e w' => NRet (-a) w w' e) := by
  obtain ⟨aa, na, ca, rfl, ra⟩ := h.form
  have HW := Lib.hid ra
  clear ra h
  have HE : Hid (∀ w', Gr w w' → NV w' (.agg #[.bool (!decide (a < 0) && decide (0 < na)), .slice aa na ca]) (-a)) := by
    intro w' hg
    have h1 := nv_agg (neg := !decide (a < 0)) (HW.out.gr hg)
    have : sg (!decide (a < 0)) a.natAbs = -a := by unfold sg; by_cases h : a < 0 <;> simp [h] <;> omega
    rwa [this] at h1
  go_enter Tryz.func147, Tryz.ntmps147
  go_wp2
  all_goals rename_i hs
  · refine bodyPost_ret (v := .agg #[.bool (!decide (a < 0) && decide (0 < na)), .slice aa na ca]) (by simp [results, Tryz.results147, go_sem]) rfl ⟨_, rfl, ?_, ((Gr.refl w).alloc _).alloc _⟩
    exact HE.out _ (((Gr.refl w).alloc _).alloc _)
  · refine bodyPost_ret (v := .agg #[.bool false, .slice aa na ca]) (by simp [results, Tryz.results147, go_sem]) rfl ⟨_, rfl, ?_, ((Gr.refl w).alloc _).alloc _⟩
    have := HE.out _ (((Gr.refl w).alloc (.cells #[.bool true, .slice aa na ca] 138)).alloc (.cells #[.bool false, .slice aa na ca] 138))
    rwa [show (!decide (a < 0) && decide (0 < na)) = false by simp [hs]] at this

theorem sg_add {a b : Int} (h : (decide (a < 0)) = decide (b < 0)) : sg (decide (a < 0)) (a.natAbs + b.natAbs) = a + b := by
  unfold sg
  by_cases h1 : a < 0 <;> by_cases h2 : b < 0 <;> simp [h1, h2] at h ⊢ <;> omega
theorem sg_sub1 {a b : Int} (h : (decide (a < 0)) ≠ decide (b < 0)) (hle : b.natAbs ≤ a.natAbs) : sg (decide (a < 0)) (a.natAbs - b.natAbs) = a + b := by
  unfold sg
  by_cases h1 : a < 0 <;> by_cases h2 : b < 0 <;> simp [h1, h2] at h ⊢ <;> omega
theorem sg_sub2 {a b : Int} (h : (decide (a < 0)) ≠ decide (b < 0)) (hle : a.natAbs ≤ b.natAbs) : sg (decide (b < 0)) (b.natAbs - a.natAbs) = a + b := by
  unfold sg
  by_cases h1 : a < 0 <;> by_cases h2 : b < 0 <;> simp [h1, h2] at h ⊢ <;> omega
theorem sg_mul {a b : Int} : sg (decide (a < 0) != decide (b < 0)) (a.natAbs * b.natAbs) = a * b := by
  unfold sg
  have h := Int.natAbs_mul a b
  by_cases h1 : a < 0 <;> by_cases h2 : b < 0
  · have : 0 < a * b := Int.mul_pos_of_neg_of_neg h1 h2
    simp [h1, h2]; rw [← Int.natCast_mul, ← h]; omega
  · have : a * b ≤ 0 := Int.mul_nonpos_of_nonpos_of_nonneg (by omega) (by omega)
    simp [h1, h2]; rw [← Int.natCast_mul, ← h]; omega
  · have : a * b ≤ 0 := Int.mul_nonpos_of_nonneg_of_nonpos (by omega) (by omega)
    simp [h1, h2]; rw [← Int.natCast_mul, ← h]; omega
  · have : 0 ≤ a * b := Int.mul_nonneg (by omega) (by omega)
    simp [h1, h2]; rw [← Int.natCast_mul, ← h]; omega
end Go.Proofs.YtlbnibicehpobaaGreatDoor

/- Numbers: plus, minus, times, gcd. -/
namespace Go.Proofs.YtlbnibicehpobaaGreatDoor
open Go.RowKit Go.Shelf
open Z

/-- the cells of a fresh result -/
structure Fresh (w : World) (b : Nat) : Prop where
  c0 : w.cell? ⟨b, 0, none⟩ = some (.bool false)
  c1 : w.cell? ⟨b, 1, none⟩ = some (.slice none 0 0)
  f0 : w.frozen? ⟨b, 0, none⟩ = false
  f1 : w.frozen? ⟨b, 1, none⟩ = false
theorem Fresh.new (w : World) (t : TypeId) : Fresh (w.alloc (.cells #[.bool false, .slice none 0 0] t)) w.heap.size :=
  ⟨by rw [World.cell?_alloc_at _ _ _ _ rfl]; rfl, by rw [World.cell?_alloc_at _ _ _ _ rfl]; rfl, World.frozen?_alloc_at _ _ _ _ rfl, World.frozen?_alloc_at _ _ _ _ rfl⟩
theorem Fresh.gr {w w' : World} {b : Nat} (h : Fresh w b) (hg : Gr w w') (hb : b < w.heap.size) : Fresh w' b :=
  ⟨(Below.cell hg (p := ⟨b, 0, none⟩) hb).trans h.c0, (Below.cell hg (p := ⟨b, 1, none⟩) hb).trans h.c1, (Below.frozen hg (p := ⟨b, 0, none⟩) hb).trans h.f0, (Below.frozen hg (p := ⟨b, 1, none⟩) hb).trans h.f1⟩
/-- a number in a block of its own -/
structure Box2 (w : World) (b : Nat) (t : Bool) (v : Value) : Prop where
  c0 : w.cell? ⟨b, 0, none⟩ = some (.bool t)
  c1 : w.cell? ⟨b, 1, none⟩ = some v
theorem Box2.new (w : World) (t : Bool) (v : Value) (ty : TypeId) : Box2 (w.alloc (.cells #[.bool t, v] ty)) w.heap.size t v :=
  ⟨by rw [World.cell?_alloc_at _ _ _ _ rfl]; rfl, by rw [World.cell?_alloc_at _ _ _ _ rfl]; rfl⟩
theorem Box2.gr {w w' : World} {b : Nat} {t : Bool} {v : Value} (h : Box2 w b t v) (hg : Gr w w') (hb : b < w.heap.size) : Box2 w' b t v :=
  ⟨(Below.cell hg (p := ⟨b, 0, none⟩) hb).trans h.c0, (Below.cell hg (p := ⟨b, 1, none⟩) hb).trans h.c1⟩
theorem NV.store {w w3 : World} {b n3 c3 : Nat} {a3 : Option Addr} {c : Int} (hG : Gr w w3) (hb : w.heap.size ≤ b) (hw : WD w3 (.slice a3 n3 c3) c.natAbs) (hf : Fresh w3 b) :
    Gr w ((w3.setCell ⟨b, 0, none⟩ (.bool (decide (c < 0)))).setCell ⟨b, 1, none⟩ (.slice a3 n3 c3)) ∧ NV ((w3.setCell ⟨b, 0, none⟩ (.bool (decide (c < 0)))).setCell ⟨b, 1, none⟩ (.slice a3 n3 c3)) (.agg #[.bool (decide (c < 0)), .slice a3 n3 c3]) c ∧
      ((w3.setCell ⟨b, 0, none⟩ (.bool (decide (c < 0)))).setCell ⟨b, 1, none⟩ (.slice a3 n3 c3)).cell? ⟨b, 0, none⟩ = some (.bool (decide (c < 0))) ∧ ((w3.setCell ⟨b, 0, none⟩ (.bool (decide (c < 0)))).setCell ⟨b, 1, none⟩ (.slice a3 n3 c3)).cell? ⟨b, 1, none⟩ = some (.slice a3 n3 c3) := by
  obtain ⟨h1, h2, h3, h4⟩ := nv_store (t := decide (c < 0)) hG hb hw hf.c0 (by simp) hf.c1 (by simp)
  exact ⟨h1, ⟨_, rfl, h2⟩, h3, h4⟩

set_option maxHeartbeats 4000000 in
set_option maxRecDepth 100000 in
theorem i_nplus {K : Nat} (v v' : Value) (a b : Int) (w : World) (h : NV w v a) (h' : NV w v' b) (ha : a.natAbs < 1000000000 ^ K) (hb : b.natAbs < 1000000000 ^ K) (hK : K ≤ 1000000) :
    Calls Tryz.prog 128 #[v, v'] w (fun e w' => NRet (a + b) w w' e) := by
  obtain ⟨aa, na, ca, rfl, ra⟩ := h.form
  obtain ⟨ab, nb, cb, rfl, rb⟩ := h'.form
  obtain ⟨s, HS⟩ : ∃ s, Hid (s = decide (a < 0)) := ⟨_, rfl⟩
  obtain ⟨t, HT⟩ : ∃ t, Hid (t = decide (b < 0)) := ⟨_, rfl⟩
  rw [← HS.out, ← HT.out]
  have hW0 : ∃ W0, W0 = ((w.alloc (.cells #[.bool s, .slice aa na ca] 138)).alloc (.cells #[.bool t, .slice ab nb cb] 138)).alloc (.cells #[.bool false, .slice none 0 0] 138) := ⟨_, rfl⟩
  obtain ⟨W0, hW0⟩ := hW0
  have hg0 : Gr w W0 := by rw [hW0]; exact (((Gr.refl w).alloc _).alloc _).alloc _
  have hf0 : Fresh W0 (w.heap.size + 2) := by
    have := Fresh.new ((w.alloc (.cells #[.bool s, .slice aa na ca] 138)).alloc (.cells #[.bool t, .slice ab nb cb] 138)) 138
    rw [World.size_alloc, World.size_alloc] at this
    rw [hW0]; exact this
  have hz0 : w.heap.size + 2 < W0.heap.size := by rw [hW0]; simp
  have hx0 : Box2 W0 w.heap.size s (.slice aa na ca) := by
    rw [hW0]; exact (Box2.new w s (.slice aa na ca) 138).gr (((Gr.refl _).alloc _).alloc _) (by simp)
  have hx1 : Box2 W0 (w.heap.size + 1) t (.slice ab nb cb) := by
    have := Box2.new (w.alloc (.cells #[.bool s, .slice aa na ca] 138)) t (.slice ab nb cb) 138
    rw [World.size_alloc] at this
    rw [hW0]; exact this.gr ((Gr.refl _).alloc _) (by simp)
  have HX0 := Lib.hid hx0
  have HX1 := Lib.hid hx1
  have HG0 := Lib.hid hg0
  have HF0 := Lib.hid hf0
  have HW0 := Lib.hid hW0
  have HZ0 := Lib.hid hz0
  have HA := Lib.hid ra
  have HB := Lib.hid rb
  have HAK := Lib.hid ha
  have HBK := Lib.hid hb
  clear hg0 hf0 hW0 hz0 hx0 hx1 ra rb h h' ha hb
  by_cases e1 : s = t
  · have HC : Hid (∀ w', Gr w w' → Calls Tryz.prog 148 #[.bool s, .func (.func 150) #[.slice aa na ca] #[], .slice ab nb cb] w' (fun e w'' => NRet (a + b) w' w'' e)) := by
      intro w' hg
      have := i_signed_plus s (.slice aa na ca) (.slice ab nb cb) (a.natAbs + b.natAbs) w' (fun w'' hg' => i_plus _ _ _ _ w'' (HA.out.gr (Gr.trans hg hg')) (HB.out.gr (Gr.trans hg hg')) HAK.out HBK.out hK)
      rw [HS.out, sg_add (by rw [← HS.out, ← HT.out]; exact e1)] at this
      rw [HS.out]; exact this
    have hbt : (s == t) = true := by rw [e1]; exact beq_self_eq_true t
    clear HA HB HAK HBK e1
    go_enter Tryz.func128, Tryz.ntmps128
    go_wp2_with fail
    rw [← HW0.out]
    refine (HC.out _ HG0.out).mono ?_
    rintro e w3 ⟨v3, rfl, hn3, hg3⟩
    obtain ⟨a3, n3, c3, rfl, hw3⟩ := hn3.form
    have HW3 := Lib.hid hw3
    have HG3 := Lib.hid (Gr.trans HG0.out hg3)
    have hf3 := HF0.out.gr hg3 HZ0.out
    obtain ⟨k1, k2, f1, f2⟩ := id hf3
    have HF3 := Lib.hid hf3
    clear hn3 hw3 hg3 hf3
    go_wp2
    obtain ⟨g1, g2, g3, g4⟩ := NV.store (b := w.heap.size + 1 + 1) HG3.out (by omega) HW3.out HF3.out
    refine bodyPost_ret (v := .agg #[.bool (decide (a + b < 0)), .slice a3 n3 c3]) (by simp [results, Tryz.results128, go_sem, g3, g4]) rfl ⟨_, rfl, g2, g1⟩
  · have HCM : Hid (∀ w', Gr w w' → Calls Tryz.prog 151 #[.slice aa na ca, .slice ab nb cb] w' (fun e w'' => e = .returned (.int .i64 (cmpN a.natAbs b.natAbs)) ∧ Gr w' w'')) := by
      intro w' hg
      obtain ⟨xa, r1, n1, e1⟩ := HA.out.gr hg
      obtain ⟨xb, r2, n2, e2⟩ := HB.out.gr hg
      have l1 := n1.le (by rw [e1]; exact HAK.out)
      have l2 := n2.le (by rw [e2]; exact HBK.out)
      have := i_compare aa ab na nb ca cb xa xb w' r1 r2 n1 n2 (by omega) (by omega)
      rwa [e1, e2] at this
    have hbt : (s == t) = false := by cases s <;> cases t <;> simp_all
    have HNE : Hid ((decide (a < 0)) ≠ decide (b < 0)) := by show _ ≠ _; rw [← HS.out, ← HT.out]; exact e1
    clear e1
    by_cases e2 : b.natAbs ≤ a.natAbs
    · have HC : Hid (∀ w', Gr w w' → Calls Tryz.prog 148 #[.bool s, .func (.func 152) #[.slice aa na ca] #[], .slice ab nb cb] w' (fun e w'' => NRet (a + b) w' w'' e)) := by
        intro w' hg
        have := i_signed_minus s (.slice aa na ca) (.slice ab nb cb) (a.natAbs - b.natAbs) w' (fun w'' hg' => i_minus _ _ _ _ w'' (HA.out.gr (Gr.trans hg hg')) (HB.out.gr (Gr.trans hg hg')) HAK.out e2 hK)
        rw [HS.out, sg_sub1 HNE.out e2] at this
        rw [HS.out]; exact this
      obtain ⟨z, hz, hz1⟩ : ∃ z : Int, cmpN a.natAbs b.natAbs = z ∧ 0 ≤ z := ⟨_, rfl, by unfold cmpN; rw [if_neg (by omega)]; split <;> omega⟩
      rw [hz] at HCM
      clear hz e2 HA HB HAK HBK
      go_enter Tryz.func128, Tryz.ntmps128
      go_wp2_with fail
      rw [← HW0.out]
      refine (HCM.out _ HG0.out).mono ?_
      rintro e w2 ⟨rfl, hg2⟩
      have HG2 := Lib.hid (Gr.trans HG0.out hg2)
      have hZ2 : w.heap.size + 2 < w2.heap.size := Nat.lt_of_lt_of_le HZ0.out hg2.size
      have HZ2 := Lib.hid hZ2
      have HF2 := Lib.hid (HF0.out.gr hg2 HZ0.out)
      obtain ⟨p1, p2⟩ := HX0.out.gr hg2 (by have := HZ0.out; omega)
      obtain ⟨p3, p4⟩ := HX1.out.gr hg2 (by have := HZ0.out; omega)
      clear hg2 hZ2
      go_wp2_with fail
      refine (HC.out _ HG2.out).mono ?_
      rintro e w3 ⟨v3, rfl, hn3, hg3⟩
      obtain ⟨a3, n3, c3, rfl, hw3⟩ := hn3.form
      have HW3 := Lib.hid hw3
      have HG3 := Lib.hid (Gr.trans HG2.out hg3)
      have hf3 := HF2.out.gr hg3 HZ2.out
      obtain ⟨k1, k2, f1, f2⟩ := id hf3
      have HF3 := Lib.hid hf3
      clear hn3 hw3 hg3 hf3 p1 p2 p3 p4
      go_wp2
      obtain ⟨g1, g2, g3, g4⟩ := NV.store (b := w.heap.size + 1 + 1) HG3.out (by omega) HW3.out HF3.out
      refine bodyPost_ret (v := .agg #[.bool (decide (a + b < 0)), .slice a3 n3 c3]) (by simp [results, Tryz.results128, go_sem, g3, g4]) rfl ⟨_, rfl, g2, g1⟩
    · have HC : Hid (∀ w', Gr w w' → Calls Tryz.prog 148 #[.bool t, .func (.func 152) #[.slice ab nb cb] #[], .slice aa na ca] w' (fun e w'' => NRet (a + b) w' w'' e)) := by
        intro w' hg
        have := i_signed_minus t (.slice ab nb cb) (.slice aa na ca) (b.natAbs - a.natAbs) w' (fun w'' hg' => i_minus _ _ _ _ w'' (HB.out.gr (Gr.trans hg hg')) (HA.out.gr (Gr.trans hg hg')) HBK.out (by omega) hK)
        rw [HT.out, sg_sub2 HNE.out (by omega)] at this
        rw [HT.out]; exact this
      have hz : cmpN a.natAbs b.natAbs = -1 := by unfold cmpN; rw [if_pos (by omega)]
      rw [hz] at HCM
      clear hz e2 HA HB HAK HBK
      go_enter Tryz.func128, Tryz.ntmps128
      go_wp2_with fail
      rw [← HW0.out]
      refine (HCM.out _ HG0.out).mono ?_
      rintro e w2 ⟨rfl, hg2⟩
      have HG2 := Lib.hid (Gr.trans HG0.out hg2)
      have hZ2 : w.heap.size + 2 < w2.heap.size := Nat.lt_of_lt_of_le HZ0.out hg2.size
      have HZ2 := Lib.hid hZ2
      have HF2 := Lib.hid (HF0.out.gr hg2 HZ0.out)
      obtain ⟨p1, p2⟩ := HX0.out.gr hg2 (by have := HZ0.out; omega)
      obtain ⟨p3, p4⟩ := HX1.out.gr hg2 (by have := HZ0.out; omega)
      clear hg2 hZ2
      go_wp2_with fail
      refine (HC.out _ HG2.out).mono ?_
      rintro e w3 ⟨v3, rfl, hn3, hg3⟩
      obtain ⟨a3, n3, c3, rfl, hw3⟩ := hn3.form
      have HW3 := Lib.hid hw3
      have HG3 := Lib.hid (Gr.trans HG2.out hg3)
      have hf3 := HF2.out.gr hg3 HZ2.out
      obtain ⟨k1, k2, f1, f2⟩ := id hf3
      have HF3 := Lib.hid hf3
      clear hn3 hw3 hg3 hf3 p1 p2 p3 p4
      go_wp2
      obtain ⟨g1, g2, g3, g4⟩ := NV.store (b := w.heap.size + 1 + 1) HG3.out (by omega) HW3.out HF3.out
      refine bodyPost_ret (v := .agg #[.bool (decide (a + b < 0)), .slice a3 n3 c3]) (by simp [results, Tryz.results128, go_sem, g3, g4]) rfl ⟨_, rfl, g2, g1⟩

end Go.Proofs.YtlbnibicehpobaaGreatDoor

/- Numbers: times, gcd, minus. -/
namespace Go.Proofs.YtlbnibicehpobaaGreatDoor
open Go.RowKit Go.Shelf
open Z

theorem Box2.set {w : World} {b b' o : Nat} {t : Bool} {v u : Value} (h : Box2 w b t v) (hn : b ≠ b') : Box2 (w.setCell ⟨b', o, none⟩ u) b t v :=
  ⟨(World.cell?_setCell_other _ _ _ _ (by simp only [ne_eq, Addr.mk.injEq]; omega)).trans h.c0, (World.cell?_setCell_other _ _ _ _ (by simp only [ne_eq, Addr.mk.injEq]; omega)).trans h.c1⟩
set_option maxHeartbeats 4000000 in
set_option maxRecDepth 100000 in
theorem i_ntimes {K : Nat} (v v' : Value) (a b : Int) (w : World) (h : NV w v a) (h' : NV w v' b) (ha : a.natAbs < 1000000000 ^ K) (hb : b.natAbs < 1000000000 ^ K) (hK : K ≤ 1000000) :
    Calls Tryz.prog 129 #[v, v'] w (fun e w' => NRet (a * b) w w' e) := by
  obtain ⟨aa, na, ca, rfl, ra⟩ := h.form
  obtain ⟨ab, nb, cb, rfl, rb⟩ := h'.form
  obtain ⟨s, HS⟩ : ∃ s, Hid (s = decide (a < 0)) := ⟨_, rfl⟩
  obtain ⟨t, HT⟩ : ∃ t, Hid (t = decide (b < 0)) := ⟨_, rfl⟩
  rw [← HS.out, ← HT.out]
  have hW0 : ∃ W0, W0 = ((w.alloc (.cells #[.bool s, .slice aa na ca] 138)).alloc (.cells #[.bool t, .slice ab nb cb] 138)).alloc (.cells #[.bool false, .slice none 0 0] 138) := ⟨_, rfl⟩
  obtain ⟨W0, hW0⟩ := hW0
  have hg0 : Gr w W0 := by rw [hW0]; exact (((Gr.refl w).alloc _).alloc _).alloc _
  have hf0 : Fresh W0 (w.heap.size + 2) := by
    have := Fresh.new ((w.alloc (.cells #[.bool s, .slice aa na ca] 138)).alloc (.cells #[.bool t, .slice ab nb cb] 138)) 138
    rw [World.size_alloc, World.size_alloc] at this
    rw [hW0]; exact this
  have hz0 : w.heap.size + 2 < W0.heap.size := by rw [hW0]; simp
  have HG0 := Lib.hid hg0
  have HF0 := Lib.hid hf0
  have HW0 := Lib.hid hW0
  have HZ0 := Lib.hid hz0
  obtain ⟨q, HQ⟩ : ∃ q, Hid (a * b = q) := ⟨_, rfl⟩
  rw [HQ.out]
  have HC : Hid (∀ w', Gr w w' → Calls Tryz.prog 148 #[.bool (!(s == t)), .func (.func 153) #[.slice aa na ca] #[], .slice ab nb cb] w' (fun e w'' => NRet q w' w'' e)) := by
    intro w' hg
    have := i_signed_times (s != t) (.slice aa na ca) (.slice ab nb cb) (a.natAbs * b.natAbs) w' (fun w'' hg' => i_times _ _ _ _ w'' (ra.gr (Gr.trans hg hg')) (rb.gr (Gr.trans hg hg')) ha hb hK)
    rw [HS.out, HT.out, sg_mul, HQ.out] at this
    rw [HS.out, HT.out]; exact this
  clear hg0 hf0 hW0 hz0 ra rb h h' ha hb
  go_enter Tryz.func129, Tryz.ntmps129
  go_wp2_with fail
  rw [← HW0.out]
  refine (HC.out _ HG0.out).mono ?_
  rintro e w3 ⟨v3, rfl, hn3, hg3⟩
  obtain ⟨a3, n3, c3, rfl, hw3⟩ := hn3.form
  have HW3 := Lib.hid hw3
  have HG3 := Lib.hid (Gr.trans HG0.out hg3)
  have hf3 := HF0.out.gr hg3 HZ0.out
  obtain ⟨k1, k2, f1, f2⟩ := id hf3
  have HF3 := Lib.hid hf3
  clear hn3 hw3 hg3 hf3
  go_wp2
  obtain ⟨g1, g2, g3, g4⟩ := NV.store (b := w.heap.size + 1 + 1) HG3.out (by omega) HW3.out HF3.out
  refine bodyPost_ret (v := .agg #[.bool (decide (q < 0)), .slice a3 n3 c3]) (by simp [results, Tryz.results129, go_sem, g3, g4]) rfl ⟨_, rfl, ?_, g1⟩
  exact g2

set_option maxHeartbeats 4000000 in
set_option maxRecDepth 100000 in
theorem i_ngcd {K : Nat} (v v' : Value) (a b : Int) (w : World) (h : NV w v a) (h' : NV w v' b) (ha : a.natAbs < 1000000000 ^ K) (hb : b.natAbs < 1000000000 ^ K) (hK : K ≤ 1000000) :
    Calls Tryz.prog 127 #[v, v'] w (fun e w' => NRet (Nat.gcd a.natAbs b.natAbs : Nat) w w' e) := by
  obtain ⟨aa, na, ca, rfl, ra⟩ := h.form
  obtain ⟨ab, nb, cb, rfl, rb⟩ := h'.form
  obtain ⟨s, HS⟩ : ∃ s, Hid (s = decide (a < 0)) := ⟨_, rfl⟩
  obtain ⟨t, HT⟩ : ∃ t, Hid (t = decide (b < 0)) := ⟨_, rfl⟩
  rw [← HS.out, ← HT.out]
  have hW0 : ∃ W0, W0 = ((w.alloc (.cells #[.bool s, .slice aa na ca] 138)).alloc (.cells #[.bool t, .slice ab nb cb] 138)).alloc (.cells #[.bool false, .slice none 0 0] 138) := ⟨_, rfl⟩
  obtain ⟨W0, hW0⟩ := hW0
  have hg0 : Gr w W0 := by rw [hW0]; exact (((Gr.refl w).alloc _).alloc _).alloc _
  have hf0 : Fresh W0 (w.heap.size + 2) := by
    have := Fresh.new ((w.alloc (.cells #[.bool s, .slice aa na ca] 138)).alloc (.cells #[.bool t, .slice ab nb cb] 138)) 138
    rw [World.size_alloc, World.size_alloc] at this
    rw [hW0]; exact this
  have hz0 : w.heap.size + 2 < W0.heap.size := by rw [hW0]; simp
  have HG0 := Lib.hid hg0
  have HF0 := Lib.hid hf0
  have HW0 := Lib.hid hW0
  have HZ0 := Lib.hid hz0
  obtain ⟨q, HQ⟩ : ∃ q, Hid (((Nat.gcd a.natAbs b.natAbs : Nat) : Int) = q) := ⟨_, rfl⟩
  rw [HQ.out]
  have HC : Hid (∀ w', Gr w w' → Calls Tryz.prog 148 #[.bool false, .func (.func 149) #[.slice aa na ca] #[], .slice ab nb cb] w' (fun e w'' => NRet q w' w'' e)) := by
    intro w' hg
    have := i_signed_gcd false (.slice aa na ca) (.slice ab nb cb) (Nat.gcd a.natAbs b.natAbs) w' (fun w'' hg' => i_gcd _ _ _ _ w'' (ra.gr (Gr.trans hg hg')) (rb.gr (Gr.trans hg hg')) ha hb hK)
    rw [show sg false (Nat.gcd a.natAbs b.natAbs) = q from HQ.out] at this
    exact this
  clear hg0 hf0 hW0 hz0 ra rb h h' ha hb
  go_enter Tryz.func127, Tryz.ntmps127
  go_wp2_with fail
  rw [← HW0.out]
  refine (HC.out _ HG0.out).mono ?_
  rintro e w3 ⟨v3, rfl, hn3, hg3⟩
  obtain ⟨a3, n3, c3, rfl, hw3⟩ := hn3.form
  have HW3 := Lib.hid hw3
  have HG3 := Lib.hid (Gr.trans HG0.out hg3)
  have hf3 := HF0.out.gr hg3 HZ0.out
  obtain ⟨k1, k2, f1, f2⟩ := id hf3
  have HF3 := Lib.hid hf3
  clear hn3 hw3 hg3 hf3
  go_wp2
  obtain ⟨g1, g2, g3, g4⟩ := NV.store (b := w.heap.size + 1 + 1) HG3.out (by omega) HW3.out HF3.out
  refine bodyPost_ret (v := .agg #[.bool (decide (q < 0)), .slice a3 n3 c3]) (by simp [results, Tryz.results127, go_sem, g3, g4]) rfl ⟨_, rfl, ?_, g1⟩
  exact g2

set_option maxHeartbeats 4000000 in
set_option maxRecDepth 100000 in
theorem i_nminus {K : Nat} (v v' : Value) (a b : Int) (w : World) (h : NV w v a) (h' : NV w v' b) (ha : a.natAbs < 1000000000 ^ K) (hb : b.natAbs < 1000000000 ^ K) (hK : K ≤ 1000000) :
    Calls Tryz.prog 126 #[v, v'] w (fun e w' => NRet (a - b) w w' e) := by
  obtain ⟨aa, na, ca, rfl, ra⟩ := h.form
  obtain ⟨ab, nb, cb, rfl, rb⟩ := h'.form
  have HA := Lib.hid h
  have HB := Lib.hid h'
  have HO : Hid (∀ w', Gr w w' → Calls Tryz.prog 147 #[.agg #[.bool (decide (b < 0)), .slice ab nb cb]] w' (fun e w'' => NRet (-b) w' w'' e)) := fun w' hg => i_opposite _ b w' (HB.out.gr hg)
  have HP : Hid (∀ w' v', Gr w w' → NV w' v' (-b) → Calls Tryz.prog 128 #[.agg #[.bool (decide (a < 0)), .slice aa na ca], v'] w' (fun e w'' => NRet (a - b) w' w'' e)) := fun w' v' hg hn => by
    have := i_nplus (K := K) _ v' a (-b) w' (HA.out.gr hg) hn ha (by rw [Int.natAbs_neg]; exact hb) hK
    rw [show a + -b = a - b by omega] at this; exact this
  obtain ⟨s, HS⟩ : ∃ s, Hid (s = decide (a < 0)) := ⟨_, rfl⟩
  obtain ⟨t, HT⟩ : ∃ t, Hid (t = decide (b < 0)) := ⟨_, rfl⟩
  obtain ⟨q, HQ⟩ : ∃ q, Hid (a - b = q) := ⟨_, rfl⟩
  rw [← HS.out, HQ.out] at HP
  rw [← HT.out] at HO
  rw [← HS.out, ← HT.out, HQ.out]
  have hW0 : ∃ W0, W0 = ((w.alloc (.cells #[.bool s, .slice aa na ca] 138)).alloc (.cells #[.bool t, .slice ab nb cb] 138)).alloc (.cells #[.bool false, .slice none 0 0] 138) := ⟨_, rfl⟩
  obtain ⟨W0, hW0⟩ := hW0
  have hg0 : Gr w W0 := by rw [hW0]; exact (((Gr.refl w).alloc _).alloc _).alloc _
  have hf0 : Fresh W0 (w.heap.size + 2) := by
    have := Fresh.new ((w.alloc (.cells #[.bool s, .slice aa na ca] 138)).alloc (.cells #[.bool t, .slice ab nb cb] 138)) 138
    rw [World.size_alloc, World.size_alloc] at this
    rw [hW0]; exact this
  have hz0 : w.heap.size + 2 < W0.heap.size := by rw [hW0]; simp
  have hx0 : Box2 W0 w.heap.size s (.slice aa na ca) := by
    rw [hW0]; exact (Box2.new w s (.slice aa na ca) 138).gr (((Gr.refl _).alloc _).alloc _) (by simp)
  have hx1 : Box2 W0 (w.heap.size + 1) t (.slice ab nb cb) := by
    have := Box2.new (w.alloc (.cells #[.bool s, .slice aa na ca] 138)) t (.slice ab nb cb) 138
    rw [World.size_alloc] at this
    rw [hW0]; exact this.gr ((Gr.refl _).alloc _) (by simp)
  have HG0 := Lib.hid hg0
  have HF0 := Lib.hid hf0
  have HW0 := Lib.hid hW0
  have HZ0 := Lib.hid hz0
  have HX0 := Lib.hid hx0
  have HX1 := Lib.hid hx1
  clear hg0 hf0 hW0 hz0 hx0 hx1 ra rb h h' ha hb
  go_enter Tryz.func126, Tryz.ntmps126
  go_wp2
  rw [← HW0.out]
  have hS0 : (fun w' : World => Box2 w' w.heap.size s (.slice aa na ca) ∧ Box2 w' (w.heap.size + 1) t (.slice ab nb cb)) W0.drew := ⟨⟨HX0.out.c0, HX0.out.c1⟩, ⟨HX1.out.c0, HX1.out.c1⟩⟩
  have hD0 : Gr w W0.drew := Gr.drew HG0.out
  refine wp_region_held (S := fun w' : World => Box2 w' w.heap.size s (.slice aa na ca) ∧ Box2 w' (w.heap.size + 1) t (.slice ab nb cb)) (by kernel_rfl) ?_
  refine wpAnyH_take (i := 0) (v := .agg #[.bool s, .slice aa na ca]) rfl (by kernel_rfl) (by kernel_rfl) (by kernel_rfl) (fun _ _ _ h => h) (Or.inl ⟨by rfl, ?_⟩) hS0 ?_
  · intro w hSw; obtain ⟨⟨p1, p2⟩, p3, p4⟩ := hSw; go_simp
  try dsimp only [Act.put]
  try simp only [List.setIfInBounds_toArray, List.set_cons_zero, List.set_cons_succ]
  refine wpAnyH_take (i := 1) (v := .agg #[.bool t, .slice ab nb cb]) rfl (by kernel_rfl) (by kernel_rfl) (by kernel_rfl) (fun _ _ _ h => h) (Or.inl ⟨by rfl, ?_⟩) hS0 ?_
  · intro w hSw; obtain ⟨⟨p1, p2⟩, p3, p4⟩ := hSw; go_simp
  try dsimp only [Act.put]
  try simp only [List.setIfInBounds_toArray, List.set_cons_zero, List.set_cons_succ]
  refine wpAnyH_ready (rs := [2]) (by kernel_rfl) (by simp) (AllReadyH.cons rfl (fun K' hK' => ?_) AllReadyH.nil)
  go_simp
  refine (HO.out _ hD0).mono ?_
  rintro e w2 ⟨v2, rfl, hn2, hg2⟩
  have hG2 : Gr w w2 := Gr.trans hD0 hg2
  have HN2 := Lib.hid hn2
  have hz2 : w.heap.size + 2 < w2.heap.size := Nat.lt_of_lt_of_le (show w.heap.size + 2 < W0.drew.heap.size from HZ0.out) hg2.size
  have hx02 : Box2 w2 w.heap.size s (.slice aa na ca) := Box2.gr (w := W0.drew) ⟨HX0.out.c0, HX0.out.c1⟩ hg2 (by have := HZ0.out; show w.heap.size < W0.heap.size; omega)
  have hx12 : Box2 w2 (w.heap.size + 1) t (.slice ab nb cb) := Box2.gr (w := W0.drew) ⟨HX1.out.c0, HX1.out.c1⟩ hg2 (by have := HZ0.out; show w.heap.size + 1 < W0.heap.size; omega)
  have HF2 : Hid (Fresh w2 (w.heap.size + 2)) := Fresh.gr (w := W0.drew) ⟨HF0.out.c0, HF0.out.c1, HF0.out.f0, HF0.out.f1⟩ hg2 HZ0.out
  obtain ⟨u2, a2, n2, c2, rfl⟩ : ∃ u a n c, v2 = .agg #[.bool u, .slice a n c] := by obtain ⟨a, n, c, h, -⟩ := hn2.form; exact ⟨_, a, n, c, h⟩
  refine hK'.out _ _ ⟨hx02, hx12⟩ (fun hS1 => ?_)
  clear hK' K' hS0 hn2
  try dsimp only [Act.put]
  try simp only [List.setIfInBounds_toArray, List.set_cons_zero, List.set_cons_succ]
  refine wpAnyH_ready (rs := [3]) (by kernel_rfl) (by simp) (AllReadyH.cons rfl (fun K' hK' => ?_) AllReadyH.nil)
  go_simp
  refine (HP.out _ _ hG2 HN2.out).mono ?_
  rintro e w3 ⟨v3, rfl, hn3, hg3⟩
  obtain ⟨a3, n3, c3, rfl, hw3⟩ := hn3.form
  have HW3 := Lib.hid hw3
  have HG3 := Lib.hid (Gr.trans hG2 hg3)
  have hx03 := hx02.gr hg3 (by omega)
  have hx13 := hx12.gr hg3 (by omega)
  have hf3 := HF2.out.gr hg3 hz2
  have HF3 := Lib.hid hf3
  obtain ⟨k1, k2, f1, f2⟩ := hf3
  refine hK'.out _ _ ⟨hx03, hx13⟩ (fun hS2 => ?_)
  clear hK' K' hS1 hn3 hw3 hg2 hg3
  try dsimp only [Act.put]
  try simp only [List.setIfInBounds_toArray, List.set_cons_zero, List.set_cons_succ]
  refine wpAnyH_ready (rs := [4]) (by kernel_rfl) (by simp) (AllReadyH.cons rfl (fun K' hK' => ?_) AllReadyH.nil)
  go_simp
  obtain ⟨g1, g2, g3, g4⟩ := NV.store (b := w.heap.size + 1 + 1) HG3.out (by omega) HW3.out HF3.out
  refine hK'.out _ _ ⟨(hx03.set (by omega)).set (by omega), (hx13.set (by omega)).set (by omega)⟩ (fun hS3 => wpAnyH_done (by kernel_rfl) ?_ _)
  go_wp2
  refine bodyPost_ret (v := .agg #[.bool (decide (q < 0)), .slice a3 n3 c3]) (by simp [results, Tryz.results126, go_sem, g3, g4]) rfl ⟨_, rfl, g2, g1⟩
end Go.Proofs.YtlbnibicehpobaaGreatDoor
