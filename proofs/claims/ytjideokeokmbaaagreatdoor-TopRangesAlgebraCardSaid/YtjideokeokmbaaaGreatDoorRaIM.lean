/- RaIM: RaI, RaJ, RaK, RaL, RaM, joined. -/
import Derived.Test.YtjideokeokmbaaaGreatDoorTpC
import Derived.Deep.RegionHeld3
set_option linter.unusedVariables false
set_option linter.unusedSimpArgs false

/- Sets of channels: the program's Format. -/
namespace Go.Proofs.YtjideokeokmbaaaGreatDoor.Z
open Go
def termT (r : Int × Int) : List UInt8 := Lib.decDigits r.1.toNat ++ (if r.1 < r.2 then [32, 116, 104, 114, 117, 32] ++ Lib.decDigits r.2.toNat else [])
def formatR (R : List (Int × Int)) : List UInt8 × Int := if checkR R ≠ 0 then ([], checkR R) else (Lib.join (R.map termT) [32, 43, 32], 0)
theorem checkL_each : ∀ {l : List (Int × Int)} {p : Option Int}, checkL l p = 0 → ∀ r ∈ l, isRg r = true
  | [], _, _, r, hr => absurd hr (by simp)
  | x :: l, p, h, r, hr => by
    unfold checkL at h
    by_cases hx : isRg x = false
    · rw [if_pos hx] at h; cases h
    · rw [if_neg hx] at h
      have hl : checkL l (some x.2) = 0 := by
        cases p with
        | none => simpa using h
        | some q =>
          by_cases hq : x.1 < q + 2
          · simp [hq] at h
          · simpa [hq] using h
      rcases List.mem_cons.1 hr with rfl | hr
      · simpa using hx
      · exact checkL_each hl r hr
theorem digits_len3 {n : Nat} (h : n ≤ 999) : (Lib.decDigits n).length ≤ 4 := (digits_len4 (by omega)).1
theorem termT_len {r : Int × Int} (h : isRg r = true) : (termT r).length ≤ 14 := by
  obtain ⟨h1, h2, h3⟩ := (isRg_iff r).1 h
  unfold termT
  have a1 := digits_len3 (n := r.1.toNat) (by omega)
  have a2 := digits_len3 (n := r.2.toNat) (by omega)
  rw [List.length_append]
  split
  · rw [List.length_append]; simp; omega
  · simp; omega
theorem join_len {l : List (List UInt8)} {c : Nat} (h : ∀ x ∈ l, x.length ≤ c) : (Lib.join l [32, 43, 32]).length ≤ (c + 3) * l.length := by
  unfold Lib.join
  induction l with
  | nil => simp
  | cons x l ih =>
    have hx := h x (by simp)
    have ih := ih (fun y hy => h y (by simp [hy]))
    have e : (c + 3) * (x :: l).length = (c + 3) * l.length + (c + 3) := by rw [List.length_cons, Nat.mul_add, Nat.mul_one]
    cases l with
    | nil => simp [List.intercalate]; omega
    | cons y l =>
      have e2 : ([32, 43, 32] : List UInt8).intercalate (x :: y :: l) = x ++ ([32, 43, 32] ++ ([32, 43, 32] : List UInt8).intercalate (y :: l)) := by simp [List.intercalate, List.intersperse]
      rw [e2, List.length_append, List.length_append, e]
      simp only [List.length_cons, List.length_nil] at ih ⊢
      omega
end Go.Proofs.YtjideokeokmbaaaGreatDoor.Z
namespace Go.Proofs.YtjideokeokmbaaaGreatDoor
open Go.RowKit Go.Shelf
open Z
theorem OwnS.at {B g n cap : Nat} {w : World} {l : List ByteArray} (h : OwnS B w (.slice (some ⟨g, 0, none⟩) n cap) l) (k : Nat) (hk : k < l.length) : w.cell? ⟨g, k, none⟩ = some (.string l[k]) ∧ w.frozen? ⟨g, k, none⟩ = false := by
  have hn : n = l.length := by
    rcases h.2 with ⟨h', _⟩ | ⟨g', cap', cur, h', -⟩
    · cases h'
    · simpa using (congrArg (fun v : Value => match v with | .slice _ n _ => n | _ => 0) h')
  subst hn
  refine ⟨?_, World.ownsRow.frozenAt h k⟩
  rw [World.ownsRow.cellAt h k (by omega)]
  simp [sv, hk]
theorem OwnS.set {B g n cap : Nat} {w : World} {l : List ByteArray} (h : OwnS B w (.slice (some ⟨g, 0, none⟩) n cap) l) (k : Nat) (s : ByteArray) : OwnS B (w.setCell ⟨g, k, none⟩ (.string s)) (.slice (some ⟨g, 0, none⟩) n cap) (l.set k s) := by
  have hn : n = l.length := by
    rcases h.2 with ⟨h', _⟩ | ⟨g', cap', cur, h', -⟩
    · cases h'
    · simpa using (congrArg (fun v : Value => match v with | .slice _ n _ => n | _ => 0) h')
  subst hn
  have := (World.ownsRow.stored h k (.string s)).1
  unfold OwnS
  rw [List.length_set]
  have e : sv (l.set k s) = (sv l).set k (.string s) := by simp [sv, List.map_set]
  rw [e]; exact this
/-- the texts of the first ranges, and nothing behind them -/
def termsK (R : List (Int × Int)) (k : Nat) : List ByteArray := (R.take k).map (fun r => str (termT r)) ++ List.replicate (R.length - k) ⟨#[]⟩
theorem termsK_len (R : List (Int × Int)) {k : Nat} (h : k ≤ R.length) : (termsK R k).length = R.length := by unfold termsK; simp; omega
theorem termsK_next {R : List (Int × Int)} {k : Nat} (h : k < R.length) : termsK R (k + 1) = (termsK R k).set k (str (termT R[k])) := by
  unfold termsK
  have e : R.length - k = (R.length - (k + 1)) + 1 := by omega
  rw [List.take_succ_eq_append_getElem h, List.map_append, e, List.replicate_succ, List.set_append_right _ _ (by rw [List.length_map, List.length_take]; omega)]
  simp [Nat.min_eq_left (Nat.le_of_lt h)]
theorem termsK_end (R : List (Int × Int)) : termsK R R.length = R.map (fun r => str (termT r)) := by unfold termsK; simp
theorem itoaStr (n : Nat) : str (Lib.decDigits n) = str (Lib.decDigits n) := rfl
set_option maxHeartbeats 4000000 in
set_option maxRecDepth 100000 in
theorem ra_Format (a : Option Addr) (R : List (Int × Int)) (cap : Nat) (w : World) (hr : RngAt w a R) (hcap : a = none → cap = 0) (hlen : R.length ≤ 1000000000000) (htab : Tab w) :
    Calls Tryz.prog 18 #[.slice a R.length cap] w fun e w' => e = .returned (.tuple #[.string (str (formatR R).1), .int .i64 (formatR R).2]) ∧ Gr w w' := by
  have C := Lib.hid (ra_Check a R cap w hr hcap (by omega))
  have HR := Lib.hid hr
  have HT := Lib.hid htab
  obtain ⟨i0, hi, hz0, hz1, hz2⟩ := info_parts Tryz.infoStr
  unfold formatR
  by_cases he : checkR R = 0
  · rw [if_neg (by simp [he])]
    rw [he] at C
    have HEA := Lib.hid (checkL_each he)
    obtain ⟨n, hn⟩ : ∃ n, R.length = n := ⟨_, rfl⟩
    have HN := Lib.hid hn
    rw [hn] at C hlen ⊢
    simp only []
    clear hr htab hcap he hn
    go_enter Tryz.func18, Tryz.ntmps18
    go_wp2_with fail
    refine C.out.mono ?_; rintro e w1 ⟨rfl, hg1⟩
    have HG1 := Lib.hid hg1; clear hg1
    go_wp2_with (at_make; refine wpList_make_full _ rfl _ _ 67 rfl w.heap.size 9 i0 (.string ⟨#[]⟩) 1 Tryz.underlying67 hi hz0 hz1 .i64 .i64 _ _ n rfl rfl rfl rfl (by rw [hz2]; omega) (by unfold maxLen; omega) HG1.out.size ?_)
    intro w2 hown2 hgr2
    obtain ⟨g, hg⟩ : ∃ g, w1.heap.size = g := ⟨_, rfl⟩
    rw [hg] at hown2 ⊢
    have HO2 : Hid (OwnS w.heap.size w2 (.slice (some ⟨g, 0, none⟩) n n) (List.replicate n ⟨#[]⟩)) := by
      show World.ownsRow _ _ _ _ _ _ _
      rw [List.length_replicate]
      have e : (madeCells #[Value.string ⟨#[]⟩] n).toList = sv (List.replicate n ⟨#[]⟩) := by
        rw [toList_madeCells_one]
        simp [sv]
      rw [← e]; exact hown2
    have HG2 : Hid (Gr w w2) := Below.grown HG1.out hgr2 HG1.out.size (fun k hk => by simp at hk)
    clear hown2 hgr2 hg HG1
    go_wp2
    go_loopw [18] (fun i wr => ∃ k : Nat, i = .int .i64 k ∧ k ≤ n ∧ Hid (OwnS w.heap.size wr (.slice (some ⟨g, 0, none⟩) n n) (termsK R k)) ∧ Hid (Gr w wr)) (fun i _ => n - (intOf i).toNat)
    case atStart => exact ⟨0, rfl, by omega, by rw [show termsK R 0 = List.replicate n ⟨#[]⟩ by unfold termsK; rw [HN.out]; simp]; exact HO2.out, HG2.out⟩
    case round =>
      obtain ⟨k, rfl, hk, HO, HG⟩ := hrel
      clear HO2 HG2
      by_cases hlt : k < n
      · have hkR : k < R.length := by rw [HN.out]; exact hlt
        obtain ⟨b, off, rfl, hc⟩ : ∃ b off, a = some ⟨b, off, none⟩ ∧ (w.cell? ⟨b, off + k * 2, none⟩ = some (.int .i64 R[k].1) ∧ w.cell? ⟨b, off + k * 2 + 1, none⟩ = some (.int .i64 R[k].2)) := by
          rcases HR.out with ⟨-, h⟩ | ⟨b, off, rfl, h⟩
          · rw [h] at hkR; simp at hkR
          · exact ⟨b, off, rfl, h k hkR⟩
        obtain ⟨c0, c1⟩ : wr.cell? ⟨b, off + k * 2, none⟩ = some (.int .i64 R[k].1) ∧ wr.cell? ⟨b, off + k * 2 + 1, none⟩ = some (.int .i64 R[k].2) := ⟨gr_cellT HG.out hc.1, gr_cellT HG.out hc.2⟩
        have hri := (isRg_iff _).1 (HEA.out R[k] (List.getElem_mem hkR))
        have HN1 := Lib.hid (termsK_next hkR)
        have HTL := Lib.hid (termsK_len R (k := k) (by omega))
        clear hc
        generalize R[k] = r at *
        obtain ⟨f, t⟩ := r
        simp only [] at c0 c1 hri
        obtain ⟨fn, rfl⟩ : ∃ fn : Nat, f = fn := ⟨f.toNat, by omega⟩
        obtain ⟨tn, rfl⟩ : ∃ tn : Nat, t = tn := ⟨t.toNat, by omega⟩
        have IF := Lib.hid (fun w htab => nu_Itoa fn w (by omega) htab)
        have IT := Lib.hid (fun w htab => nu_Itoa tn w (by omega) htab)
        have hdf := digits_len3 (n := fn) (by omega)
        have hdt := digits_len3 (n := tn) (by omega)
        have HTM : Hid (str (termT ((fn : Int), (tn : Int))) = if fn < tn then str (Lib.decDigits fn) ++ (⟨#[32, 116, 104, 114, 117, 32]⟩ ++ str (Lib.decDigits tn)) else str (Lib.decDigits fn)) := by
          show _ = _
          unfold termT
          by_cases h : fn < tn
          · rw [if_pos h, if_pos (by simpa using h)]
            apply ba_ext
            simp [str]
          · rw [if_neg h, if_neg (by simpa using h)]; simp
        have zf : (str (Lib.decDigits fn)).size ≤ 4 := by rw [str_size]; exact hdf
        have zt : (str (Lib.decDigits tn)).size ≤ 4 := by rw [str_size]; exact hdt
        generalize str (Lib.decDigits fn) = sf at *
        generalize str (Lib.decDigits tn) = st at *
        have l0 : (wr.alloc (.cells #[.int .i64 (fn : Int), .int .i64 (tn : Int)] 37)).cell? ⟨wr.heap.size, 0, none⟩ = some (.int .i64 (fn : Int)) := by simp
        have l1 : (wr.alloc (.cells #[.int .i64 (fn : Int), .int .i64 (tn : Int)] 37)).cell? ⟨wr.heap.size, 1, none⟩ = some (.int .i64 (tn : Int)) := by simp
        have HGa := Lib.hid (HG.out.alloc (.cells #[.int .i64 (fn : Int), .int .i64 (tn : Int)] 37))
        have HOa := Lib.hid (HO.out.gr ((Gr.refl wr).alloc (.cells #[.int .i64 (fn : Int), .int .i64 (tn : Int)] 37)))
        have HTa := Lib.hid (htab_gr HT.out HGa.out)
        have hgs : g < wr.heap.size := cellLt (HO.out.at k (by rw [HTL.out]; omega)).1
        have hgw : w.heap.size ≤ g := (World.ownsRow.lt HO.out g rfl).1
        clear hdf hdt HO HG
        go_wp2_with fail
        refine (IF.out _ HTa.out).mono ?_; rintro e w3 ⟨rfl, hg3⟩
        have HO3 := Lib.hid (HOa.out.gr hg3)
        obtain ⟨s0, s1⟩ := HO3.out.at k (by rw [HTL.out]; omega)
        have HO4 := Lib.hid (HO3.out.set k sf)
        have HG4 : Hid (Gr w (w3.setCell ⟨g, k, none⟩ (.string sf))) := Below.setCell (Gr.trans HGa.out hg3) (show _ ≤ g from hgw) _
        have l0' : (w3.setCell ⟨g, k, none⟩ (.string sf)).cell? ⟨wr.heap.size, 0, none⟩ = some (.int .i64 (fn : Int)) := (World.cell?_setCell_other _ _ _ _ (by simp only [ne_eq, Addr.mk.injEq, not_and]; omega)).trans (gr_cellT hg3 l0)
        have l1' : (w3.setCell ⟨g, k, none⟩ (.string sf)).cell? ⟨wr.heap.size, 1, none⟩ = some (.int .i64 (tn : Int)) := (World.cell?_setCell_other _ _ _ _ (by simp only [ne_eq, Addr.mk.injEq, not_and]; omega)).trans (gr_cellT hg3 l1)
        clear hg3 l0 l1 c0 c1 HOa HGa HTa
        by_cases hft : fn < tn
        · rw [if_pos hft] at HTM
          go_wp2_with fail
          have HW := Lib.hid HG4.out.drew
          have HO5 := Lib.hid (HO4.out.gr (Gr.drew (Gr.refl _)))
          have hS0 : (fun W' : World => W'.cell? ⟨wr.heap.size, 1, none⟩ = some (.int .i64 (tn : Int))) (w3.setCell ⟨g, k, none⟩ (.string sf)).drew := l1'
          refine wp_region_held (S := fun W' : World => W'.cell? ⟨wr.heap.size, 1, none⟩ = some (.int .i64 (tn : Int))) (by kernel_rfl) ?_
          change wpAnyH _ _ _ _ _ _ _ _ (World.drew _)
          generalize (w3.setCell ⟨g, k, none⟩ (.string sf)).drew = W at *
          have hkn : (k : Int) < (n : Int) := by omega
          have hk0 : (0 : Int) ≤ (k : Int) := by omega
          obtain ⟨y0, y1⟩ : W.cell? ⟨g, k, none⟩ = some (.string sf) ∧ W.frozen? ⟨g, k, none⟩ = false := by
            have h := HO5.out.at k (by rw [List.length_set, HTL.out]; omega)
            rwa [List.getElem_set_self] at h
          have hadd1 : ∀ w, (Op.stringOp .add ⟨#[32, 116, 104, 114, 117, 32]⟩ st).run Tryz.prog w = .ok (.string (⟨#[32, 116, 104, 114, 117, 32]⟩ ++ st)) w := fun w => run_string_add_sum _ _ _ (by have : (⟨#[32, 116, 104, 114, 117, 32]⟩ : ByteArray).size = 6 := rfl; omega)
          have hadd2 : ∀ w, (Op.stringOp .add sf (⟨#[32, 116, 104, 114, 117, 32]⟩ ++ st)).run Tryz.prog w = .ok (.string (sf ++ (⟨#[32, 116, 104, 114, 117, 32]⟩ ++ st))) w := fun w => run_string_add_sum _ _ _ (by rw [ByteArray.size_append]; have : (⟨#[32, 116, 104, 114, 117, 32]⟩ : ByteArray).size = 6 := rfl; omega)
          have HTW := Lib.hid (htab_gr HT.out HW.out)
          clear l0' l1' s0 s1 HO4 HG4 HO3
          refine wpAnyH_take (i := 0) (v := .slice (some ⟨g, 0, none⟩) n n) rfl (by kernel_rfl) (by kernel_rfl) (by kernel_rfl) (fun _ _ _ h => h) (Or.inl ⟨by rfl, ?_⟩) hS0 ?_
          · intro w hSw; go_simp
          try simp only [Act.put, List.getElem_toArray, List.getElem_cons_succ, List.getElem_cons_zero, List.setIfInBounds_toArray, List.set_cons_zero, List.set_cons_succ]
          refine wpAnyH_take (i := 1) (v := .int .i64 (k : Int)) rfl (by kernel_rfl) (by kernel_rfl) (by kernel_rfl) (fun _ _ _ h => h) (Or.inl ⟨by rfl, ?_⟩) hS0 ?_
          · intro w hSw; go_simp
          try simp only [Act.put, List.getElem_toArray, List.getElem_cons_succ, List.getElem_cons_zero, List.setIfInBounds_toArray, List.set_cons_zero, List.set_cons_succ]
          refine wpAnyH_take (i := 2) (v := .pointer (some ⟨g, k, none⟩)) rfl (by kernel_rfl) (by kernel_rfl) (by kernel_rfl) (fun _ _ _ h => h) (Or.inl ⟨by rfl, ?_⟩) hS0 ?_
          · intro w hSw; go_simp
          try simp only [Act.put, List.getElem_toArray, List.getElem_cons_succ, List.getElem_cons_zero, List.setIfInBounds_toArray, List.set_cons_zero, List.set_cons_succ]
          refine wpAnyH_take (i := 4) (v := .pointer (some ⟨wr.heap.size, 1, none⟩)) rfl (by kernel_rfl) (by kernel_rfl) (by kernel_rfl) (fun _ _ _ h => h) (Or.inl ⟨by rfl, ?_⟩) hS0 ?_
          · intro w hSw; go_simp
          try simp only [Act.put, List.getElem_toArray, List.getElem_cons_succ, List.getElem_cons_zero, List.setIfInBounds_toArray, List.set_cons_zero, List.set_cons_succ]
          refine wpAnyH_take (i := 5) (v := .int .i64 (tn : Int)) rfl (by kernel_rfl) (by kernel_rfl) (by kernel_rfl) (fun _ _ _ h => h) (Or.inl ⟨by rfl, ?_⟩) hS0 ?_
          · intro w hSw; go_simp
          try simp only [Act.put, List.getElem_toArray, List.getElem_cons_succ, List.getElem_cons_zero, List.setIfInBounds_toArray, List.set_cons_zero, List.set_cons_succ]
          refine wpAnyH_ready (rs := [3, 6]) (by kernel_rfl) (by simp) (AllReadyH.cons rfl (fun K' hK' => ?_) (AllReadyH.cons rfl (fun K' hK' => ?_) AllReadyH.nil))
          · go_simp
            refine hK'.out _ _ hS0 (fun hS1 => ?_)
            clear hK' K'
            try simp only [Act.put, List.getElem_toArray, List.getElem_cons_succ, List.getElem_cons_zero, List.setIfInBounds_toArray, List.set_cons_zero, List.set_cons_succ]
            refine wpAnyH_ready (rs := [6]) (by kernel_rfl) (by simp) (AllReadyH.cons rfl (fun K' hK' => ?_) AllReadyH.nil)
            go_simp
            refine (IT.out _ HTW.out).mono ?_; rintro e w5 ⟨rfl, hg5⟩
            have HO6 := Lib.hid (HO5.out.gr hg5)
            have HG6 := Lib.hid (Gr.trans HW.out hg5)
            obtain ⟨z0', z1'⟩ : w5.cell? ⟨g, k, none⟩ = some (.string sf) ∧ w5.frozen? ⟨g, k, none⟩ = false := by
              have h := HO6.out.at k (by rw [List.length_set, HTL.out]; omega)
              rwa [List.getElem_set_self] at h
            refine hK'.out _ _ (gr_cellT hg5 hS1) (fun hS2 => ?_)
            clear hK' K' hg5 y0 y1
            try simp only [Act.put, List.getElem_toArray, List.getElem_cons_succ, List.getElem_cons_zero, List.setIfInBounds_toArray, List.set_cons_zero, List.set_cons_succ]
            refine wpAnyH_take (i := 7) (v := .string (⟨#[32, 116, 104, 114, 117, 32]⟩ ++ st)) rfl (by kernel_rfl) (by kernel_rfl) (by kernel_rfl) (fun _ _ _ h => h) (Or.inl ⟨by rfl, ?_⟩) hS2 ?_
            · intro w hSw; go_simp
            try simp only [Act.put, List.getElem_toArray, List.getElem_cons_succ, List.getElem_cons_zero, List.setIfInBounds_toArray, List.set_cons_zero, List.set_cons_succ]
            refine wpAnyH_take (i := 8) (v := .string (sf ++ (⟨#[32, 116, 104, 114, 117, 32]⟩ ++ st))) rfl (by kernel_rfl) (by kernel_rfl) (by kernel_rfl) (fun _ _ _ h => h) (Or.inl ⟨by rfl, ?_⟩) hS2 ?_
            · intro w hSw; go_simp
            try simp only [Act.put, List.getElem_toArray, List.getElem_cons_succ, List.getElem_cons_zero, List.setIfInBounds_toArray, List.set_cons_zero, List.set_cons_succ]
            refine wpAnyH_take (i := 9) (v := .pointer (some ⟨g, k, none⟩)) rfl (by kernel_rfl) (by kernel_rfl) (by kernel_rfl) (fun _ _ _ h => h) (Or.inl ⟨by rfl, ?_⟩) hS2 ?_
            · intro w hSw; go_simp
            try simp only [Act.put, List.getElem_toArray, List.getElem_cons_succ, List.getElem_cons_zero, List.setIfInBounds_toArray, List.set_cons_zero, List.set_cons_succ]
            refine wpAnyH_ready (rs := [10]) (by kernel_rfl) (by simp) (AllReadyH.cons rfl (fun K' hK' => ?_) AllReadyH.nil)
            go_simp
            have HO7 : Hid (OwnS w.heap.size (w5.setCell ⟨g, k, none⟩ (.string (sf ++ (⟨#[32, 116, 104, 114, 117, 32]⟩ ++ st)))) (.slice (some ⟨g, 0, none⟩) n n) (termsK R (k + 1))) := by
              show OwnS _ _ _ _
              have h := HO6.out.set k (sf ++ (⟨#[32, 116, 104, 114, 117, 32]⟩ ++ st))
              rw [List.set_set] at h
              rw [HN1.out, HTM.out]; exact h
            have HG7 : Hid (Gr w (w5.setCell ⟨g, k, none⟩ (.string (sf ++ (⟨#[32, 116, 104, 114, 117, 32]⟩ ++ st))))) := Below.setCell HG6.out (show _ ≤ g from hgw) _
            refine hK'.out _ _ ((World.cell?_setCell_other _ _ _ _ (by simp only [ne_eq, Addr.mk.injEq, not_and]; omega)).trans hS2) (fun hS9 => ?_)
            clear hK' K'
            try simp only [Act.put, List.getElem_toArray, List.getElem_cons_succ, List.getElem_cons_zero, List.setIfInBounds_toArray, List.set_cons_zero, List.set_cons_succ]
            refine wpAnyH_done (by kernel_rfl) ?_ _
            clear hadd1 hadd2 z0' z1'
            go_wp2
            go_roundw
            case rel => exact ⟨k + 1, by go_num, by omega, HO7.out, HG7.out⟩
            case measure => simp [intOf]; omega
          · skip
            go_simp
            refine (IT.out _ HTW.out).mono ?_; rintro e w5 ⟨rfl, hg5⟩
            have HO6 := Lib.hid (HO5.out.gr hg5)
            have HG6 := Lib.hid (Gr.trans HW.out hg5)
            obtain ⟨z0', z1'⟩ : w5.cell? ⟨g, k, none⟩ = some (.string sf) ∧ w5.frozen? ⟨g, k, none⟩ = false := by
              have h := HO6.out.at k (by rw [List.length_set, HTL.out]; omega)
              rwa [List.getElem_set_self] at h
            refine hK'.out _ _ (gr_cellT hg5 hS0) (fun hS1 => ?_)
            clear hK' K' hg5 y0 y1
            try simp only [Act.put, List.getElem_toArray, List.getElem_cons_succ, List.getElem_cons_zero, List.setIfInBounds_toArray, List.set_cons_zero, List.set_cons_succ]
            refine wpAnyH_take (i := 7) (v := .string (⟨#[32, 116, 104, 114, 117, 32]⟩ ++ st)) rfl (by kernel_rfl) (by kernel_rfl) (by kernel_rfl) (fun _ _ _ h => h) (Or.inl ⟨by rfl, ?_⟩) hS1 ?_
            · intro w hSw; go_simp
            try simp only [Act.put, List.getElem_toArray, List.getElem_cons_succ, List.getElem_cons_zero, List.setIfInBounds_toArray, List.set_cons_zero, List.set_cons_succ]
            refine wpAnyH_ready (rs := [3]) (by kernel_rfl) (by simp) (AllReadyH.cons rfl (fun K' hK' => ?_) AllReadyH.nil)
            go_simp
            refine hK'.out _ _ hS1 (fun hS2 => ?_)
            clear hK' K'
            try simp only [Act.put, List.getElem_toArray, List.getElem_cons_succ, List.getElem_cons_zero, List.setIfInBounds_toArray, List.set_cons_zero, List.set_cons_succ]
            refine wpAnyH_take (i := 8) (v := .string (sf ++ (⟨#[32, 116, 104, 114, 117, 32]⟩ ++ st))) rfl (by kernel_rfl) (by kernel_rfl) (by kernel_rfl) (fun _ _ _ h => h) (Or.inl ⟨by rfl, ?_⟩) hS2 ?_
            · intro w hSw; go_simp
            try simp only [Act.put, List.getElem_toArray, List.getElem_cons_succ, List.getElem_cons_zero, List.setIfInBounds_toArray, List.set_cons_zero, List.set_cons_succ]
            refine wpAnyH_take (i := 9) (v := .pointer (some ⟨g, k, none⟩)) rfl (by kernel_rfl) (by kernel_rfl) (by kernel_rfl) (fun _ _ _ h => h) (Or.inl ⟨by rfl, ?_⟩) hS2 ?_
            · intro w hSw; go_simp
            try simp only [Act.put, List.getElem_toArray, List.getElem_cons_succ, List.getElem_cons_zero, List.setIfInBounds_toArray, List.set_cons_zero, List.set_cons_succ]
            refine wpAnyH_ready (rs := [10]) (by kernel_rfl) (by simp) (AllReadyH.cons rfl (fun K' hK' => ?_) AllReadyH.nil)
            go_simp
            have HO7 : Hid (OwnS w.heap.size (w5.setCell ⟨g, k, none⟩ (.string (sf ++ (⟨#[32, 116, 104, 114, 117, 32]⟩ ++ st)))) (.slice (some ⟨g, 0, none⟩) n n) (termsK R (k + 1))) := by
              show OwnS _ _ _ _
              have h := HO6.out.set k (sf ++ (⟨#[32, 116, 104, 114, 117, 32]⟩ ++ st))
              rw [List.set_set] at h
              rw [HN1.out, HTM.out]; exact h
            have HG7 : Hid (Gr w (w5.setCell ⟨g, k, none⟩ (.string (sf ++ (⟨#[32, 116, 104, 114, 117, 32]⟩ ++ st))))) := Below.setCell HG6.out (show _ ≤ g from hgw) _
            refine hK'.out _ _ ((World.cell?_setCell_other _ _ _ _ (by simp only [ne_eq, Addr.mk.injEq, not_and]; omega)).trans hS2) (fun hS9 => ?_)
            clear hK' K'
            try simp only [Act.put, List.getElem_toArray, List.getElem_cons_succ, List.getElem_cons_zero, List.setIfInBounds_toArray, List.set_cons_zero, List.set_cons_succ]
            refine wpAnyH_done (by kernel_rfl) ?_ _
            clear hadd1 hadd2 z0' z1'
            go_wp2
            go_roundw
            case rel => exact ⟨k + 1, by go_num, by omega, HO7.out, HG7.out⟩
            case measure => simp [intOf]; omega
        · rw [if_neg hft] at HTM
          have HO5 : Hid (OwnS w.heap.size (w3.setCell ⟨g, k, none⟩ (.string sf)) (.slice (some ⟨g, 0, none⟩) n n) (termsK R (k + 1))) := by
            show OwnS _ _ _ _
            rw [HN1.out, HTM.out]; exact HO4.out
          go_wp2
          go_roundw
          case rel => exact ⟨k + 1, by go_num, by omega, HO5.out, HG4.out⟩
          case measure => simp [intOf]; omega
      · have hkn : k = n := by omega
        have HE : Hid (termsK R n = R.map (fun r => str (termT r))) := by show _ = _; rw [← HN.out]; exact termsK_end R
        subst hkn
        rw [HE.out] at HO
        have hlm : (R.map (fun r => str (termT r))).length = k := by rw [List.length_map, HN.out]
        have hcl := (World.ownsRow.lt HO.out g rfl).2
        have HJ := Lib.hid (Tryz.strings_Join g 0 k (R.map (fun r => str (termT r))) ⟨#[32, 43, 32]⟩ wr (fun j x hx => by
          obtain ⟨hj, rfl⟩ := List.getElem?_eq_some_iff.1 hx
          rw [Nat.zero_add]
          exact (HO.out.at j hj).1) hcl (by omega) (by omega) (by
          have h1 := join_len (l := (R.map (fun r => str (termT r))).map (·.data.toList)) (c := 14) (fun x hx => by
            simp only [List.map_map, List.mem_map, Function.comp] at hx
            obtain ⟨r, hr, rfl⟩ := hx
            rw [data_str]; exact termT_len (HEA.out r hr))
          have e : (⟨#[32, 43, 32]⟩ : ByteArray).data.toList = [32, 43, 32] := rfl
          rw [e]
          rw [List.length_map, hlm] at h1
          omega))
        have em : (R.map (fun r => str (termT r))).map (·.data.toList) = R.map termT := by rw [List.map_map]; exact List.map_congr_left fun r _ => data_str _
        rw [em, hlm] at HJ
        clear em hcl
        go_wp2_with fail
        refine HJ.out.mono ?_; rintro e w5 ⟨rfl, hg5⟩
        have HG5 : Hid (Gr w w5) := Gr.trans HG.out hg5
        clear hg5
        go_wp2
        go_ret2
        exact ⟨rfl, HG5.out⟩
  · rw [if_pos he]
    have heb : (checkR R != 0) = true := by simpa using he
    generalize checkR R = E at *
    simp only []
    clear hr htab he
    go_enter Tryz.func18, Tryz.ntmps18
    go_wp2_with fail
    refine C.out.mono ?_; rintro e w1 ⟨rfl, hg1⟩
    have HG1 := Lib.hid hg1; clear hg1
    go_wp2
    go_ret2
    exact ⟨rfl, HG1.out⟩
end Go.Proofs.YtjideokeokmbaaaGreatDoor

/- Sets of channels: the program's members of ranges. -/
namespace Go.Proofs.YtjideokeokmbaaaGreatDoor.Z
open Go
theorem updM_off {g : Nat → Bool} {R : List (Int × Int)} {v : Bool} (hg : g 0 = false) (h : ∀ r ∈ R, 1 ≤ r.1 ∧ r.1 ≤ r.2 ∧ r.2 ≤ 999) : updM g (chans R) v 0 = false := by
  unfold updM
  rw [if_neg]
  · exact hg
  · intro hx
    have := chn_bound h hx
    simp at this
end Go.Proofs.YtjideokeokmbaaaGreatDoor.Z
namespace Go.Proofs.YtjideokeokmbaaaGreatDoor
open Go.RowKit Go.Shelf
open Z
theorem RngAt.gr {w w' : World} {a : Option Addr} {R : List (Int × Int)} (h : RngAt w a R) (hg : Gr w w') : RngAt w' a R := by
  rcases h with h | ⟨b, off, ha, hc⟩
  · exact .inl h
  · exact .inr ⟨b, off, ha, fun j hj => ⟨cell_gr hg (hc j hj).1, cell_gr hg (hc j hj).2⟩⟩
theorem results_cell_one {fn : Func} {p : Tmp} {ty : TypeId} (h : fn.results = #[.cell p ty]) (tmps : Array Value) (P : Program) (w : World) :
    (results fn tmps).run P w = ((asAddr (tmps.getD p undef)).run P w).andThen fun a w₁ => (loadVar ty a).run P w₁ := by
  simp only [results, h]
  simp [Sem.run_bind, Result.andThen]
set_option maxRecDepth 100000 in
set_option maxHeartbeats 1000000 in
theorem ra_membersOf (a : Option Addr) (R : List (Int × Int)) (cap : Nat) (w : World) (hcap : a = none → cap = 0) (hlen : R.length ≤ 1000000) (hlim : ∀ r ∈ R, 1 ≤ r.1 ∧ r.1 ≤ r.2 ∧ r.2 ≤ 999)
    (hR : RngAt w a R) (hab : ∀ b o, a = some ⟨b, o, none⟩ → b < w.heap.size) :
    Calls Tryz.prog 33 #[.slice a R.length cap] w fun e w' => e = .returned (.agg (memA (updM (fun _ => false) (chans R) true))) ∧ Gr w w' := by
  obtain ⟨hzv, hzs⟩ := zero_of_info Tryz.infoMembers
  obtain ⟨Z, hZ⟩ : ∃ Z, memA (fun _ => false) = Z := ⟨_, rfl⟩
  rw [hZ] at hzv
  obtain ⟨w1, hw1⟩ : ∃ w1, w1 = (w.alloc (.cells Z 63)).alloc (.cells Z 63) := ⟨_, rfl⟩
  have gg : Gr w w1 := by rw [hw1]; exact ((Gr.refl w).alloc _).alloc _
  have HM0 := Lib.hid (show MemAt w1 w.heap.size (fun _ => false) by rw [hw1, ← hZ]; exact (Below.heap_alloc _ _ _ (by simp)).trans (MemAt.new w))
  have hm1 : MemAt w1 (w.heap.size + 1) (fun _ => false) := by rw [hw1, ← hZ]; have := MemAt.new (w.alloc (.cells (memA fun _ => false) 63)); rwa [World.size_alloc] at this
  clear hZ
  have HP := Lib.hid (ra_put (w.heap.size + 1) a R cap true (fun _ => false) w1 hm1 hcap hlen hlim (hR.gr gg) (fun b o h => by have := hab b o h; omega))
  have HU0 := Lib.hid (Upd.of_gr (b := w.heap.size + 1) gg)
  clear hm1 gg hab hR hlim hcap
  generalize updM (fun _ => false) (chans R) true = g2 at *
  generalize R.length = len at *
  go_enter Tryz.func33, Tryz.ntmps33
  go_wp2_with fail
  rw [← hw1]
  refine HP.out.mono ?_; rintro e w2 ⟨⟨u, rfl⟩, hm2, hu2⟩
  have HMa := Lib.hid hm2
  have HM0a := Lib.hid (HM0.out.upd hu2 (by omega))
  have HUa := Lib.hid (HU0.out.trans hu2)
  clear hm2 hu2 HM0 HU0 HP hw1
  go_wp2
  refine wp_load82 _ rfl (w.heap.size + 1) (memA g2) rfl HMa.out (memA_size _) hzs ?_
  go_wp2
  rw [run_store82 HM0a.out (memA_size _) (memA_size _) (memA_one _) hzs]
  simp only [Result.andThen]
  rw [Oper.upon_skip]
  have HMb := Lib.hid (HM0a.out.row g2)
  have HGb := Lib.hid ((Upd.row w2 w.heap.size (memA g2)).1 w (HUa.out.1 w (Gr.refl w) (by omega)) (Nat.le_refl _))
  go_wp2
  refine bodyPost_ret (v := .agg (memA g2)) ?_ rfl ⟨rfl, HGb.out⟩
  refine (results_cell_one rfl _ _ _).trans ?_
  show (((pure ⟨w.heap.size, 0, none⟩ : Sem Addr).run Tryz.prog _).andThen _) = _
  simp only [Sem.run_pure, Result.andThen]
  exact run_load82 HMb.out (memA_size _) hzs
end Go.Proofs.YtjideokeokmbaaaGreatDoor

/- Sets of channels: the program's sets of ranges. -/
namespace Go.Proofs.YtjideokeokmbaaaGreatDoor.Z
open Go
/-- what is in any of the ranges -/
def inR (R : List (Int × Int)) : Nat → Bool := updM (fun _ => false) (chans R) true
def makeR (R : List (Int × Int)) : List (Int × Int) × Int :=
  if 256 < R.length then ([], 5) else if R.all isRg = true then (setS (inR R) 1000, 0) else ([], 2)
theorem inR_zero {R : List (Int × Int)} (h : ∀ r ∈ R, isRg r = true) : inR R 0 = false := updM_off rfl fun r hr => (isRg_iff r).1 (h r hr)
end Go.Proofs.YtjideokeokmbaaaGreatDoor.Z
namespace Go.Proofs.YtjideokeokmbaaaGreatDoor
open Go.RowKit Go.Shelf
open Z
end Go.Proofs.YtjideokeokmbaaaGreatDoor

/- Sets of channels: the program's sets of channels. -/
namespace Go.Proofs.YtjideokeokmbaaaGreatDoor.Z
open Go
def isCh (n : Int) : Bool := decide (1 ≤ n) && decide (n ≤ 999)
def ofL (L : List Int) : Nat → Bool := updM (fun _ => false) L true
def ofR (L : List Int) : List (Int × Int) × Int :=
  if 4096 < L.length then ([], 5) else if L.all isCh = true then (setS (ofL L) 1000, 0) else ([], 2)
theorem isCh_iff (n : Int) : isCh n = true ↔ 1 ≤ n ∧ n ≤ 999 := by unfold isCh; simp
theorem updM_take {L : List Int} {j : Nat} (h : j < L.length) (g : Nat → Bool) (v : Bool) (k : Nat) : updM g (L.take (j + 1)) v k = if (k : Int) = L[j] then v else updM g (L.take j) v k := by
  rw [List.take_succ_eq_append_getElem h, updM_snoc]
theorem ofL_zero {L : List Int} (h : ∀ x ∈ L, isCh x = true) : ofL L 0 = false := by
  unfold ofL updM
  rw [if_neg]
  intro hx
  have := (isCh_iff _).1 (h _ hx)
  simp at this
end Go.Proofs.YtjideokeokmbaaaGreatDoor.Z
namespace Go.Proofs.YtjideokeokmbaaaGreatDoor
open Go.RowKit Go.Shelf
open Z
set_option maxHeartbeats 1000000 in
theorem ra_isCh (n : Int) (w : World) : Calls Tryz.prog 67 #[.int .i64 n] w fun e w' => e = .returned (.bool (isCh n)) ∧ w = w' := by
  have hcase : (isCh n = false ∧ n < 1) ∨ (isCh n = false ∧ 1 ≤ n ∧ 999 < n) ∨ (isCh n = true ∧ 1 ≤ n ∧ n ≤ 999) := by
    by_cases h : isCh n = true
    · exact .inr (.inr ⟨h, (isCh_iff _).1 h⟩)
    · have h2 : isCh n = false := by simpa using h
      rw [isCh_iff] at h
      rw [h2]
      by_cases h0 : n < 1
      · exact .inl ⟨rfl, h0⟩
      · exact .inr (.inl ⟨rfl, by omega, by omega⟩)
  rcases hcase with ⟨h, h0⟩ | ⟨h, h0, h1⟩ | ⟨h, h0, h1⟩
  all_goals
    rw [h]; clear h
    go_enter Tryz.func67, Tryz.ntmps67
    go_wp2
    go_ret
    first
      | exact ⟨rfl, rfl⟩
      | exact ⟨ret_bool (decide_eq_false (by omega)), rfl⟩
      | exact ⟨ret_bool (decide_eq_true (by omega)), rfl⟩
/-- integers in memory -/
def IntsAt (W : World) (a : Option Addr) (L : List Int) : Prop :=
  (a = none ∧ L = []) ∨ ∃ b off, a = some ⟨b, off, none⟩ ∧ ∀ j (h : j < L.length), W.cell? ⟨b, off + j, none⟩ = some (.int .i64 L[j])
end Go.Proofs.YtjideokeokmbaaaGreatDoor

/- Sets of channels: the program's operations of sets. -/
namespace Go.Proofs.YtjideokeokmbaaaGreatDoor.Z
open Go
/-- what remains of two sets, of some channels -/
def combG (rem : Bool → Bool → Bool) (gA gB : Nat → Bool) (L : List Int) (k : Nat) : Bool := if (k : Int) ∈ L then rem (gA k) (gB k) else false
def combR (rem : Bool → Bool → Bool) (A B : List (Int × Int)) : List (Int × Int) × Int :=
  if checkR A ≠ 0 then ([], checkR A) else if checkR B ≠ 0 then ([], checkR B) else (setS (combG rem (inR A) (inR B) (chans [(1, 999)])) 1000, 0)
theorem combG_nil (rem : Bool → Bool → Bool) (gA gB : Nat → Bool) : combG rem gA gB [] = fun _ => false := by funext k; simp [combG]
theorem combG_snoc (rem : Bool → Bool → Bool) (gA gB : Nat → Bool) (L : List Int) (x : Nat) (k : Nat) : combG rem gA gB (L ++ [(x : Int)]) k = if k = x then rem (gA x) (gB x) else combG rem gA gB L k := by
  unfold combG
  by_cases h : k = x
  · subst h; simp
  · have : ¬ (k : Int) = (x : Int) := by omega
    simp [h, this]
theorem combG_zero (rem : Bool → Bool → Bool) (gA gB : Nat → Bool) : combG rem gA gB (chans [(1, 999)]) 0 = false := by
  unfold combG
  rw [if_neg]
  intro h
  have := chn_bound (R := [(1, 999)]) (by simp) h
  simp at this
end Go.Proofs.YtjideokeokmbaaaGreatDoor.Z
namespace Go.Proofs.YtjideokeokmbaaaGreatDoor
open Go.RowKit Go.Shelf
open Z
attribute [local go_sem] Oper.semAt_some
theorem ra_union1 (x y : Bool) (w : World) : Calls Tryz.prog 20 #[.bool x, .bool y] w fun e w' => e = .returned (.bool (x || y)) ∧ w = w' := by
  cases x
  all_goals
    go_enter Tryz.func20, Tryz.ntmps20
    go_wp2
    go_ret
    exact ⟨rfl, rfl⟩
theorem ra_minus1 (x y : Bool) (w : World) : Calls Tryz.prog 22 #[.bool x, .bool y] w fun e w' => e = .returned (.bool (x && !y)) ∧ w = w' := by
  cases x
  all_goals
    go_enter Tryz.func22, Tryz.ntmps22
    go_wp2
    go_ret
    exact ⟨rfl, rfl⟩
theorem ra_common1 (x y : Bool) (w : World) : Calls Tryz.prog 21 #[.bool x, .bool y] w fun e w' => e = .returned (.bool (x && y)) ∧ w = w' := by
  cases x
  all_goals
    go_enter Tryz.func21, Tryz.ntmps21
    go_wp2
    go_ret
    exact ⟨rfl, rfl⟩
end Go.Proofs.YtjideokeokmbaaaGreatDoor
