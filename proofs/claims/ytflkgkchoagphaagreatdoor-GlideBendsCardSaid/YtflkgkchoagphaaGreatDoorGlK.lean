/- slices.Compact over knots; how knots lie. -/
import Derived.Test.YtflkgkchoagphaaGreatDoorGlD
import Derived.Laws.StructEq
import Derived.Lib.SliceRun
set_option linter.unusedVariables false
set_option linter.unusedSimpArgs false
namespace Go.Proofs.YtflkgkchoagphaaGreatDoor
open Go.RowKit Go.Shelf Go.Deep
open Z

/-- a knot lies at a place -/
def KnAt (w : World) (b o : Nat) (k : Kn) : Prop := w.cell? ⟨b, o, none⟩ = some (.int .i64 k.1) ∧ w.cell? ⟨b, o + 1, none⟩ = some (.string k.2)
theorem KnAt.gr {w w' : World} {b o : Nat} {k : Kn} (h : KnAt w b o k) (hg : Gr w w') : KnAt w' b o k := ⟨gr_cell hg h.1, gr_cell hg h.2⟩
def RdK (w : World) (a : Option Addr) (l : List Kn) : Prop := ∀ k (h : k < l.length), ∃ b o, a = some ⟨b, o, none⟩ ∧ KnAt w b (o + k * 2) l[k]
theorem RdK.gr {w w' : World} {a : Option Addr} {l : List Kn} (h : RdK w a l) (hg : Gr w w') : RdK w' a l := fun k hk => by
  obtain ⟨b, o, e, hat⟩ := h k hk
  exact ⟨b, o, e, hat.gr hg⟩
theorem RdK.nil (w : World) (a : Option Addr) : RdK w a [] := fun k hk => absurd hk (by simp)
def kv (l : List Kn) : List Value := l.flatMap fun k => [.int .i64 k.1, .string k.2]
theorem kv_snoc (l : List Kn) (k : Kn) : kv (l ++ [k]) = kv l ++ [.int .i64 k.1, .string k.2] := by simp [kv]
theorem kv_get : ∀ (l : List Kn) (k : Nat) (h : k < l.length), (kv l)[k * 2]? = some (.int .i64 l[k].1) ∧ (kv l)[k * 2 + 1]? = some (.string l[k].2)
  | [], _, h => absurd h (by simp)
  | g :: l, 0, _ => ⟨rfl, rfl⟩
  | g :: l, k + 1, h => by
    have ih := kv_get l k (by simpa using h)
    have e : ∀ j, (kv (g :: l))[(k + 1) * 2 + j]? = (kv l)[k * 2 + j]? := fun j => by
      show ([Value.int .i64 g.1, .string g.2] ++ kv l)[(k + 1) * 2 + j]? = _
      rw [List.getElem?_append_right (by simp; omega)]
      congr 1; simp; omega
    refine ⟨by have := e 0; simpa using this.trans ih.1, by rw [e 1]; exact ih.2⟩
/-- a row of knots that may be written -/
def HK (w : World) (g : Nat) (d : List Kn) : Prop := ∀ j (h : j < d.length), KnAt w g (j * 2) d[j] ∧ w.frozen? ⟨g, j * 2, none⟩ = false ∧ w.frozen? ⟨g, j * 2 + 1, none⟩ = false
theorem HK.drew {w : World} {g : Nat} {d : List Kn} (h : HK w g d) : HK w.drew g d := h
theorem HK.rd {w : World} {g : Nat} {d : List Kn} (h : HK w g d) : RdK w (some ⟨g, 0, none⟩) d := fun k hk => ⟨g, 0, rfl, by rw [Nat.zero_add]; exact (h k hk).1⟩
theorem HK.set {w : World} {g : Nat} {d : List Kn} (h : HK w g d) {i : Nat} (hi : i < d.length) (x : Kn) : HK ((w.setCell ⟨g, i * 2, none⟩ (.int .i64 x.1)).setCell ⟨g, i * 2 + 1, none⟩ (.string x.2)) g (d.set i x) := fun j hj => by
  rw [List.length_set] at hj
  obtain ⟨⟨h0, h1⟩, f0, f1⟩ := h j hj
  obtain ⟨⟨i0, i1⟩, -, -⟩ := h i hi
  have other : ∀ (u : World) (a b : Nat) (v : Value), a ≠ b → (u.setCell ⟨g, b, none⟩ v).cell? ⟨g, a, none⟩ = u.cell? ⟨g, a, none⟩ := fun u a b v hn => World.cell?_setCell_other _ _ _ _ (by simp only [ne_eq, Addr.mk.injEq]; omega)
  refine ⟨?_, by rw [World.frozen?_setCell, World.frozen?_setCell]; exact f0, by rw [World.frozen?_setCell, World.frozen?_setCell]; exact f1⟩
  by_cases e : i = j
  · subst e
    rw [List.getElem_set_self]
    exact ⟨(other _ _ _ _ (by omega)).trans (World.cell?_setCell_same _ _ _ i0), World.cell?_setCell_same _ _ _ ((other _ _ _ _ (by omega)).trans i1)⟩
  · rw [List.getElem_set_ne e]
    exact ⟨((other _ _ _ _ (by omega)).trans (other _ _ _ _ (by omega))).trans h0, ((other _ _ _ _ (by omega)).trans (other _ _ _ _ (by omega))).trans h1⟩
theorem grownBy_set {w w' : World} {g : Nat} (h : w.grownBy w' (some g)) (o : Nat) (v : Value) : w.grownBy (w'.setCell ⟨g, o, none⟩ v) (some g) :=
  ⟨h.os, h.tape, h.output, by rw [nblk_setCell]; exact h.size, fun k hk hne => (blk_setCell_other _ _ _ _ (fun e => hne (by rw [e]))).trans (h.block k hk hne)⟩
theorem grownBy_drew {w w' : World} {r : Option Nat} (h : w.grownBy w' r) : w.grownBy w'.drew r := ⟨h.os, h.tape, h.output, h.size, h.block⟩
theorem grownBy_refl (w : World) (r : Option Nat) : w.grownBy w r := ⟨rfl, rfl, rfl, Nat.le_refl _, fun _ _ _ => rfl⟩
theorem grownBy_sets {w : World} {g : Nat} : ∀ (vs : List Value) (w' : World) (o : Nat), w.grownBy w' (some g) → w.grownBy (w'.setCells g o vs) (some g)
  | [], _, _, h => h
  | v :: vs, w', o, h => grownBy_sets vs _ (o + 1) (grownBy_set h o v)
/-- the knots of the first m, equal neighbours taken together -/
def PK (ks : List Kn) (m : Nat) : List Kn := putAll [] (ks.take m)
theorem PK_put {ks : List Kn} {m : Nat} (hm : m < ks.length) : PK ks (m + 1) = putL (PK ks m) ks[m] := by
  unfold PK
  rw [List.take_succ_eq_append_getElem hm]
  unfold putAll
  rw [List.foldl_append]; rfl
theorem PK_last {ks : List Kn} {j : Nat} (hm : j < ks.length) : (PK ks (j + 1)).getLast? = some ks[j] := by rw [PK_put hm]; exact putL_last _ _
theorem PK_same {ks : List Kn} {j : Nat} (hm : j + 1 < ks.length) (h : ks[j + 1] = ks[j]) : PK ks (j + 1 + 1) = PK ks (j + 1) := by
  rw [PK_put hm]; unfold putL; rw [if_pos (by rw [PK_last (by omega), h])]
theorem PK_next {ks : List Kn} {j : Nat} (hm : j + 1 < ks.length) (h : ks[j + 1] ≠ ks[j]) : PK ks (j + 1 + 1) = PK ks (j + 1) ++ [ks[j + 1]] := by
  rw [PK_put hm]; unfold putL
  rw [if_neg (by rw [PK_last (by omega)]; intro e; exact h (Option.some.inj e).symm)]
theorem PK_one {ks : List Kn} (h : 0 < ks.length) : PK ks 1 = ks.take 1 := by
  rw [PK_put h]
  cases ks with
  | nil => simp at h
  | cons a r => rfl
theorem PK_all (ks : List Kn) : PK ks ks.length = compactL ks := by unfold PK; rw [List.take_length, putAll_compact]
/-- what holds within the second loop -/
def CI (ks : List Kn) (m kk : Nat) (dk : List Kn) : Prop := dk.length = ks.length ∧ kk < m ∧ dk.take kk = PK ks m ∧ ∀ j (h : j < dk.length) (h' : j < ks.length), m ≤ j + 1 → dk[j] = ks[j]
theorem CI.start {ks : List Kn} {j : Nat} (hm : j + 1 < ks.length) (h : ks[j + 1] = ks[j]) (ht : PK ks (j + 1) = ks.take (j + 1)) : CI ks (j + 1 + 1) (j + 1) ks :=
  ⟨rfl, by omega, by rw [PK_same hm h, ht], fun _ _ _ _ => rfl⟩
theorem CI.skip {ks dk : List Kn} {j kk : Nat} (hc : CI ks (j + 1) kk dk) (hm : j + 1 < ks.length) (h : ks[j + 1] = ks[j]) : CI ks (j + 1 + 1) kk dk :=
  ⟨hc.1, by have := hc.2.1; omega, by rw [PK_same hm h]; exact hc.2.2.1, fun i h1 h2 h3 => hc.2.2.2 i h1 h2 (by omega)⟩
theorem CI.keep {ks dk : List Kn} {j kk : Nat} (hc : CI ks (j + 1) kk dk) (hm : j + 1 < ks.length) (h : ks[j + 1] ≠ ks[j]) : CI ks (j + 1 + 1) (kk + 1) (dk.set kk ks[j + 1]) := by
  obtain ⟨h1, h2, h3, h4⟩ := hc
  refine ⟨by rw [List.length_set]; exact h1, by omega, ?_, fun i g1 g2 g3 => ?_⟩
  · rw [PK_next hm h, List.take_succ_eq_append_getElem (by rw [List.length_set]; omega), List.getElem_set_self, List.take_set_of_le (Nat.le_refl _), h3]
  · rw [List.getElem_set_ne (by omega)]
    rw [List.length_set] at g1
    exact h4 i g1 g2 (by omega)
theorem run_clear_kn (w : World) (t e : TypeId) (z : Value) (ht : Tryz.prog.underlying t = some (.slice e)) (hv : ∀ w, (zeroValue e).run Tryz.prog w = .ok z w) (hz : z.cells.size = 2) (h1 : ∀ v ∈ z.cells.toList, v.oneCell' = true) (b o n c : Nat) (hn : 0 < n)
    (hc : ∀ j, j < n * 2 → (w.cell? ⟨b, o + j, none⟩).isSome = true) (hf : ∀ j, j < n * 2 → w.frozen? ⟨b, o + j, none⟩ = false) :
    ∃ vs : List Value, ∀ ty, (Builtin.clear_ #[t] ty #[.slice (some ⟨b, o, none⟩) n c]).run Tryz.prog w = .ok (.tuple #[]) (w.setCells b o vs) := by
  have hl : (Builtin.zeroCells z.cells n).toList.length = n * 2 := by simp [Builtin.zeroCells, hz]
  have hst := run_storeCells_cells (P := Tryz.prog) b o (Builtin.zeroCells z.cells n).toList 0 w (by simpa [hl] using hc) (by simpa [hl] using hf) (by
    intro v hv'
    unfold Builtin.zeroCells at hv'
    simp only [Array.toList_map, List.mem_map] at hv'
    obtain ⟨i, -, rfl⟩ := hv'
    have hi : i % z.cells.size < z.cells.size := Nat.mod_lt _ (by omega)
    rw [getElem!_pos z.cells _ hi]
    exact h1 _ (by simp))
  simp only [Nat.add_zero] at hst
  obtain ⟨m, rfl⟩ : ∃ m, n = m + 1 := ⟨n - 1, by omega⟩
  exact ⟨(Builtin.zeroCells z.cells (m + 1)).toList, fun ty => by simp [Builtin.clear_, run_underlying ht, hv, hst]⟩
def CompR (w : World) (g cap : Nat) (ks : List Kn) (e : Ending) (w' : World) : Prop :=
  e = .returned (.slice (some ⟨g, 0, none⟩) (compactL ks).length cap) ∧ RdK w' (some ⟨g, 0, none⟩) (compactL ks) ∧ w.grownBy w' (some g)
set_option maxHeartbeats 4000000 in
set_option maxRecDepth 100000 in
theorem gl_compact {g cap : Nat} {ks : List Kn} (w : World) (h : HK w g ks) (hcap : ks.length ≤ cap) (hlen : ks.length ≤ 1000000) (hcm : cap ≤ maxLen) :
    Calls Tryz.prog 67 #[.slice (some ⟨g, 0, none⟩) ks.length cap] w (fun e w' => CompR w g cap ks e w') := by
  have HH := Lib.hid h; clear h
  unfold maxLen at hcm
  have KSE := Lib.hid (fun (w' : World) (hw : HK w' g ks) (hg : w.grownBy w' (some g)) (hp : PK ks ks.length = ks) => (⟨by rw [← PK_all, hp], by rw [← PK_all, hp]; exact hw.rd, hg⟩ : CompR w g cap ks (.returned (.slice (some ⟨g, 0, none⟩) ks.length cap)) w'))
  obtain ⟨n, hn⟩ : ∃ n, n = ks.length := ⟨_, rfl⟩
  have HN := Lib.hid hn
  rw [← hn] at hcap hlen KSE ⊢
  clear hn
  by_cases h2 : n < 2
  · go_enter Tryz.func67, Tryz.ntmps67
    go_wp2
    go_ret
    refine KSE.out _ HH.out (grownBy_refl _ _) ?_
    rcases (show n = 0 ∨ n = 1 by omega) with rfl | rfl
    · have : ks = [] := List.eq_nil_of_length_eq_zero HN.out.symm
      subst this; rfl
    · rw [PK_one (by have := HN.out; omega), List.take_of_length_le (by have := HN.out; omega)]
  · go_enter Tryz.func67, Tryz.ntmps67
    go_wp2
    go_loopw [3] (fun s3 wr => ∃ k : Nat, s3 = .int .i64 k ∧ 1 ≤ k ∧ k ≤ n ∧ Hid (HK wr g ks) ∧ Hid (w.grownBy wr (some g)) ∧ Hid (PK ks k = ks.take k)) (fun s3 _ => n - (intOf s3).toNat)
    case atStart => exact ⟨1, rfl, Nat.le_refl _, by omega, HH.out, grownBy_refl _ _, PK_one (by have := HN.out; omega)⟩
    case round =>
      obtain ⟨k, rfl, hk1, hk, HK1, HG, HP⟩ := hrel
      by_cases hlt : k < n
      · obtain ⟨j, hj⟩ : ∃ j, k = j + 1 := ⟨k - 1, by omega⟩
        have hj1 : k < ks.length := by rw [← HN.out]; exact hlt
        have hj0 : j < ks.length := by omega
        obtain ⟨⟨c0, c1⟩, -, -⟩ := HK1.out k hj1
        obtain ⟨⟨d0, d1⟩, -, -⟩ := HK1.out j hj0
        have HC : Hid (ks[k] = ks[j] → CI ks (k + 1) k ks) := Lib.hid (by subst hj; exact fun h => CI.start hj1 h HP.out)
        have HX : Hid (ks[k] ≠ ks[j] → PK ks (k + 1) = PK ks k ++ [ks[k]]) := Lib.hid (by subst hj; exact fun h => PK_next hj1 h)
        have HJ := Lib.hid hj
        generalize hx : ks[k] = x at *
        generalize hy : ks[j] = y at *
        obtain ⟨x0, x1⟩ := x
        obtain ⟨y0, y1⟩ := y
        simp only at c0 c1 d0 d1
        have q5 : (j : Int) < n := by omega
        have q6 : ((k : Int) - 1) = j := by omega
        clear hj
        by_cases hdup : x0 = y0 ∧ x1 = y1
        · obtain ⟨rfl, rfl⟩ := hdup
          have HC1 := Lib.hid (HC.out rfl)
          clear HC HX
          go_wp2_with fail
          go_region
          go_wp2
          clear c0 c1 d0 d1
          go_loopw [3, 5] (fun s3 s5 wx => ∃ (kk k2 : Nat) (dk : List Kn), s3 = .int .i64 kk ∧ s5 = .int .i64 k2 ∧ 1 ≤ k2 ∧ k + k2 ≤ n ∧ Hid (HK wx g dk) ∧ Hid (w.grownBy wx (some g)) ∧ Hid (CI ks (k + k2) kk dk)) (fun _ s5 _ => n - (intOf s5).toNat)
          case atStart => exact ⟨k, 1, ks, rfl, rfl, Nat.le_refl _, by omega, HK1.out, grownBy_drew HG.out, HC1.out⟩
          case round =>
            clear HK1 HG HC1 HP HJ
            obtain ⟨kk, k2, dk, rfl, rfl, hk2, hle, HKx, HGx, HCx⟩ := hrel
            have hkk := HCx.out.2.1
            have hdl := HCx.out.1
            have hkn : kk < n := by omega
            by_cases hlt2 : k + k2 < n
            · obtain ⟨i, rfl⟩ : ∃ i, k2 = i + 1 := ⟨k2 - 1, by omega⟩
              have hm1 : k + i + 1 < ks.length := by have := HN.out; omega
              obtain ⟨⟨c0, c1⟩, -, -⟩ := HKx.out (k + i + 1) (by omega)
              obtain ⟨⟨d0, d1⟩, -, -⟩ := HKx.out (k + i) (by omega)
              obtain ⟨⟨e0, e1⟩, g0, g1⟩ := HKx.out kk (by have := HN.out; omega)
              rw [HCx.out.2.2.2 (k + i + 1) (by omega) hm1 (by omega)] at c0 c1
              rw [HCx.out.2.2.2 (k + i) (by omega) (by omega) (by omega)] at d0 d1
              rw [show (k + i + 1) * 2 = k * 2 + (i + 1) * 2 by omega] at c0 c1
              rw [show (k + i) * 2 = k * 2 + i * 2 by omega] at d0 d1
              have HS := Lib.hid (fun (h : ks[k + i + 1] = ks[k + i]) => HCx.out.skip hm1 h)
              have HX := Lib.hid (fun (h : ks[k + i + 1] ≠ ks[k + i]) => HCx.out.keep hm1 h)
              have HSt := Lib.hid (fun (x : Kn) => (HKx.out.drew).set (i := kk) (by have := HN.out; omega) x)
              generalize hu : ks[k + i + 1] = u at *
              generalize hv : ks[k + i] = v at *
              generalize dk[kk] = old at *
              obtain ⟨u0, u1⟩ := u
              obtain ⟨v0, v1⟩ := v
              simp only at c0 c1 d0 d1
              have p1 : (0 : Int) ≤ (i : Int) + 1 := by omega
              have p2 : (i : Int) + 1 < (n - k : Nat) := by omega
              have p4 : ((i : Int) + 1).toNat = i + 1 := by omega
              have p5 : (i : Int) < (n - k : Nat) := by omega
              have p6 : ((i : Int) + 1 - 1) = i := by omega
              clear hu hv hdl hkk
              by_cases hdup2 : u0 = v0 ∧ u1 = v1
              · obtain ⟨rfl, rfl⟩ := hdup2
                have HS1 := Lib.hid (HS.out rfl)
                clear HS HX HSt
                go_wp2_with fail
                go_region
                go_wp2
                go_roundw
                case rel => exact ⟨kk, i + 1 + 1, dk, rfl, by go_num, by omega, by omega, HKx.out, grownBy_drew HGx.out, HS1.out⟩
                case measure => simp [intOf]; omega
              · have HX1 := Lib.hid (HX.out (fun e => hdup2 (by simpa using e)))
                have HSt1 := Lib.hid (HSt.out (u0, u1))
                have HG1 := Lib.hid (grownBy_set (grownBy_set (grownBy_drew HGx.out) (kk * 2) (.int .i64 u0)) (kk * 2 + 1) (.string u1))
                clear HS HX HSt
                by_cases hu0 : u0 = v0
                · subst hu0
                  have hbn := ba_bne (s := u1) (t := v1) (fun e => hdup2 ⟨rfl, e⟩)
                  clear hdup2
                  go_wp2_with fail
                  go_region
                  go_wp2
                  go_roundw
                  case rel => exact ⟨kk + 1, i + 1 + 1, dk.set kk (u0, u1), by go_num, by go_num, by omega, by omega, HSt1.out, HG1.out, HX1.out⟩
                  case measure => simp [intOf]; omega
                · have hbn : (u0 == v0) = false := by simpa using hu0
                  clear hdup2
                  go_wp2_with fail
                  go_region
                  go_wp2
                  go_roundw
                  case rel => exact ⟨kk + 1, i + 1 + 1, dk.set kk (u0, u1), by go_num, by go_num, by omega, by omega, HSt1.out, HG1.out, HX1.out⟩
                  case measure => simp [intOf]; omega
            · have hend : k + k2 = n := by omega
              obtain ⟨vs, hcl⟩ := run_clear_kn wr 50 64 (.agg #[.int .i64 0, .string ⟨#[]⟩]) Tryz.underlying50 Tryz.zeroValue64 rfl (by simp [Value.cells, Value.oneCell']) g (kk * 2) (n - kk) (cap - kk) (by omega)
                (fun i hi => by
                  obtain ⟨⟨h0, h1⟩, -, -⟩ := HKx.out (kk + i / 2) (by have := HN.out; omega)
                  rcases (show kk * 2 + i = (kk + i / 2) * 2 ∨ kk * 2 + i = (kk + i / 2) * 2 + 1 by omega) with e | e
                  · rw [e, h0]; rfl
                  · rw [e, h1]; rfl)
                (fun i hi => by
                  obtain ⟨-, h0, h1⟩ := HKx.out (kk + i / 2) (by have := HN.out; omega)
                  rcases (show kk * 2 + i = (kk + i / 2) * 2 ∨ kk * 2 + i = (kk + i / 2) * 2 + 1 by omega) with e | e
                  · rw [e]; exact h0
                  · rw [e]; exact h1)
              have HR : Hid (CompR w g cap ks (.returned (.slice (some ⟨g, 0, none⟩) kk cap)) (wr.setCells g (kk * 2) vs)) := by
                have htk : dk.take kk = compactL ks := by rw [HCx.out.2.2.1, hend, HN.out, PK_all]
                have hkl : (compactL ks).length = kk := by rw [← htk, List.length_take]; have := HN.out; omega
                refine ⟨by rw [hkl], fun i hi => ⟨g, 0, rfl, ?_⟩, grownBy_sets _ _ _ HGx.out⟩
                rw [hkl] at hi
                obtain ⟨⟨h0, h1⟩, -, -⟩ := HKx.out i (by have := HN.out; omega)
                have ei : (compactL ks)[i]'(by omega) = dk[i]'(by have := HN.out; omega) := by
                  have : (dk.take kk)[i]'(by rw [List.length_take]; have := HN.out; omega) = dk[i]'(by have := HN.out; omega) := List.getElem_take
                  rw [← this]; congr 1; exact htk.symm
                rw [ei, Nat.zero_add]
                exact ⟨(World.cell?_setCells_out g vs _ _ _ (fun _ _ => .inl (by show i * 2 < kk * 2; omega))).trans h0, (World.cell?_setCells_out g vs _ _ _ (fun _ _ => .inl (by show i * 2 + 1 < kk * 2; omega))).trans h1⟩
              have hkc : ¬ cap = kk := by omega
              clear hkk hdl
              go_wp2
              go_ret
              exact HR.out
        · have HX1 := Lib.hid (HX.out (fun e => hdup (by simpa using e)))
          have HPn : Hid (PK ks (k + 1) = ks.take (k + 1)) := by
            show PK ks (k + 1) = ks.take (k + 1)
            rw [HX1.out, HP.out, ← hx]
            exact (List.take_succ_eq_append_getElem hj1).symm
          clear HC HX hx hy
          by_cases hx0 : x0 = y0
          · subst hx0
            have hbn := ba_bne (s := x1) (t := y1) (fun e => hdup ⟨rfl, e⟩)
            clear hdup
            go_wp2_with fail
            go_region
            go_wp2
            go_roundw
            case rel => exact ⟨k + 1, by go_num, by omega, by omega, HK1.out, grownBy_drew HG.out, HPn.out⟩
            case measure => simp [intOf]; omega
          · have hbn : (x0 == y0) = false := by simpa using hx0
            clear hdup
            go_wp2_with fail
            go_region
            go_wp2
            go_roundw
            case rel => exact ⟨k + 1, by go_num, by omega, by omega, HK1.out, grownBy_drew HG.out, HPn.out⟩
            case measure => simp [intOf]; omega
      · have hkn : k = n := by omega
        subst hkn
        have hpk : PK ks ks.length = ks := by rw [← HN.out, HP.out, List.take_of_length_le (by have := HN.out; omega)]
        go_wp2
        go_ret
        exact KSE.out _ HK1.out HG.out (by first | exact hpk | (rw [HN.out]; exact hpk))

end Go.Proofs.YtflkgkchoagphaaGreatDoor
