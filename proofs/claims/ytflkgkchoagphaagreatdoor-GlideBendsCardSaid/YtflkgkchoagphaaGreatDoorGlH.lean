/- Knots of the program. -/
import Derived.Test.YtflkgkchoagphaaGreatDoorGlG
import Derived.Test.YtflkgkchoagphaaGreatDoorGlK
import Derived.Test.YtflkgkchoagphaaGreatDoorGlCP
import Derived.OwnWalkIn
import Derived.Deep.DeepAppendRoom
set_option linter.unusedVariables false
set_option linter.unusedSimpArgs false
namespace Go.Proofs.YtflkgkchoagphaaGreatDoor
open Go.RowKit Go.Shelf Go.Deep
open Z
attribute [local go_sem] Oper.semAt_some

def knL (l : List Gl) : List Kn := compactL (knAll l l.length)
theorem knAll_zero (l : List Gl) : knAll l 0 = [] := rfl
theorem knAll_succ {l : List Gl} {k : Nat} (hk : k < l.length) : knAll l (k + 1) = knAll l k ++ kn1 l[k] l[k + 1]? := by
  unfold knAll
  rw [List.range_succ, List.map_append, List.flatten_append]
  simp only [List.map_cons, List.map_nil, List.flatten_cons, List.flatten_nil, List.append_nil, List.getElem?_eq_getElem hk]
theorem kn1_len (g : Gl) (n : Option Gl) : (kn1 g n).length ≤ 2 := by
  unfold kn1
  cases n with
  | none => simp
  | some n => simp only [List.length_cons]; split <;> simp
theorem knAll_len {l : List Gl} : ∀ {k : Nat}, k ≤ l.length → (knAll l k).length ≤ 2 * k
  | 0, _ => by simp [knAll_zero]
  | k + 1, h => by
    rw [knAll_succ (by omega), List.length_append]
    have := kn1_len l[k] l[k + 1]?
    have := knAll_len (l := l) (k := k) (by omega)
    omega
theorem kn1_two {l : List Gl} {k : Nat} (hk : k < l.length) (h : ∀ h : k + 1 < l.length, (l[k]).st + (l[k]).ti ≤ (l[k + 1]).st) : knAll l (k + 1) = knAll l k ++ [((l[k]).st, (l[k]).f)] ++ [((l[k]).st + (l[k]).ti, Tx (l[k]).x)] := by
  rw [knAll_succ hk]
  unfold kn1
  by_cases h1 : k + 1 < l.length
  · rw [List.getElem?_eq_getElem h1]; simp only [if_pos (h h1), List.append_assoc, List.cons_append, List.nil_append]
  · rw [List.getElem?_eq_none (by omega)]; simp only [List.append_assoc, List.cons_append, List.nil_append]
theorem kn1_one {l : List Gl} {k : Nat} (hk : k + 1 < l.length) (h : ¬ (l[k]).st + (l[k]).ti ≤ (l[k + 1]).st) : knAll l (k + 1) = knAll l k ++ [((l[k]).st, (l[k]).f)] := by
  rw [knAll_succ (by omega)]
  unfold kn1
  rw [List.getElem?_eq_getElem hk]
  simp only [if_neg h]
theorem compactL_len : ∀ l : List Kn, (compactL l).length ≤ l.length
  | [] => Nat.le_refl _
  | [_] => Nat.le_refl _
  | a :: b :: r => by
    have := compactL_len (b :: r)
    unfold compactL
    split
    · simp only [List.length_cons] at *; omega
    · simp only [List.length_cons] at *; omega
def KnR (l : List Gl) (w w' : World) (e : Ending) : Prop := Gr w w' ∧ ((chainE l ≠ 0 ∧ e = .returned (.tuple #[.slice none 0 0, .int .i64 (chainE l)])) ∨
  (chainE l = 0 ∧ ∃ g cp, e = .returned (.tuple #[.slice (some ⟨g, 0, none⟩) (knL l).length cp, .int .i64 0]) ∧ RdK w' (some ⟨g, 0, none⟩) (knL l) ∧ (knL l).length ≤ cp ∧ cp ≤ maxLen))
theorem Tryz.infoKnot : (Tryz.prog.info? 64).map (fun i => (i.zero, i.size, i.bytes)) = some (some (.agg #[.int .i64 0, .string ⟨#[]⟩]), 2, 24) := by kernel_rfl
/-- the gathered knots, in a row of one's own -/
def OwnK (B : Nat) (w : World) (R cap : Nat) (xs : List Kn) : Prop := w.ownsRow B 64 2 (.slice (some ⟨R, 0, none⟩) xs.length cap) xs.length (kv xs)
theorem OwnK.hk {B R cap : Nat} {w : World} {xs : List Kn} (h : OwnK B w R cap xs) : HK w R xs := fun j hj => by
  obtain ⟨h0, h1⟩ := kv_get xs j hj
  have c : ∀ j u, (kv xs)[j]? = some u → w.cell? ⟨R, 0 + j, none⟩ = some u := fun j u hj => by
    have := World.ownsRow.cells h (g := R) rfl j u hj
    rwa [WideShapes.add_plain] at this
  rcases id h.2 with ⟨h2, -⟩ | ⟨g, cap', cur, h2, -, hg, -⟩
  · cases h2
  · injection h2 with e1 e2 e3
    injection e1 with e1
    injection e1 with e1 _ _
    subst e1
    exact ⟨⟨by simpa using c _ _ h0, by simpa [Nat.add_assoc] using c _ _ h1⟩, by simp [World.frozen?, hg], by simp [World.frozen?, hg]⟩
theorem OwnK.kept {B R cap : Nat} {w w' : World} {xs : List Kn} {row : Option Nat} (h : OwnK B w R cap xs) (hg : w.grownBy w' row) (hne : row ≠ some R) : OwnK B w' R cap xs :=
  World.ownsRow.kept h hg (.inr (by show some R ≠ row; exact fun e => hne e.symm))
theorem OwnK.lt {B R cap : Nat} {w : World} {xs : List Kn} (h : OwnK B w R cap xs) : B ≤ R ∧ R < w.heap.size := World.ownsRow.lt h R rfl
theorem kn_cells {w : World} {t : Int} {f : ByteArray} (j : Nat) (u : Value) (hj : ([Value.int .i64 t, .string f] : List Value)[j]? = some u) : (w.alloc (.cells #[.int .i64 t, .string f] 64)).cell? ((⟨w.heap.size, 0, none⟩ : Addr).add j) = some u := by
  rw [WideShapes.add_plain]
  match j, hj with
  | 0, hj => simp only [List.getElem?_cons_zero, Option.some.injEq] at hj; subst hj; rw [World.cell?_alloc_at _ _ _ _ rfl]; rfl
  | 1, hj => simp only [List.getElem?_cons_succ, List.getElem?_cons_zero, Option.some.injEq] at hj; subst hj; rw [World.cell?_alloc_at _ _ _ _ rfl]; rfl
  | j + 2, hj => simp at hj
theorem kn_one {t : Int} {f : ByteArray} : ∀ u ∈ ([Value.int .i64 t, .string f] : List Value), u.oneCell' = true := fun u hu => by
  simp only [List.mem_cons, List.not_mem_nil, or_false] at hu
  rcases hu with rfl | rfl <;> rfl
theorem ownK_push {B R cap : Nat} {w : World} {xs : List Kn} {t : Int} {f : ByteArray} (h : w.ownsRow B 64 2 (.slice (some ⟨R, 0, none⟩) (xs.length + 1) cap) (xs.length + 1) (kv xs ++ [.int .i64 t, .string f])) : OwnK B w R cap (xs ++ [(t, f)]) := by
  unfold OwnK
  rw [kv_snoc, List.length_append]; exact h
theorem OwnK.al {B R cap : Nat} {w : World} {xs : List Kn} {k : Kn} (h : OwnK B w R cap (xs ++ [k])) (o : Obj) : (w.alloc o).ownsRow B 64 2 (.slice (some ⟨R, 0, none⟩) (xs.length + 1) cap) (xs.length + 1) (kv (xs ++ [k])) := by
  have := h.kept ((Gr.refl w).alloc o).grown (by simp)
  unfold OwnK at this
  rw [List.length_append] at this
  exact this
theorem OwnK.al' {B R cap : Nat} {w : World} {xs : List Kn} {k : Kn} {ys : List Value} (h : w.ownsRow B 64 2 (.slice (some ⟨R, 0, none⟩) (xs.length + 1 + 1) cap) (xs.length + 1 + 1) ys) : w.ownsRow B 64 2 (.slice (some ⟨R, 0, none⟩) ((xs ++ [k]).length + 1) cap) ((xs ++ [k]).length + 1) ys := by
  rw [List.length_append]; exact h
/-- append of one knot to a row with room, inside a fence -/
theorem pushIn_kn {F : Fence} {nf : Nat} {i : TypeInfo} (hi : Tryz.prog.info? 64 = some i) (hz1 : i.size = 2) {ops : Array Oper} {rest : List Oper} {o : Oper} {a : Act} {Q : Exit → Act → World → Prop} {w : World} (hgd : o.guard = none) (s x : Operand)
    (ho : o.op = .call { callee := .builtin .append, args := #[s, x], argTypes := #[50, 50] }) (R cap : Nat) (xs : List Kn) (hs : a.eval s = .slice (some ⟨R, 0, none⟩) xs.length cap) (hown : OwnK R w R cap xs)
    (t : Int) (f : ByteArray) (hx : a.eval x = .slice (some ⟨w.heap.size, 0, none⟩) 1 1) (hroom : xs.length + 1 ≤ cap)
    (h : ∀ w5, w5.ownsRow R 64 2 (.slice (some ⟨R, 0, none⟩) (xs.length + 1) cap) (xs.length + 1) (kv xs ++ [.int .i64 t, .string f]) → (w.alloc (.cells #[.int .i64 t, .string f] 64)).grownBy w5 (some R) → wpListIn F nf Tryz.prog ops Q rest (a.put o.dst (.slice (some ⟨R, 0, none⟩) (xs.length + 1) cap)) w5) :
    wpListIn F nf Tryz.prog ops Q (o :: rest) a (w.alloc (.cells #[.int .i64 t, .string f] 64)) :=
  wpListIn_append_fits _ hgd s x _ ho R 64 i 2 Tryz.underlying50 hi hz1 R xs.length cap (kv xs) hs (hown.kept ((Gr.refl w).alloc (.cells #[.int .i64 t, .string f] 64)).grown (by simp)) ⟨w.heap.size, 0, none⟩ 1 1 [.int .i64 t, .string f] hx rfl kn_cells kn_one hroom h
/-- all blocks but two are as they were -/
def Tw (R T : Nat) (W W' : World) : Prop := W'.os = W.os ∧ W'.tape = W.tape ∧ W'.output = W.output ∧ W.heap.size ≤ W'.heap.size ∧ ∀ k, k < W.heap.size → k ≠ R → k ≠ T → W'.heap[k]? = W.heap[k]?
theorem Tw.refl (R T : Nat) (W : World) : Tw R T W W := ⟨rfl, rfl, rfl, Nat.le_refl _, fun _ _ _ _ => rfl⟩
theorem Tw.trans {R T : Nat} {A B C : World} (h : Tw R T A B) (k : Tw R T B C) : Tw R T A C :=
  ⟨k.1.trans h.1, k.2.1.trans h.2.1, k.2.2.1.trans h.2.2.1, Nat.le_trans h.2.2.2.1 k.2.2.2.1, fun i hi h1 h2 => (k.2.2.2.2 i (Nat.lt_of_lt_of_le hi h.2.2.2.1) h1 h2).trans (h.2.2.2.2 i hi h1 h2)⟩
theorem Tw.gr {R T : Nat} {A B : World} (h : Gr A B) : Tw R T A B := ⟨h.os, h.tape, h.output, h.size, fun i hi _ _ => h.block i hi⟩
theorem Tw.grown {R T : Nat} {A B : World} (h : A.grownBy B (some R)) : Tw R T A B := ⟨h.os, h.tape, h.output, h.size, fun i hi h1 _ => h.block i hi (fun e => h1 (Option.some.inj e))⟩
theorem Tw.set (R T : Nat) (A : World) (v : Value) : Tw R T A (A.setCell ⟨T, 0, none⟩ v) :=
  ⟨rfl, rfl, rfl, by rw [nblk_setCell]; exact Nat.le_refl _, fun i _ _ h2 => blk_setCell_other _ _ _ _ h2⟩
theorem Tw.below {R T : Nat} {w A B : World} (h : Tw R T A B) (hw : Gr w A) (hR : w.heap.size ≤ R) (hT : w.heap.size ≤ T) : Gr w B :=
  ⟨h.1.trans hw.os, h.2.1.trans hw.tape, h.2.2.1.trans hw.output, Nat.le_trans hw.size h.2.2.2.1, fun i hi => (h.2.2.2.2 i (Nat.lt_of_lt_of_le hi hw.size) (by omega) (by omega)).trans (hw.block i hi)⟩
theorem Box4.tw {R T G : Nat} {A B : World} {s : ByteArray} {x st ti : Int} (h : Box4 A G s x st ti) (ht : Tw R T A B) (h1 : G ≠ R) (h2 : G ≠ T) : Box4 B G s x st ti := by
  have c : ∀ o v, A.cell? ⟨G, o, none⟩ = some v → B.cell? ⟨G, o, none⟩ = some v := fun o v hv => (World.cell?_of_block (ht.2.2.2.2 G (cell_lt hv) h1 h2)).trans hv
  exact ⟨c _ _ h.1, c _ _ h.2.1, c _ _ h.2.2.1, c _ _ h.2.2.2⟩
/-- what holds within a round -/
def St (w0 W wc : World) (R T G cap : Nat) (xs : List Kn) (s : ByteArray) (x st ti : Int) : Prop :=
  Box4 wc G s x st ti ∧ wc.cell? ⟨T, 0, none⟩ = some (.slice (some ⟨R, 0, none⟩) xs.length cap) ∧ wc.frozen? ⟨T, 0, none⟩ = false ∧ OwnK R wc R cap xs ∧ Gr w0 wc ∧ Tw R T W wc
theorem St.gr {w0 W wc wd : World} {R T G cap : Nat} {xs : List Kn} {s : ByteArray} {x st ti : Int} (h : St w0 W wc R T G cap xs s x st ti) (hg : Gr wc wd) : St w0 W wd R T G cap xs s x st ti :=
  ⟨h.1.gr hg, gr_cell hg h.2.1, (Below.frozen hg (p := ⟨T, 0, none⟩) (cell_lt h.2.1)).trans h.2.2.1, h.2.2.2.1.kept hg.grown (by simp), Gr.trans h.2.2.2.2.1 hg, h.2.2.2.2.2.trans (Tw.gr hg)⟩
theorem St.push {w0 W wc w5 : World} {R T G cap : Nat} {xs : List Kn} {s : ByteArray} {x st ti t : Int} {f : ByteArray} (h : St w0 W wc R T G cap xs s x st ti) (o : Obj)
    (hown : w5.ownsRow R 64 2 (.slice (some ⟨R, 0, none⟩) (xs.length + 1) cap) (xs.length + 1) (kv xs ++ [.int .i64 t, .string f])) (hgrow : (wc.alloc o).grownBy w5 (some R)) (hGR : G ≠ R) (hGT : G ≠ T) (hRT : R ≠ T) (hR : w0.heap.size ≤ R) (hT : w0.heap.size ≤ T) :
    St w0 W (w5.setCell ⟨T, 0, none⟩ (.slice (some ⟨R, 0, none⟩) (xs.length + 1) cap)) R T G cap (xs ++ [(t, f)]) s x st ti := by
  have t1 : Tw R T wc (w5.setCell ⟨T, 0, none⟩ (.slice (some ⟨R, 0, none⟩) (xs.length + 1) cap)) := ((Tw.gr ((Gr.refl wc).alloc o)).trans (Tw.grown hgrow)).trans (Tw.set _ _ _ _)
  have hTl := cell_lt h.2.1
  have hTb : w5.heap[T]? = wc.heap[T]? := (hgrow.block T (by simp; omega) (by simp; omega)).trans ((World.grownBy_alloc wc o none).block T hTl (by simp))
  have hc5 : w5.cell? ⟨T, 0, none⟩ = some (.slice (some ⟨R, 0, none⟩) xs.length cap) := (World.cell?_of_block hTb).trans h.2.1
  refine ⟨h.1.tw t1 hGR hGT, ?_, ?_, ?_, t1.below h.2.2.2.2.1 hR hT, h.2.2.2.2.2.trans t1⟩
  · rw [List.length_append]; exact World.cell?_setCell_same _ _ _ hc5
  · rw [World.frozen?_setCell]; exact (World.frozen?_of_block hTb).trans h.2.2.1
  · exact (ownK_push hown).kept (grownBy_set (grownBy_refl w5 (some T)) 0 _) (fun e => hRT (Option.some.inj e).symm)
theorem St.mid {w0 W wc w5 : World} {R T G cap : Nat} {xs : List Kn} {s : ByteArray} {x st ti : Int} (h : St w0 W wc R T G cap xs s x st ti) (o : Obj) (hgrow : (wc.alloc o).grownBy w5 (some R)) (hGR : G ≠ R) (hGT : G ≠ T) (hRT : R ≠ T) :
    w5.cell? ⟨T, 0, none⟩ = some (.slice (some ⟨R, 0, none⟩) xs.length cap) ∧ w5.frozen? ⟨T, 0, none⟩ = false ∧ Box4 w5 G s x st ti := by
  have hTl := cell_lt h.2.1
  have hTb : w5.heap[T]? = wc.heap[T]? := (hgrow.block T (by simp; omega) (by simp; omega)).trans ((World.grownBy_alloc wc o none).block T hTl (by simp))
  exact ⟨(World.cell?_of_block hTb).trans h.2.1, (World.frozen?_of_block hTb).trans h.2.2.1, h.1.tw ((Tw.gr ((Gr.refl wc).alloc o)).trans (Tw.grown hgrow) : Tw R T wc w5) hGR hGT⟩
section
variable {w0 : World} (htab : Tab w0) (hmx : Mx w0) (herr : ErrR w0)
include htab hmx herr
set_option maxHeartbeats 4000000 in
set_option maxRecDepth 100000 in
theorem ret_GKnots {a : Option Addr} {l : List Gl} {cap : Nat} (hc : RdG w0 a l) (hI : ∀ g ∈ l, g.isG) (hf : Fits l) (hlc : l.length ≤ cap) (hcm : cap ≤ maxLen) (w : World) (hg : Gr w0 w) :
    Calls Tryz.prog 29 #[.slice a l.length cap] w (fun e w' => KnR l w w' e) := by
  have C := RetG.of4 (w0 := w0) fun w1 h => ret_GChain (htab_gr htab h) (hmx.gr h) (herr.gr h) (cap := cap) (hc.gr h) hI hf (by omega)
  have hsz := hg.size
  have HG := Lib.hid hg
  clear hg
  by_cases h : chainE l = 0
  · rw [h] at C
    have C := Lib.hid C
    have hz := chainE_zero h
    have HL : Hid (∀ g ∈ l, 0 ≤ g.x ∧ g.x ≤ 65535 ∧ 0 ≤ g.st ∧ g.st ≤ 10000000 ∧ 0 ≤ g.ti ∧ g.ti ≤ 10000000) := Lib.hid fun g hg => (Gl.lvl ((facts_of h).1 g hg)).2
    have HE := Lib.hid (fun (s : ByteArray) (x st ti : Int) (st0 : 0 ≤ st) (st1 : st ≤ 10000000) (ti0 : 0 ≤ ti) (ti1 : ti ≤ 10000000) => RetG.of4 (w0 := w0) fun w1 _ => ret_end (w0 := w1) (s := s) (x := x) st0 st1 ti0 ti1)
    have HWh := Lib.hid (fun (x : Int) (x0 : 0 ≤ x) (x1 : x ≤ 65535) => RetG.of4 (w0 := w0) fun w1 hw => (ret_QWhole (htab_gr htab hw) (n := x) (by omega) (by omega)))
    have HC := Lib.hid hc
    have HN0 : Hid (∀ e w', KnR l w w' e ↔ (Gr w w' ∧ ∃ g cp, e = .returned (.tuple #[.slice (some ⟨g, 0, none⟩) (knL l).length cp, .int .i64 0]) ∧ RdK w' (some ⟨g, 0, none⟩) (knL l) ∧ (knL l).length ≤ cp ∧ cp ≤ maxLen)) := Lib.hid fun e w' => by
      unfold KnR
      constructor
      · rintro ⟨h1, ⟨h2, -⟩ | ⟨-, h2⟩⟩
        · exact absurd h h2
        · exact ⟨h1, h2⟩
      · rintro ⟨h1, h2⟩; exact ⟨h1, .inr ⟨h, h2⟩⟩
    have hl256 := hz.1
    obtain ⟨i0, hi, hz0, hz1, hz2⟩ := info_parts Tryz.infoKnot
    clear hc hI hf hz h htab hmx herr
    refine (callsIn_wide (n := 3)).1 ?_
    refine callsIn_of_wp_marks Tryz.func29 rfl trivial ?_ rfl
    simp only [Tryz.ntmps29, List.size_toArray, List.length_cons, List.length_nil, Nat.reduceAdd, Nat.reduceSub, Array.replicate_succ, Array.replicate_zero, List.push_toArray, List.append_toArray, List.nil_append, List.cons_append]
    have hmul : IntKind.i64.wrap (2 * (l.length : Int)) = ((2 * l.length : Nat) : Int) := by rw [IntWalk.i64_in _ (by omega)]; omega
    gi_wp2_with (first
      | (refine ⟨trivial, ?_⟩; gi_at_call 31; refine (callsIn_wide.2 (C.out _ HG.out)).mono ?_; rintro e w1 ⟨rfl, hg1⟩)
      | (gi_at_make; refine wpListIn_make_own _ rfl _ _ 50 rfl _ 64 i0 (.agg #[.int .i64 0, .string ⟨#[]⟩]) 2 Tryz.underlying50 hi hz0 hz1 .i64 .i64 _ (2 * l.length) rfl rfl rfl (by rw [hz2]; omega) (by unfold maxLen; omega) (Nat.le_refl _) ?_; rintro w2 hown2 hgrow2; have HO2 := Lib.hid hown2; have HGR2 := Lib.hid hgrow2; clear hown2 hgrow2)
      | (refine ⟨trivial, ?_⟩; gi_at_call 66; refine (callsIn_wide.2 (gl_succ _ _ _ _)).mono ?_; rintro e w3 ⟨rfl, rfl⟩))
    have hRl : w1.heap.size < w2.heap.size := (World.ownsRow.lt HO2.out w1.heap.size rfl).2
    have hgw1 : Gr w w1 := hg1
    have hsz1 : w.heap.size ≤ w1.heap.size := hgw1.size
    have hOK : OwnK w1.heap.size w2 w1.heap.size (2 * l.length) [] := HO2.out
    have hg2 : Gr w w2 := Below.grown hgw1 HGR2.out hsz1 (fun k e => by cases e)
    have hcb : ((w2.alloc (.cells #[.slice (some ⟨w1.heap.size, 0, none⟩) 0 (2 * l.length)] 50)).alloc (.cells #[.slice a l.length cap] 46)).cell? ⟨w2.heap.size + 1, 0, none⟩ = some (.slice a l.length cap) := by rw [World.cell?_alloc_at _ _ _ _ (by simp)]; rfl
    have hct : ((w2.alloc (.cells #[.slice (some ⟨w1.heap.size, 0, none⟩) 0 (2 * l.length)] 50)).alloc (.cells #[.slice a l.length cap] 46)).cell? ⟨w2.heap.size, 0, none⟩ = some (.slice (some ⟨w1.heap.size, 0, none⟩) 0 (2 * l.length)) := by rw [World.cell?_alloc_past _ _ _ (by simp), World.cell?_alloc_at _ _ _ _ rfl]; rfl
    have hft : ((w2.alloc (.cells #[.slice (some ⟨w1.heap.size, 0, none⟩) 0 (2 * l.length)] 50)).alloc (.cells #[.slice a l.length cap] 46)).frozen? ⟨w2.heap.size, 0, none⟩ = false := by rw [World.frozen?_alloc_past _ _ _ (by simp)]; exact World.frozen?_alloc_at _ _ _ _ rfl
    have hg4 : Gr w2 ((w2.alloc (.cells #[.slice (some ⟨w1.heap.size, 0, none⟩) 0 (2 * l.length)] 50)).alloc (.cells #[.slice a l.length cap] 46)) := ((Gr.refl w2).alloc _).alloc _
    have hs4 : ((w2.alloc (.cells #[.slice (some ⟨w1.heap.size, 0, none⟩) 0 (2 * l.length)] 50)).alloc (.cells #[.slice a l.length cap] 46)).heap.size = w2.heap.size + 2 := by simp
    generalize hW4 : (w2.alloc (.cells #[.slice (some ⟨w1.heap.size, 0, none⟩) 0 (2 * l.length)] 50)).alloc (.cells #[.slice a l.length cap] 46) = W4 at *
    have hO4 := hOK.kept hg4.grown (by simp)
    generalize hR : w1.heap.size = R at *
    generalize hT : w2.heap.size = T at *
    have hgw4 : Gr w W4 := Gr.trans hg2 hg4
    have HC4 := Lib.hid (HC.out.gr (Gr.trans HG.out hgw4))
    have HSa : Hid (∀ g off, l ≠ [] → a = some ⟨g, off, none⟩ → g < w.heap.size) := fun g off hne e => by
      have hpos : 0 < l.length := List.length_pos_iff.2 hne
      obtain ⟨b, o, h1, h2⟩ := (HC.out.gr HG.out) 0 hpos
      rw [e] at h1
      simp only [Option.some.injEq, Addr.mk.injEq, and_true] at h1
      obtain ⟨rfl, rfl⟩ := h1
      exact cell_lt h2.1
    have HH4 := Lib.hid hgw4
    have HO4 := Lib.hid hO4
    have HTC := Lib.hid hct
    have HTF := Lib.hid hft
    have hw0s : w0.heap.size ≤ w.heap.size := hsz
    clear hg1 hgw1 hOK hg2 hg4 hW4 hgw4 hO4 hct hft HO2 HGR2 C
    refine wp_roundsA (gf := 96) (lb := #[.pointer (some ⟨T + 1, 0, none⟩)]) rfl (enters_of Tryz.func96 (by kernel_rfl) rfl) (S := fun k => k < w.heap.size ∨ k = T + 1) (fun k hk => by omega)
      (g_rounds l a cap (T + 1) _ W4 HC4.out hlc hcm (.inr rfl) (fun g off h1 h2 => .inl (HSa.out g off h1 h2)) (fun k hk => by omega) hcb (by omega)) (succG_size a l cap)
      (fun k W => Gr w W ∧ OwnK R W R (2 * l.length) (knAll l k) ∧ W.cell? ⟨T, 0, none⟩ = some (.slice (some ⟨R, 0, none⟩) (knAll l k).length (2 * l.length)) ∧ W.frozen? ⟨T, 0, none⟩ = false)
      (fun _ _ => False)
      (fun s A B row hs hg hr => ⟨Below.grown hs.1 hg hs.1.size (fun k e => by have := (hr k e).1; omega), hs.2.1.kept hg (fun e => by have := (hr R e).1; omega), cell_kept hs.2.2.1 hg (fun r e => (hr r e).2), (World.frozen?_of_block (hg.block T (cell_lt hs.2.2.1) (fun e => by have := (hr T e.symm).1; omega))).trans hs.2.2.2⟩)
      (fun c s A B row hs hg hr => hs.elim)
      ⟨HH4.out, HO4.out, HTC.out, HTF.out⟩
      (fun k a1 W => ∃ (hk : k < l.length) (G : Nat), a1 = { tmps := #[.slice a l.length cap, undef, .slice none 0 0, .int .i64 0, .int .i64 0, .pointer (some ⟨T, 0, none⟩), .pointer (some ⟨G, 0, none⟩), .slice (tlA a cap k 4) (l.length - (k + 1)) (cap - (k + 1)), .slice a l.length cap, .int .i64 0, .int .i64 0, .bool false, undef, .slice a l.length cap,
          .int .i64 l.length, .int .i64 (2 * l.length), .slice (some ⟨R, 0, none⟩) 0 (2 * l.length), .slice a l.length cap, .func (.func 96) #[] #[.pointer (some ⟨T + 1, 0, none⟩)], vG4 l[k], .slice (tlA a cap k 4) (l.length - (k + 1)) (cap - (k + 1)), undef, undef, undef, undef, undef, undef, undef, undef, undef, undef, undef, undef, undef, undef, undef, undef, undef, undef, undef, undef, undef, undef, undef, undef, undef, undef, undef, undef, undef, undef, undef], defers := [] } ∧
        W4.heap.size ≤ G ∧ St w W W R T G (2 * l.length) (knAll l k) (l[k]).f (l[k]).x (l[k]).st (l[k]).ti)
      (fun s A B row hs hg hr => by
        obtain ⟨hk, G, e, hG, ⟨b0, b1, b2, b3⟩, h1, h2, h3, h4, -⟩ := hs
        exact ⟨hk, G, e, hG, ⟨cell_kept b0 hg (fun r e => (hr r e).2), cell_kept b1 hg (fun r e => (hr r e).2), cell_kept b2 hg (fun r e => (hr r e).2), cell_kept b3 hg (fun r e => (hr r e).2)⟩, cell_kept h1 hg (fun r e => (hr r e).2), (World.frozen?_of_block (hg.block T (cell_lt h1) (fun e => by have := (hr T e.symm).1; omega))).trans h2, h3.kept hg (fun e => by have := (hr R e).1; omega), Below.grown h4 hg h4.size (fun k e => by have := (hr k e).1; omega), Tw.refl _ _ _⟩)
      ?assign ?body ?done ?stop
    case assign =>
      rintro y k W hW hk ⟨h1, h2, h3, h4⟩
      rw [succG_at hk]
      have HB := Lib.hid (Box4.new W (l[k]).f (l[k]).x (l[k]).st (l[k]).ti 24)
      have HS : Hid (St w (W.alloc (oGl (l[k]).f (l[k]).x (l[k]).st (l[k]).ti)) (W.alloc (oGl (l[k]).f (l[k]).x (l[k]).st (l[k]).ti)) R T W.heap.size (2 * l.length) (knAll l k) (l[k]).f (l[k]).x (l[k]).st (l[k]).ti) := Lib.hid ⟨HB.out, gr_cell ((Gr.refl W).alloc _) h3, (Below.frozen ((Gr.refl W).alloc (oGl (l[k]).f (l[k]).x (l[k]).st (l[k]).ti)) (p := ⟨T, 0, none⟩) (cell_lt h3)).trans h4, h2.kept ((Gr.refl W).alloc (oGl (l[k]).f (l[k]).x (l[k]).st (l[k]).ti)).grown (by simp), h1.alloc _, Tw.refl _ _ _⟩
      clear h1 h2 h3 h4
      gi_wp2
      exact ⟨⟨hk, W.heap.size, rfl, hW, HS.out⟩, (Gr.refl W).alloc _⟩
    case body =>
      rintro y k a1 W _ ⟨hk, G, rfl, hG4, hst⟩
      have hgr : Gr w W := hst.2.2.2.2.1
      have hxl := knAll_len (l := l) (k := k) (by omega)
      have hKB : Hid (∀ W', Tw R T W W' → KeepB (fun k => k < w.heap.size ∨ k = T + 1) W W') := Lib.hid fun W' h i hi => h.2.2.2.2 i (by have := hgr.size; have := hst.2.2.2.2.1.size; have := cell_lt hst.1.1; omega) (by omega) (by omega)
      have hKF : Hid (∀ W', Tw R T W W' → KeepsFrom W4.heap.size W W') := Lib.hid fun W' h => ⟨h.2.2.2.1, fun i o hB hi _ => (h.2.2.2.2 i (Array.getElem?_eq_some_iff.1 hi).1 (by omega) (by omega)).trans hi⟩
      have hL := HL.out _ (List.getElem_mem hk)
      have E0 := HE.out (l[k]).f (l[k]).x (l[k]).st (l[k]).ti hL.2.2.1 hL.2.2.2.1 hL.2.2.2.2.1 hL.2.2.2.2.2
      have W0 := HWh.out (l[k]).x hL.1 hL.2.1
      have END1 : Hid (∀ W', (∀ h : k + 1 < l.length, ¬ (l[k]).st + (l[k]).ti ≤ (l[k + 1]).st) → k + 1 < l.length → St w W W' R T G (2 * l.length) (knAll l k ++ [((l[k]).st, (l[k]).f)]) (l[k]).f (l[k]).x (l[k]).st (l[k]).ti →
          KeepsFrom W4.heap.size W W' ∧ KeepB (fun k => k < w.heap.size ∨ k = T + 1) W W' ∧ Gr w W' ∧ OwnK R W' R (2 * l.length) (knAll l (k + 1)) ∧ W'.cell? ⟨T, 0, none⟩ = some (.slice (some ⟨R, 0, none⟩) (knAll l (k + 1)).length (2 * l.length)) ∧ W'.frozen? ⟨T, 0, none⟩ = false) := Lib.hid fun W' h hk1 hs => by
        rw [kn1_one hk1 (h hk1)]
        exact ⟨hKF.out _ hs.2.2.2.2.2, hKB.out _ hs.2.2.2.2.2, hs.2.2.2.2.1, hs.2.2.2.1, hs.2.1, hs.2.2.1⟩
      have END2 : Hid (∀ W', (∀ h : k + 1 < l.length, (l[k]).st + (l[k]).ti ≤ (l[k + 1]).st) → St w W W' R T G (2 * l.length) (knAll l k ++ [((l[k]).st, (l[k]).f)] ++ [((l[k]).st + (l[k]).ti, Tx (l[k]).x)]) (l[k]).f (l[k]).x (l[k]).st (l[k]).ti →
          KeepsFrom W4.heap.size W W' ∧ KeepB (fun k => k < w.heap.size ∨ k = T + 1) W W' ∧ Gr w W' ∧ OwnK R W' R (2 * l.length) (knAll l (k + 1)) ∧ W'.cell? ⟨T, 0, none⟩ = some (.slice (some ⟨R, 0, none⟩) (knAll l (k + 1)).length (2 * l.length)) ∧ W'.frozen? ⟨T, 0, none⟩ = false) := Lib.hid fun W' h hs => by
        rw [kn1_two hk h]
        exact ⟨hKF.out _ hs.2.2.2.2.2, hKB.out _ hs.2.2.2.2.2, hs.2.2.2.2.1, hs.2.2.2.1, hs.2.1, hs.2.2.1⟩
      have NXT : Hid (∀ h : k + 1 < l.length, ∃ b o, a = some ⟨b, o, none⟩ ∧ b < w.heap.size ∧ ∀ W', Gr w W' → W'.cell? ⟨b, o + (k + 1) * 4 + 2, none⟩ = some (.int .i64 (l[k + 1]).st)) := Lib.hid fun h => by
        obtain ⟨b, o, e, hat⟩ := (HC.out.gr HG.out) (k + 1) h
        exact ⟨b, o, e, cell_lt hat.2.2.1, fun W' hw => gr_cell hw hat.2.2.1⟩
      have hGR : G ≠ R := by omega
      have hGT : G ≠ T := by omega
      have hRT : R ≠ T := by omega
      have hwR : w.heap.size ≤ R := hsz1
      have hwT : w.heap.size ≤ T := by omega
      have HST0 := Lib.hid hst
      clear hst hL hKB hKF
      generalize hxs : knAll l k = xs at *
      clear hxs
      by_cases hlast : l.length - (k + 1) = 0
      · have EN := Lib.hid (fun W' => END2.out W' (fun h => absurd h (by omega)))
        clear END1 END2 NXT
        rw [hlast]
        generalize l[k] = g at *
        obtain ⟨s, x, st, ti⟩ := g
        simp only [Gl.f, Gl.x, Gl.st, Gl.ti] at HST0 EN E0 W0
        generalize Tx x = tx at *
        obtain ⟨⟨k0, k1, k2, k3⟩, ht, hft, hown, -, -⟩ := id HST0.out
        gi_wp2_with (gi_at_builtin; refine pushIn_kn hi hz1 rfl _ _ rfl R (2 * l.length) xs rfl hown st s rfl (by omega) ?_; rintro w5 hown5 hgrow5; have HST6 := Lib.hid (St.push HST0.out _ hown5 hgrow5 hGR hGT hRT hwR hwT); obtain ⟨ht5, hf5, -⟩ := St.mid HST0.out _ hgrow5 hGR hGT hRT; clear hown5 hgrow5 k0 k1 k2 k3 ht hft hown)
        clear ht5 hf5
        generalize w5.setCell ⟨T, 0, none⟩ (.slice (some ⟨R, 0, none⟩) (xs.length + 1) (2 * l.length)) = W6 at *
        have HSTd := Lib.hid (HST6.out.gr (Gr.refl W6).drew)
        clear HST6
        refine wpIn_region_any (by kernel_rfl) (wpAnyIn_of_wpAny (noDefer_spec (by kernel_rfl)) (by rintro ⟨a, w, h⟩; exact h) _ _ _ _ (wpAny_of_held (S := fun w' : World => Box4 w' G s x st ti) _ _ _ _ ?_))
        change wpAnyH _ _ _ _ _ _ _ _ W6.drew
        generalize W6.drew = W7 at *
        have hS0 := HSTd.out.1
        refine wpAnyH_take (i := 0) (v := .slice (tlA a cap k 4) 0 (cap - (k + 1))) rfl (by kernel_rfl) (by kernel_rfl) (by kernel_rfl) (fun _ _ _ h => h) (Or.inl ⟨by rfl, ?_⟩) hS0 ?_
        · intro w hSw; obtain ⟨s1, s2, s3, s4⟩ := hSw; go_simp
        try simp only [Act.put, List.getElem_toArray, List.getElem_cons_succ, List.getElem_cons_zero, List.setIfInBounds_toArray, List.set_cons_zero, List.set_cons_succ]
        refine wpAnyH_take (i := 1) (v := .int .i64 0) rfl (by kernel_rfl) (by kernel_rfl) (by kernel_rfl) (fun _ _ _ h => h) (Or.inl ⟨by rfl, ?_⟩) hS0 ?_
        · intro w hSw; obtain ⟨s1, s2, s3, s4⟩ := hSw; go_simp
        try simp only [Act.put, List.getElem_toArray, List.getElem_cons_succ, List.getElem_cons_zero, List.setIfInBounds_toArray, List.set_cons_zero, List.set_cons_succ]
        refine wpAnyH_take (i := 2) (v := .bool true) rfl (by kernel_rfl) (by kernel_rfl) (by kernel_rfl) (fun _ _ _ h => h) (Or.inl ⟨by rfl, ?_⟩) hS0 ?_
        · intro w hSw; obtain ⟨s1, s2, s3, s4⟩ := hSw; go_simp
        try simp only [Act.put, List.getElem_toArray, List.getElem_cons_succ, List.getElem_cons_zero, List.setIfInBounds_toArray, List.set_cons_zero, List.set_cons_succ]
        refine wpAnyH_take (i := 3) (v := .bool true) rfl (by kernel_rfl) (by kernel_rfl) (by kernel_rfl) (fun _ _ _ h => h) (Or.inl ⟨by rfl, ?_⟩) hS0 ?_
        · intro w hSw; obtain ⟨s1, s2, s3, s4⟩ := hSw; go_simp
        try simp only [Act.put, List.getElem_toArray, List.getElem_cons_succ, List.getElem_cons_zero, List.setIfInBounds_toArray, List.set_cons_zero, List.set_cons_succ]
        refine wpAnyH_take (i := 4) (v := undef) rfl (by kernel_rfl) (by kernel_rfl) (by kernel_rfl) (fun _ _ _ h => h) (Or.inr ⟨by kernel_rfl, rfl⟩) hS0 ?_
        try simp only [Act.put, List.getElem_toArray, List.getElem_cons_succ, List.getElem_cons_zero, List.setIfInBounds_toArray, List.set_cons_zero, List.set_cons_succ]
        refine wpAnyH_take (i := 5) (v := undef) rfl (by kernel_rfl) (by kernel_rfl) (by kernel_rfl) (fun _ _ _ h => h) (Or.inr ⟨by kernel_rfl, rfl⟩) hS0 ?_
        try simp only [Act.put, List.getElem_toArray, List.getElem_cons_succ, List.getElem_cons_zero, List.setIfInBounds_toArray, List.set_cons_zero, List.set_cons_succ]
        refine wpAnyH_take (i := 6) (v := undef) rfl (by kernel_rfl) (by kernel_rfl) (by kernel_rfl) (fun _ _ _ h => h) (Or.inr ⟨by kernel_rfl, rfl⟩) hS0 ?_
        try simp only [Act.put, List.getElem_toArray, List.getElem_cons_succ, List.getElem_cons_zero, List.setIfInBounds_toArray, List.set_cons_zero, List.set_cons_succ]
        refine wpAnyH_take (i := 7) (v := undef) rfl (by kernel_rfl) (by kernel_rfl) (by kernel_rfl) (fun _ _ _ h => h) (Or.inr ⟨by kernel_rfl, rfl⟩) hS0 ?_
        try simp only [Act.put, List.getElem_toArray, List.getElem_cons_succ, List.getElem_cons_zero, List.setIfInBounds_toArray, List.set_cons_zero, List.set_cons_succ]
        refine wpAnyH_take (i := 8) (v := undef) rfl (by kernel_rfl) (by kernel_rfl) (by kernel_rfl) (fun _ _ _ h => h) (Or.inr ⟨by kernel_rfl, rfl⟩) hS0 ?_
        try simp only [Act.put, List.getElem_toArray, List.getElem_cons_succ, List.getElem_cons_zero, List.setIfInBounds_toArray, List.set_cons_zero, List.set_cons_succ]
        refine wpAnyH_take (i := 9) (v := undef) rfl (by kernel_rfl) (by kernel_rfl) (by kernel_rfl) (fun _ _ _ h => h) (Or.inr ⟨by kernel_rfl, rfl⟩) hS0 ?_
        try simp only [Act.put, List.getElem_toArray, List.getElem_cons_succ, List.getElem_cons_zero, List.setIfInBounds_toArray, List.set_cons_zero, List.set_cons_succ]
        refine wpAnyH_take (i := 10) (v := undef) rfl (by kernel_rfl) (by kernel_rfl) (by kernel_rfl) (fun _ _ _ h => h) (Or.inr ⟨by kernel_rfl, rfl⟩) hS0 ?_
        try simp only [Act.put, List.getElem_toArray, List.getElem_cons_succ, List.getElem_cons_zero, List.setIfInBounds_toArray, List.set_cons_zero, List.set_cons_succ]
        refine wpAnyH_take (i := 11) (v := .bool true) rfl (by kernel_rfl) (by kernel_rfl) (by kernel_rfl) (fun _ _ _ h => h) (Or.inl ⟨by rfl, ?_⟩) hS0 ?_
        · intro w hSw; obtain ⟨s1, s2, s3, s4⟩ := hSw; go_simp
        try simp only [Act.put, List.getElem_toArray, List.getElem_cons_succ, List.getElem_cons_zero, List.setIfInBounds_toArray, List.set_cons_zero, List.set_cons_succ]
        refine wpAnyH_done (by kernel_rfl) ?_ _
        clear hS0
        gi_wp2
        have HST7 := HSTd
        clear HSTd
        have E1 := Lib.hid E0
        have WH1 := Lib.hid W0
        clear E0 W0
        have HST := Lib.hid (HST7.out.gr (Gr.refl W7).drew)
        clear HST7
        refine wpIn_region_any (by kernel_rfl) (wpAnyIn_of_wpAny (noDefer_spec (by kernel_rfl)) (by rintro ⟨a, w, h⟩; exact h) _ _ _ _ (wpAny_of_held (S := fun w' : World => Box4 w' G s x st ti) _ _ _ _ ?_))
        change wpAnyH _ _ _ _ _ _ _ _ W7.drew
        generalize W7.drew = W8 at *
        have hS0 := HST.out.1
        refine wpAnyH_take (i := 1) (v := vGl s x st ti) rfl (by kernel_rfl) (by kernel_rfl) (by kernel_rfl) (fun _ _ _ h => h) (Or.inl ⟨by rfl, ?_⟩) hS0 ?_
        · intro w hSw; obtain ⟨s1, s2, s3, s4⟩ := hSw; go_simp
        try simp only [Act.put, List.getElem_toArray, List.getElem_cons_succ, List.getElem_cons_zero, List.setIfInBounds_toArray, List.set_cons_zero, List.set_cons_succ]
        refine wpAnyH_take (i := 3) (v := .pointer (some ⟨G, 1, none⟩)) rfl (by kernel_rfl) (by kernel_rfl) (by kernel_rfl) (fun _ _ _ h => h) (Or.inl ⟨by rfl, ?_⟩) hS0 ?_
        · intro w hSw; obtain ⟨s1, s2, s3, s4⟩ := hSw; go_simp
        try simp only [Act.put, List.getElem_toArray, List.getElem_cons_succ, List.getElem_cons_zero, List.setIfInBounds_toArray, List.set_cons_zero, List.set_cons_succ]
        refine wpAnyH_take (i := 4) (v := .int .i64 x) rfl (by kernel_rfl) (by kernel_rfl) (by kernel_rfl) (fun _ _ _ h => h) (Or.inl ⟨by rfl, ?_⟩) hS0 ?_
        · intro w hSw; obtain ⟨s1, s2, s3, s4⟩ := hSw; go_simp
        try simp only [Act.put, List.getElem_toArray, List.getElem_cons_succ, List.getElem_cons_zero, List.setIfInBounds_toArray, List.set_cons_zero, List.set_cons_succ]
        refine wpAnyH_ready (rs := [0, 2]) (by kernel_rfl) (by simp) (AllReadyH.cons rfl (fun K' hK' => ?_) (AllReadyH.cons rfl (fun K' hK' => ?_) AllReadyH.nil))
        · have htc := HST.out.2.1
          go_simp
          refine hK'.out _ _ HST.out.1 (fun hS0' => ?_)
          clear hK' K' htc hS0
          have hS0 := hS0'
          clear hS0'
          try simp only [Act.put, List.getElem_toArray, List.getElem_cons_succ, List.getElem_cons_zero, List.setIfInBounds_toArray, List.set_cons_zero, List.set_cons_succ]
          refine wpAnyH_ready (rs := [2]) (by kernel_rfl) (by simp) (AllReadyH.cons rfl (fun K' hK' => ?_) AllReadyH.nil)
          · go_simp
            refine (E1.out _ (Gr.trans HG.out HST.out.2.2.2.2.1)).mono ?_
            rintro e w9 ⟨rfl, hg9⟩
            have HSTn := Lib.hid (HST.out.gr hg9)
            clear hg9 HST hS0
            have HST := HSTn
            clear HSTn
            refine hK'.out _ _ HST.out.1 (fun hS0' => ?_)
            clear hK' K'
            have hS0 := hS0'
            clear hS0'
            try simp only [Act.put, List.getElem_toArray, List.getElem_cons_succ, List.getElem_cons_zero, List.setIfInBounds_toArray, List.set_cons_zero, List.set_cons_succ]
            refine wpAnyH_ready (rs := [5]) (by kernel_rfl) (by simp) (AllReadyH.cons rfl (fun K' hK' => ?_) AllReadyH.nil)
            · go_simp
              refine (WH1.out _ (Gr.trans HG.out HST.out.2.2.2.2.1)).mono ?_
              rintro e w9 ⟨rfl, hg9⟩
              have HSTn := Lib.hid (HST.out.gr hg9)
              clear hg9 HST hS0
              have HST := HSTn
              clear HSTn
              refine hK'.out _ _ HST.out.1 (fun hS0' => ?_)
              clear hK' K'
              have hS0 := hS0'
              clear hS0'
              try simp only [Act.put, List.getElem_toArray, List.getElem_cons_succ, List.getElem_cons_zero, List.setIfInBounds_toArray, List.set_cons_zero, List.set_cons_succ]
              refine wpAnyH_take (i := 6) (v := .agg #[.int .i64 (st + ti), .string tx]) rfl (by kernel_rfl) (by kernel_rfl) (by kernel_rfl) (fun _ _ _ h => h) (Or.inl ⟨by rfl, ?_⟩) hS0 ?_
              · intro w hSw; go_simp
              try simp only [Act.put, List.getElem_toArray, List.getElem_cons_succ, List.getElem_cons_zero, List.setIfInBounds_toArray, List.set_cons_zero, List.set_cons_succ]
              refine wpAnyH_ready (rs := [7]) (by kernel_rfl) (by simp) (AllReadyH.cons rfl (fun K' hK' => ?_) AllReadyH.nil)
              · go_simp
                refine hK'.out _ _ (HST.out.1.gr ((Gr.refl _).alloc _)) (fun hS0' => ?_)
                clear hK' K' hS0
                have hS0 := hS0'
                clear hS0'
                try simp only [Act.put, List.getElem_toArray, List.getElem_cons_succ, List.getElem_cons_zero, List.setIfInBounds_toArray, List.set_cons_zero, List.set_cons_succ]
                refine wpAnyH_ready (rs := [8]) (by kernel_rfl) (by simp) (AllReadyH.cons rfl (fun K' hK' => ?_) AllReadyH.nil)
                rw [if_pos (by rfl)]
                refine wp_append_own_spare _ _ _ 50 rfl R 64 i0 2 Tryz.underlying50 hi hz1 R (xs.length + 1) (2 * l.length) (kv (xs ++ [(st, s)])) rfl (OwnK.al HST.out.2.2.2.1 _) ⟨_, 0, none⟩ 1 1 [.int .i64 (st + ti), .string tx] rfl rfl kn_cells kn_one (by omega) (fun w7 hown7 hgrow7 => ?_)
                obtain ⟨ht7, hf7, hb7⟩ := St.mid HST.out _ hgrow7 hGR hGT hRT
                have HSTn : Hid (St w W (w7.setCell ⟨T, 0, none⟩ (.slice (some ⟨R, 0, none⟩) (xs.length + 1 + 1) (2 * l.length))) R T G (2 * l.length) (xs ++ [(st, s)] ++ [(st + ti, tx)]) s x st ti) := Lib.hid (by have := St.push HST.out _ (OwnK.al' hown7) hgrow7 hGR hGT hRT hwR hwT; rw [List.length_append] at this; exact this)
                clear hown7 hgrow7 HST hS0
                have HST := HSTn
                clear HSTn
                refine hK'.out _ _ hb7 (fun hS1 => ?_)
                clear hK' K'
                try simp only [Act.put, List.getElem_toArray, List.getElem_cons_succ, List.getElem_cons_zero, List.setIfInBounds_toArray, List.set_cons_zero, List.set_cons_succ]
                refine wpAnyH_ready (rs := [9]) (by kernel_rfl) (by simp) (AllReadyH.cons rfl (fun K' hK' => ?_) AllReadyH.nil)
                go_simp
                refine hK'.out _ _ HST.out.1 (fun hS2 => wpAnyH_done (by kernel_rfl) ?_ _)
                clear hK' K' hS1 hS2 ht7 hf7 hb7
                gi_wp2
                exact EN.out _ HST.out
        · go_simp
          refine (E1.out _ (Gr.trans HG.out HST.out.2.2.2.2.1)).mono ?_
          rintro e w9 ⟨rfl, hg9⟩
          have HSTn := Lib.hid (HST.out.gr hg9)
          clear hg9 HST hS0
          have HST := HSTn
          clear HSTn
          refine hK'.out _ _ HST.out.1 (fun hS0' => ?_)
          clear hK' K'
          have hS0 := hS0'
          clear hS0'
          try simp only [Act.put, List.getElem_toArray, List.getElem_cons_succ, List.getElem_cons_zero, List.setIfInBounds_toArray, List.set_cons_zero, List.set_cons_succ]
          refine wpAnyH_ready (rs := [0, 5]) (by kernel_rfl) (by simp) (AllReadyH.cons rfl (fun K' hK' => ?_) (AllReadyH.cons rfl (fun K' hK' => ?_) AllReadyH.nil))
          · have htc := HST.out.2.1
            go_simp
            refine hK'.out _ _ HST.out.1 (fun hS0' => ?_)
            clear hK' K' htc hS0
            have hS0 := hS0'
            clear hS0'
            try simp only [Act.put, List.getElem_toArray, List.getElem_cons_succ, List.getElem_cons_zero, List.setIfInBounds_toArray, List.set_cons_zero, List.set_cons_succ]
            refine wpAnyH_ready (rs := [5]) (by kernel_rfl) (by simp) (AllReadyH.cons rfl (fun K' hK' => ?_) AllReadyH.nil)
            · go_simp
              refine (WH1.out _ (Gr.trans HG.out HST.out.2.2.2.2.1)).mono ?_
              rintro e w9 ⟨rfl, hg9⟩
              have HSTn := Lib.hid (HST.out.gr hg9)
              clear hg9 HST hS0
              have HST := HSTn
              clear HSTn
              refine hK'.out _ _ HST.out.1 (fun hS0' => ?_)
              clear hK' K'
              have hS0 := hS0'
              clear hS0'
              try simp only [Act.put, List.getElem_toArray, List.getElem_cons_succ, List.getElem_cons_zero, List.setIfInBounds_toArray, List.set_cons_zero, List.set_cons_succ]
              refine wpAnyH_take (i := 6) (v := .agg #[.int .i64 (st + ti), .string tx]) rfl (by kernel_rfl) (by kernel_rfl) (by kernel_rfl) (fun _ _ _ h => h) (Or.inl ⟨by rfl, ?_⟩) hS0 ?_
              · intro w hSw; go_simp
              try simp only [Act.put, List.getElem_toArray, List.getElem_cons_succ, List.getElem_cons_zero, List.setIfInBounds_toArray, List.set_cons_zero, List.set_cons_succ]
              refine wpAnyH_ready (rs := [7]) (by kernel_rfl) (by simp) (AllReadyH.cons rfl (fun K' hK' => ?_) AllReadyH.nil)
              · go_simp
                refine hK'.out _ _ (HST.out.1.gr ((Gr.refl _).alloc _)) (fun hS0' => ?_)
                clear hK' K' hS0
                have hS0 := hS0'
                clear hS0'
                try simp only [Act.put, List.getElem_toArray, List.getElem_cons_succ, List.getElem_cons_zero, List.setIfInBounds_toArray, List.set_cons_zero, List.set_cons_succ]
                refine wpAnyH_ready (rs := [8]) (by kernel_rfl) (by simp) (AllReadyH.cons rfl (fun K' hK' => ?_) AllReadyH.nil)
                rw [if_pos (by rfl)]
                refine wp_append_own_spare _ _ _ 50 rfl R 64 i0 2 Tryz.underlying50 hi hz1 R (xs.length + 1) (2 * l.length) (kv (xs ++ [(st, s)])) rfl (OwnK.al HST.out.2.2.2.1 _) ⟨_, 0, none⟩ 1 1 [.int .i64 (st + ti), .string tx] rfl rfl kn_cells kn_one (by omega) (fun w7 hown7 hgrow7 => ?_)
                obtain ⟨ht7, hf7, hb7⟩ := St.mid HST.out _ hgrow7 hGR hGT hRT
                have HSTn : Hid (St w W (w7.setCell ⟨T, 0, none⟩ (.slice (some ⟨R, 0, none⟩) (xs.length + 1 + 1) (2 * l.length))) R T G (2 * l.length) (xs ++ [(st, s)] ++ [(st + ti, tx)]) s x st ti) := Lib.hid (by have := St.push HST.out _ (OwnK.al' hown7) hgrow7 hGR hGT hRT hwR hwT; rw [List.length_append] at this; exact this)
                clear hown7 hgrow7 HST hS0
                have HST := HSTn
                clear HSTn
                refine hK'.out _ _ hb7 (fun hS1 => ?_)
                clear hK' K'
                try simp only [Act.put, List.getElem_toArray, List.getElem_cons_succ, List.getElem_cons_zero, List.setIfInBounds_toArray, List.set_cons_zero, List.set_cons_succ]
                refine wpAnyH_ready (rs := [9]) (by kernel_rfl) (by simp) (AllReadyH.cons rfl (fun K' hK' => ?_) AllReadyH.nil)
                go_simp
                refine hK'.out _ _ HST.out.1 (fun hS2 => wpAnyH_done (by kernel_rfl) ?_ _)
                clear hK' K' hS1 hS2 ht7 hf7 hb7
                gi_wp2
                exact EN.out _ HST.out
          · go_simp
            refine (WH1.out _ (Gr.trans HG.out HST.out.2.2.2.2.1)).mono ?_
            rintro e w9 ⟨rfl, hg9⟩
            have HSTn := Lib.hid (HST.out.gr hg9)
            clear hg9 HST hS0
            have HST := HSTn
            clear HSTn
            refine hK'.out _ _ HST.out.1 (fun hS0' => ?_)
            clear hK' K'
            have hS0 := hS0'
            clear hS0'
            try simp only [Act.put, List.getElem_toArray, List.getElem_cons_succ, List.getElem_cons_zero, List.setIfInBounds_toArray, List.set_cons_zero, List.set_cons_succ]
            refine wpAnyH_take (i := 6) (v := .agg #[.int .i64 (st + ti), .string tx]) rfl (by kernel_rfl) (by kernel_rfl) (by kernel_rfl) (fun _ _ _ h => h) (Or.inl ⟨by rfl, ?_⟩) hS0 ?_
            · intro w hSw; go_simp
            try simp only [Act.put, List.getElem_toArray, List.getElem_cons_succ, List.getElem_cons_zero, List.setIfInBounds_toArray, List.set_cons_zero, List.set_cons_succ]
            refine wpAnyH_ready (rs := [0, 7]) (by kernel_rfl) (by simp) (AllReadyH.cons rfl (fun K' hK' => ?_) (AllReadyH.cons rfl (fun K' hK' => ?_) AllReadyH.nil))
            · have htc := HST.out.2.1
              go_simp
              refine hK'.out _ _ HST.out.1 (fun hS0' => ?_)
              clear hK' K' htc hS0
              have hS0 := hS0'
              clear hS0'
              try simp only [Act.put, List.getElem_toArray, List.getElem_cons_succ, List.getElem_cons_zero, List.setIfInBounds_toArray, List.set_cons_zero, List.set_cons_succ]
              refine wpAnyH_ready (rs := [7]) (by kernel_rfl) (by simp) (AllReadyH.cons rfl (fun K' hK' => ?_) AllReadyH.nil)
              · go_simp
                refine hK'.out _ _ (HST.out.1.gr ((Gr.refl _).alloc _)) (fun hS0' => ?_)
                clear hK' K' hS0
                have hS0 := hS0'
                clear hS0'
                try simp only [Act.put, List.getElem_toArray, List.getElem_cons_succ, List.getElem_cons_zero, List.setIfInBounds_toArray, List.set_cons_zero, List.set_cons_succ]
                refine wpAnyH_ready (rs := [8]) (by kernel_rfl) (by simp) (AllReadyH.cons rfl (fun K' hK' => ?_) AllReadyH.nil)
                rw [if_pos (by rfl)]
                refine wp_append_own_spare _ _ _ 50 rfl R 64 i0 2 Tryz.underlying50 hi hz1 R (xs.length + 1) (2 * l.length) (kv (xs ++ [(st, s)])) rfl (OwnK.al HST.out.2.2.2.1 _) ⟨_, 0, none⟩ 1 1 [.int .i64 (st + ti), .string tx] rfl rfl kn_cells kn_one (by omega) (fun w7 hown7 hgrow7 => ?_)
                obtain ⟨ht7, hf7, hb7⟩ := St.mid HST.out _ hgrow7 hGR hGT hRT
                have HSTn : Hid (St w W (w7.setCell ⟨T, 0, none⟩ (.slice (some ⟨R, 0, none⟩) (xs.length + 1 + 1) (2 * l.length))) R T G (2 * l.length) (xs ++ [(st, s)] ++ [(st + ti, tx)]) s x st ti) := Lib.hid (by have := St.push HST.out _ (OwnK.al' hown7) hgrow7 hGR hGT hRT hwR hwT; rw [List.length_append] at this; exact this)
                clear hown7 hgrow7 HST hS0
                have HST := HSTn
                clear HSTn
                refine hK'.out _ _ hb7 (fun hS1 => ?_)
                clear hK' K'
                try simp only [Act.put, List.getElem_toArray, List.getElem_cons_succ, List.getElem_cons_zero, List.setIfInBounds_toArray, List.set_cons_zero, List.set_cons_succ]
                refine wpAnyH_ready (rs := [9]) (by kernel_rfl) (by simp) (AllReadyH.cons rfl (fun K' hK' => ?_) AllReadyH.nil)
                go_simp
                refine hK'.out _ _ HST.out.1 (fun hS2 => wpAnyH_done (by kernel_rfl) ?_ _)
                clear hK' K' hS1 hS2 ht7 hf7 hb7
                gi_wp2
                exact EN.out _ HST.out
            · go_simp
              refine hK'.out _ _ (HST.out.1.gr ((Gr.refl _).alloc _)) (fun hS0' => ?_)
              clear hK' K' hS0
              have hS0 := hS0'
              clear hS0'
              try simp only [Act.put, List.getElem_toArray, List.getElem_cons_succ, List.getElem_cons_zero, List.setIfInBounds_toArray, List.set_cons_zero, List.set_cons_succ]
              refine wpAnyH_ready (rs := [0]) (by kernel_rfl) (by simp) (AllReadyH.cons rfl (fun K' hK' => ?_) AllReadyH.nil)
              · have htc := gr_cell ((Gr.refl _).alloc (.cells #[.int .i64 (st + ti), .string tx] 64)) HST.out.2.1
                go_simp
                refine hK'.out _ _ (HST.out.1.gr ((Gr.refl _).alloc _)) (fun hS0' => ?_)
                clear hK' K' htc hS0
                have hS0 := hS0'
                clear hS0'
                try simp only [Act.put, List.getElem_toArray, List.getElem_cons_succ, List.getElem_cons_zero, List.setIfInBounds_toArray, List.set_cons_zero, List.set_cons_succ]
                refine wpAnyH_ready (rs := [8]) (by kernel_rfl) (by simp) (AllReadyH.cons rfl (fun K' hK' => ?_) AllReadyH.nil)
                rw [if_pos (by rfl)]
                refine wp_append_own_spare _ _ _ 50 rfl R 64 i0 2 Tryz.underlying50 hi hz1 R (xs.length + 1) (2 * l.length) (kv (xs ++ [(st, s)])) rfl (OwnK.al HST.out.2.2.2.1 _) ⟨_, 0, none⟩ 1 1 [.int .i64 (st + ti), .string tx] rfl rfl kn_cells kn_one (by omega) (fun w7 hown7 hgrow7 => ?_)
                obtain ⟨ht7, hf7, hb7⟩ := St.mid HST.out _ hgrow7 hGR hGT hRT
                have HSTn : Hid (St w W (w7.setCell ⟨T, 0, none⟩ (.slice (some ⟨R, 0, none⟩) (xs.length + 1 + 1) (2 * l.length))) R T G (2 * l.length) (xs ++ [(st, s)] ++ [(st + ti, tx)]) s x st ti) := Lib.hid (by have := St.push HST.out _ (OwnK.al' hown7) hgrow7 hGR hGT hRT hwR hwT; rw [List.length_append] at this; exact this)
                clear hown7 hgrow7 HST hS0
                have HST := HSTn
                clear HSTn
                refine hK'.out _ _ hb7 (fun hS1 => ?_)
                clear hK' K'
                try simp only [Act.put, List.getElem_toArray, List.getElem_cons_succ, List.getElem_cons_zero, List.setIfInBounds_toArray, List.set_cons_zero, List.set_cons_succ]
                refine wpAnyH_ready (rs := [9]) (by kernel_rfl) (by simp) (AllReadyH.cons rfl (fun K' hK' => ?_) AllReadyH.nil)
                go_simp
                refine hK'.out _ _ HST.out.1 (fun hS2 => wpAnyH_done (by kernel_rfl) ?_ _)
                clear hK' K' hS1 hS2 ht7 hf7 hb7
                gi_wp2
                exact EN.out _ HST.out
      · have hk1 : k + 1 < l.length := by omega
        obtain ⟨b, o, rfl, hbw, hn2⟩ := NXT.out hk1
        have hta : tlA (some ⟨b, o, none⟩) cap k 4 = some ⟨b, o + (k + 1) * 4, none⟩ := by
          unfold tlA
          rw [if_neg (by omega)]
          simp [WideShapes.add_plain]
        rw [hta]
        clear hta
        have hpos : ((l.length - (k + 1) : Nat) : Int) > 0 := by omega
        have hz : (((l.length - (k + 1) : Nat) : Int) == 0) = false := by simp; omega
        generalize hm : l.length - (k + 1) = m at *
        have EN1 := Lib.hid (fun W' (h : ¬ (l[k]).st + (l[k]).ti ≤ (l[k + 1]).st) => END1.out W' (fun _ => h) hk1)
        have EN2 := Lib.hid (fun W' (h : (l[k]).st + (l[k]).ti ≤ (l[k + 1]).st) => END2.out W' (fun _ => h))
        clear END1 END2 NXT
        generalize (l[k + 1]).st = nst at *
        have HN2 := Lib.hid hn2
        clear hn2 hm
        generalize l[k] = g at *
        obtain ⟨s, x, st, ti⟩ := g
        simp only [Gl.f, Gl.x, Gl.st, Gl.ti] at HST0 EN1 EN2 E0 W0
        generalize Tx x = tx at *
        have E1 := Lib.hid E0
        have WH1 := Lib.hid W0
        clear E0 W0
        by_cases hge : st + ti ≤ nst
        · have EN := Lib.hid (fun W' => EN2.out W' hge)
          clear EN1 EN2
          obtain ⟨⟨k0, k1, k2, k3⟩, ht, hft, hown, -, -⟩ := id HST0.out
          gi_wp2_with (gi_at_builtin; refine pushIn_kn hi hz1 rfl _ _ rfl R (2 * l.length) xs rfl hown st s rfl (by omega) ?_; rintro w5 hown5 hgrow5; have HST6 := Lib.hid (St.push HST0.out _ hown5 hgrow5 hGR hGT hRT hwR hwT); obtain ⟨ht5, hf5, -⟩ := St.mid HST0.out _ hgrow5 hGR hGT hRT; clear hown5 hgrow5 k0 k1 k2 k3 ht hft hown)
          clear ht5 hf5
          generalize w5.setCell ⟨T, 0, none⟩ (.slice (some ⟨R, 0, none⟩) (xs.length + 1) (2 * l.length)) = W6 at *
          have HSTd := Lib.hid (HST6.out.gr (Gr.refl W6).drew)
          clear HST6
          refine wpIn_region_any (by kernel_rfl) (wpAnyIn_of_wpAny (noDefer_spec (by kernel_rfl)) (by rintro ⟨a, w, h⟩; exact h) _ _ _ _ (wpAny_of_held (S := fun w' : World => Box4 w' G s x st ti ∧ w'.cell? ⟨b, o + (k + 1) * 4 + 2, none⟩ = some (.int .i64 nst)) _ _ _ _ ?_))
          change wpAnyH _ _ _ _ _ _ _ _ W6.drew
          generalize W6.drew = W66 at *
          have hS0 : Box4 W66 G s x st ti ∧ W66.cell? ⟨b, o + (k + 1) * 4 + 2, none⟩ = some (.int .i64 nst) := ⟨HSTd.out.1, HN2.out _ HSTd.out.2.2.2.2.1⟩
          refine wpAnyH_take (i := 0) (v := .slice (some ⟨b, o + (k + 1) * 4, none⟩) m (cap - (k + 1))) rfl (by kernel_rfl) (by kernel_rfl) (by kernel_rfl) (fun _ _ _ h => h) (Or.inl ⟨by rfl, ?_⟩) hS0 ?_
          · intro w hSw; obtain ⟨⟨s1, s2, s3, s4⟩, s5⟩ := hSw; go_simp
          try simp only [Act.put, List.getElem_toArray, List.getElem_cons_succ, List.getElem_cons_zero, List.setIfInBounds_toArray, List.set_cons_zero, List.set_cons_succ]
          refine wpAnyH_take (i := 1) (v := .int .i64 m) rfl (by kernel_rfl) (by kernel_rfl) (by kernel_rfl) (fun _ _ _ h => h) (Or.inl ⟨by rfl, ?_⟩) hS0 ?_
          · intro w hSw; obtain ⟨⟨s1, s2, s3, s4⟩, s5⟩ := hSw; go_simp
          try simp only [Act.put, List.getElem_toArray, List.getElem_cons_succ, List.getElem_cons_zero, List.setIfInBounds_toArray, List.set_cons_zero, List.set_cons_succ]
          refine wpAnyH_take (i := 2) (v := .bool false) rfl (by kernel_rfl) (by kernel_rfl) (by kernel_rfl) (fun _ _ _ h => h) (Or.inl ⟨by rfl, ?_⟩) hS0 ?_
          · intro w hSw; obtain ⟨⟨s1, s2, s3, s4⟩, s5⟩ := hSw; go_simp
          try simp only [Act.put, List.getElem_toArray, List.getElem_cons_succ, List.getElem_cons_zero, List.setIfInBounds_toArray, List.set_cons_zero, List.set_cons_succ]
          refine wpAnyH_take (i := 3) (v := .bool false) rfl (by kernel_rfl) (by kernel_rfl) (by kernel_rfl) (fun _ _ _ h => h) (Or.inl ⟨by rfl, ?_⟩) hS0 ?_
          · intro w hSw; obtain ⟨⟨s1, s2, s3, s4⟩, s5⟩ := hSw; go_simp
          try simp only [Act.put, List.getElem_toArray, List.getElem_cons_succ, List.getElem_cons_zero, List.setIfInBounds_toArray, List.set_cons_zero, List.set_cons_succ]
          refine wpAnyH_take (i := 4) (v := .slice (some ⟨b, o + (k + 1) * 4, none⟩) m (cap - (k + 1))) rfl (by kernel_rfl) (by kernel_rfl) (by kernel_rfl) (fun _ _ _ h => h) (Or.inl ⟨by rfl, ?_⟩) hS0 ?_
          · intro w hSw; obtain ⟨⟨s1, s2, s3, s4⟩, s5⟩ := hSw; go_simp
          try simp only [Act.put, List.getElem_toArray, List.getElem_cons_succ, List.getElem_cons_zero, List.setIfInBounds_toArray, List.set_cons_zero, List.set_cons_succ]
          refine wpAnyH_take (i := 5) (v := .pointer (some ⟨b, o + (k + 1) * 4, none⟩)) rfl (by kernel_rfl) (by kernel_rfl) (by kernel_rfl) (fun _ _ _ h => h) (Or.inl ⟨by rfl, ?_⟩) hS0 ?_
          · intro w hSw; obtain ⟨⟨s1, s2, s3, s4⟩, s5⟩ := hSw; go_simp
          try simp only [Act.put, List.getElem_toArray, List.getElem_cons_succ, List.getElem_cons_zero, List.setIfInBounds_toArray, List.set_cons_zero, List.set_cons_succ]
          refine wpAnyH_take (i := 6) (v := .pointer (some ⟨b, o + (k + 1) * 4 + 2, none⟩)) rfl (by kernel_rfl) (by kernel_rfl) (by kernel_rfl) (fun _ _ _ h => h) (Or.inl ⟨by rfl, ?_⟩) hS0 ?_
          · intro w hSw; obtain ⟨⟨s1, s2, s3, s4⟩, s5⟩ := hSw; go_simp
          try simp only [Act.put, List.getElem_toArray, List.getElem_cons_succ, List.getElem_cons_zero, List.setIfInBounds_toArray, List.set_cons_zero, List.set_cons_succ]
          refine wpAnyH_take (i := 7) (v := .int .i64 nst) rfl (by kernel_rfl) (by kernel_rfl) (by kernel_rfl) (fun _ _ _ h => h) (Or.inl ⟨by rfl, ?_⟩) hS0 ?_
          · intro w hSw; obtain ⟨⟨s1, s2, s3, s4⟩, s5⟩ := hSw; go_simp
          try simp only [Act.put, List.getElem_toArray, List.getElem_cons_succ, List.getElem_cons_zero, List.setIfInBounds_toArray, List.set_cons_zero, List.set_cons_succ]
          refine wpAnyH_take (i := 8) (v := vGl s x st ti) rfl (by kernel_rfl) (by kernel_rfl) (by kernel_rfl) (fun _ _ _ h => h) (Or.inl ⟨by rfl, ?_⟩) hS0 ?_
          · intro w hSw; obtain ⟨⟨s1, s2, s3, s4⟩, s5⟩ := hSw; go_simp
          try simp only [Act.put, List.getElem_toArray, List.getElem_cons_succ, List.getElem_cons_zero, List.setIfInBounds_toArray, List.set_cons_zero, List.set_cons_succ]
          refine wpAnyH_ready (rs := [9]) (by kernel_rfl) (by simp) (AllReadyH.cons rfl (fun K' hK' => ?_) AllReadyH.nil)
          go_simp
          refine (E1.out _ (Gr.trans HG.out HSTd.out.2.2.2.2.1)).mono ?_
          rintro e W7 ⟨rfl, hg8⟩
          have HST7 := Lib.hid (HSTd.out.gr hg8)
          refine hK'.out _ _ ⟨HST7.out.1, HN2.out _ HST7.out.2.2.2.2.1⟩ (fun hS0' => ?_)
          clear hK' K' hg8 HSTd hS0
          have hS0 := hS0'
          clear hS0'
          try simp only [Act.put, List.getElem_toArray, List.getElem_cons_succ, List.getElem_cons_zero, List.setIfInBounds_toArray, List.set_cons_zero, List.set_cons_succ]
          refine wpAnyH_take (i := 10) (v := .bool true) rfl (by kernel_rfl) (by kernel_rfl) (by kernel_rfl) (fun _ _ _ h => h) (Or.inl ⟨by rfl, ?_⟩) hS0 ?_
          · intro w hSw; obtain ⟨⟨s1, s2, s3, s4⟩, s5⟩ := hSw; go_simp
          try simp only [Act.put, List.getElem_toArray, List.getElem_cons_succ, List.getElem_cons_zero, List.setIfInBounds_toArray, List.set_cons_zero, List.set_cons_succ]
          refine wpAnyH_take (i := 11) (v := .bool true) rfl (by kernel_rfl) (by kernel_rfl) (by kernel_rfl) (fun _ _ _ h => h) (Or.inl ⟨by rfl, ?_⟩) hS0 ?_
          · intro w hSw; obtain ⟨⟨s1, s2, s3, s4⟩, s5⟩ := hSw; go_simp
          try simp only [Act.put, List.getElem_toArray, List.getElem_cons_succ, List.getElem_cons_zero, List.setIfInBounds_toArray, List.set_cons_zero, List.set_cons_succ]
          refine wpAnyH_done (by kernel_rfl) ?_ _
          clear hS0
          gi_wp2
          have HST := Lib.hid (HST7.out.gr (Gr.refl W7).drew)
          clear HST7
          refine wpIn_region_any (by kernel_rfl) (wpAnyIn_of_wpAny (noDefer_spec (by kernel_rfl)) (by rintro ⟨a, w, h⟩; exact h) _ _ _ _ (wpAny_of_held (S := fun w' : World => Box4 w' G s x st ti) _ _ _ _ ?_))
          change wpAnyH _ _ _ _ _ _ _ _ W7.drew
          generalize W7.drew = W8 at *
          have hS0 := HST.out.1
          refine wpAnyH_take (i := 1) (v := vGl s x st ti) rfl (by kernel_rfl) (by kernel_rfl) (by kernel_rfl) (fun _ _ _ h => h) (Or.inl ⟨by rfl, ?_⟩) hS0 ?_
          · intro w hSw; obtain ⟨s1, s2, s3, s4⟩ := hSw; go_simp
          try simp only [Act.put, List.getElem_toArray, List.getElem_cons_succ, List.getElem_cons_zero, List.setIfInBounds_toArray, List.set_cons_zero, List.set_cons_succ]
          refine wpAnyH_take (i := 3) (v := .pointer (some ⟨G, 1, none⟩)) rfl (by kernel_rfl) (by kernel_rfl) (by kernel_rfl) (fun _ _ _ h => h) (Or.inl ⟨by rfl, ?_⟩) hS0 ?_
          · intro w hSw; obtain ⟨s1, s2, s3, s4⟩ := hSw; go_simp
          try simp only [Act.put, List.getElem_toArray, List.getElem_cons_succ, List.getElem_cons_zero, List.setIfInBounds_toArray, List.set_cons_zero, List.set_cons_succ]
          refine wpAnyH_take (i := 4) (v := .int .i64 x) rfl (by kernel_rfl) (by kernel_rfl) (by kernel_rfl) (fun _ _ _ h => h) (Or.inl ⟨by rfl, ?_⟩) hS0 ?_
          · intro w hSw; obtain ⟨s1, s2, s3, s4⟩ := hSw; go_simp
          try simp only [Act.put, List.getElem_toArray, List.getElem_cons_succ, List.getElem_cons_zero, List.setIfInBounds_toArray, List.set_cons_zero, List.set_cons_succ]
          refine wpAnyH_ready (rs := [0, 2]) (by kernel_rfl) (by simp) (AllReadyH.cons rfl (fun K' hK' => ?_) (AllReadyH.cons rfl (fun K' hK' => ?_) AllReadyH.nil))
          · have htc := HST.out.2.1
            go_simp
            refine hK'.out _ _ HST.out.1 (fun hS0' => ?_)
            clear hK' K' htc hS0
            have hS0 := hS0'
            clear hS0'
            try simp only [Act.put, List.getElem_toArray, List.getElem_cons_succ, List.getElem_cons_zero, List.setIfInBounds_toArray, List.set_cons_zero, List.set_cons_succ]
            refine wpAnyH_ready (rs := [2]) (by kernel_rfl) (by simp) (AllReadyH.cons rfl (fun K' hK' => ?_) AllReadyH.nil)
            · go_simp
              refine (E1.out _ (Gr.trans HG.out HST.out.2.2.2.2.1)).mono ?_
              rintro e w9 ⟨rfl, hg9⟩
              have HSTn := Lib.hid (HST.out.gr hg9)
              clear hg9 HST hS0
              have HST := HSTn
              clear HSTn
              refine hK'.out _ _ HST.out.1 (fun hS0' => ?_)
              clear hK' K'
              have hS0 := hS0'
              clear hS0'
              try simp only [Act.put, List.getElem_toArray, List.getElem_cons_succ, List.getElem_cons_zero, List.setIfInBounds_toArray, List.set_cons_zero, List.set_cons_succ]
              refine wpAnyH_ready (rs := [5]) (by kernel_rfl) (by simp) (AllReadyH.cons rfl (fun K' hK' => ?_) AllReadyH.nil)
              · go_simp
                refine (WH1.out _ (Gr.trans HG.out HST.out.2.2.2.2.1)).mono ?_
                rintro e w9 ⟨rfl, hg9⟩
                have HSTn := Lib.hid (HST.out.gr hg9)
                clear hg9 HST hS0
                have HST := HSTn
                clear HSTn
                refine hK'.out _ _ HST.out.1 (fun hS0' => ?_)
                clear hK' K'
                have hS0 := hS0'
                clear hS0'
                try simp only [Act.put, List.getElem_toArray, List.getElem_cons_succ, List.getElem_cons_zero, List.setIfInBounds_toArray, List.set_cons_zero, List.set_cons_succ]
                refine wpAnyH_take (i := 6) (v := .agg #[.int .i64 (st + ti), .string tx]) rfl (by kernel_rfl) (by kernel_rfl) (by kernel_rfl) (fun _ _ _ h => h) (Or.inl ⟨by rfl, ?_⟩) hS0 ?_
                · intro w hSw; go_simp
                try simp only [Act.put, List.getElem_toArray, List.getElem_cons_succ, List.getElem_cons_zero, List.setIfInBounds_toArray, List.set_cons_zero, List.set_cons_succ]
                refine wpAnyH_ready (rs := [7]) (by kernel_rfl) (by simp) (AllReadyH.cons rfl (fun K' hK' => ?_) AllReadyH.nil)
                · go_simp
                  refine hK'.out _ _ (HST.out.1.gr ((Gr.refl _).alloc _)) (fun hS0' => ?_)
                  clear hK' K' hS0
                  have hS0 := hS0'
                  clear hS0'
                  try simp only [Act.put, List.getElem_toArray, List.getElem_cons_succ, List.getElem_cons_zero, List.setIfInBounds_toArray, List.set_cons_zero, List.set_cons_succ]
                  refine wpAnyH_ready (rs := [8]) (by kernel_rfl) (by simp) (AllReadyH.cons rfl (fun K' hK' => ?_) AllReadyH.nil)
                  rw [if_pos (by rfl)]
                  refine wp_append_own_spare _ _ _ 50 rfl R 64 i0 2 Tryz.underlying50 hi hz1 R (xs.length + 1) (2 * l.length) (kv (xs ++ [(st, s)])) rfl (OwnK.al HST.out.2.2.2.1 _) ⟨_, 0, none⟩ 1 1 [.int .i64 (st + ti), .string tx] rfl rfl kn_cells kn_one (by omega) (fun w7 hown7 hgrow7 => ?_)
                  obtain ⟨ht7, hf7, hb7⟩ := St.mid HST.out _ hgrow7 hGR hGT hRT
                  have HSTn : Hid (St w W (w7.setCell ⟨T, 0, none⟩ (.slice (some ⟨R, 0, none⟩) (xs.length + 1 + 1) (2 * l.length))) R T G (2 * l.length) (xs ++ [(st, s)] ++ [(st + ti, tx)]) s x st ti) := Lib.hid (by have := St.push HST.out _ (OwnK.al' hown7) hgrow7 hGR hGT hRT hwR hwT; rw [List.length_append] at this; exact this)
                  clear hown7 hgrow7 HST hS0
                  have HST := HSTn
                  clear HSTn
                  refine hK'.out _ _ hb7 (fun hS1 => ?_)
                  clear hK' K'
                  try simp only [Act.put, List.getElem_toArray, List.getElem_cons_succ, List.getElem_cons_zero, List.setIfInBounds_toArray, List.set_cons_zero, List.set_cons_succ]
                  refine wpAnyH_ready (rs := [9]) (by kernel_rfl) (by simp) (AllReadyH.cons rfl (fun K' hK' => ?_) AllReadyH.nil)
                  go_simp
                  refine hK'.out _ _ HST.out.1 (fun hS2 => wpAnyH_done (by kernel_rfl) ?_ _)
                  clear hK' K' hS1 hS2 ht7 hf7 hb7
                  gi_wp2
                  exact EN.out _ HST.out
          · go_simp
            refine (E1.out _ (Gr.trans HG.out HST.out.2.2.2.2.1)).mono ?_
            rintro e w9 ⟨rfl, hg9⟩
            have HSTn := Lib.hid (HST.out.gr hg9)
            clear hg9 HST hS0
            have HST := HSTn
            clear HSTn
            refine hK'.out _ _ HST.out.1 (fun hS0' => ?_)
            clear hK' K'
            have hS0 := hS0'
            clear hS0'
            try simp only [Act.put, List.getElem_toArray, List.getElem_cons_succ, List.getElem_cons_zero, List.setIfInBounds_toArray, List.set_cons_zero, List.set_cons_succ]
            refine wpAnyH_ready (rs := [0, 5]) (by kernel_rfl) (by simp) (AllReadyH.cons rfl (fun K' hK' => ?_) (AllReadyH.cons rfl (fun K' hK' => ?_) AllReadyH.nil))
            · have htc := HST.out.2.1
              go_simp
              refine hK'.out _ _ HST.out.1 (fun hS0' => ?_)
              clear hK' K' htc hS0
              have hS0 := hS0'
              clear hS0'
              try simp only [Act.put, List.getElem_toArray, List.getElem_cons_succ, List.getElem_cons_zero, List.setIfInBounds_toArray, List.set_cons_zero, List.set_cons_succ]
              refine wpAnyH_ready (rs := [5]) (by kernel_rfl) (by simp) (AllReadyH.cons rfl (fun K' hK' => ?_) AllReadyH.nil)
              · go_simp
                refine (WH1.out _ (Gr.trans HG.out HST.out.2.2.2.2.1)).mono ?_
                rintro e w9 ⟨rfl, hg9⟩
                have HSTn := Lib.hid (HST.out.gr hg9)
                clear hg9 HST hS0
                have HST := HSTn
                clear HSTn
                refine hK'.out _ _ HST.out.1 (fun hS0' => ?_)
                clear hK' K'
                have hS0 := hS0'
                clear hS0'
                try simp only [Act.put, List.getElem_toArray, List.getElem_cons_succ, List.getElem_cons_zero, List.setIfInBounds_toArray, List.set_cons_zero, List.set_cons_succ]
                refine wpAnyH_take (i := 6) (v := .agg #[.int .i64 (st + ti), .string tx]) rfl (by kernel_rfl) (by kernel_rfl) (by kernel_rfl) (fun _ _ _ h => h) (Or.inl ⟨by rfl, ?_⟩) hS0 ?_
                · intro w hSw; go_simp
                try simp only [Act.put, List.getElem_toArray, List.getElem_cons_succ, List.getElem_cons_zero, List.setIfInBounds_toArray, List.set_cons_zero, List.set_cons_succ]
                refine wpAnyH_ready (rs := [7]) (by kernel_rfl) (by simp) (AllReadyH.cons rfl (fun K' hK' => ?_) AllReadyH.nil)
                · go_simp
                  refine hK'.out _ _ (HST.out.1.gr ((Gr.refl _).alloc _)) (fun hS0' => ?_)
                  clear hK' K' hS0
                  have hS0 := hS0'
                  clear hS0'
                  try simp only [Act.put, List.getElem_toArray, List.getElem_cons_succ, List.getElem_cons_zero, List.setIfInBounds_toArray, List.set_cons_zero, List.set_cons_succ]
                  refine wpAnyH_ready (rs := [8]) (by kernel_rfl) (by simp) (AllReadyH.cons rfl (fun K' hK' => ?_) AllReadyH.nil)
                  rw [if_pos (by rfl)]
                  refine wp_append_own_spare _ _ _ 50 rfl R 64 i0 2 Tryz.underlying50 hi hz1 R (xs.length + 1) (2 * l.length) (kv (xs ++ [(st, s)])) rfl (OwnK.al HST.out.2.2.2.1 _) ⟨_, 0, none⟩ 1 1 [.int .i64 (st + ti), .string tx] rfl rfl kn_cells kn_one (by omega) (fun w7 hown7 hgrow7 => ?_)
                  obtain ⟨ht7, hf7, hb7⟩ := St.mid HST.out _ hgrow7 hGR hGT hRT
                  have HSTn : Hid (St w W (w7.setCell ⟨T, 0, none⟩ (.slice (some ⟨R, 0, none⟩) (xs.length + 1 + 1) (2 * l.length))) R T G (2 * l.length) (xs ++ [(st, s)] ++ [(st + ti, tx)]) s x st ti) := Lib.hid (by have := St.push HST.out _ (OwnK.al' hown7) hgrow7 hGR hGT hRT hwR hwT; rw [List.length_append] at this; exact this)
                  clear hown7 hgrow7 HST hS0
                  have HST := HSTn
                  clear HSTn
                  refine hK'.out _ _ hb7 (fun hS1 => ?_)
                  clear hK' K'
                  try simp only [Act.put, List.getElem_toArray, List.getElem_cons_succ, List.getElem_cons_zero, List.setIfInBounds_toArray, List.set_cons_zero, List.set_cons_succ]
                  refine wpAnyH_ready (rs := [9]) (by kernel_rfl) (by simp) (AllReadyH.cons rfl (fun K' hK' => ?_) AllReadyH.nil)
                  go_simp
                  refine hK'.out _ _ HST.out.1 (fun hS2 => wpAnyH_done (by kernel_rfl) ?_ _)
                  clear hK' K' hS1 hS2 ht7 hf7 hb7
                  gi_wp2
                  exact EN.out _ HST.out
            · go_simp
              refine (WH1.out _ (Gr.trans HG.out HST.out.2.2.2.2.1)).mono ?_
              rintro e w9 ⟨rfl, hg9⟩
              have HSTn := Lib.hid (HST.out.gr hg9)
              clear hg9 HST hS0
              have HST := HSTn
              clear HSTn
              refine hK'.out _ _ HST.out.1 (fun hS0' => ?_)
              clear hK' K'
              have hS0 := hS0'
              clear hS0'
              try simp only [Act.put, List.getElem_toArray, List.getElem_cons_succ, List.getElem_cons_zero, List.setIfInBounds_toArray, List.set_cons_zero, List.set_cons_succ]
              refine wpAnyH_take (i := 6) (v := .agg #[.int .i64 (st + ti), .string tx]) rfl (by kernel_rfl) (by kernel_rfl) (by kernel_rfl) (fun _ _ _ h => h) (Or.inl ⟨by rfl, ?_⟩) hS0 ?_
              · intro w hSw; go_simp
              try simp only [Act.put, List.getElem_toArray, List.getElem_cons_succ, List.getElem_cons_zero, List.setIfInBounds_toArray, List.set_cons_zero, List.set_cons_succ]
              refine wpAnyH_ready (rs := [0, 7]) (by kernel_rfl) (by simp) (AllReadyH.cons rfl (fun K' hK' => ?_) (AllReadyH.cons rfl (fun K' hK' => ?_) AllReadyH.nil))
              · have htc := HST.out.2.1
                go_simp
                refine hK'.out _ _ HST.out.1 (fun hS0' => ?_)
                clear hK' K' htc hS0
                have hS0 := hS0'
                clear hS0'
                try simp only [Act.put, List.getElem_toArray, List.getElem_cons_succ, List.getElem_cons_zero, List.setIfInBounds_toArray, List.set_cons_zero, List.set_cons_succ]
                refine wpAnyH_ready (rs := [7]) (by kernel_rfl) (by simp) (AllReadyH.cons rfl (fun K' hK' => ?_) AllReadyH.nil)
                · go_simp
                  refine hK'.out _ _ (HST.out.1.gr ((Gr.refl _).alloc _)) (fun hS0' => ?_)
                  clear hK' K' hS0
                  have hS0 := hS0'
                  clear hS0'
                  try simp only [Act.put, List.getElem_toArray, List.getElem_cons_succ, List.getElem_cons_zero, List.setIfInBounds_toArray, List.set_cons_zero, List.set_cons_succ]
                  refine wpAnyH_ready (rs := [8]) (by kernel_rfl) (by simp) (AllReadyH.cons rfl (fun K' hK' => ?_) AllReadyH.nil)
                  rw [if_pos (by rfl)]
                  refine wp_append_own_spare _ _ _ 50 rfl R 64 i0 2 Tryz.underlying50 hi hz1 R (xs.length + 1) (2 * l.length) (kv (xs ++ [(st, s)])) rfl (OwnK.al HST.out.2.2.2.1 _) ⟨_, 0, none⟩ 1 1 [.int .i64 (st + ti), .string tx] rfl rfl kn_cells kn_one (by omega) (fun w7 hown7 hgrow7 => ?_)
                  obtain ⟨ht7, hf7, hb7⟩ := St.mid HST.out _ hgrow7 hGR hGT hRT
                  have HSTn : Hid (St w W (w7.setCell ⟨T, 0, none⟩ (.slice (some ⟨R, 0, none⟩) (xs.length + 1 + 1) (2 * l.length))) R T G (2 * l.length) (xs ++ [(st, s)] ++ [(st + ti, tx)]) s x st ti) := Lib.hid (by have := St.push HST.out _ (OwnK.al' hown7) hgrow7 hGR hGT hRT hwR hwT; rw [List.length_append] at this; exact this)
                  clear hown7 hgrow7 HST hS0
                  have HST := HSTn
                  clear HSTn
                  refine hK'.out _ _ hb7 (fun hS1 => ?_)
                  clear hK' K'
                  try simp only [Act.put, List.getElem_toArray, List.getElem_cons_succ, List.getElem_cons_zero, List.setIfInBounds_toArray, List.set_cons_zero, List.set_cons_succ]
                  refine wpAnyH_ready (rs := [9]) (by kernel_rfl) (by simp) (AllReadyH.cons rfl (fun K' hK' => ?_) AllReadyH.nil)
                  go_simp
                  refine hK'.out _ _ HST.out.1 (fun hS2 => wpAnyH_done (by kernel_rfl) ?_ _)
                  clear hK' K' hS1 hS2 ht7 hf7 hb7
                  gi_wp2
                  exact EN.out _ HST.out
              · go_simp
                refine hK'.out _ _ (HST.out.1.gr ((Gr.refl _).alloc _)) (fun hS0' => ?_)
                clear hK' K' hS0
                have hS0 := hS0'
                clear hS0'
                try simp only [Act.put, List.getElem_toArray, List.getElem_cons_succ, List.getElem_cons_zero, List.setIfInBounds_toArray, List.set_cons_zero, List.set_cons_succ]
                refine wpAnyH_ready (rs := [0]) (by kernel_rfl) (by simp) (AllReadyH.cons rfl (fun K' hK' => ?_) AllReadyH.nil)
                · have htc := gr_cell ((Gr.refl _).alloc (.cells #[.int .i64 (st + ti), .string tx] 64)) HST.out.2.1
                  go_simp
                  refine hK'.out _ _ (HST.out.1.gr ((Gr.refl _).alloc _)) (fun hS0' => ?_)
                  clear hK' K' htc hS0
                  have hS0 := hS0'
                  clear hS0'
                  try simp only [Act.put, List.getElem_toArray, List.getElem_cons_succ, List.getElem_cons_zero, List.setIfInBounds_toArray, List.set_cons_zero, List.set_cons_succ]
                  refine wpAnyH_ready (rs := [8]) (by kernel_rfl) (by simp) (AllReadyH.cons rfl (fun K' hK' => ?_) AllReadyH.nil)
                  rw [if_pos (by rfl)]
                  refine wp_append_own_spare _ _ _ 50 rfl R 64 i0 2 Tryz.underlying50 hi hz1 R (xs.length + 1) (2 * l.length) (kv (xs ++ [(st, s)])) rfl (OwnK.al HST.out.2.2.2.1 _) ⟨_, 0, none⟩ 1 1 [.int .i64 (st + ti), .string tx] rfl rfl kn_cells kn_one (by omega) (fun w7 hown7 hgrow7 => ?_)
                  obtain ⟨ht7, hf7, hb7⟩ := St.mid HST.out _ hgrow7 hGR hGT hRT
                  have HSTn : Hid (St w W (w7.setCell ⟨T, 0, none⟩ (.slice (some ⟨R, 0, none⟩) (xs.length + 1 + 1) (2 * l.length))) R T G (2 * l.length) (xs ++ [(st, s)] ++ [(st + ti, tx)]) s x st ti) := Lib.hid (by have := St.push HST.out _ (OwnK.al' hown7) hgrow7 hGR hGT hRT hwR hwT; rw [List.length_append] at this; exact this)
                  clear hown7 hgrow7 HST hS0
                  have HST := HSTn
                  clear HSTn
                  refine hK'.out _ _ hb7 (fun hS1 => ?_)
                  clear hK' K'
                  try simp only [Act.put, List.getElem_toArray, List.getElem_cons_succ, List.getElem_cons_zero, List.setIfInBounds_toArray, List.set_cons_zero, List.set_cons_succ]
                  refine wpAnyH_ready (rs := [9]) (by kernel_rfl) (by simp) (AllReadyH.cons rfl (fun K' hK' => ?_) AllReadyH.nil)
                  go_simp
                  refine hK'.out _ _ HST.out.1 (fun hS2 => wpAnyH_done (by kernel_rfl) ?_ _)
                  clear hK' K' hS1 hS2 ht7 hf7 hb7
                  gi_wp2
                  exact EN.out _ HST.out
        · have EN := Lib.hid (fun W' => EN1.out W' hge)
          clear EN1 EN2
          obtain ⟨⟨k0, k1, k2, k3⟩, ht, hft, hown, -, -⟩ := id HST0.out
          gi_wp2_with (gi_at_builtin; refine pushIn_kn hi hz1 rfl _ _ rfl R (2 * l.length) xs rfl hown st s rfl (by omega) ?_; rintro w5 hown5 hgrow5; have HST6 := Lib.hid (St.push HST0.out _ hown5 hgrow5 hGR hGT hRT hwR hwT); obtain ⟨ht5, hf5, -⟩ := St.mid HST0.out _ hgrow5 hGR hGT hRT; clear hown5 hgrow5 k0 k1 k2 k3 ht hft hown)
          clear ht5 hf5
          generalize w5.setCell ⟨T, 0, none⟩ (.slice (some ⟨R, 0, none⟩) (xs.length + 1) (2 * l.length)) = W6 at *
          have HSTd := Lib.hid (HST6.out.gr (Gr.refl W6).drew)
          clear HST6
          refine wpIn_region_any (by kernel_rfl) (wpAnyIn_of_wpAny (noDefer_spec (by kernel_rfl)) (by rintro ⟨a, w, h⟩; exact h) _ _ _ _ (wpAny_of_held (S := fun w' : World => Box4 w' G s x st ti ∧ w'.cell? ⟨b, o + (k + 1) * 4 + 2, none⟩ = some (.int .i64 nst)) _ _ _ _ ?_))
          change wpAnyH _ _ _ _ _ _ _ _ W6.drew
          generalize W6.drew = W66 at *
          have hS0 : Box4 W66 G s x st ti ∧ W66.cell? ⟨b, o + (k + 1) * 4 + 2, none⟩ = some (.int .i64 nst) := ⟨HSTd.out.1, HN2.out _ HSTd.out.2.2.2.2.1⟩
          refine wpAnyH_take (i := 0) (v := .slice (some ⟨b, o + (k + 1) * 4, none⟩) m (cap - (k + 1))) rfl (by kernel_rfl) (by kernel_rfl) (by kernel_rfl) (fun _ _ _ h => h) (Or.inl ⟨by rfl, ?_⟩) hS0 ?_
          · intro w hSw; obtain ⟨⟨s1, s2, s3, s4⟩, s5⟩ := hSw; go_simp
          try simp only [Act.put, List.getElem_toArray, List.getElem_cons_succ, List.getElem_cons_zero, List.setIfInBounds_toArray, List.set_cons_zero, List.set_cons_succ]
          refine wpAnyH_take (i := 1) (v := .int .i64 m) rfl (by kernel_rfl) (by kernel_rfl) (by kernel_rfl) (fun _ _ _ h => h) (Or.inl ⟨by rfl, ?_⟩) hS0 ?_
          · intro w hSw; obtain ⟨⟨s1, s2, s3, s4⟩, s5⟩ := hSw; go_simp
          try simp only [Act.put, List.getElem_toArray, List.getElem_cons_succ, List.getElem_cons_zero, List.setIfInBounds_toArray, List.set_cons_zero, List.set_cons_succ]
          refine wpAnyH_take (i := 2) (v := .bool false) rfl (by kernel_rfl) (by kernel_rfl) (by kernel_rfl) (fun _ _ _ h => h) (Or.inl ⟨by rfl, ?_⟩) hS0 ?_
          · intro w hSw; obtain ⟨⟨s1, s2, s3, s4⟩, s5⟩ := hSw; go_simp
          try simp only [Act.put, List.getElem_toArray, List.getElem_cons_succ, List.getElem_cons_zero, List.setIfInBounds_toArray, List.set_cons_zero, List.set_cons_succ]
          refine wpAnyH_take (i := 3) (v := .bool false) rfl (by kernel_rfl) (by kernel_rfl) (by kernel_rfl) (fun _ _ _ h => h) (Or.inl ⟨by rfl, ?_⟩) hS0 ?_
          · intro w hSw; obtain ⟨⟨s1, s2, s3, s4⟩, s5⟩ := hSw; go_simp
          try simp only [Act.put, List.getElem_toArray, List.getElem_cons_succ, List.getElem_cons_zero, List.setIfInBounds_toArray, List.set_cons_zero, List.set_cons_succ]
          refine wpAnyH_take (i := 4) (v := .slice (some ⟨b, o + (k + 1) * 4, none⟩) m (cap - (k + 1))) rfl (by kernel_rfl) (by kernel_rfl) (by kernel_rfl) (fun _ _ _ h => h) (Or.inl ⟨by rfl, ?_⟩) hS0 ?_
          · intro w hSw; obtain ⟨⟨s1, s2, s3, s4⟩, s5⟩ := hSw; go_simp
          try simp only [Act.put, List.getElem_toArray, List.getElem_cons_succ, List.getElem_cons_zero, List.setIfInBounds_toArray, List.set_cons_zero, List.set_cons_succ]
          refine wpAnyH_take (i := 5) (v := .pointer (some ⟨b, o + (k + 1) * 4, none⟩)) rfl (by kernel_rfl) (by kernel_rfl) (by kernel_rfl) (fun _ _ _ h => h) (Or.inl ⟨by rfl, ?_⟩) hS0 ?_
          · intro w hSw; obtain ⟨⟨s1, s2, s3, s4⟩, s5⟩ := hSw; go_simp
          try simp only [Act.put, List.getElem_toArray, List.getElem_cons_succ, List.getElem_cons_zero, List.setIfInBounds_toArray, List.set_cons_zero, List.set_cons_succ]
          refine wpAnyH_take (i := 6) (v := .pointer (some ⟨b, o + (k + 1) * 4 + 2, none⟩)) rfl (by kernel_rfl) (by kernel_rfl) (by kernel_rfl) (fun _ _ _ h => h) (Or.inl ⟨by rfl, ?_⟩) hS0 ?_
          · intro w hSw; obtain ⟨⟨s1, s2, s3, s4⟩, s5⟩ := hSw; go_simp
          try simp only [Act.put, List.getElem_toArray, List.getElem_cons_succ, List.getElem_cons_zero, List.setIfInBounds_toArray, List.set_cons_zero, List.set_cons_succ]
          refine wpAnyH_take (i := 7) (v := .int .i64 nst) rfl (by kernel_rfl) (by kernel_rfl) (by kernel_rfl) (fun _ _ _ h => h) (Or.inl ⟨by rfl, ?_⟩) hS0 ?_
          · intro w hSw; obtain ⟨⟨s1, s2, s3, s4⟩, s5⟩ := hSw; go_simp
          try simp only [Act.put, List.getElem_toArray, List.getElem_cons_succ, List.getElem_cons_zero, List.setIfInBounds_toArray, List.set_cons_zero, List.set_cons_succ]
          refine wpAnyH_take (i := 8) (v := vGl s x st ti) rfl (by kernel_rfl) (by kernel_rfl) (by kernel_rfl) (fun _ _ _ h => h) (Or.inl ⟨by rfl, ?_⟩) hS0 ?_
          · intro w hSw; obtain ⟨⟨s1, s2, s3, s4⟩, s5⟩ := hSw; go_simp
          try simp only [Act.put, List.getElem_toArray, List.getElem_cons_succ, List.getElem_cons_zero, List.setIfInBounds_toArray, List.set_cons_zero, List.set_cons_succ]
          refine wpAnyH_ready (rs := [9]) (by kernel_rfl) (by simp) (AllReadyH.cons rfl (fun K' hK' => ?_) AllReadyH.nil)
          go_simp
          refine (E1.out _ (Gr.trans HG.out HSTd.out.2.2.2.2.1)).mono ?_
          rintro e W7 ⟨rfl, hg8⟩
          have HST7 := Lib.hid (HSTd.out.gr hg8)
          refine hK'.out _ _ ⟨HST7.out.1, HN2.out _ HST7.out.2.2.2.2.1⟩ (fun hS0' => ?_)
          clear hK' K' hg8 HSTd hS0
          have hS0 := hS0'
          clear hS0'
          try simp only [Act.put, List.getElem_toArray, List.getElem_cons_succ, List.getElem_cons_zero, List.setIfInBounds_toArray, List.set_cons_zero, List.set_cons_succ]
          refine wpAnyH_take (i := 10) (v := .bool false) rfl (by kernel_rfl) (by kernel_rfl) (by kernel_rfl) (fun _ _ _ h => h) (Or.inl ⟨by rfl, ?_⟩) hS0 ?_
          · intro w hSw; obtain ⟨⟨s1, s2, s3, s4⟩, s5⟩ := hSw; go_simp
          try simp only [Act.put, List.getElem_toArray, List.getElem_cons_succ, List.getElem_cons_zero, List.setIfInBounds_toArray, List.set_cons_zero, List.set_cons_succ]
          refine wpAnyH_take (i := 11) (v := .bool false) rfl (by kernel_rfl) (by kernel_rfl) (by kernel_rfl) (fun _ _ _ h => h) (Or.inl ⟨by rfl, ?_⟩) hS0 ?_
          · intro w hSw; obtain ⟨⟨s1, s2, s3, s4⟩, s5⟩ := hSw; go_simp
          try simp only [Act.put, List.getElem_toArray, List.getElem_cons_succ, List.getElem_cons_zero, List.setIfInBounds_toArray, List.set_cons_zero, List.set_cons_succ]
          refine wpAnyH_done (by kernel_rfl) ?_ _
          clear hS0
          gi_wp2
          exact EN.out _ HST7.out
    case done =>
      rintro D W hD ⟨hgr, hown, htc, htf⟩ hK
      have hxl := knAll_len (l := l) (k := l.length) (Nat.le_refl _)
      have hHK := Lib.hid hown.hk
      have HKN : Hid (∀ w', Gr w w' → RdK w' (some ⟨R, 0, none⟩) (compactL (knAll l l.length)) → KnR l w w' (.returned (.tuple #[.slice (some ⟨R, 0, none⟩) (compactL (knAll l l.length)).length (2 * l.length), .int .i64 0]))) := Lib.hid fun w' h1 h2 =>
        (HN0.out _ _).2 ⟨h1, R, 2 * l.length, rfl, h2, by have := compactL_len (knAll l l.length); unfold knL; omega, by unfold maxLen; omega⟩
      have HG9 := Lib.hid hgr
      have hDR : D ≠ R := by omega
      have hDl : D < W.heap.size := (Array.getElem?_eq_some_iff.1 hK).1
      clear hown hgr
      generalize knAll l l.length = xs at *
      gi_wp2_with (refine ⟨trivial, ?_⟩; gi_at_call 67; refine (callsIn_wide.2 (gl_compact _ hHK.out (by omega) (by omega) (by unfold maxLen; omega))).mono ?_; rintro e w9 ⟨rfl, hrd, hgrow⟩)
      have hK' : w9.heap[D]? = some (.deferred (some [])) := (hgrow.block D hDl (by simp; omega)).trans hK
      refine ⟨by simp, .inl ⟨_, _, rfl, run_takeDeferred hK', ?_⟩⟩
      refine ⟨.tuple #[.slice (some ⟨R, 0, none⟩) (compactL xs).length (2 * l.length), .int .i64 0], ?_, HKN.out _ ?_ ?_⟩
      · simp [results, Tryz.results29, go_sem]
      · exact Below.trans (Below.grown HG9.out hgrow HG9.out.size (fun k e => by cases e; omega)) (below_putObj (by omega))
      · intro k hk
        obtain ⟨b, o, e, h0, h1⟩ := hrd k hk
        exact ⟨b, o, e, cell_kept h0 (grownBy_putObj' _ D (.deferred none)) (fun r e => by cases e; exact ⟨_, hK', rfl⟩), cell_kept h1 (grownBy_putObj' _ D (.deferred none)) (fun r e => by cases e; exact ⟨_, hK', rfl⟩)⟩
    case stop =>
      rintro D c W hD h
      exact h.elim
  · have hne : (chainE l != 0) = true := by simpa using h
    have HN0 : Hid (∀ w', Gr w w' → KnR l w w' (.returned (.tuple #[.slice none 0 0, .int .i64 (chainE l)]))) := Lib.hid fun w' hw => ⟨hw, .inl ⟨h, rfl⟩⟩
    have C := Lib.hid C
    clear h hc hI hf hlc hcm htab hmx herr
    generalize chainE l = c at *
    go_enter Tryz.func29, Tryz.ntmps29
    go_wp2_with fail
    refine (C.out _ HG.out).mono ?_
    rintro e w1 ⟨rfl, hg1⟩
    have HG1 := Lib.hid hg1
    clear hg1
    go_wp2
    go_ret2
    exact HN0.out _ HG1.out
end
end Go.Proofs.YtflkgkchoagphaaGreatDoor
