/- Law 7: own lists of tokens; the program's Scan. -/
import Derived.Test.YtlcpfhgobfjioaaDoorLxH
set_option linter.unusedVariables false
set_option linter.unusedSimpArgs false
namespace Go.Proofs.YtlcpfhgobfjioaaDoor.Z
open Go
/-- tokens as a row of cells -/
def tv (l : List Tk) : List Value := l.flatMap fun t => [.int .i64 t.1, .string ⟨t.2.1.toArray⟩, .int .i64 t.2.2]
theorem tv_snoc (l : List Tk) (t : Tk) : tv (l ++ [t]) = tv l ++ [.int .i64 t.1, .string ⟨t.2.1.toArray⟩, .int .i64 t.2.2] := by simp [tv]
theorem tv_len (l : List Tk) : (tv l).length = l.length * 3 := by
  induction l with
  | nil => rfl
  | cons r l ih => unfold tv at ih ⊢; rw [List.flatMap_cons, List.length_append, ih]; simp; omega
theorem tv_get (l : List Tk) (k : Nat) (hk : k < l.length) : (tv l)[k * 3]? = some (.int .i64 l[k].1) ∧ (tv l)[k * 3 + 1]? = some (.string ⟨l[k].2.1.toArray⟩) ∧ (tv l)[k * 3 + 2]? = some (.int .i64 l[k].2.2) := by
  induction l generalizing k with
  | nil => simp at hk
  | cons r l ih =>
    have e : tv (r :: l) = .int .i64 r.1 :: .string ⟨r.2.1.toArray⟩ :: .int .i64 r.2.2 :: tv l := rfl
    rw [e]
    cases k with
    | zero => simp
    | succ k =>
      have := ih k (by simpa using hk)
      rw [show (k + 1) * 3 = k * 3 + 1 + 1 + 1 by omega]
      simpa using this
/-- Scan, with the tokens that there are already -/
def scanF (l : List UInt8) : Nat → List Tk → Nat → List Tk × Int × Int
  | 0, _, _ => ([], 0, 0)
  | n + 1, out, k =>
    if (tokR l k).2.1 ≠ 0 then ([], ((tokR l k).2.2 : Nat), (tokR l k).2.1)
    else if out.length = 256 then ([], (tokR l k).1.2.2, 5)
    else if (tokR l k).1.1 = 3 then (out ++ [(tokR l k).1], 0, 0)
    else scanF l n (out ++ [(tokR l k).1]) (tokR l k).2.2
def scanR (l : List UInt8) : List Tk × Int × Int := if 4096 < l.length then ([], 0, 13) else scanF l 257 [] 0
theorem tokR_le {l : List UInt8} {k : Nat} (hk : k ≤ l.length) : (tokR l k).2.2 ≤ l.length := by
  have h1 := (skipB_le hk).2
  have h2 := (kindR_le h1).2
  unfold tokR
  split
  · exact h1
  · exact h2
end Go.Proofs.YtlcpfhgobfjioaaDoor.Z
namespace Go.Proofs.YtlcpfhgobfjioaaDoor
open Go.RowKit Go.Shelf
open Z
theorem Tryd.infoTok : (Tryd.prog.info? 32).map (fun i => (i.zero, i.size, i.bytes)) = some (some (.agg #[.int .i64 0, .string ⟨#[]⟩, .int .i64 0]), 3, 32) := by kernel_rfl
def TksAt (W : World) (a : Option Addr) (L : List Tk) : Prop :=
  (a = none ∧ L = []) ∨ ∃ b off, a = some ⟨b, off, none⟩ ∧ ∀ j (h : j < L.length), W.cell? ⟨b, off + j * 3, none⟩ = some (.int .i64 L[j].1) ∧ W.cell? ⟨b, off + j * 3 + 1, none⟩ = some (.string (str L[j].2.1)) ∧ W.cell? ⟨b, off + j * 3 + 2, none⟩ = some (.int .i64 L[j].2.2)
theorem TksAt.gr {w w' : World} {a : Option Addr} {L : List Tk} (h : TksAt w a L) (hg : Gr w w') : TksAt w' a L := by
  rcases h with h | ⟨b, off, ha, hc⟩
  · exact .inl h
  · exact .inr ⟨b, off, ha, fun j hj => ⟨cell_gr hg (hc j hj).1, cell_gr hg (hc j hj).2.1, cell_gr hg (hc j hj).2.2⟩⟩
theorem TksAt.at {w : World} {a : Option Addr} {L : List Tk} (h : TksAt w a L) {j : Nat} (hj : j < L.length) : ∃ b off, a = some ⟨b, off, none⟩ ∧ w.cell? ⟨b, off + j * 3, none⟩ = some (.int .i64 L[j].1) ∧ w.cell? ⟨b, off + j * 3 + 1, none⟩ = some (.string (str L[j].2.1)) ∧ w.cell? ⟨b, off + j * 3 + 2, none⟩ = some (.int .i64 L[j].2.2) := by
  rcases h with ⟨-, h⟩ | ⟨b, off, ha, hc⟩
  · rw [h] at hj; simp at hj
  · exact ⟨b, off, ha, hc j hj⟩
def OwnTk (B : Nat) (w : World) (v : Value) (l : List Tk) : Prop := w.ownsRow B 32 3 v l.length (tv l)
theorem OwnTk.nil (B : Nat) (w : World) : OwnTk B w (.slice none 0 0) [] := World.ownsRow_nil _ _ _ _
theorem OwnTk.low {B B' : Nat} {w : World} {v : Value} {l : List Tk} (h : OwnTk B w v l) (hB : B' ≤ B) : OwnTk B' w v l := by
  refine ⟨h.1, ?_⟩
  rcases h.2 with h2 | ⟨g, cap, cur, h1, hb, h3⟩
  · exact .inl h2
  · exact .inr ⟨g, cap, cur, h1, Nat.le_trans hB hb, h3⟩
theorem OwnTk.upd {b B : Nat} {w w' : World} {v : Value} {l : List Tk} (h : OwnTk B w v l) (hu : Upd b w w') (hb : b < B) : OwnTk B w' v l := by
  refine ⟨h.1, ?_⟩
  rcases h.2 with h2 | ⟨g, cap, cur, h1, hg, h3, h4⟩
  · exact .inl h2
  · exact .inr ⟨g, cap, cur, h1, hg, (hu.2.1 g (Array.getElem?_eq_some_iff.1 h3).1 (by omega)).trans h3, h4⟩
theorem OwnTk.gr {B : Nat} {w w' : World} {v : Value} {l : List Tk} (h : OwnTk B w v l) (hg : Gr w w') : OwnTk B w' v l := by
  refine ⟨h.1, ?_⟩
  rcases h.2 with h2 | ⟨g, cap, cur, h1, hb, h3, h4⟩
  · exact .inl h2
  · exact .inr ⟨g, cap, cur, h1, hb, (hg.block g (Array.getElem?_eq_some_iff.1 h3).1).trans h3, h4⟩
theorem OwnTk.shape {B : Nat} {w : World} {v : Value} {l : List Tk} (h : OwnTk B w v l) : ∃ a cap, v = .slice a l.length cap ∧ TksAt w a l ∧ (a = none → cap = 0) ∧ l.length ≤ cap ∧ cap ≤ maxLen ∧ ∀ p o, a = some ⟨p, o, none⟩ → p < w.heap.size := by
  rcases id h.2 with ⟨rfl, h0⟩ | ⟨g, cap, cur, rfl, _, h2, h3, h4, _⟩
  · have : l = [] := List.eq_nil_of_length_eq_zero h0
    subst this
    exact ⟨none, 0, rfl, .inl ⟨rfl, rfl⟩, fun _ => rfl, Nat.le_refl _, Nat.zero_le _, fun _ _ e => by cases e⟩
  · refine ⟨_, cap, rfl, .inr ⟨g, 0, rfl, fun k hk => ?_⟩, (fun e => by cases e), h3, h4, fun p o e => by cases e; exact (Array.getElem?_eq_some_iff.1 h2).1⟩
    obtain ⟨h0, h1, h2⟩ := tv_get l k hk
    have c : ∀ j u, (tv l)[j]? = some u → w.cell? ⟨g, 0 + j, none⟩ = some u := fun j u hj => by
      have := World.ownsRow.cells h (g := g) rfl j u hj
      rwa [WideShapes.add_plain] at this
    exact ⟨c _ _ h0, c _ _ h1, c _ _ h2⟩
theorem OwnTk.lt {B : Nat} {w : World} {v : Value} {l : List Tk} (h : OwnTk B w v l) : ∀ g, v.ownBlock = some g → g < w.heap.size := fun g hg => (World.ownsRow.lt h g hg).2
theorem RdrAt.below {B : Nat} {w w' : World} {b : Nat} {s : ByteArray} {k : Nat} (h : RdrAt w b s k) (hg : Below B w w') (hb : b < B) : RdrAt w' b s k :=
  ⟨(Below.cell hg (p := ⟨b, 0, none⟩) hb).trans h.c0, (Below.cell hg (p := ⟨b, 1, none⟩) hb).trans h.c1, (Below.frozen hg (p := ⟨b, 1, none⟩) hb).trans h.f1⟩
theorem tk_one {kd : Int} {t : ByteArray} {a : Int} : ∀ u ∈ ([Value.int .i64 kd, .string t, .int .i64 a] : List Value), u.oneCell' = true := fun u hu => by
  simp only [List.mem_cons, List.not_mem_nil, or_false] at hu
  rcases hu with rfl | rfl | rfl <;> rfl
theorem push_tk {i : TypeInfo} (hi : Tryd.prog.info? 32 = some i) (hz0 : i.zero = some (.agg #[.int .i64 0, .string ⟨#[]⟩, .int .i64 0])) (hz1 : i.size = 3) (hz2 : i.bytes = 32)
    {ops : Array Oper} {rest : List Oper} {o : Oper} {a : Act} {Q : Exit → Act → World → Prop} {B : Nat} {w : World} (hgd : o.guard = none) (s x : Operand)
    (ho : o.op = .call { callee := .builtin .append, args := #[s, x], argTypes := #[22, 22] }) (v : Value) (xs : List Tk) (hs : a.eval s = v) (hown : OwnTk B w v xs) (hB : B ≤ w.heap.size)
    (t : Tk) (N : Nat) (hN : N = w.heap.size) (hx : a.eval x = .slice (some ⟨N, 0, none⟩) 1 1) (hlen : xs.length + 1 ≤ 1000000)
    (h : ∀ v' w', Hid (OwnTk B w' v' (xs ++ [t])) → Below B w w' → (∀ k, k < w.heap.size → (∀ g, v.ownBlock = some g → k ≠ g) → w'.heap[k]? = w.heap[k]?) → wpList Tryd.prog ops Q rest (a.put o.dst v') w') :
    wpList Tryd.prog ops Q (o :: rest) a (w.alloc (.cells #[.int .i64 t.1, .string (str t.2.1), .int .i64 t.2.2] 32)) := by
  subst hN
  refine wpList_append_own _ hgd s x _ ho B 32 i (.agg #[.int .i64 0, .string ⟨#[]⟩, .int .i64 0]) 3 32 Tryd.underlying22 hi hz0 hz1 hz2 rfl (by decide) v xs.length (tv xs) hs (World.ownsRow.alloc hown _) ⟨w.heap.size, 0, none⟩ 1 1 [.int .i64 t.1, .string (str t.2.1), .int .i64 t.2.2] hx rfl
    (fun j u hj => ?_) tk_one (by unfold maxLen; omega) (by omega) (by simp; omega) (fun v' w' hown' hgrow _ => h v' w' ?_ (Below.grown ((Below.refl B w).alloc hB _) hgrow (by simp; omega) (fun k hk => (World.ownsRow.lt hown k hk).1)) fun k hk hne => (hgrow.block k (by simp; omega) (fun e => hne k e.symm rfl)).trans (Below.heap_alloc _ _ _ hk))
  · rw [WideShapes.add_plain]
    match j, hj with
    | 0, hj => simp only [List.getElem?_cons_zero, Option.some.injEq] at hj; subst hj; rw [World.cell?_alloc_at _ _ _ _ rfl]; rfl
    | 1, hj => simp only [List.getElem?_cons_succ, List.getElem?_cons_zero, Option.some.injEq] at hj; subst hj; rw [World.cell?_alloc_at _ _ _ _ rfl]; rfl
    | 2, hj => simp only [List.getElem?_cons_succ, List.getElem?_cons_zero, Option.some.injEq] at hj; subst hj; rw [World.cell?_alloc_at _ _ _ _ rfl]; rfl
    | j + 3, hj => simp at hj
  · show World.ownsRow _ _ _ _ _ _ _
    rw [tv_snoc, List.length_append]; exact hown'
set_option maxRecDepth 100000 in
set_option maxHeartbeats 1000000 in
theorem lx_isEnd (kd : Int) (t : ByteArray) (a : Int) (w : World) : Calls Tryd.prog 32 #[.agg #[.int .i64 kd, .string t, .int .i64 a]] w fun e w' => e = .returned (.bool (kd == 3)) ∧ Gr w w' := by
  have HX := TB.new w kd t a 32
  have HG := Lib.hid ((Gr.refl w).alloc (.cells #[.int .i64 kd, .string t, .int .i64 a] 32))
  obtain ⟨k0, k1, k2, -, -, -⟩ := id HX
  go_enter Tryd.func32, Tryd.ntmps32
  go_wp2
  go_ret
  exact ⟨rfl, HG.out⟩
end Go.Proofs.YtlcpfhgobfjioaaDoor
