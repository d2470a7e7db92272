/- Records: lists of records that a call has made. -/
import Derived.Test.YtlcpfhgobfjioaaDoorRcJ
set_option linter.unusedVariables false
set_option linter.unusedSimpArgs false
namespace Go.Proofs.YtlcpfhgobfjioaaDoor
open Go.RowKit
open Z Rc

def ev (l : List E) : List Value := l.flatMap fun k => [.int .i64 k.1, .string k.2]
theorem ev_snoc (l : List E) (k : E) : ev (l ++ [k]) = ev l ++ [.int .i64 k.1, .string k.2] := by simp [ev]
theorem ev_get : ∀ (l : List E) (k : Nat) (h : k < l.length), (ev l)[k * 2]? = some (.int .i64 l[k].1) ∧ (ev l)[k * 2 + 1]? = some (.string l[k].2)
  | [], _, h => absurd h (by simp)
  | g :: l, 0, _ => ⟨rfl, rfl⟩
  | g :: l, k + 1, h => by
    have ih := ev_get l k (by simpa using h)
    have e : ∀ j, (ev (g :: l))[(k + 1) * 2 + j]? = (ev l)[k * 2 + j]? := fun j => by
      show ([Value.int .i64 g.1, .string g.2] ++ ev l)[(k + 1) * 2 + j]? = _
      rw [List.getElem?_append_right (by simp; omega)]
      congr 1; simp; omega
    refine ⟨?_, ?_⟩
    · have := e 0
      simpa using this.trans ih.1
    · rw [e 1]; simpa using ih.2
theorem en_one {t : Int} {f : ByteArray} : ∀ u ∈ ([Value.int .i64 t, .string f] : List Value), u.oneCell' = true := fun u hu => by
  simp only [List.mem_cons, List.not_mem_nil, or_false] at hu
  rcases hu with rfl | rfl <;> rfl
theorem Tryd.infoEE : (Tryd.prog.info? 54).map (fun i => (i.zero, i.size, i.bytes)) = some (some (.agg #[.int .i64 0, .string ⟨#[]⟩]), 2, 24) := by kernel_rfl
def OwnE (B : Nat) (w : World) (v : Value) (l : List E) : Prop := w.ownsRow B 54 2 v l.length (ev l)
theorem OwnE.gr {B : Nat} {w w' : World} {v : Value} {l : List E} (h : OwnE B w v l) (hg : Gr w w') : OwnE B w' v l := ownsRow_gr h hg
theorem OwnE.nil (B : Nat) (w : World) : OwnE B w (.slice none 0 0) [] := World.ownsRow_nil _ _ _ _
theorem OwnE.shape {B : Nat} {w : World} {v : Value} {l : List E} (h : OwnE B w v l) : ∃ a cap, v = .slice a l.length cap ∧ RdE w a l ∧ l.length ≤ cap ∧ cap ≤ maxLen := by
  rcases id h.2 with ⟨rfl, h0⟩ | ⟨g, cap, cur, rfl, -, -, hn1, hn2, -⟩
  · have : l = [] := List.eq_nil_of_length_eq_zero h0
    subst this
    exact ⟨none, 0, rfl, RdE.nil _ _, by simp, by unfold maxLen; omega⟩
  · refine ⟨_, cap, rfl, fun k hk => ⟨g, 0, rfl, ?_⟩, hn1, hn2⟩
    obtain ⟨h0, h1⟩ := ev_get l k hk
    have c : ∀ j u, (ev l)[j]? = some u → w.cell? ⟨g, 0 + j, none⟩ = some u := fun j u hj => by
      have := World.ownsRow.cells h (g := g) rfl j u hj
      rwa [WideShapes.add_plain] at this
    rw [Nat.zero_add]
    exact ⟨by simpa using c _ _ h0, by simpa [Nat.add_assoc] using c _ _ h1⟩
theorem push_e {i : TypeInfo} (hi : Tryd.prog.info? 54 = some i) (hz0 : i.zero = some (.agg #[.int .i64 0, .string ⟨#[]⟩])) (hz1 : i.size = 2) (hz2 : i.bytes = 24)
    {ops : Array Oper} {rest : List Oper} {o : Oper} {a : Act} {Q : Exit → Act → World → Prop} {w0 w : World} (hgd : o.guard = none) (s x : Operand)
    (ho : o.op = .call { callee := .builtin .append, args := #[s, x], argTypes := #[60, 60] }) (v : Value) (xs : List E) (hs : a.eval s = v) (hown : OwnE w0.heap.size w v xs) (hg : Gr w0 w)
    (t : Int) (f : ByteArray) (N : Nat) (hN : N = w.heap.size) (hx : a.eval x = .slice (some ⟨N, 0, none⟩) 1 1) (hlen : xs.length ≤ 3000000)
    (h : ∀ v' w', Hid (OwnE w0.heap.size w' v' (xs ++ [(t, f)])) → Gr w0 w' → wpList Tryd.prog ops Q rest (a.put o.dst v') w') :
    wpList Tryd.prog ops Q (o :: rest) a (w.alloc (.cells #[.int .i64 t, .string f] 54)) := by
  have hgs := hg.size
  subst hN
  refine wpList_append_own _ hgd s x _ ho w0.heap.size 54 i (.agg #[.int .i64 0, .string ⟨#[]⟩]) 2 24 Tryd.underlying60 hi hz0 hz1 hz2 rfl (by decide) v xs.length (ev xs) hs (World.ownsRow.alloc hown _) ⟨w.heap.size, 0, none⟩ 1 1 [.int .i64 t, .string f] hx rfl
    (fun j u hj => ?_) en_one (by unfold maxLen; omega) (by omega) (by simp; omega) (fun v' w' hown' hgrow _ => h v' w' ?_ (Below.grown (hg.alloc _) hgrow (by simp; omega) (fun k hk => (World.ownsRow.lt hown k hk).1)))
  · rw [WideShapes.add_plain]
    match j, hj with
    | 0, hj => simp only [List.getElem?_cons_zero, Option.some.injEq] at hj; subst hj; rw [World.cell?_alloc_at _ _ _ _ rfl]; rfl
    | 1, hj => simp only [List.getElem?_cons_succ, List.getElem?_cons_zero, Option.some.injEq] at hj; subst hj; rw [World.cell?_alloc_at _ _ _ _ rfl]; rfl
    | j + 2, hj => simp at hj
  · show World.ownsRow _ _ _ _ _ _ _
    rw [ev_snoc, List.length_append]; exact hown'
end Go.Proofs.YtlcpfhgobfjioaaDoor
