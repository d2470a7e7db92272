/- Law 11: own lists of ints; the reference's Mixed and Mix. -/
import Derived.Test.YtipfofdjngnkpaaCoO
import Derived.Laws.AppendOwn
set_option linter.unusedVariables false
set_option linter.unusedSimpArgs false
namespace Go.Proofs.Ytipfofdjngnkpaa
open Go.RowKit
open Z
def iv (l : List Int) : List Value := l.map fun k => .int .i64 k
def OwnI (B : Nat) (w : World) (v : Value) (l : List Int) : Prop := w.ownsRow B 3 1 v l.length (iv l)
theorem ownsRow_gr {w w' : World} {base : Nat} {e : TypeId} {size : Nat} {v : Value} {n : Nat} {xs : List Value} (h : w.ownsRow base e size v n xs) (hg : Gr w w') : w'.ownsRow base e size v n xs :=
  h.kept ⟨hg.os, hg.tape, hg.output, hg.size, fun k hk _ => hg.block k hk⟩ (row := none) (by cases hv : v.ownBlock <;> simp)
theorem OwnI.gr {B : Nat} {w w' : World} {v : Value} {l : List Int} (h : OwnI B w v l) (hg : Gr w w') : OwnI B w' v l := ownsRow_gr h hg
theorem OwnI.nil (B : Nat) (w : World) : OwnI B w (.slice none 0 0) [] := World.ownsRow_nil _ _ _ _
theorem OwnI.shape {B : Nat} {w : World} {v : Value} {l : List Int} (h : OwnI B w v l) : ∃ a cap, v = .slice a l.length cap ∧ RdI w a l ∧ l.length ≤ cap ∧ cap ≤ maxLen := by
  rcases id h.2 with ⟨rfl, h0⟩ | ⟨g, cap, cur, rfl, -, -, hn1, hn2, -⟩
  · have : l = [] := List.eq_nil_of_length_eq_zero h0
    subst this
    exact ⟨none, 0, rfl, fun k hk => absurd hk (by simp), by simp, by unfold maxLen; omega⟩
  · refine ⟨_, cap, rfl, fun k hk => ⟨g, 0, rfl, ?_⟩, hn1, hn2⟩
    have := World.ownsRow.cells h (g := g) rfl k (.int .i64 l[k]) (by simp [iv, List.getElem?_eq_getElem hk])
    rwa [WideShapes.add_plain] at this
theorem push_i {i : TypeInfo} (hi : Try.prog.info? 3 = some i) (hz0 : i.zero = some (.int .i64 0)) (hz1 : i.size = 1) (hz2 : i.bytes = 8)
    {ops : Array Oper} {rest : List Oper} {o : Oper} {a : Act} {Q : Exit → Act → World → Prop} {w0 w : World} (hgd : o.guard = none) (s x : Operand)
    (ho : o.op = .call { callee := .builtin .append, args := #[s, x], argTypes := #[22, 22] }) (v : Value) (xs : List Int) (hs : a.eval s = v) (hown : OwnI w0.heap.size w v xs) (hg : Gr w0 w)
    (t : Int) (N : Nat) (hN : N = w.heap.size) (hx : a.eval x = .slice (some ⟨N, 0, none⟩) 1 1) (hlen : xs.length ≤ 3000000)
    (h : ∀ v' w', Hid (OwnI w0.heap.size w' v' (xs ++ [t])) → Gr w0 w' → wpList Try.prog ops Q rest (a.put o.dst v') w') :
    wpList Try.prog ops Q (o :: rest) a (w.alloc (.cells #[.int .i64 t] 3)) := by
  have hgs := hg.size
  subst hN
  refine wpList_append_own _ hgd s x _ ho w0.heap.size 3 i (.int .i64 0) 1 8 Try.underlying22 hi hz0 hz1 hz2 rfl (by decide) v xs.length (iv xs) hs (World.ownsRow.alloc hown _) ⟨w.heap.size, 0, none⟩ 1 1 [.int .i64 t] hx rfl
    (fun j u hj => ?_) (fun u hu => by simp only [List.mem_singleton] at hu; subst hu; rfl) (by unfold maxLen; omega) (by omega) (by simp; omega) (fun v' w' hown' hgrow _ => h v' w' ?_ (Below.grown (hg.alloc _) hgrow (by simp; omega) (fun k hk => (World.ownsRow.lt hown k hk).1)))
  · rw [WideShapes.add_plain]
    match j, hj with
    | 0, hj => simp only [List.getElem?_cons_zero, Option.some.injEq] at hj; subst hj; rw [World.cell?_alloc_at _ _ _ _ rfl]; rfl
    | j + 1, hj => simp at hj
  · show World.ownsRow _ _ _ _ _ _ _
    rw [show iv (xs ++ [t]) = iv xs ++ [.int .i64 t] by simp [iv], List.length_append]; exact hown'
theorem exec_min3 {o : Oper} {ev : Operand → Value} {w : World} {p q r : Operand} {x y z : Int} (ho : o.op = .call { callee := .builtin .min, args := #[p, q, r], argTypes := #[3, 3, 3] })
    (hp : ev p = .int .i64 x) (hq : ev q = .int .i64 y) (hr : ev r = .int .i64 z) : (execOp ev o).run Try.prog w = .ok (.value (.int .i64 (min3 (x, y, z)))) w := by
  have hv : (if z < (if y < x then y else x) then z else if y < x then y else x) = min3 (x, y, z) := by
    simp only [min3]
    repeat' split
    all_goals omega
  unfold execOp
  rw [ho]
  simp [hp, hq, hr, go_sem]
  rw [hv]
theorem wpl_min3 {ops : Array Oper} {rest : List Oper} {o : Oper} {a : Act} {Q : Exit → Act → World → Prop} {w : World} {p q r : Operand} {x y z : Int} (hg : o.guard = none) (ho : o.op = .call { callee := .builtin .min, args := #[p, q, r], argTypes := #[3, 3, 3] })
    (hp : a.eval p = .int .i64 x) (hq : a.eval q = .int .i64 y) (hr : a.eval r = .int .i64 z) (hK : wpList Try.prog ops Q rest (a.put o.dst (.int .i64 (min3 (x, y, z)))) w) : wpList Try.prog ops Q (o :: rest) a w := by
  refine wpList_plain hg fun K hK' => ?_
  unfold Oper.wp
  rw [exec_min3 ho hp hq hr, Oper.upon_value]
  exact hK' _ _ hK
theorem exec_max3 {o : Oper} {ev : Operand → Value} {w : World} {p q r : Operand} {x y z : Int} (ho : o.op = .call { callee := .builtin .max, args := #[p, q, r], argTypes := #[3, 3, 3] })
    (hp : ev p = .int .i64 x) (hq : ev q = .int .i64 y) (hr : ev r = .int .i64 z) : (execOp ev o).run Try.prog w = .ok (.value (.int .i64 (max3 (x, y, z)))) w := by
  have hv : (if (if x < y then y else x) < z then z else if x < y then y else x) = max3 (x, y, z) := by
    simp only [max3]
    repeat' split
    all_goals omega
  unfold execOp
  rw [ho]
  simp [hp, hq, hr, go_sem]
  rw [hv]
theorem wpl_max3 {ops : Array Oper} {rest : List Oper} {o : Oper} {a : Act} {Q : Exit → Act → World → Prop} {w : World} {p q r : Operand} {x y z : Int} (hg : o.guard = none) (ho : o.op = .call { callee := .builtin .max, args := #[p, q, r], argTypes := #[3, 3, 3] })
    (hp : a.eval p = .int .i64 x) (hq : a.eval q = .int .i64 y) (hr : a.eval r = .int .i64 z) (hK : wpList Try.prog ops Q rest (a.put o.dst (.int .i64 (max3 (x, y, z)))) w) : wpList Try.prog ops Q (o :: rest) a w := by
  refine wpList_plain hg fun K hK' => ?_
  unfold Oper.wp
  rw [exec_max3 ho hp hq hr, Oper.upon_value]
  exact hK' _ _ hK
end Go.Proofs.Ytipfofdjngnkpaa
