/- The iterator over glides and those behind them; Value of the program. -/
import Derived.Test.YtflkgkchoagphaaGreatDoorGlE
import Derived.Test.YtflkgkchoagphaaGreatDoorRangeA
import Derived.Stop.RegionWithIn
set_option linter.unusedVariables false
set_option linter.unusedSimpArgs false
namespace Go.Proofs.YtflkgkchoagphaaGreatDoor
open Go.RowKit Go.Shelf
open Z
attribute [local go_sem] Oper.semAt_some

/-- the address of what lies behind the k-th element -/
def tlA (a : Option Addr) (cap k sz : Nat) : Option Addr := if cap = k + 1 then a else a.map (·.add ((k + 1) * sz))
def succG (a : Option Addr) (l : List Gl) (cap k : Nat) : Array Value := match l[k]? with
  | some g => #[vG4 g, .slice (tlA a cap k 4) (l.length - (k + 1)) (cap - (k + 1))]
  | none => #[.bool false, .bool false]
theorem succG_size (a : Option Addr) (l : List Gl) (cap k : Nat) : (succG a l cap k).size = 2 := by unfold succG; split <;> rfl
theorem succG_at {a : Option Addr} {l : List Gl} {cap k : Nat} (h : k < l.length) : succG a l cap k = #[vG4 l[k], .slice (tlA a cap k 4) (l.length - (k + 1)) (cap - (k + 1))] := by
  unfold succG; rw [List.getElem?_eq_getElem h]
theorem two_ways {e : Ending} {P Q : Prop} (h : (e = .returned (.bool true) ∧ P) ∨ (e = .returned (.bool false) ∧ Q)) : ∃ b : Bool, e = .returned (.bool b) ∧ ((b = true ∧ P) ∨ (b = false ∧ Q)) := by
  rcases h with ⟨rfl, h⟩ | ⟨rfl, h⟩
  · exact ⟨true, rfl, .inl ⟨rfl, h⟩⟩
  · exact ⟨false, rfl, .inr ⟨rfl, h⟩⟩
set_option maxHeartbeats 2000000 in
set_option maxRecDepth 100000 in
theorem g_rounds (l : List Gl) (a : Option Addr) (cap : Nat) (Bs : Nat) (S : Nat → Prop) (w0 : World) (hr : RdG w0 a l) (hcap : l.length ≤ cap) (hcm : cap ≤ maxLen) (hS : S Bs) (hSa : ∀ g off, l ≠ [] → a = some ⟨g, off, none⟩ → S g) (hSz : ∀ k, S k → k < w0.heap.size)
    (hB : w0.cell? ⟨Bs, 0, none⟩ = some (.slice a l.length cap)) (hlen : l.length ≤ 3000) :
    RoundsA Tryz.prog 96 #[.pointer (some ⟨Bs, 0, none⟩)] (succG a l cap) l.length S w0 := by
  unfold maxLen at hcm
  intro y J Jx W hW hA hY h0
  have HCB := Lib.hid (fun X (hX : KeepB S w0 X) => ((hX.cell (p := ⟨Bs, 0, none⟩) hS).trans hB : X.cell? ⟨Bs, 0, none⟩ = some (.slice a l.length cap)))
  have HBL : Hid (∀ X, KeepB S w0 X → Bs < X.heap.size) := fun X hX => cell_lt (HCB.out X hX)
  have HR := Lib.hid hr; clear hr
  have HY := Lib.hid hY; clear hY
  have HA := Lib.hid hA; clear hA
  have HSA := Lib.hid hSa; clear hSa
  have HSZ : Hid (∀ X, KeepB S w0 X → ∀ k, S k → k < X.heap.size) := fun X hX k hk => by
    have h1 := hX k hk
    rcases Nat.lt_or_ge k X.heap.size with h | h
    · exact h
    · rw [Array.getElem?_eq_none h] at h1
      have := hSz k hk
      rw [Array.getElem?_eq_getElem this] at h1; cases h1
  clear hSz
  have hc0 := HCB.out W hW
  refine callsIn_of_wp Tryz.func96 rfl trivial ?_ rfl
  simp only [Tryz.ntmps96, List.size_toArray, List.length_cons, List.length_nil, Nat.reduceAdd, Nat.reduceSub, Array.replicate_succ, Array.replicate_zero, List.push_toArray, List.append_toArray, List.nil_append, List.cons_append]
  gi_wp2
  gi_loopw [3, 4, 7] (fun _ _ i wr => ∃ k : Nat, i = .int .i64 k ∧ k ≤ l.length ∧ Hid (J k wr) ∧ KeepB S w0 wr) (fun _ _ i _ => l.length - (intOf i).toNat)
  case atStart => exact ⟨0, rfl, Nat.zero_le _, h0, hW⟩
  case round =>
    obtain ⟨k, rfl, hk, HJ, hnx⟩ := hrel
    by_cases hlt : k < l.length
    · obtain ⟨b, o, hb, hat⟩ := HR.out k hlt
      have hSb := HSA.out b o (fun e => by rw [e] at hlt; simp at hlt) hb
      have hbl := HBL.out wr hnx
      have hbb := HSZ.out wr hnx b hSb
      obtain ⟨k0, k1, k2, k3⟩ := hat
      have c0 := (hnx.cell (p := ⟨b, o + k * 4, none⟩) hSb).trans k0
      have c1 := (hnx.cell (p := ⟨b, o + k * 4 + 1, none⟩) hSb).trans k1
      have c2 := (hnx.cell (p := ⟨b, o + k * 4 + 2, none⟩) hSb).trans k2
      have c3 := (hnx.cell (p := ⟨b, o + k * 4 + 3, none⟩) hSb).trans k3
      clear k0 k1 k2 k3
      have hcx := HCB.out wr hnx
      have HX : Hid (Gr wr ((wr.alloc (oGl l[k].f l[k].x l[k].st l[k].ti)).drew)) := ((Gr.refl wr).alloc _).drew
      have HK2 : Hid (KeepB S wr ((wr.alloc (oGl l[k].f l[k].x l[k].st l[k].ti)).drew)) := KeepB.gr HX.out (HSZ.out wr hnx)
      obtain ⟨fn, tmps, assign, body, hy, hR⟩ := HY.out k _ hlt (HA.out k _ _ HX.out HJ.out)
      rw [succG_at hlt] at hy
      unfold tlA at hy
      generalize l[k] = g at *
      obtain ⟨s, x, st, ti⟩ := g
      simp only [Gl.f, Gl.x, Gl.st, Gl.ti] at c0 c1 c2 c3 hy hR
      have hcx' : (wr.alloc (oGl s x st ti)).cell? ⟨Bs, 0, none⟩ = some (.slice a l.length cap) := by rw [World.cell?_alloc_old _ _ _ (by simp; omega)]; exact hcx
      subst hb
      have q1 : IntKind.i64.wrap ((k : Int) + 1) = (k : Int) + 1 := IntWalk.i64_in _ (by omega)
      have q2 : (0 : Int) ≤ (k : Int) + 1 := by omega
      have q3 : (k : Int) + 1 ≤ l.length := by omega
      have q4 : ((k : Int) + 1).toNat = k + 1 := by omega
      by_cases hcp : cap = k + 1
      · rw [if_pos hcp] at hy
        subst hcp
        rw [Nat.sub_self, show l.length - (k + 1) = 0 by omega] at hy
        gi_wp2
        gi_region_with ((refine hR.mono ?_; rintro e W3 hE0; obtain ⟨bb, rfl, hE⟩ := two_ways hE0; clear hE0))
        all_goals
          clear q1 q2 q3 q4
          rcases hE with ⟨rfl, hJ3, hk3⟩ | ⟨rfl, hJx3⟩
          · have HJ3 := Lib.hid hJ3; clear hJ3
            have HK3 := Lib.hid (hnx.trans (HK2.out.trans hk3)); clear hk3
            gi_wp2
            go_roundw
            case rel => exact ⟨k + 1, by go_num, by omega, HJ3.out, HK3.out⟩
            case measure => simp [intOf]; omega
          · have HX3 := Lib.hid hJx3; clear hJx3
            gi_wp2
            refine bodyPost_ret (results_none rfl _ _ _) rfl ?_
            exact ⟨⟨_, rfl⟩, .inr HX3.out⟩
      · rw [if_neg hcp] at hy
        simp only [Option.map_some, WideShapes.add_plain] at hy
        gi_wp2
        gi_region_with ((refine hR.mono ?_; rintro e W3 hE0; obtain ⟨bb, rfl, hE⟩ := two_ways hE0; clear hE0))
        all_goals
          clear q1 q2 q3 q4
          rcases hE with ⟨rfl, hJ3, hk3⟩ | ⟨rfl, hJx3⟩
          · have HJ3 := Lib.hid hJ3; clear hJ3
            have HK3 := Lib.hid (hnx.trans (HK2.out.trans hk3)); clear hk3
            gi_wp2
            go_roundw
            case rel => exact ⟨k + 1, by go_num, by omega, HJ3.out, HK3.out⟩
            case measure => simp [intOf]; omega
          · have HX3 := Lib.hid hJx3; clear hJx3
            gi_wp2
            refine bodyPost_ret (results_none rfl _ _ _) rfl ?_
            exact ⟨⟨_, rfl⟩, .inr HX3.out⟩
    · have hkn : k = l.length := by omega
      subst hkn
      gi_wp2
      go_end0
      exact ⟨⟨_, rfl⟩, .inl HJ.out⟩
set_option maxHeartbeats 400000 in
theorem gl_succ (a : Option Addr) (n c : Nat) (w : World) :
    Calls Tryz.prog 66 #[.slice a n c] w fun e w' => e = .returned (.func (.func 96) #[] #[.pointer (some ⟨w.heap.size, 0, none⟩)]) ∧ w' = w.alloc (.cells #[.slice a n c] 46) := by
  have hmf : ∀ (fn : Fn) (first cap : Array Value) (w : World), (Instr.makeFunc fn first cap).run Tryz.prog w = .ok (.func fn first cap) w := fun _ _ _ _ => rfl
  go_enter Tryz.func66, Tryz.ntmps66
  go_wp2
  go_ret
  exact ⟨rfl, rfl⟩
end Go.Proofs.YtflkgkchoagphaaGreatDoor
