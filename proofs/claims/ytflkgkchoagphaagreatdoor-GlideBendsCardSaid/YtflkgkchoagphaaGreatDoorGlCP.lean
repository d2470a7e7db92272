/- GlCP: GlC, GlP, GlW, joined. -/
import Derived.Test.YtflkgkchoagphaaGreatDoorGlMN
set_option linter.unusedVariables false
set_option linter.unusedSimpArgs false

/- Lists of glides: how they lie; standing glides; Few; Chain, both sides. -/
namespace Go.Proofs.YtflkgkchoagphaaGreatDoor
open Go.RowKit Go.Shelf
open Z

/-- a glide lies in four cells -/
def GlAt (w : World) (b o : Nat) (g : Gl) : Prop :=
  w.cell? ⟨b, o, none⟩ = some (.string g.f) ∧ w.cell? ⟨b, o + 1, none⟩ = some (.int .i64 g.x) ∧ w.cell? ⟨b, o + 2, none⟩ = some (.int .i64 g.st) ∧ w.cell? ⟨b, o + 3, none⟩ = some (.int .i64 g.ti)
theorem GlAt.gr {w w' : World} {b o : Nat} {g : Gl} (h : GlAt w b o g) (hg : Gr w w') : GlAt w' b o g :=
  ⟨gr_cell hg h.1, gr_cell hg h.2.1, gr_cell hg h.2.2.1, gr_cell hg h.2.2.2⟩
/-- a list of glides lies behind an address -/
def RdG (w : World) (a : Option Addr) (l : List Gl) : Prop := ∀ k (h : k < l.length), ∃ b o, a = some ⟨b, o, none⟩ ∧ GlAt w b (o + k * 4) l[k]
theorem RdG.gr {w w' : World} {a : Option Addr} {l : List Gl} (h : RdG w a l) (hg : Gr w w') : RdG w' a l := fun k hk => by
  obtain ⟨b, o, h1, h2⟩ := h k hk
  exact ⟨b, o, h1, h2.gr hg⟩
theorem RdG.nil (w : World) (a : Option Addr) : RdG w a [] := fun k hk => absurd hk (by simp)
theorem rdG_one (w : World) (g : Gl) (t : TypeId) : RdG (w.alloc (.cells #[.string g.f, .int .i64 g.x, .int .i64 g.st, .int .i64 g.ti] t)) (some ⟨w.heap.size, 0, none⟩) [g] := fun k hk => by
  have : k = 0 := by simp at hk; omega
  subst this
  exact ⟨_, _, rfl, by simp, by simp, by simp, by simp⟩
theorem rdG_two (w : World) (g h : Gl) (t : TypeId) : RdG (w.alloc (.cells #[.string g.f, .int .i64 g.x, .int .i64 g.st, .int .i64 g.ti, .string h.f, .int .i64 h.x, .int .i64 h.st, .int .i64 h.ti] t)) (some ⟨w.heap.size, 0, none⟩) [g, h] := fun k hk => by
  have : k = 0 ∨ k = 1 := by simp at hk; omega
  rcases this with rfl | rfl
  · exact ⟨_, _, rfl, by simp, by simp, by simp, by simp⟩
  · exact ⟨_, _, rfl, by simp, by simp, by simp, by simp⟩
/-- three ints -/
abbrev T3 := Int × Int × Int
def isT (p : T3) : Prop := isJ p.1 ∧ isJ p.2.1 ∧ isJ p.2.2
def T3At (w : World) (b o : Nat) (p : T3) : Prop :=
  w.cell? ⟨b, o, none⟩ = some (.int .i64 p.1) ∧ w.cell? ⟨b, o + 1, none⟩ = some (.int .i64 p.2.1) ∧ w.cell? ⟨b, o + 2, none⟩ = some (.int .i64 p.2.2)
theorem T3At.gr {w w' : World} {b o : Nat} {p : T3} (h : T3At w b o p) (hg : Gr w w') : T3At w' b o p := ⟨gr_cell hg h.1, gr_cell hg h.2.1, gr_cell hg h.2.2⟩
def RdT (w : World) (a : Option Addr) (l : List T3) : Prop := ∀ k (h : k < l.length), ∃ b o, a = some ⟨b, o, none⟩ ∧ T3At w b (o + k * 3) l[k]
theorem RdT.gr {w w' : World} {a : Option Addr} {l : List T3} (h : RdT w a l) (hg : Gr w w') : RdT w' a l := fun k hk => by
  obtain ⟨b, o, h1, h2⟩ := h k hk
  exact ⟨b, o, h1, h2.gr hg⟩
theorem RdT.nil (w : World) (a : Option Addr) : RdT w a [] := fun k hk => absurd hk (by simp)
/-- a list of glides in a block of one's own -/
def gv (l : List Gl) : List Value := l.flatMap fun g => [.string g.f, .int .i64 g.x, .int .i64 g.st, .int .i64 g.ti]
theorem gv_snoc (l : List Gl) (g : Gl) : gv (l ++ [g]) = gv l ++ [.string g.f, .int .i64 g.x, .int .i64 g.st, .int .i64 g.ti] := by simp [gv]
theorem gv_get : ∀ (l : List Gl) (k : Nat) (h : k < l.length), (gv l)[k * 4]? = some (.string l[k].f) ∧ (gv l)[k * 4 + 1]? = some (.int .i64 l[k].x) ∧ (gv l)[k * 4 + 2]? = some (.int .i64 l[k].st) ∧ (gv l)[k * 4 + 3]? = some (.int .i64 l[k].ti)
  | [], _, h => absurd h (by simp)
  | g :: l, 0, _ => ⟨rfl, rfl, rfl, rfl⟩
  | g :: l, k + 1, h => by
    have ih := gv_get l k (by simpa using h)
    have e : ∀ j, (gv (g :: l))[(k + 1) * 4 + j]? = (gv l)[k * 4 + j]? := fun j => by
      show ([Value.string g.f, .int .i64 g.x, .int .i64 g.st, .int .i64 g.ti] ++ gv l)[(k + 1) * 4 + j]? = _
      rw [List.getElem?_append_right (by simp; omega)]
      congr 1; simp; omega
    refine ⟨by have := e 0; simpa using this.trans ih.1, by rw [e 1]; exact ih.2.1, by rw [e 2]; exact ih.2.2.1, by rw [e 3]; exact ih.2.2.2⟩
def OwnG (B : Nat) (w : World) (v : Value) (l : List Gl) : Prop := w.ownsRow B 24 4 v l.length (gv l)
theorem OwnG.rd {B : Nat} {w : World} {g n cap : Nat} {l : List Gl} (h : OwnG B w (.slice (some ⟨g, 0, none⟩) n cap) l) : RdG w (some ⟨g, 0, none⟩) l := fun k hk => by
  obtain ⟨h0, h1, h2, h3⟩ := gv_get l k hk
  have c : ∀ j u, (gv l)[j]? = some u → w.cell? ⟨g, 0 + j, none⟩ = some u := fun j u hj => by
    have := World.ownsRow.cells h (g := g) rfl j u hj
    rwa [WideShapes.add_plain] at this
  exact ⟨g, 0, rfl, by simpa using c _ _ h0, by simpa [Nat.add_assoc] using c _ _ h1, by simpa [Nat.add_assoc] using c _ _ h2, by simpa [Nat.add_assoc] using c _ _ h3⟩
theorem Gr.grown {w w' : World} (h : Gr w w') : w.grownBy w' none := ⟨h.os, h.tape, h.output, h.size, fun k hk _ => h.block k hk⟩
theorem OwnG.gr {B : Nat} {w w' : World} {v : Value} {l : List Gl} (h : OwnG B w v l) (hg : Gr w w') : OwnG B w' v l := World.ownsRow.kept h hg.grown (by cases hv : v.ownBlock with | none => exact .inl rfl | some k => exact .inr (by simp))
theorem ownG_one (w : World) (g : Gl) (B : Nat) (hB : B ≤ w.heap.size) : OwnG B (w.alloc (.cells #[.string g.f, .int .i64 g.x, .int .i64 g.st, .int .i64 g.ti] 24)) (.slice (some ⟨w.heap.size, 0, none⟩) 1 1) [g] :=
  ⟨rfl, .inr ⟨w.heap.size, 1, _, rfl, hB, World.alloc_heap_new _ _, Nat.le_refl _, by unfold maxLen; omega, rfl, rfl⟩⟩
/-- the ints of a glide are ints -/
def Gl.isG (g : Gl) : Prop := isJ g.x ∧ isJ g.st ∧ isJ g.ti
def fewG (l : List Gl) : Bool := !(decide (12 < l.length) && decide (l.length ≤ 256)) && (l.take 12).all fun g => decide (g.f.size ≤ 120)
theorem fewG_many {l : List Gl} (h : 12 < l.length) (h' : l.length ≤ 256) : fewG l = false := by unfold fewG; simp [h, h']
theorem fewG_get {l : List Gl} (h : ¬ (12 < l.length ∧ l.length ≤ 256)) (hk : ∀ j (hj : j < l.length), j < 12 → l[j].f.size ≤ 120) : fewG l = true := by
  unfold fewG
  rw [Bool.and_eq_true]
  refine ⟨by simp; omega, ?_⟩
  rw [List.all_eq_true]
  intro x hx
  obtain ⟨j, hj, rfl⟩ := List.getElem_of_mem hx
  rw [List.length_take] at hj
  rw [List.getElem_take]
  simpa using hk j (by omega) (by omega)
theorem fewG_not {l : List Gl} {j : Nat} (hj : j < l.length) (h12 : j < 12) (h : ¬ l[j].f.size ≤ 120) : fewG l = false := by
  unfold fewG
  rw [Bool.and_eq_false_iff]
  right
  rw [List.all_eq_false]
  refine ⟨l[j], ?_, by simpa using h⟩
  have : j < (l.take 12).length := by rw [List.length_take]; omega
  have e : (l.take 12)[j] = l[j] := List.getElem_take
  rw [← e]
  exact List.getElem_mem this
section
variable {w0 : World}
set_option maxHeartbeats 2000000 in
set_option maxRecDepth 100000 in
theorem ret3_Few {a : Option Addr} {l : List Gl} {cap : Nat} (hc : RdG w0 a l) (hsz : ∀ g ∈ l, g.f.size ≤ maxLen) : Ret w0 26 #[.slice a l.length cap] (.bool (fewG l)) := by
  have HC := Lib.hid hc
  have HSZ := Lib.hid hsz
  clear hc hsz
  obtain ⟨r, hr⟩ : ∃ r, fewG l = r := ⟨_, rfl⟩
  have HR := Lib.hid hr
  rw [hr]
  clear hr
  intro w hg
  have HG := Lib.hid hg; clear hg
  go_enter Tryz.func26, Tryz.ntmps26
  by_cases hm : 12 < l.length ∧ l.length ≤ 256
  · have hf : r = false := by rw [← HR.out]; exact fewG_many hm.1 hm.2
    obtain ⟨m1, m2⟩ := hm
    subst hf
    go_wp2
    go_ret
    exact ⟨rfl, HG.out⟩
  · have HM := Lib.hid hm
    obtain ⟨n, hn⟩ : ∃ n, n = l.length := ⟨_, rfl⟩
    have hm' : n ≤ 12 ∨ 256 < n := by omega
    have HN := Lib.hid hn
    rw [← hn]
    clear hm hn
    have main : ∀ (w : World), Gr w0 w → True := fun _ _ => trivial
    clear main
    rcases hm' with hm' | hm'
    all_goals
      go_wp2
      go_loopw [3] (fun i wr => ∃ k : Nat, i = .int .i64 k ∧ k ≤ n ∧ k ≤ 12 ∧ Hid (Gr w0 wr) ∧ Hid (∀ j (h : j < l.length), j < k → l[j].f.size ≤ 120)) (fun i _ => 12 - (intOf i).toNat)
      case atStart => exact ⟨0, rfl, Nat.zero_le _, Nat.zero_le _, HG.out, fun j hj h => absurd h (by omega)⟩
      case round =>
        obtain ⟨k, rfl, hk, hk12, HW, HK⟩ := hrel
        by_cases hlt : k < n ∧ k < 12
        · obtain ⟨hkn, hk2⟩ := hlt
          have hkl : k < l.length := by rw [← HN.out]; exact hkn
          obtain ⟨b, o, rfl, hat⟩ := HC.out k hkl
          have hmx := HSZ.out _ (List.getElem_mem hkl)
          have hcell := gr_cell HW.out (gr_cell (Gr.refl w0) hat.1)
          obtain ⟨s, HS⟩ : ∃ s, Hid (l[k].f = s) := ⟨_, Lib.hid rfl⟩
          have hs : l[k].f = s := HS.out
          rw [hs] at hcell hmx
          have F := Lib.hid (ret_Few2 (w0 := w0) hmx)
          clear hat
          by_cases h4 : s.size ≤ 120
          · rw [decide_eq_true h4] at F
            have H4 := Lib.hid h4
            clear h4 hmx hs
            go_wp2_with fail
            refine (F.out _ HW.out).mono ?_
            rintro e w1 ⟨rfl, hg⟩
            have HW1 := Lib.hid hg
            clear hg hcell
            go_wp2
            go_roundw
            case rel =>
              refine ⟨k + 1, by go_num, by omega, by omega, HW1.out, fun j hj h => ?_⟩
              by_cases hjk : j = k
              · subst hjk; rw [HS.out]; exact H4.out
              · exact HK.out j hj (by omega)
            case measure => simp [intOf]; omega
          · have hf : r = false := by rw [← HR.out]; exact fewG_not hkl hk2 (by rw [hs]; exact h4)
            rw [decide_eq_false h4] at F
            clear h4 hmx hs
            subst hf
            go_wp2_with fail
            refine (F.out _ HW.out).mono ?_
            rintro e w1 ⟨rfl, hg⟩
            have HW1 := Lib.hid hg
            clear hg hcell
            go_wp2
            go_ret
            exact ⟨rfl, HW1.out⟩
        · have hf : r = true := by rw [← HR.out]; exact fewG_get HM.out fun j hj h => HK.out j hj (by have := HN.out; omega)
          subst hf
          rcases (show n = k ∧ k < 12 ∨ k = 12 ∧ k < n ∨ k = 12 ∧ n = 12 by omega) with ⟨e1, e2⟩ | ⟨e1, e2⟩ | ⟨e1, e2⟩
          · subst e1
            first
              | (exfalso; omega)
              | (go_wp2; go_ret; exact ⟨rfl, HW.out⟩)
          · subst e1
            first
              | (exfalso; omega)
              | (go_wp2; go_ret; exact ⟨rfl, HW.out⟩)
          · subst e1
            subst e2
            first
              | (exfalso; omega)
              | (go_wp2; go_ret; exact ⟨rfl, HW.out⟩)
theorem few_new1 {g : Gl} {w : World} (t : TypeId) (hs : g.f.size ≤ maxLen) :
    Calls Tryz.prog 26 #[.slice (some ⟨w.heap.size, 0, none⟩) 1 1] (w.alloc (.cells #[.string g.f, .int .i64 g.x, .int .i64 g.st, .int .i64 g.ti] t)) (fun e w' => e = .returned (.bool (decide (g.f.size ≤ 120))) ∧ Gr w w') := by
  refine (ret3_Few (l := [g]) (cap := 1) (rdG_one w g t) (fun x hx => by simp only [List.mem_singleton] at hx; subst hx; exact hs) _ (Gr.refl _)).mono ?_
  rintro e w' ⟨rfl, h⟩
  exact ⟨by simp [fewG], Gr.trans ((Gr.refl w).alloc _) h⟩
theorem txt0 : (⟨#[48]⟩ : ByteArray) = Tx 0 := by rw [← Tx_ival ⟨#[48]⟩ (by decide +kernel)]; congr 1
/-- the levels of a chain are short, or it has too many glides -/
def Fits (l : List Gl) : Prop := 256 < l.length ∨ ∀ g ∈ l, g.f.size ≤ 1400
theorem Gl.err_zero {g : Gl} (h : g.err = 0) (hs : g.f.size ≤ 4000) : ∃ a : Rat, g.f = RT a ∧ rv g.f = a ∧ Sh g.f.size a ∧ lvlQ a = true ∧ 0 ≤ g.x ∧ g.x ≤ 65535 ∧ 0 ≤ g.st ∧ g.st ≤ 10000000 ∧ 0 ≤ g.ti ∧ g.ti ≤ 10000000 := by
  obtain ⟨b, hb, ib, lb, x0, x1, st0, st1, ti0, ti1⟩ := glE_zero_iff h
  obtain ⟨a, e, ha, hra⟩ := text_sh (k := g.f.size) (by rw [hb]; exact chkS_RT ib) (Nat.le_refl _)
  have : a = b := RT_inj (by rw [← e, hb])
  subst this
  exact ⟨a, e, hra, ha, lb, x0, x1, st0, st1, ti0, ti1⟩
end
end Go.Proofs.YtflkgkchoagphaaGreatDoor

/- Plain mathematics of chains: the level within a millisecond. -/
namespace Go.Proofs.YtflkgkchoagphaaGreatDoor
open Go.RowKit
open Z

/-- what a right chain keeps -/
def Facts (l : List Gl) : Prop := (∀ g ∈ l, g.err = 0) ∧ ∀ j (h : j + 1 < l.length), (l[j]).st ≤ (l[j + 1]).st ∧ (l[j + 1]).f = (l[j]).at (l[j + 1]).st
theorem facts_of {l : List Gl} (h : chainE l = 0) : Facts l := by
  obtain ⟨-, hz⟩ := chainE_zero h
  refine ⟨fun g hg => ?_, fun j hj => ?_⟩
  · obtain ⟨j, hj, rfl⟩ := List.getElem_of_mem hg
    exact (step_zero hj (hz j hj)).1
  · have h1 := hz (j + 1) hj
    rw [stepE_at hj] at h1
    have e := (step_zero hj (hz (j + 1) hj)).1
    rw [if_neg (by simpa using e), if_neg (by omega)] at h1
    simp only [Nat.add_sub_cancel] at h1
    by_cases h2 : (l[j + 1]).st < (l[j]).st
    · rw [if_pos h2] at h1; omega
    · rw [if_neg h2] at h1
      by_cases h3 : (l[j + 1]).f = (l[j]).at (l[j + 1]).st
      · exact ⟨by omega, h3⟩
      · rw [if_neg h3] at h1; omega
theorem Facts.tail {g : Gl} {r : List Gl} (h : Facts (g :: r)) : Facts r :=
  ⟨fun x hx => h.1 x (by simp [hx]), fun j hj => by have := h.2 (j + 1) (by simpa using hj); simpa using this⟩
theorem Facts.next {g h : Gl} {r : List Gl} (hf : Facts (g :: h :: r)) : g.st ≤ h.st ∧ h.f = g.at h.st := by have := hf.2 0 (by simp); simpa using this
theorem rv_at (g : Gl) (t : Int) : rv (g.at t) = ofG (rv g.f) g.x g.st g.ti t := rv_RT _
theorem Gl.lvl {g : Gl} (h : g.err = 0) : lvlQ (rv g.f) = true ∧ 0 ≤ g.x ∧ g.x ≤ 65535 ∧ 0 ≤ g.st ∧ g.st ≤ 10000000 ∧ 0 ≤ g.ti ∧ g.ti ≤ 10000000 := by
  obtain ⟨b, hb, _, lb, h2⟩ := glE_zero_iff h
  rw [hb, rv_RT]; exact ⟨lb, h2⟩
/-- one glide more at the end of a right chain -/
theorem chainE_snoc {l : List Gl} {p g : Gl} (h : chainE (l ++ [p]) = 0) (hl : l.length + 2 ≤ 256) (hg : g.err = 0) (hst : p.st ≤ g.st) (hf : g.f = p.at g.st) : chainE (l ++ [p] ++ [g]) = 0 := by
  obtain ⟨-, hz⟩ := chainE_zero h
  refine chainE_ok (by simp; omega) fun j hj => ?_
  simp only [List.length_append, List.length_cons, List.length_nil] at hj
  rw [stepE_at (by simp; omega)]
  by_cases hjl : j < (l ++ [p]).length
  · have h1 := hz j hjl
    rw [stepE_at hjl] at h1
    have e1 : (l ++ [p] ++ [g])[j]'(by simp; omega) = (l ++ [p])[j] := List.getElem_append_left hjl
    have e2 : (l ++ [p] ++ [g])[j - 1]'(by simp; omega) = (l ++ [p])[j - 1]'(by omega) := List.getElem_append_left (by omega)
    rw [e1, e2]; exact h1
  · simp only [List.length_append, List.length_cons, List.length_nil] at hjl
    have hj1 : j = l.length + 1 := by omega
    subst hj1
    have e1 : (l ++ [p] ++ [g])[l.length + 1]'(by simp) = g := by simp
    have e2 : (l ++ [p] ++ [g])[l.length + 1 - 1]'(by simp) = p := by simp
    rw [e1, e2, if_neg (by simpa using hg), if_neg (by omega), if_neg (by omega), if_pos hf]
theorem chainE_one {g : Gl} (hg : g.err = 0) : chainE [g] = 0 := chainE_ok (by simp) fun j hj => by
  have : j = 0 := by simp at hj; omega
  subst this
  rw [stepE_at (by simp)]
  rw [if_neg (by simpa using hg), if_pos rfl]
end Go.Proofs.YtflkgkchoagphaaGreatDoor

/- Chains that are made by overtaking, as law 3 makes them. -/
namespace Go.Proofs.YtflkgkchoagphaaGreatDoor
open Go.RowKit Go.Shelf
open Z

theorem Tryz.infoGlide : (Tryz.prog.info? 24).map (fun i => (i.zero, i.size, i.bytes)) = some (some (.agg #[.string ⟨#[]⟩, .int .i64 0, .int .i64 0, .int .i64 0]), 4, 40) := by kernel_rfl
/-- the first k turns have made the chain -/
def Part (g : Gl) (l : List T3) (k : Nat) (ch : List Gl) : Prop :=
  ch.length = k + 1 ∧ ch.head? = some g ∧ chainE ch = 0 ∧ (∀ x ∈ ch, x.f.size ≤ 120 ∧ x.isG) ∧ ∀ j (h : j < l.length), j < k → ∃ c, ch[j + 1]? = some c ∧ c.st = l[j].1 ∧ c.x = l[j].2.1 ∧ c.ti = l[j].2.2
theorem Part.start {g : Gl} (l : List T3) (he : g.err = 0) (hs : g.f.size ≤ 120) (hg : g.isG) : Part g l 0 [g] :=
  ⟨rfl, rfl, chainE_one he, fun x hx => by simp only [List.mem_singleton] at hx; subst hx; exact ⟨hs, hg⟩, fun j _ h => absurd h (by omega)⟩
theorem Part.last {g : Gl} {l : List T3} {k : Nat} {ch : List Gl} (h : Part g l k ch) : ∃ (r : List Gl) (p : Gl), ch = r ++ [p] ∧ r.length = k ∧ p.err = 0 ∧ p.f.size ≤ 120 ∧ p.isG := by
  have hne : ch ≠ [] := fun e => by have := h.1; rw [e] at this; simp at this
  refine ⟨ch.dropLast, ch.getLast hne, (List.dropLast_concat_getLast hne).symm, by rw [List.length_dropLast, h.1]; omega, (facts_of h.2.2.1).1 _ (List.getLast_mem hne), h.2.2.2.1 _ (List.getLast_mem hne)⟩
theorem Part.push {g : Gl} {l : List T3} {k : Nat} {r : List Gl} {p n : Gl} (h : Part g l k (r ++ [p])) (hk : k < l.length) (hk5 : k ≤ 100) (he : n.err = 0) (hs : n.f.size ≤ 120) (hg : n.isG) (hst : p.st ≤ n.st) (hf : n.f = p.at n.st)
    (e1 : n.st = (l[k]).1) (e2 : n.x = (l[k]).2.1) (e3 : n.ti = (l[k]).2.2) : Part g l (k + 1) (r ++ [p] ++ [n]) := by
  have hl := h.1
  refine ⟨by rw [List.length_append, hl]; rfl, ?_, ?_, fun x hx => ?_, fun j hj hjk => ?_⟩
  · have := h.2.1
    cases r with
    | nil => simpa using this
    | cons a r => simpa using this
  · exact chainE_snoc h.2.2.1 (by simp at hl; omega) he hst hf
  · rw [List.mem_append] at hx
    rcases hx with hx | hx
    · exact h.2.2.2.1 x hx
    · simp only [List.mem_singleton] at hx; subst hx; exact ⟨hs, hg⟩
  · by_cases hjk' : j = k
    · subst hjk'
      refine ⟨n, ?_, e1, e2, e3⟩
      rw [List.getElem?_append_right (by omega), hl]; simp
    · obtain ⟨c, h1, h2⟩ := h.2.2.2.2 j hj (by omega)
      exact ⟨c, by rw [List.getElem?_append_left (by omega)]; exact h1, h2⟩
/-- append of one new glide to a slice that the call has made -/
theorem push_gl {i : TypeInfo} (hi : Tryz.prog.info? 24 = some i) (hz0 : i.zero = some (.agg #[.string ⟨#[]⟩, .int .i64 0, .int .i64 0, .int .i64 0])) (hz1 : i.size = 4) (hz2 : i.bytes = 40)
    {ops : Array Oper} {rest : List Oper} {o : Oper} {a : Act} {Q : Exit → Act → World → Prop} {w0 w : World} (hgd : o.guard = none) (s x : Operand)
    (ho : o.op = .call { callee := .builtin .append, args := #[s, x], argTypes := #[46, 46] }) (v : Value) (xs : List Gl) (hs : a.eval s = v) (hown : OwnG w0.heap.size w v xs) (hg : Gr w0 w)
    (f : ByteArray) (y st ti : Int) (hx : a.eval x = .slice (some ⟨w.heap.size, 0, none⟩) 1 1) (hlen : xs.length ≤ 3000000)
    (h : ∀ (g cap : Nat) w', OwnG w0.heap.size w' (.slice (some ⟨g, 0, none⟩) (xs.length + 1) cap) (xs ++ [(f, y, st, ti)]) → Gr w0 w' → wpList Tryz.prog ops Q rest (a.put o.dst (.slice (some ⟨g, 0, none⟩) (xs.length + 1) cap)) w') :
    wpList Tryz.prog ops Q (o :: rest) a (w.alloc (oGl f y st ti)) := by
  have hgs := hg.size
  obtain ⟨k0, k1, k2, k3⟩ := Box4.new w f y st ti 24
  refine wpList_append_own _ hgd s x _ ho w0.heap.size 24 i (.agg #[.string ⟨#[]⟩, .int .i64 0, .int .i64 0, .int .i64 0]) 4 40 Tryz.underlying46 hi hz0 hz1 hz2 rfl (by decide) v xs.length (gv xs) hs (World.ownsRow.alloc hown _) ⟨w.heap.size, 0, none⟩ 1 1 [.string f, .int .i64 y, .int .i64 st, .int .i64 ti] hx rfl
    (fun j u hj => ?_) (fun u hu => ?_) (by unfold maxLen; omega) (by omega) (by simp; omega) (fun v' w' hown' hgrow _ => ?_)
  · rw [WideShapes.add_plain]
    match j, hj with
    | 0, hj => simp only [List.getElem?_cons_zero, Option.some.injEq] at hj; subst hj; exact k0
    | 1, hj => simp only [List.getElem?_cons_succ, List.getElem?_cons_zero, Option.some.injEq] at hj; subst hj; exact k1
    | 2, hj => simp only [List.getElem?_cons_succ, List.getElem?_cons_zero, Option.some.injEq] at hj; subst hj; exact k2
    | 3, hj => simp only [List.getElem?_cons_succ, List.getElem?_cons_zero, Option.some.injEq] at hj; subst hj; exact k3
    | j + 4, hj => simp at hj
  · simp only [List.mem_cons, List.not_mem_nil, or_false] at hu
    rcases hu with rfl | rfl | rfl | rfl <;> rfl
  · rcases id hown'.2 with ⟨-, h0⟩ | ⟨g, cap, cur, rfl, _⟩
    · omega
    · refine h g cap w' ?_ (Below.grown (hg.alloc _) hgrow (by simp; omega) (fun k hk => (World.ownsRow.lt hown k hk).1))
      show World.ownsRow _ _ _ _ _ _ _
      rw [gv_snoc, List.length_append]; exact hown'
theorem OwnG.at {B : Nat} {w : World} {g n cap : Nat} {l : List Gl} (h : OwnG B w (.slice (some ⟨g, 0, none⟩) n cap) l) {k : Nat} {p : Gl} (hp : l[k]? = some p) : GlAt w g (k * 4) p := by
  obtain ⟨hk, rfl⟩ := List.getElem?_eq_some_iff.1 hp
  obtain ⟨b, o, e, hat⟩ := h.rd k hk
  simp only [Option.some.injEq, Addr.mk.injEq, and_true] at e
  obtain ⟨rfl, rfl⟩ := e
  rwa [Nat.zero_add] at hat
theorem at_size {p : Gl} (h : p.err = 0) (hs : p.f.size ≤ 120) (t : Int) : (p.at t).size ≤ 1000 := by
  obtain ⟨q, e1, e2, e3, lq, x0, x1, st0, st1, ti0, ti1⟩ := Gl.err_zero h (by omega)
  have := RT_size ((sh_ofG (t := t) e3 x0 x1 st0 st1 ti0 ti1).mono (show _ ≤ 420 by omega))
  show (RT (ofG (rv p.f) p.x p.st p.ti t)).size ≤ 1000
  rw [e2]; omega
/-- what a right glide turns into is right -/
theorem next_err {p : Gl} (h : p.err = 0) (hs : p.f.size ≤ 120) {t y d : Int} (hb : tgE y t d = 0) : glE (p.at t) y t d = 0 := by
  obtain ⟨q, e1, e2, e3, lq, x0, x1, st0, st1, ti0, ti1⟩ := Gl.err_zero h (by omega)
  unfold glE
  have hI := Sh.inR (sh_ofG (t := t) e3 x0 x1 st0 st1 ti0 ti1) (by omega)
  rw [show p.at t = RT (ofG (rv p.f) p.x p.st p.ti t) from rfl, e2, compE_RT hI, if_pos (ofG_lvl lq x0 x1 ti0), if_pos rfl, hb]
end Go.Proofs.YtflkgkchoagphaaGreatDoor
