/- T4: mathematics of a spoilt byte; equal lists of records. -/
import Derived.Test.YtlcpfhgobfjioaaDoorTqB
set_option linter.unusedVariables false
set_option linter.unusedSimpArgs false
namespace Go.Proofs.YtlcpfhgobfjioaaDoor.Rc
open Go
theorem joB_split {l : List E} {k : Nat} (hk : k < l.length) : joB l = joB (l.take k) ++ (pkE l[k] ++ joB (l.drop (k + 1))) := by
  conv => lhs; rw [← List.take_append_drop k l, List.drop_eq_getElem_cons hk]
  rw [joB_append, joB_cons]
theorem pkE_parts (x : E) : pkE x = (by8 x.1.toNat :: two x.2.size) ++ (x.2.data.toList ++ two (sm (hd x.1.toNat x.2.data.toList))) := by
  unfold pkE pk
  conv => lhs; arg 1; unfold hd
  rw [sz]
  simp
theorem two_len (n : Nat) : (two n).length = 2 := rfl
/-- where a byte of a record's data is another one -/
theorem al_spoilt {l : List E} {k p : Nat} {c b : UInt8} (hk : k < l.length) (h : ∀ x ∈ l, chkE x = 0) (hp : p < l[k].2.data.toList.length) (hb : l[k].2.data.toList[p] = b) (hne : c ≠ b) (hm : ¬ (c.toNat + b.toNat = 255 ∧ (c.toNat = 0 ∨ b.toNat = 0))) :
    al ((joB l).set ((joB (l.take k)).length + 3 + p) c) = (l.take k, (joB (l.take k)).length, 17) := by
  have hx : chkE l[k] = 0 := h _ (List.getElem_mem hk)
  have hs : l[k].2.data.toList = l[k].2.data.toList.take p ++ b :: l[k].2.data.toList.drop (p + 1) := by
    rw [← hb, List.getElem_cons_drop, List.take_append_drop]
  have N := nx_spoilt l[k] (joB (l.drop (k + 1))) (l[k].2.data.toList.take p) (l[k].2.data.toList.drop (p + 1)) b c hx hs hne hm
  have hset : l[k].2.data.toList.set p c = l[k].2.data.toList.take p ++ c :: l[k].2.data.toList.drop (p + 1) := by
    rw [List.set_eq_take_append_cons_drop, if_pos hp]
  have e : (joB l).set ((joB (l.take k)).length + 3 + p) c = joB (l.take k) ++ ((by8 l[k].1.toNat :: (two l[k].2.size ++ (l[k].2.data.toList.take p ++ c :: l[k].2.data.toList.drop (p + 1))) ++ two (sm (hd l[k].1.toNat l[k].2.data.toList))) ++ joB (l.drop (k + 1))) := by
    rw [joB_split hk, List.set_append_right _ _ (by omega), show (joB (l.take k)).length + 3 + p - (joB (l.take k)).length = 3 + p by omega, pkE_parts]
    have hl3 : (by8 l[k].1.toNat :: two l[k].2.size).length = 3 := by rw [List.length_cons, two_len]
    rw [List.append_assoc, List.set_append_right _ _ (by omega), hl3, show 3 + p - 3 = p by omega, List.append_assoc, List.set_append_left _ _ hp, hset]
    simp
  have T := al_join (l.take k) ((by8 l[k].1.toNat :: (two l[k].2.size ++ (l[k].2.data.toList.take p ++ c :: l[k].2.data.toList.drop (p + 1))) ++ two (sm (hd l[k].1.toNat l[k].2.data.toList))) ++ joB (l.drop (k + 1))) (fun x hxl => h x (List.mem_of_mem_take hxl))
  rw [e, T, al_err (by simp) (by rw [N]; simp), N]
  simp
theorem joB_at {l : List E} {k p : Nat} (hk : k < l.length) (hp : p < l[k].2.data.toList.length) : (joB l)[(joB (l.take k)).length + 3 + p]? = l[k].2.data.toList[p]? := by
  rw [joB_split hk, List.getElem?_append_right (by omega), show (joB (l.take k)).length + 3 + p - (joB (l.take k)).length = 3 + p by omega, pkE_parts]
  have hl3 : (by8 l[k].1.toNat :: two l[k].2.size).length = 3 := by rw [List.length_cons, two_len]
  rw [List.append_assoc, List.getElem?_append_right (by omega), hl3, show 3 + p - 3 = p by omega, List.append_assoc, List.getElem?_append_left hp]
end Go.Proofs.YtlcpfhgobfjioaaDoor.Rc
namespace Go.Proofs.YtlcpfhgobfjioaaDoor
open Go.RowKit Go.Shelf
open Z Rc
theorem set_str (b : ByteArray) (i : Nat) (c : UInt8) (hi : i < b.size) : b.extract 0 i ++ str [c] ++ b.extract (i + 1) b.size = str (b.data.toList.set i c) := by
  have hsz : b.data.toList.length = b.size := by simp
  apply ba_ext
  rw [ByteArray.data_append, ByteArray.data_append, Array.toList_append, Array.toList_append, Lib.extract_data, ext_drop', data_str, data_str, List.drop_zero, Nat.sub_zero, List.set_eq_take_append_cons_drop, if_pos (by omega)]
  simp
theorem tq_small {l : List E} (h : smallB l = true) : l.length ≤ 20 ∧ (∀ x ∈ l, chkE x = 0) ∧ (joB l).length ≤ 305 * l.length ∧ ∀ x ∈ l, x.2.size ≤ 300 := by
  unfold smallB at h
  simp only [Bool.and_eq_true, decide_eq_true_eq, List.all_eq_true, Bool.not_eq_true'] at h
  obtain ⟨h1, h2⟩ := h
  have hx : ∀ x ∈ l, chkE x = 0 ∧ x.2.size ≤ 300 := fun x hx => by
    have := h2 x hx
    unfold badE at this
    simp only [Bool.or_eq_false_iff, decide_eq_false_iff_not] at this
    exact ⟨chkE_ok.2 ⟨⟨by omega, by omega⟩, by omega⟩, by omega⟩
  refine ⟨h1, fun x hxl => (hx x hxl).1, ?_, fun x hxl => (hx x hxl).2⟩
  clear h1 h2
  induction l with
  | nil => simp [joB]
  | cons x l ih =>
    have a1 := (hx x (by simp)).2
    have a2 := ih (fun y hy => hx y (by simp [hy]))
    rw [joB_cons, List.length_append, pkE_len, List.length_cons]; omega
theorem tq_take {w : World} {a : Option Addr} {l : List E} (h : RdE w a l) (j : Nat) : RdE w a (l.take j) := fun k hk => by
  rw [List.length_take] at hk
  obtain ⟨b, o, e, hat⟩ := h k (by omega)
  exact ⟨b, o, e, by rw [List.getElem_take]; exact hat⟩
set_option maxHeartbeats 1000000 in
set_option maxRecDepth 100000 in
theorem sl_SameE {a b : Option Addr} {l : List E} {ca cb : Nat} {w : World} (ha : RdE w a l) (hb : RdE w b l) (hl : l.length ≤ 100000) :
    Calls Tryd.prog 29 #[.slice a l.length ca, .slice b l.length cb] w fun e w' => e = .returned (.bool true) ∧ Gr w w' := by
  have HL := Lib.hid ha
  have HM := Lib.hid hb
  clear ha hb
  obtain ⟨n, hn⟩ : ∃ n, l.length = n := ⟨_, rfl⟩
  have HN := Lib.hid hn
  rw [hn] at hl ⊢
  clear hn
  go_enter Tryd.func29, Tryd.ntmps29
  go_wp2
  go_loopw [13] (fun i wr => ∃ j : Nat, i = .int .i64 j ∧ j ≤ n ∧ Hid (Gr w wr)) (fun i _ => n - (intOf i).toNat)
  case atStart => exact ⟨0, rfl, Nat.zero_le _, Lib.hid (Gr.refl w)⟩
  case round =>
    obtain ⟨j, rfl, hj, HG⟩ := hrel
    by_cases hlt : j < n
    · have j1 : j < l.length := by rw [HN.out]; exact hlt
      obtain ⟨p, o, rfl, c0, c1⟩ := (HL.out.gr HG.out) j j1
      obtain ⟨q, r, rfl, d0, d1⟩ := (HM.out.gr HG.out) j j1
      generalize l[j] = x at *
      obtain ⟨kd, tx⟩ := x
      simp only at c0 c1 d0 d1
      go_wp2_with fail
      go_quiet (fail)
      rename_i nq
      have HG3 := Lib.hid (below_drewN HG.out nq)
      go_wp2
      go_roundw
      case rel => exact ⟨j + 1, by go_num, by omega, HG3⟩
      case measure => simp [intOf]; omega
    · go_wp2
      go_ret
      exact ⟨rfl, HG.out⟩
end Go.Proofs.YtlcpfhgobfjioaaDoor
