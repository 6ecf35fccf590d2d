/- slices.Clone, Grow of nil, Concat of two, of pairs: the walks. -/
import Derived.Test.YtlhdjbnilfbaoaaHas
import Derived.Lib.AppendZeros
import Derived.Maps.AppendAt
namespace Go.Proofs.Ytlhdjbnilfbaoaa
open Go.RowKit
set_option linter.unusedVariables false
/-- append(v, qs...), v the call's own. -/
theorem append_pairs_run (w : World) (ty : TypeId) (base : Nat) (v : Value) (ps : List (List Int)) (hown : OwnP 46 w base v ps) (a : Option Addr) (c : Nat) (qs : List (List Int)) (hq : PsAt w a qs) (hnil : a = none → c = 0)
    (hsum : ps.length + qs.length ≤ 10000000) (hbase : base ≤ w.heap.size) :
    ∃ v' w', (Builtin.append_ #[24, 24] ty #[v, .slice a qs.length c]).run Try.prog w = .ok v' w' ∧ OwnP 46 w' base v' (ps ++ qs) ∧ w.grownBy w' v.ownBlock := by
  obtain ⟨i, hi, hz0, hz1, hz2⟩ := parts
  have h40 : ∀ p ∈ ps ++ qs, p.length = 40 := fun p hp => (List.mem_append.1 hp).elim (hown.2 p) (hq.each p)
  have key : ∀ x : Addr, (∀ j u, (flat qs)[j]? = some u → w.cell? (x.add j) = some u) →
      ∃ v' w', (Builtin.append_ #[24, 24] ty #[v, .slice (some x) qs.length c]).run Try.prog w = .ok v' w' ∧ OwnP 46 w' base v' (ps ++ qs) ∧ w.grownBy w' v.ownBlock := by
    intro x hx
    obtain ⟨v', w', r1, r2, r3, -⟩ := run_append_own (P := Try.prog) w base 24 ty 46 i (.agg (V8 noPair)) 40 40 Try.underlying24 hi hz0 hz1 hz2 (by show (V8 noPair).size = 40; rw [V8_size, noPair_len]) (by decide) v ps.length _ hown.1 x qs.length c (flat qs) (flat_len qs hq.each) hx
      (U8_one _) (by unfold maxLen; omega) (by omega) hbase
    exact ⟨v', w', r1, ⟨by rw [flat_append, List.length_append]; exact r2, h40⟩, r3⟩
  by_cases h0 : qs.length = 0
  · obtain rfl : qs = [] := List.eq_nil_of_length_eq_zero h0
    cases a with
    | none =>
      obtain rfl := hnil rfl
      refine ⟨v, w, run_append_owned_none (P := Try.prog) (w := w) base 24 ty 46 i 40 Try.underlying24 hi v ps.length _ hown.1, by simpa using hown, ⟨rfl, rfl, rfl, Nat.le_refl _, fun _ _ _ => rfl⟩⟩
    | some x => exact key x (by simp [flat, U8])
  · rcases hq.rows with h | ⟨b, off, rfl, hbl, hc⟩
    · omega
    · refine key _ fun j u hu => ?_
      have hj := (List.getElem?_eq_some_iff.1 hu).1
      rw [flat_len qs hq.each] at hj
      have hj40 : j / 40 < qs.length := by omega
      have hp : qs[j / 40]? = some (qs[j / 40]'hj40) := List.getElem?_eq_getElem hj40
      have hm := flat_get qs (j / 40) (j % 40) _ hq.each hp (Nat.mod_lt _ (by omega))
      have e : j / 40 * 40 + j % 40 = j := by omega
      rw [e, hu] at hm
      have := hc (j / 40) _ hp (j % 40) u hm.symm
      rw [Addr.add_mid]
      rw [show off + j / 40 * 40 + j % 40 = off + j by omega] at this
      exact this
theorem wpList_append_pairs {w : World} {ops : Array Oper} {rest : List Oper} {o : Oper} {ac : Act} {Q : Exit → Act → World → Prop} (hgd : o.guard = none) (s x : Operand)
    (ho : o.op = .call { callee := .builtin .append, args := #[s, x], argTypes := #[24, 24] })
    (base : Nat) (v : Value) (ps : List (List Int)) (hs : ac.eval s = v) (hown : OwnP 46 w base v ps) (a : Option Addr) (m c : Nat) (qs : List (List Int)) (hm : qs.length = m) (hx : ac.eval x = .slice a m c) (hq : PsAt w a qs) (hnil : a = none → c = 0)
    (hsum : ps.length + qs.length ≤ 10000000) (hbase : base ≤ w.heap.size)
    (h : ∀ v' w', OwnP 46 w' base v' (ps ++ qs) → w.grownBy w' v.ownBlock → wpList Try.prog ops Q rest (ac.put o.dst v') w') : wpList Try.prog ops Q (o :: rest) ac w := by
  subst hm
  obtain ⟨v', w', hrun, r1, r2⟩ := append_pairs_run w o.type base v ps hown a c qs hq hnil hsum hbase
  refine Lib.wpList_append_run _ hgd _ _ _ _ ho _ _ hs hx _ _ hrun ?_
  exact h v' w' r1 r2
theorem unhid {p : Prop} (h : p) : Hid p := h
theorem nil_yes (W : World) : (binOp .eql 24 (.slice none 0 0) (.slice none 0 0)).run Try.prog W = .ok (.bool true) W := by kernel_rfl
theorem nil_no (x : Addr) (n c : Nat) (W : World) : (binOp .eql 24 (.slice (some x) n c) (.slice none 0 0)).run Try.prog W = .ok (.bool false) W := by kernel_rfl
theorem OwnP.lit (w : World) : OwnP 46 (w.alloc (.cells #[] 46)) w.heap.size (.slice (some ⟨w.heap.size, 0, none⟩) 0 0) [] :=
  ⟨World.ownsRow_lit (base := w.heap.size) (e := 46) (size := 40) w #[] 0 (Nat.le_refl _) (Nat.zero_le _) rfl, by simp⟩
set_option maxRecDepth 100000 in
set_option maxHeartbeats 4000000 in
theorem clone_any (a : Option Addr) (c : Nat) (ps : List (List Int)) (w : World) (h : PsAt w a ps) (hn : ps.length ≤ 1000000) (hnil : a = none → c = 0) (hnl : a = none → ps = []) :
    Calls Try.prog 30 #[.slice a ps.length c] w fun e w' => (∃ v, e = .returned v ∧ OwnP 46 w' w.heap.size v ps) ∧ Below w.heap.size w w' := by
  cases a with
  | none =>
    obtain rfl := hnl rfl
    obtain rfl := hnil rfl
    clear h hn hnil hnl
    have hy := nil_yes
    go_enter Try.func30, Try.ntmps30
    go_wp2_with fail
    go_ret
    exact ⟨⟨_, rfl, OwnP.nil _ _ _⟩, Below.refl _ _⟩
  | some x =>
    have HB : Hid (Below w.heap.size w (w.alloc (.cells #[] 46))) := (Below.refl _ _).alloc (Nat.le_refl _) _
    have HE := Lib.hid (OwnP.lit w)
    have HS := Lib.hid (h.below HB.out)
    have HN := Lib.hid hn
    have tok : True := trivial
    clear h hn hnil hnl
    have hy := fun W => nil_no x ps.length c W
    go_enter Try.func30, Try.ntmps30
    go_wp2_with (have _t := tok; at_builtin; clear tok; refine Hid.out ?_)
    refine unhid ?_
    refine wpList_append_pairs rfl _ _ rfl w.heap.size _ [] rfl HE.out (some x) ps.length c ps rfl rfl HS.out (fun e => by cases e) (by have := HN.out; simp; omega) HB.out.size ?_
    intro v' w' ho hg
    have HO := Lib.hid ho
    have HB1 : Hid (Below w.heap.size w w') := HB.out.grown hg HB.out.size (fun g hg => (HE.out.lt hg).1)
    clear ho hg
    go_wp2_with fail
    go_ret
    exact ⟨⟨_, rfl, HO.out⟩, HB1.out⟩
end Go.Proofs.Ytlhdjbnilfbaoaa
