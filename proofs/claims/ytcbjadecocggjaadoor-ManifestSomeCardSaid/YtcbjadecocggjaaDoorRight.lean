/- strings.ContainsAny of any text at ASCII bytes; names.Right: the walks. -/
import Derived.Test.YtcbjadecocggjaaDoorRune
import Derived.Lib.SplitLaws
namespace Go.Proofs.YtcbjadecocggjaaDoor
open Go.RowKit Plain
set_option linter.unusedVariables false
/-- What the start's variables hold. -/
structure Env (w : World) : Prop where
  most : ∃ m, w.cell? ⟨1, 0, none⟩ = some (.int .i64 m)
theorem Env.below {w w' : World} (h : Env w) (hb : Below w.heap.size w w') : Env w' := by
  obtain ⟨m, hm⟩ := h.most
  exact ⟨m, (hb.cell (p := ⟨1, 0, none⟩) (World.block_lt_of_cell? w ⟨1, 0, none⟩ hm)).trans hm⟩
theorem ascii_at {s : ByteArray} (h : Ascii s) : ∀ (j : Nat) b, s.data.toList[j]? = some b → b.toNat < 128 := fun j b hb => h b (List.mem_of_getElem? hb)
theorem indexAny_any (s chars : ByteArray) (w : World) (hs : s.size ≤ 100000) (h2 : 2 ≤ chars.size) (hc9 : chars.size ≤ 1000) (ha : Ascii chars) :
    Calls Tryd.prog 62 #[.string s, .string chars] w fun e w' => e = .returned (.int .i64 (Lib.indexAny s.data.toList chars.data.toList)) ∧ Below w.heap.size w w' := by
  by_cases h8 : s.size ≤ 8
  · exact indexAny_short s chars w h2 hc9 h8 ha
  · refine (Tryd.strings_IndexAny_long (fun W => by kernel_rfl) s chars w h2 (by omega) (by omega) (by omega) (ascii_at ha)).mono ?_
    rintro e w' ⟨rfl, rfl⟩
    exact ⟨rfl, ((Below.refl _ _).alloc (Nat.le_refl _) _).alloc (by simp) _⟩
set_option maxRecDepth 100000 in
set_option maxHeartbeats 1000000 in
theorem containsAny_any (s chars : ByteArray) (w : World) (hs : s.size ≤ 100000) (h2 : 2 ≤ chars.size) (hc9 : chars.size ≤ 1000) (ha : Ascii chars) :
    Calls Tryd.prog 48 #[.string s, .string chars] w fun e w' => e = .returned (.bool (Lib.containsAny s.data.toList chars.data.toList)) ∧ Below w.heap.size w w' := by
  have HC := Lib.hid (indexAny_any s chars w hs h2 hc9 ha)
  obtain ⟨v, hv⟩ : ∃ v, Lib.indexAny s.data.toList chars.data.toList = v := ⟨_, rfl⟩
  have HE : Hid (Lib.containsAny s.data.toList chars.data.toList = decide ((0 : Int) ≤ v)) := by show _ = _; unfold Lib.containsAny; rw [hv]
  rw [hv] at HC
  clear ha hs h2 hc9 hv
  go_enter Tryd.func48, Tryd.ntmps48
  go_wp2_with fail
  refine HC.out.mono ?_
  rintro e w' ⟨rfl, hb⟩
  go_wp2_with fail
  go_ret
  rw [HE.out]
  exact ⟨rfl, hb⟩
theorem str_eql (a b : ByteArray) (w : World) : (binOp .eql 9 (.string a) (.string b)).run Tryd.prog w = .ok (.bool (a.data.toList == b.data.toList)) w := by
  rw [binOp_string_eql, Lib.toList_data, Lib.toList_data]
  rfl
/-- Strings that lie in a row. -/
def StrsAt (w : World) (g : Nat) (ps : List ByteArray) : Prop := ∀ k p, ps[k]? = some p → w.cell? ⟨g, k, none⟩ = some (.string p)
theorem StrsAt.new (w : World) (ps : List ByteArray) (t : TypeId) : StrsAt (w.alloc (.cells (ps.map Value.string).toArray t)) w.heap.size ps := fun k p hp => by
  rw [cell_of_row _ _ _ _ _ _ (heap_alloc_new w _), List.getElem?_toArray, List.getElem?_map, hp]
  rfl
theorem next_int (k : Nat) (h : k ≤ 100000000000) : ∀ x : Int, x = (k : Int) + 1 → wrap64 x = ((k + 1 : Nat) : Int) := fun x hx => by
  subst hx
  rw [show ((k : Int) + 1) = ((k + 1 : Nat) : Int) by omega]
  exact IntWalk.wrap64_in _ (by omega)
theorem any_take_snoc {α : Type} {f : α → Bool} {l : List α} {k : Nat} {x : α} (h : l[k]? = some x) : (l.take (k + 1)).any f = ((l.take k).any f || f x) := by
  rw [List.take_add_one, h, List.any_append]
  simp
theorem any_of_take {α : Type} {f : α → Bool} {l : List α} {k : Nat} (h : (l.take k).any f = true) : l.any f = true := by
  rw [List.any_eq_true] at h ⊢
  obtain ⟨x, hx, hf⟩ := h
  exact ⟨x, List.mem_of_mem_take hx, hf⟩
set_option maxRecDepth 100000 in
set_option maxHeartbeats 8000000 in
theorem right_any (s : ByteArray) (w : World) (hE : Env w) :
    Calls Tryd.prog 29 #[.string s] w fun e w' => e = .returned (.bool (rightL s.data.toList)) ∧ Below w.heap.size w w' := by
  have hsz := Lib.size_eq s
  by_cases h255 : s.size ≤ 255
  · have hgt : ¬ (255 : Int) < (s.size : Int) := by omega
    have HC := Lib.hid (containsAny_any s ⟨#[0, 10, 13]⟩ w (by omega) (by decide) (by decide) (by unfold Ascii; decide))
    have hca : Lib.containsAny s.data.toList (⟨#[0, 10, 13]⟩ : ByteArray).data.toList = s.data.toList.any oddByte := any_idx _
    rw [hca] at HC
    cases hodd : s.data.toList.any oddByte
    · rw [hodd] at HC
      have HR : Hid (rightL s.data.toList = !(partsL s.data.toList).any badPart) := by
        show _ = _
        unfold rightL
        rw [hodd, decide_eq_true (by rw [← hsz]; exact h255)]
        rfl
      have HE := Lib.hid hE
      have HSZ := Lib.hid hsz
      clear hE hca hodd hsz
      go_enter Tryd.func29, Tryd.ntmps29
      go_wp2_with fail
      refine HC.out.mono ?_
      rintro e w1 ⟨rfl, hb1⟩
      have HB1 := Lib.hid hb1
      obtain ⟨m, hm⟩ := (HE.out.below hb1).most
      clear hb1
      go_wp2_with fail
      refine (Tryd.strings_Split s ⟨#[47]⟩ m w1 (by omega) hm (by decide)).mono ?_
      rintro e w2 ⟨rfl, hw2⟩
      have HLEN := Lib.hid (Lib.splitB_all ⟨#[47]⟩ (by decide) 0 (Lib.countB s ⟨#[47]⟩) s rfl)
      have HPS := Lib.hid (splitB_parts s)
      obtain ⟨ps, hps⟩ : ∃ ps, Lib.splitB ⟨#[47]⟩ 0 (Lib.countB s ⟨#[47]⟩) s = ps := ⟨_, rfl⟩
      rw [hps] at HLEN HPS hw2
      obtain ⟨n, hn⟩ : ∃ n, Lib.countB s ⟨#[47]⟩ + 1 = n := ⟨_, rfl⟩
      rw [hn] at HLEN
      rw [hn]
      have HST := Lib.hid (StrsAt.new w1 ps 9)
      have HB2 : Hid (Below w.heap.size w w2) := by show Below _ _ _; rw [hw2]; exact HB1.out.alloc HB1.out.size _
      rw [← hw2] at HST
      obtain ⟨g, hg⟩ : ∃ g, w1.heap.size = g := ⟨_, rfl⟩
      rw [hg] at HST
      rw [hg]
      have hnb : n ≤ 1000 := by
        have := Lib.count_le s.data.toList [47]
        have hsz := HSZ.out
        have e : Lib.countB s ⟨#[47]⟩ = Lib.count s.data.toList [47] := rfl
        omega
      clear hps hn hw2 hg hm
      go_wp2_with fail
      go_loop [15] (fun i => ∃ k : Nat, k ≤ n ∧ i = .int .i64 (k : Int) ∧ ((partsL s.data.toList).take k).any badPart = false) (fun i => n - (intOf i).toNat)
      case atStart => exact ⟨0, by omega, rfl, by simp⟩
      case round =>
        obtain ⟨k, hk, rfl, hbad⟩ := hrel
        have HBD := Lib.hid hbad
        clear hbad
        have wk := next_int k (by omega)
        by_cases hkn : k = n
        · have hkn2 : n = k := hkn.symm
          subst hkn2
          have HE2 : Hid (rightL s.data.toList = true) := by
            have h1 := HBD.out
            have h2 : (partsL s.data.toList).length = n := by rw [← HPS.out, List.length_map]; exact HLEN.out
            rw [List.take_of_length_le (by omega)] at h1
            show _ = _
            rw [HR.out, h1]
            rfl
          go_wp2_with fail
          go_ret
          rw [HE2.out]
          exact ⟨rfl, HB2.out⟩
        · have hkl : k < n := by omega
          have hki : (k : Int) < (n : Int) := by omega
          have hgp : ps[k]? = some (ps[k]'(by rw [HLEN.out]; exact hkl)) := List.getElem?_eq_getElem _
          obtain ⟨p, hp⟩ : ∃ p, ps[k]? = some p := ⟨_, hgp⟩
          have hcell := HST.out k p hp
          have HPK : Hid ((partsL s.data.toList)[k]? = some p.data.toList) := by
            show _ = _
            rw [← HPS.out, List.getElem?_map, hp]
            rfl
          have HSN := Lib.hid (any_take_snoc (f := badPart) HPK.out)
          obtain ⟨b1, hb1⟩ : ∃ b, p.toList.isEmpty = b := ⟨_, rfl⟩
          obtain ⟨b2, hb2⟩ : ∃ b, (p.toList == [46]) = b := ⟨_, rfl⟩
          obtain ⟨b3, hb3⟩ : ∃ b, (p.toList == [46, 46]) = b := ⟨_, rfl⟩
          have HBQ : Hid (badPart p.data.toList = (b1 || b2 || b3)) := by
            show _ = _
            rw [← hb1, ← hb2, ← hb3, Lib.toList_data]
            unfold badPart
            cases p.data.toList <;> rfl
          clear hgp hp
          have hfin : ∀ b : Bool, (b1 || b2 || b3) = b → Hid ((((partsL s.data.toList).take (k + 1)).any badPart = b) ∧ (b = true → rightL s.data.toList = false)) := fun b hb => by
            show _ ∧ _
            have e : ((partsL s.data.toList).take (k + 1)).any badPart = b := by rw [HSN.out, HBD.out, HBQ.out, hb]; rfl
            refine ⟨e, fun h => ?_⟩
            rw [HR.out, any_of_take (by rw [e]; exact h)]
            rfl
          cases b1
          · cases b2
            · cases b3
              · have HF := hfin false rfl
                have n2 : ¬ p.toList = [46] := beq_eq_false_iff_ne.1 hb2
                have n3 : ¬ p.toList = [46, 46] := beq_eq_false_iff_ne.1 hb3
                clear hfin
                go_wp2_with fail
                exact ⟨⟨k + 1, by omega, by first | rfl | exact congrArg (Value.int .i64) (wk _ rfl), HF.out.1⟩, by simp [intOf]; omega⟩
              · have HF := Lib.hid ((hfin true rfl).out.2 rfl)
                have n2 : ¬ p.toList = [46] := beq_eq_false_iff_ne.1 hb2
                clear hfin
                go_wp2_with fail
                go_ret
                rw [HF.out]
                exact ⟨rfl, HB2.out⟩
            · have HF := Lib.hid ((hfin true rfl).out.2 rfl)
              clear hfin
              go_wp2_with fail
              go_ret
              rw [HF.out]
              exact ⟨rfl, HB2.out⟩
          · have HF := Lib.hid ((hfin true rfl).out.2 rfl)
            clear hfin
            go_wp2_with fail
            go_ret
            rw [HF.out]
            exact ⟨rfl, HB2.out⟩
    · rw [hodd] at HC
      have HR : Hid (rightL s.data.toList = false) := by
        show _ = _
        unfold rightL
        rw [hodd]
        simp
      clear hE hca hodd hsz
      go_enter Tryd.func29, Tryd.ntmps29
      go_wp2_with fail
      refine HC.out.mono ?_
      rintro e w1 ⟨rfl, hb1⟩
      go_wp2_with fail
      go_ret
      rw [HR.out]
      exact ⟨rfl, hb1⟩
  · have hgt : (255 : Int) < (s.size : Int) := by omega
    have HR : Hid (rightL s.data.toList = false) := by
      show _ = _
      unfold rightL
      rw [decide_eq_false (by rw [← hsz]; exact h255)]
      rfl
    clear hE h255 hsz
    go_enter Tryd.func29, Tryd.ntmps29
    go_wp2_with fail
    go_ret
    rw [HR.out]
    exact ⟨rfl, Below.refl _ _⟩
end Go.Proofs.YtcbjadecocggjaaDoor
