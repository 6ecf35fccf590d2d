/- The document's paths: the walks. -/
import Derived.Test.YthokcdjmhhlcdaaGreatDoorRight
import Derived.Deep.AppendLies
import Derived.Test.YthokcdjmhhlcdaaGreatDoorChRow
import Derived.Test.YthokcdjmhhlcdaaGreatDoorChBase
namespace Go.Proofs.YthokcdjmhhlcdaaGreatDoor
open Go.RowKit Plain
set_option linter.unusedVariables false
theorem str_parts : ∃ i, Tryz.prog.info? 9 = some i ∧ i.zero = some (.string ⟨#[]⟩) ∧ i.size = 1 ∧ i.bytes = 16 := by
  have h : (Tryz.prog.info? 9).map (fun i => (i.size, i.bytes)) = some (1, 16) := by kernel_rfl
  have h2 : (Tryz.prog.info? 9).bind (fun i => i.zero) = some (.string ⟨#[]⟩) := by kernel_rfl
  obtain ⟨i, hi, he⟩ := Option.map_eq_some_iff.1 h
  rw [hi] at h2
  simp only [Prod.mk.injEq] at he
  exact ⟨i, hi, h2, he⟩
def SR (l : List ByteArray) : List Value := l.map Value.string
/-- append(v, s): one string more. -/
theorem wpList_append_str {w : World} {ops : Array Oper} {rest : List Oper} {o : Oper} {ac : Act} {Q : Exit → Act → World → Prop} (hgd : o.guard = none) (s x : Operand)
    (ho : o.op = .call { callee := .builtin .append, args := #[s, x], argTypes := #[24, 24] })
    (base : Nat) (v : Value) (n : Nat) (xs : List ByteArray) (hs : ac.eval s = v) (hown : w.ownsRow base 9 1 v n (SR xs)) (g0 : Nat) (y : ByteArray) (hx : ac.eval x = .slice (some ⟨g0, 0, none⟩) 1 1) (hy : w.cell? ⟨g0, 0, none⟩ = some (.string y))
    (hsum : n + 1 ≤ 100000001) (hbase : base ≤ w.heap.size)
    (h : ∀ g c w', w'.ownsRow base 9 1 (.slice (some ⟨g, 0, none⟩) (n + 1) c) (n + 1) (SR (xs ++ [y])) → w.grownBy w' v.ownBlock → wpList Tryz.prog ops Q rest (ac.put o.dst (.slice (some ⟨g, 0, none⟩) (n + 1) c)) w') : wpList Tryz.prog ops Q (o :: rest) ac w := by
  obtain ⟨i, hi, hz, h1, h8⟩ := str_parts
  refine wpList_append_lies w hgd s x 24 ho base 9 i (.string ⟨#[]⟩) 1 16 Tryz.underlying24 hi hz h1 h8 rfl (by omega) v n (SR xs) hs hown ⟨g0, 0, none⟩ 1 1 [.string y] hx rfl ?_ ?_ (by omega) (by unfold maxLen; omega) (by omega) hbase _ rfl fun g c w' a1 a2 a3 a4 => ?_
  · intro j u hu
    match j, hu with
    | 0, hu =>
      have e : (⟨g0, 0, none⟩ : Addr).add 0 = ⟨g0, 0, none⟩ := by unfold Addr.add; simp
      rw [e, hy]
      exact hu
  · intro u hu
    rw [List.mem_singleton] at hu
    subst hu
    rfl
  · have e : SR (xs ++ [y]) = SR xs ++ [.string y] := by unfold SR; rw [List.map_append]; rfl
    exact h g c w' (by rw [e]; exact a1) a2
theorem lit_val (w : World) (x : Value) (t : TypeId) : (w.alloc (.cells #[x] t)).cell? ⟨w.heap.size, 0, none⟩ = some x := by
  rw [cell_of_row _ _ _ _ _ _ (heap_alloc_new w _)]
  rfl
theorem row_lower {w : World} {base base' n size : Nat} {e : TypeId} {v : Value} {xs : List Value} (h : w.ownsRow base e size v n xs) (hb : base' ≤ base) : w.ownsRow base' e size v n xs :=
  ⟨h.1, h.2.imp id fun ⟨g, cap, cur, e1, h1, r⟩ => ⟨g, cap, cur, e1, Nat.le_trans hb h1, r⟩⟩
theorem strs_own {w : World} {base n c g : Nat} {xs : List ByteArray} (h : w.ownsRow base 9 1 (.slice (some ⟨g, 0, none⟩) n c) n (SR xs)) : StrsAt w g xs := fun k p hp => by
  have hk : k < xs.length := (List.getElem?_eq_some_iff.1 hp).1
  have hl := h.1
  unfold SR at hl
  rw [List.length_map] at hl
  rw [h.cellAt k (by omega)]
  unfold SR
  rw [List.getElem?_map, hp]
  rfl
theorem extract_one (s : ByteArray) (k : Nat) (hk : k < s.size) : (s.extract k (k + 1)).data.toList = [s[k]'hk] := by
  rw [Lib.extract_data, show k + 1 - k = 1 by omega]
  have h := Lib.data_getElem? s k hk
  have hk2 := (List.getElem?_eq_some_iff.1 h).1
  rw [List.drop_eq_getElem_cons hk2]
  have : s.data.toList[k] = s[k]'hk := by
    rw [List.getElem?_eq_getElem hk2] at h
    injection h
  rw [this]
  rfl
theorem at8_is (s : ByteArray) (k : Nat) (hk : k < s.size) : at8 s k = (s[k]'hk).toNat := by
  unfold at8
  rw [Lib.data_getElem? s k hk]
  rfl
theorem list_take_snoc (s : ByteArray) (k : Nat) (hk : k < s.size) : s.data.toList.take (k + 1) = s.data.toList.take k ++ [s[k]'hk] := by
  rw [List.take_add_one, Lib.data_getElem? s k hk]
  rfl
set_option maxRecDepth 100000 in
set_option maxHeartbeats 4000000 in
theorem parts_any (s : ByteArray) (w : World) (hs : s.size ≤ 100000) :
    Calls Tryz.prog 41 #[.string s] w fun e w' => (∃ g n c ps, e = .returned (.slice (some ⟨g, 0, none⟩) n c) ∧ StrsAt w' g ps ∧ ps.length = n ∧ ps.map (·.data.toList) = partsL s.data.toList ∧ n ≤ 100001) ∧ Below w.heap.size w w' := by
  go_enter Tryz.func41, Tryz.ntmps41
  go_wp2_with fail
  go_loopw [3, 4, 5] (fun l o i wr => ∃ (k : Nat) (oa : Option Addr) (oc m : Nat) (don : List ByteArray) (one : ByteArray), k ≤ s.size ∧ i = .int .i64 (k : Int) ∧ l = .slice oa m oc ∧ o = .string one ∧ wr.ownsRow w.heap.size 9 1 (.slice oa m oc) m (SR don) ∧ m ≤ k ∧ one.size ≤ k ∧ partsL (s.data.toList.take k) = don.map (·.data.toList) ++ [one.data.toList] ∧ Below w.heap.size w wr) (fun _ _ i _ => s.size - (intOf i).toNat)
  case atStart => exact ⟨0, none, 0, 0, [], ⟨#[]⟩, by omega, rfl, rfl, rfl, World.ownsRow_nil _ _ _ _, by omega, by decide, by rw [List.take_zero]; rfl, Below.refl _ _⟩
  case round =>
    obtain ⟨k, oa, oc, m, don, one, hk, rfl, rfl, rfl, hown, hm, ho, hp, hb⟩ := hrel
    have HO := Lib.hid hown
    have HP := Lib.hid hp
    have HB := Lib.hid hb
    clear hown hp hb
    have wk := next_int k (by omega)
    have HBA := Lib.hid (fun o1 => HB.out.alloc HB.out.size o1)
    have HOA := Lib.hid (fun o1 => HO.out.alloc o1)
    have HLI := Lib.hid (fun t => lit_val wr (.string one) t)
    by_cases hkn : k = s.size
    · have tok : True := trivial
      have hkn2 : s.size = k := hkn.symm
      have hik : ((s.size : Nat) : Int) = (k : Int) := by omega
      have hnlt : ¬ (k : Int) < ((s.size : Nat) : Int) := by omega
      have HFIN : Hid (s.data.toList.take k = s.data.toList) := List.take_of_length_le (by rw [← Lib.size_eq]; omega)
      clear hkn hkn2 hik
      go_wp2_with (have _t := tok; at_builtin; clear tok; refine Hid.out ?_)
      refine unhid ?_
      refine wpList_append_str rfl _ _ rfl w.heap.size (.slice oa m oc) m don rfl (HOA.out _) wr.heap.size one rfl (HLI.out _) (by omega) (HBA.out _).size (fun g c w' h1 h2 => ?_)
      have HS := Lib.hid (strs_own h1)
      have HL : Hid ((don ++ [one]).length = m + 1) := by
        have := h1.1
        unfold SR at this
        rw [List.length_map] at this
        show _ = _
        omega
      have HB2 : Hid (Below w.heap.size w w') := (HBA.out _).grown h2 (HBA.out _).size (fun g hg => (HO.out.lt g hg).1)
      clear h1 h2
      go_wp2_with fail
      go_ret
      refine ⟨⟨g, m + 1, c, don ++ [one], rfl, HS.out, HL.out, ?_, by omega⟩, HB2.out⟩
      rw [List.map_append, ← HFIN.out, HP.out]
      rfl
    · have hkl : k < s.size := by omega
      have hki : (k : Int) < (s.size : Int) := by omega
      have HIX := Lib.hid (fun W => index_text s k hkl (k : Int) rfl W)
      have hix := HIX.out
      rw [at8_is s k hkl] at hix
      have HSN := Lib.hid (list_take_snoc s k hkl)
      have HPS := Lib.hid (partsL_snoc (s.data.toList.take k) (s[k]'hkl) _ _ HP.out)
      rw [← HSN.out] at HPS
      have hex := extract_one s k hkl
      have hes : (s.extract k (k + 1)).size = 1 := by rw [Lib.size_eq, hex]; rfl
      have hadd : ∀ W, (Op.stringOp .add one (s.extract k (k + 1))).run Tryz.prog W = .ok (.string (one ++ s.extract k (k + 1))) W := fun W => run_string_add_sum W one _ (by rw [hes]; omega)
      have hsl := fun W => slice_text s k (k + 1) (by omega) (by omega) ((k : Int) + 1) (by omega) W
      obtain ⟨b, hbb⟩ : ∃ b, s[k]'hkl = b := ⟨_, rfl⟩
      rw [hbb] at hix HPS hex
      have HEX := Lib.hid hex
      clear hbb hex hes
      by_cases h47 : b = 47
      · subst h47
        have hb1 : (((47 : UInt8).toNat : Nat) : Int) = 47 := rfl
        rw [hb1] at hix
        rw [if_pos rfl] at HPS
        have tok : True := trivial
        go_wp2_with (have _t := tok; at_builtin; clear tok; refine Hid.out ?_)
        refine unhid ?_
        refine wpList_append_str rfl _ _ rfl w.heap.size (.slice oa m oc) m don rfl (HOA.out _) wr.heap.size one rfl (HLI.out _) (by omega) (HBA.out _).size (fun g c w' h1 h2 => ?_)
        have HO1 := Lib.hid h1
        have HB2 : Hid (Below w.heap.size w w') := (HBA.out _).grown h2 (HBA.out _).size (fun g hg => (HO.out.lt g hg).1)
        clear h1 h2
        go_wp2_with fail
        exact ⟨⟨k + 1, some ⟨g, 0, none⟩, c, m + 1, don ++ [one], ⟨#[]⟩, by omega, by first | rfl | exact congrArg (Value.int .i64) (wk _ rfl), rfl, rfl, HO1.out, by omega, by show 0 ≤ _; omega, by rw [HPS.out, List.map_append, List.append_assoc]; rfl, HB2.out⟩, by simp [intOf]; omega⟩
      · have hb1 : ¬ (((b.toNat : Nat) : Int)) = 47 := fun e => h47 (by
          apply UInt8.toNat_inj.1
          show b.toNat = 47
          omega)
        have hb2 : ((((b.toNat : Nat) : Int)) == 47) = false := beq_eq_false_iff_ne.2 hb1
        rw [if_neg h47] at HPS
        have HSZ : Hid ((one ++ s.extract k (k + 1)).size ≤ k + 1) := by
          show _ ≤ _
          rw [ByteArray.size_append]
          have : (s.extract k (k + 1)).size = 1 := by rw [Lib.size_eq, HEX.out]; rfl
          omega
        have HDT : Hid ((one ++ s.extract k (k + 1)).data.toList = one.data.toList ++ [b]) := by
          show _ = _
          rw [ByteArray.data_append, Array.toList_append, HEX.out]
        clear h47
        generalize ((b.toNat : Nat) : Int) = bi at *
        go_wp2_with fail
        exact ⟨⟨k + 1, oa, oc, m, don, one ++ s.extract k (k + 1), by omega, by first | rfl | exact congrArg (Value.int .i64) (wk _ rfl), rfl, rfl, HO.out, by omega, HSZ.out, by rw [HPS.out, HDT.out], HB.out⟩, by simp [intOf]; omega⟩
set_option maxRecDepth 100000 in
set_option maxHeartbeats 8000000 in
theorem refRight_any (s : ByteArray) (w : World) :
    Calls Tryz.prog 20 #[.string s] w fun e w' => e = .returned (.bool (rightL s.data.toList)) ∧ Below w.heap.size w w' := by
  have hsz := Lib.size_eq s
  by_cases h255 : s.size ≤ 255
  · have hgt : ¬ (255 : Int) < (s.size : Int) := by omega
    have HSZ := Lib.hid hsz
    have HR : Hid (s.data.toList.any oddByte = false → rightL s.data.toList = !(partsL s.data.toList).any badPart) := fun hodd => by
      unfold rightL
      rw [hodd, decide_eq_true (by rw [← hsz]; exact h255)]
      rfl
    have HR2 : Hid (s.data.toList.any oddByte = true → rightL s.data.toList = false) := fun hodd => by
      unfold rightL
      rw [hodd]
      simp
    clear hsz
    have HPA := Lib.hid (parts_any s · (by omega))
    go_enter Tryz.func20, Tryz.ntmps20
    go_wp2_with fail
    go_loopw [3] (fun i wr => ∃ k : Nat, k ≤ s.size ∧ i = .int .i64 (k : Int) ∧ (s.data.toList.take k).any oddByte = false ∧ wr = w) (fun i _ => s.size - (intOf i).toNat)
    case atStart => exact ⟨0, by omega, rfl, by simp, rfl⟩
    case round =>
      obtain ⟨k, hk, rfl, ho, rfl⟩ := hrel
      have HO := Lib.hid ho
      clear ho
      have wk := next_int k (by omega)
      by_cases hkn : k = s.size
      · have HODD : Hid (s.data.toList.any oddByte = false) := by
          have := HO.out
          rw [List.take_of_length_le (by rw [← HSZ.out]; omega)] at this
          exact this
        have HRR := Lib.hid (HR.out HODD.out)
        have hnlt : ¬ (k : Int) < ((s.size : Nat) : Int) := by omega
        clear hkn
        go_wp2_with fail
        refine (HPA.out _).mono ?_
        rintro e w1 ⟨⟨g, n, c, ps, rfl, hst, hpl, hpm, hn⟩, hb⟩
        have HST := Lib.hid hst
        have HLEN := Lib.hid hpl
        have HPS := Lib.hid hpm
        have HB1 := Lib.hid hb
        have hg : g < w1.heap.size ∨ n = 0 := by
          cases hp : ps[0]? with
          | none =>
            right
            have := List.getElem?_eq_none_iff.1 hp
            omega
          | some p => exact .inl (World.block_lt_of_cell? w1 _ (hst 0 p hp))
        clear hst hpl hpm hb
        go_wp2_with fail
        go_loop [5] (fun i => ∃ k : Nat, k ≤ n ∧ i = .int .i64 (k : Int) ∧ ((partsL s.data.toList).take k).any badPart = false) (fun i => n - (intOf i).toNat)
        case atStart => exact ⟨0, by omega, rfl, by simp⟩
        case round =>
          obtain ⟨j, hj, rfl, hbad⟩ := hrel
          have HBD := Lib.hid hbad
          clear hbad
          have wj := next_int j (by omega)
          by_cases hjn : j = n
          · have hjn2 : n = j := hjn.symm
            subst hjn2
            have HE2 : Hid (rightL s.data.toList = true) := by
              have h1 := HBD.out
              have h2 : (partsL s.data.toList).length = n := by rw [← HPS.out, List.length_map]; exact HLEN.out
              rw [List.take_of_length_le (by omega)] at h1
              show _ = _
              rw [HRR.out, h1]
              rfl
            go_wp2_with fail
            go_ret
            rw [HE2.out]
            exact ⟨rfl, HB1.out⟩
          · have hjl : j < n := by omega
            have hji : (j : Int) < (n : Int) := by omega
            have hgp : ps[j]? = some (ps[j]'(by rw [HLEN.out]; exact hjl)) := List.getElem?_eq_getElem _
            obtain ⟨p, hp⟩ : ∃ p, ps[j]? = some p := ⟨_, hgp⟩
            have hcell := HST.out j p hp
            have HPK : Hid ((partsL s.data.toList)[j]? = some p.data.toList) := by
              show _ = _
              rw [← HPS.out, List.getElem?_map, hp]
              rfl
            have HSN := Lib.hid (any_take_snoc (f := badPart) HPK.out)
            obtain ⟨b1, hb1⟩ : ∃ b, p.toList.isEmpty = b := ⟨_, rfl⟩
            obtain ⟨b2, hb2⟩ : ∃ b, (p.toList == [46]) = b := ⟨_, rfl⟩
            obtain ⟨b3, hb3⟩ : ∃ b, (p.toList == [46, 46]) = b := ⟨_, rfl⟩
            have HBQ : Hid (badPart p.data.toList = (b1 || b2 || b3)) := by
              show _ = _
              rw [← hb1, ← hb2, ← hb3, Lib.toList_data]
              unfold badPart
              cases p.data.toList <;> rfl
            clear hgp hp
            have hfin : ∀ b : Bool, (b1 || b2 || b3) = b → Hid ((((partsL s.data.toList).take (j + 1)).any badPart = b) ∧ (b = true → rightL s.data.toList = false)) := fun b hb => by
              show _ ∧ _
              have e : ((partsL s.data.toList).take (j + 1)).any badPart = b := by rw [HSN.out, HBD.out, HBQ.out, hb]; rfl
              refine ⟨e, fun h => ?_⟩
              rw [HRR.out, any_of_take (by rw [e]; exact h)]
              rfl
            cases b1
            · cases b2
              · cases b3
                · have HF := hfin false rfl
                  have n2 : ¬ p.toList = [46] := beq_eq_false_iff_ne.1 hb2
                  have n3 : ¬ p.toList = [46, 46] := beq_eq_false_iff_ne.1 hb3
                  clear hfin
                  go_wp2_with fail
                  exact ⟨⟨j + 1, by omega, by first | rfl | exact congrArg (Value.int .i64) (wj _ rfl), HF.out.1⟩, by simp [intOf]; omega⟩
                · have HF := Lib.hid ((hfin true rfl).out.2 rfl)
                  have n2 : ¬ p.toList = [46] := beq_eq_false_iff_ne.1 hb2
                  clear hfin
                  go_wp2_with fail
                  go_ret
                  rw [HF.out]
                  exact ⟨rfl, HB1.out⟩
              · have HF := Lib.hid ((hfin true rfl).out.2 rfl)
                clear hfin
                go_wp2_with fail
                go_ret
                rw [HF.out]
                exact ⟨rfl, HB1.out⟩
            · have HF := Lib.hid ((hfin true rfl).out.2 rfl)
              clear hfin
              go_wp2_with fail
              go_ret
              rw [HF.out]
              exact ⟨rfl, HB1.out⟩
      · have hkl : k < s.size := by omega
        have hki : (k : Int) < ((s.size : Nat) : Int) := by omega
        have hix := fun W => index_text s k hkl (k : Int) rfl W
        rw [at8_is s k hkl] at hix
        have HSN := Lib.hid (any_take_snoc (f := oddByte) (Lib.data_getElem? s k hkl))
        obtain ⟨b, hbb⟩ : ∃ b, s[k]'hkl = b := ⟨_, rfl⟩
        rw [hbb] at hix HSN
        have hodd : oddByte b = (((b.toNat : Nat) : Int) == 0 || ((b.toNat : Nat) : Int) == 10 || ((b.toNat : Nat) : Int) == 13) := by
          have key : ∀ m : Fin 256, oddByte (UInt8.ofNat m.val) = (((m.val : Nat) : Int) == 0 || ((m.val : Nat) : Int) == 10 || ((m.val : Nat) : Int) == 13) := by decide +kernel
          have := key ⟨b.toNat, b.toNat_lt⟩
          simpa using this
        have HODD := Lib.hid hodd
        clear hbb hodd
        generalize ((b.toNat : Nat) : Int) = x at *
        have hfin : ∀ v : Bool, ((x == 0) || (x == 10) || (x == 13)) = v → Hid (((s.data.toList.take (k + 1)).any oddByte = v) ∧ (v = true → rightL s.data.toList = false)) := fun v hv => by
          show _ ∧ _
          have e : (s.data.toList.take (k + 1)).any oddByte = v := by rw [HSN.out, HO.out, HODD.out, hv]; rfl
          exact ⟨e, fun h => HR2.out (any_of_take (by rw [e]; exact h))⟩
        by_cases x0 : x = 0
        · subst x0
          have HF := Lib.hid ((hfin true rfl).out.2 rfl)
          clear hfin
          go_wp2_with fail
          go_ret
          rw [HF.out]
          exact ⟨rfl, Below.refl _ _⟩
        · have x0b : (x == 0) = false := beq_eq_false_iff_ne.2 x0
          by_cases x1 : x = 10
          · subst x1
            have HF := Lib.hid ((hfin true rfl).out.2 rfl)
            clear hfin
            go_wp2_with fail
            go_ret
            rw [HF.out]
            exact ⟨rfl, Below.refl _ _⟩
          · have x1b : (x == 10) = false := beq_eq_false_iff_ne.2 x1
            by_cases x2 : x = 13
            · subst x2
              have HF := Lib.hid ((hfin true rfl).out.2 rfl)
              clear hfin
              go_wp2_with fail
              go_ret
              rw [HF.out]
              exact ⟨rfl, Below.refl _ _⟩
            · have x2b : (x == 13) = false := beq_eq_false_iff_ne.2 x2
              have HF := Lib.hid (hfin false (by rw [x0b, x1b, x2b]; rfl)).out.1
              clear hfin
              go_wp2_with fail
              exact ⟨⟨k + 1, by omega, by first | rfl | exact congrArg (Value.int .i64) (wk _ rfl), HF.out, by first | trivial | rfl⟩, by simp [intOf]; omega⟩
  · have hgt : (255 : Int) < (s.size : Int) := by omega
    have HR : Hid (rightL s.data.toList = false) := by
      show _ = _
      unfold rightL
      rw [decide_eq_false (by rw [← hsz]; exact h255)]
      rfl
    clear h255 hsz
    go_enter Tryz.func20, Tryz.ntmps20
    go_wp2_with fail
    go_ret
    rw [HR.out]
    exact ⟨rfl, Below.refl _ _⟩
end Go.Proofs.YthokcdjmhhlcdaaGreatDoor
