/- The document's files of a path. -/
import Derived.Test.YtcbjadecocggjaaDoorMgDiff
import Derived.Test.YtcbjadecocggjaaDoorMfRefRight
namespace Go.Proofs.YtcbjadecocggjaaDoor
open Go.Sort Go.RowKit Go.WideMaps Go.Maps Plain Go.ChangeShapes Go.WideShapes Go.ChangeAt Go.Great
set_option linter.unusedVariables false
set_option linter.unusedSimpArgs false
theorem eq_strM (a b : ByteArray) (W : World) : (binOp .eql 9 (.string a) (.string b)).run Tryd.prog W = .ok (.bool (a.toList == b.toList)) W := by
  rw [binOp_string_eql]; rfl
theorem path_eq (a b : ByteArray) : (a.toList == b.toList) = (a.data.toList == b.data.toList) := by
  rw [Lib.toList_data, Lib.toList_data]
theorem wpList_sliceM {P : Program} {w : World} {ops : Array Oper} {rest : List Oper} {o : Oper} {a : Act} {Q : Exit → Act → World → Prop} (hw : Region.wanted o (yielded ops a.tmps) = true) (ty : TypeId) (len : Nat) (ps : Array (Nat × Operand)) (ho : o.op = .buildSlice ty len ps)
    (qs : Array (Nat × Value)) (hq : (ps.map fun (i, x) => (i, a.eval x)) = qs) (v : Value) (w' : World) (hr : (Instr.buildSlice ty len qs).run P w = .ok v w') (h : wpList P ops Q rest (a.put o.dst v) w') : wpList P ops Q (o :: rest) a w := by
  refine wpList_step ?_
  intro K hK
  rw [if_pos hw]
  unfold Oper.wp execOp
  simp only [ho, Sem.run_bind, hq, hr, Result.andThen_ok]
  exact hK _ _ h
theorem wpList_append_rfile {w : World} {ops : Array Oper} {rest : List Oper} {o : Oper} {ac : Act} {Q : Exit → Act → World → Prop} (hgd : o.guard = none) (s x : Operand)
    (ho : o.op = .call { callee := .builtin .append, args := #[s, x], argTypes := #[22, 22] })
    (base : Nat) (v : Value) (xs : List MF) (n : Nat) (hn : xs.length = n) (hs : ac.eval s = v) (hown : OwnF 45 w base v xs) (g0 : Nat) (y : MF) (hy20 : y.n.length = 20) (hx : ac.eval x = .slice (some ⟨g0, 0, none⟩) 1 1) (hy : w.rangeAt g0 0 (fileL y))
    (hsum : n + 1 ≤ 1000001) (hbase : base ≤ w.heap.size)
    (h : ∀ g c w', OwnF 45 w' base (.slice (some ⟨g, 0, none⟩) (n + 1) c) (xs ++ [y]) → w.grownBy w' v.ownBlock → (v.ownBlock = some g ∨ g = w.heap.size) → g < w'.heap.size → wpList Tryd.prog ops Q rest (ac.put o.dst (.slice (some ⟨g, 0, none⟩) (n + 1) c)) w') :
    wpList Tryd.prog ops Q (o :: rest) ac w := by
  refine wpList_step ?_
  intro K hK
  have h1 := step_append_rfile (ops := ops) (E := True) (K := K) (Q := Q) hgd s x ho base v xs n hn hs hown g0 y hy20 hx hy hsum hbase (fun g c w' h1 h2 h3 h4 => hK _ _ (h g c w' h1 h2 h3 h4))
  rw [if_pos (by simp [Region.wanted, hgd])] at h1 ⊢
  exact h1
theorem ofL_take {a : List UInt8} {l : List MF} {k : Nat} {x : MF} (h : l[k]? = some x) : ofL a (l.take (k + 1)) = if pL x = a then ofL a (l.take k) ++ [x] else ofL a (l.take k) := by
  have e : l.take (k + 1) = l.take k ++ [x] := by rw [List.take_add_one, h]; rfl
  rw [e, ofL_snoc]
set_option maxRecDepth 100000 in
set_option maxHeartbeats 16000000 in
theorem of_any (a : Option Addr) (c : Nat) (xs : List MF) (p : ByteArray) (w : World) (h : FsAt w a xs) (hn : xs.length ≤ 1000000) :
    Calls Tryd.prog 16 #[.slice a xs.length c, .string p] w fun e w' => (∃ v, e = .returned v ∧ OwnF 45 w' w.heap.size v (ofL p.data.toList xs)) ∧ Below w.heap.size w w' := by
  have H := Lib.hid h
  obtain ⟨n, hnl⟩ : ∃ n, xs.length = n := ⟨_, rfl⟩
  have HN := Lib.hid hnl
  have HNB : Hid (n ≤ 1000000) := by show _ ≤ _; omega
  rw [hnl]
  clear h hn hnl
  go_enter Tryd.func16, Tryd.ntmps16
  go_wp2_with fail
  go_loopw [5, 6] (fun v i wr => ∃ k : Nat, k ≤ n ∧ i = .int .i64 (k : Int) ∧ OwnF 45 wr w.heap.size v (ofL p.data.toList (xs.take k)) ∧ Below w.heap.size w wr) (fun _ i _ => n - (intOf i).toNat)
  case atStart => exact ⟨0, Nat.zero_le _, rfl, by rw [List.take_zero]; exact OwnF.nil _ _ _, Below.refl _ _⟩
  case round =>
    obtain ⟨k, hk, rfl, ho, hb⟩ := hrel
    have HO := Lib.hid ho
    have HB := Lib.hid hb
    have WK := Lib.hid (next_int k (by have := HNB.out; omega))
    clear ho hb
    by_cases hkn : k = n
    · subst hkn
      have hki : ¬ (k : Int) < (k : Int) := by omega
      have HO2 : Hid (OwnF 45 wr w.heap.size u5 (ofL p.data.toList xs)) := by
        have hall : xs.take k = xs := List.take_of_length_le (by rw [HN.out]; omega)
        have h1 := HO.out
        rwa [hall] at h1
      clear hk
      go_wp2_with fail
      go_ret
      exact ⟨⟨_, rfl, HO2.out⟩, HB.out⟩
    · have hki : (k : Int) < (n : Int) := by omega
      have hk0 : (0 : Int) ≤ (k : Int) := Int.natCast_nonneg k
      obtain ⟨b, off, x, rfl, hx, h20, hbl, hr⟩ := H.out.at (k := k) (by rw [HN.out]; omega)
      have HC : Hid (∀ W, Below w.heap.size w W → W.rangeAt b (off + k * 22) (fileL x)) := fun W hW => range_below hr hW hbl
      have H20 := Lib.hid h20
      have HX := Lib.hid hx
      have HKL : Hid (k < n ∧ n ≤ 1000000) := by have := HNB.out; show _ ∧ _; omega
      have q1 : wr.cell? ⟨b, off + k * 22, none⟩ = some (.string x.p) := range_path (HC.out wr HB.out)
      have hil := rfile_infoL x h20
      have HIL := Lib.hid hil
      have HRX := Lib.hid (HC.out wr HB.out)
      have tok : True := trivial
      obtain ⟨bl, hbl2⟩ : ∃ b, (x.p.toList == p.toList) = b := ⟨_, rfl⟩
      have HEQ : Hid (∀ W, (binOp .eql 9 (.string x.p) (.string p)).run Tryd.prog W = .ok (.bool bl) W) := fun W => by rw [eq_strM, hbl2]
      have hpx : (pL x == p.data.toList) = bl := by rw [← hbl2, path_eq]; rfl
      clear hx h20 hbl hr hk hkn hil hbl2
      cases bl
      · have HE : Hid (ofL p.data.toList (xs.take (k + 1)) = ofL p.data.toList (xs.take k)) := by
          show _ = _
          rw [ofL_take HX.out, if_neg (by simpa using hpx)]
        clear hpx tok
        go_wp2_with (first
          | refine wpList_eql (by rfl) .eql 9 _ _ _ rfl (.string x.p) (.string p) rfl rfl (.bool false) (guard_eq _ _ _ _) (fun W => HEQ.out W) ?_)
        exact ⟨⟨k + 1, by have := HKL.out; omega, by first | rw [WK.out _ rfl] | rfl, by rw [HE.out]; exact HO.out, HB.out⟩, by have := HKL.out; (first | rw [WK.out _ rfl] | skip); simp [intOf]; omega⟩
      · have HE : Hid (ofL p.data.toList (xs.take (k + 1)) = ofL p.data.toList (xs.take k) ++ [x]) := by
          show _ = _
          rw [ofL_take HX.out, if_pos (by simpa using hpx)]
        obtain ⟨m, hm⟩ : ∃ m, (ofL p.data.toList (xs.take k)).length = m := ⟨_, rfl⟩
        have HMQ := Lib.hid hm
        have HML : Hid (m ≤ k) := by
          have h1 := ofL_len p.data.toList (xs.take k)
          rw [List.length_take] at h1
          show _ ≤ _; omega
        have HWA : Hid (Below wr.heap.size wr (wr.alloc (.cells (fileA x) 45))) := (Below.refl _ _).alloc (Nat.le_refl _) _
        have HOA : Hid (OwnF 45 (wr.alloc (.cells (fileA x) 45)) w.heap.size u5 (ofL p.data.toList (xs.take k))) := HO.out.below HWA.out
        have HRA : Hid ((wr.alloc (.cells (fileA x) 45)).rangeAt wr.heap.size 0 (fileL x)) := row_file (heap_alloc_new wr _)
        clear hpx hm
        go_wp2_with (first
          | refine wpList_eql (by rfl) .eql 9 _ _ _ rfl (.string x.p) (.string p) rfl rfl (.bool true) (guard_eq _ _ _ _) (fun W => HEQ.out W) ?_
          | refine wpList_file rfl 45 _ rfl b (off + k * 22) rfl x _ HRX.out Tryd.underlying45 rfl HIL.out ?_
          | refine wpList_sliceM (by rfl) _ _ _ rfl #[(0, .agg (fileA x))] (map_one _ _ _ rfl) _ _ (slice_rfile x H20.out _) ?_
          | (have _t := tok; at_builtin; clear tok; refine Hid.out ?_))
        refine unhidM ?_
        refine wpList_append_rfile rfl _ _ rfl w.heap.size _ (ofL p.data.toList (xs.take k)) m HMQ.out rfl HOA.out wr.heap.size x H20.out rfl HRA.out (by have := HKL.out; have := HML.out; omega) (Nat.le_trans HB.out.size HWA.out.size) ?_
        intro gv cv w5 hv5 hgr hloc hlt
        have HO5 : Hid (OwnF 45 w5 w.heap.size (.slice (some ⟨gv, 0, none⟩) (m + 1) cv) (ofL p.data.toList (xs.take k) ++ [x])) := hv5
        have HB5 : Hid (Below w.heap.size w w5) := (HB.out.trans (HWA.out.mono HB.out.size)).trans (own_off HOA.out (Nat.le_trans HB.out.size HWA.out.size) hgr)
        clear hv5 hgr hloc hlt
        go_wp2_with fail
        exact ⟨⟨k + 1, by have := HKL.out; omega, by first | rw [WK.out _ rfl] | rfl, by rw [HE.out]; exact HO5.out, HB5.out⟩, by have := HKL.out; (first | rw [WK.out _ rfl] | skip); simp [intOf]; omega⟩
end Go.Proofs.YtcbjadecocggjaaDoor
