/- marks.Add: the walk. -/
import Derived.Test.YtlhdjbnilfbaoaaConcat
namespace Go.Proofs.Ytlhdjbnilfbaoaa
open Go.RowKit
set_option linter.unusedVariables false
theorem wpList_slice {P : Program} {w : World} {ops : Array Oper} {rest : List Oper} {o : Oper} {a : Act} {Q : Exit → Act → World → Prop} (hgd : o.guard = none) (ty : TypeId) (len : Nat) (ps : Array (Nat × Operand)) (ho : o.op = .buildSlice ty len ps)
    (qs : Array (Nat × Value)) (hq : (ps.map fun (i, x) => (i, a.eval x)) = qs) (v : Value) (w' : World) (hr : (Instr.buildSlice ty len qs).run P w = .ok v w') (h : wpList P ops Q rest (a.put o.dst v) w') : wpList P ops Q (o :: rest) a w :=
  wpList_plain hgd fun K hK => by
    unfold Oper.wp execOp
    simp only [ho, Sem.run_bind, hq, hr, Result.andThen_ok]
    exact hK _ _ h
def clash (q : List Int) (ps : List (List Int)) : Bool := ps.any (soAdd q)
theorem found_any (f : List Int → Bool) : ∀ ps : List (List Int), (foundI f ps).isSome = ps.any f
  | [] => rfl
  | p :: ps => by
    unfold foundI
    rw [List.any_cons]
    cases hf : f p
    · rw [if_neg (by decide), Option.isSome_map, found_any f ps]; rfl
    · rw [if_pos rfl]; rfl
/-- What Add answers. -/
def AddQ (ps : List (List Int)) (q : List Int) (base : Nat) (e : Ending) (w' : World) : Prop := ∃ v r, e = .returned (.tuple #[v, .int .i64 r]) ∧
  ((q ∈ ps ∧ r = 0 ∧ OwnP 46 w' base v ps) ∨ (q ∉ ps ∧ clash q ps = true ∧ r = 9 ∧ v = .slice none 0 0) ∨ (q ∉ ps ∧ clash q ps = false ∧ r = 0 ∧ OwnP 46 w' base v (ps ++ [q])))
theorem one_pair (w : World) (q : List Int) (hq : q.length = 40) : PsAt (w.alloc (.cells (V8 q) 46)) (some ⟨w.heap.size, 0, none⟩) [q] :=
  ⟨fun p hp => by rw [List.mem_singleton.1 hp]; exact hq, .inr ⟨w.heap.size, 0, rfl, by simp, fun j p hj => by
    match j, hj with
    | 0, hj =>
      injection hj with hj
      subst hj
      rw [Nat.zero_mul, Nat.zero_add]
      exact box_range w _ _⟩⟩
set_option maxRecDepth 100000 in
set_option maxHeartbeats 8000000 in
theorem add_any (a : Option Addr) (c : Nat) (ps : List (List Int)) (q : List Int) (w : World) (h : PsAt w a ps) (hn : ps.length ≤ 100000) (hq : q.length = 40) (hnil : a = none → c = 0) (hnl : a = none → ps = []) :
    Calls Try.prog 22 #[.slice a ps.length c, .agg (V8 q)] w fun e w' => AddQ ps q w.heap.size e w' ∧ Below w.heap.size w w' := by
  have hz := fun W => zero_pair W
  have HB0 : Hid (Below w.heap.size w (w.alloc (.cells (V8 q) 46))) := (Below.refl _ _).alloc (Nat.le_refl _) _
  have HBX := Lib.hid (Boxed.new w q 46)
  have HL0 : Hid (w.heap.size < (w.alloc (.cells (V8 q) 46)).heap.size) := by show _ < _; simp
  have HS := Lib.hid h
  have HN := Lib.hid hn
  have HQ := Lib.hid hq
  have N1 := Lib.hid hnil
  have N2 := Lib.hid hnl
  obtain ⟨n, hnn⟩ : ∃ n, ps.length = n := ⟨_, rfl⟩
  have HNN := Lib.hid hnn
  rw [hnn] at HN ⊢
  clear h hn hq hnil hnl hnn
  go_enter Try.func22, Try.ntmps22
  have tok : True := trivial
  go_wp2_with (have _t := tok; refine wpList_load_v8_g rfl 46 _ rfl w.heap.size 0 rfl q _ HBX.out.2 Try.underlying46 rfl (pair_infoL _ HQ.out) ?_; clear tok)
  generalize w.alloc (.cells (V8 q) 46) = w0 at *
  have h1 := contains_any a c ps q w0 (HS.out.below HB0.out) (by rw [HNN.out]; have := HN.out; omega) HQ.out
  rw [HNN.out] at h1
  refine h1.mono ?_
  clear h1
  rintro e w1 ⟨rfl, hb⟩
  have HB1 := Lib.hid (HB0.out.trans (hb.mono HB0.out.size))
  have HBX1 := Lib.hid (HBX.out.below hb HL0.out)
  clear hb HBX HL0 HB0
  by_cases hin : q ∈ ps
  · rw [decide_eq_true hin]
    go_wp2_with fail
    have h1 := clone_any a c ps w1 (HS.out.below HB1.out) (by rw [HNN.out]; have := HN.out; omega) N1.out N2.out
    rw [HNN.out] at h1
    refine h1.mono ?_
    clear h1
    rintro e w2 ⟨⟨v, rfl, ho⟩, hb⟩
    have HO := Lib.hid (ho.lower HB1.out.size)
    have HB2 := Lib.hid (HB1.out.trans (hb.mono HB1.out.size))
    clear ho hb
    go_wp2_with fail
    go_ret2
    exact ⟨⟨_, _, rfl, .inl ⟨hin, rfl, HO.out⟩⟩, HB2.out⟩
  · rw [decide_eq_false hin]
    go_wp2_with fail
    have h1 := first_Add a c ps (.pointer (some ⟨w.heap.size, 0, none⟩)) (soAdd q) w1 (HS.out.below HB1.out) (by rw [HNN.out]; have := HN.out; omega) fun p W h1 h2 => so_Add p q h1 HQ.out w.heap.size W (HBX1.out.below h2 HBX1.out.1)
    rw [HNN.out, found_any] at h1
    refine h1.mono ?_
    clear h1
    have H40 := Lib.hid (pairAt_len HS.out.each (foundI (soAdd q) ps))
    generalize pairAt ps (foundI (soAdd q) ps) = fp at *
    rintro e w2 ⟨rfl, hb⟩
    have HBX2 := Lib.hid (HBX1.out.below hb HBX1.out.1)
    have HB2 := Lib.hid (HB1.out.trans (hb.mono HB1.out.size))
    clear hb
    have HA6 := Lib.hid (heap_alloc_new w2 (.cells (V8 noPair) 46))
    have HB6a : Hid (Below w2.heap.size w2 ((w2.alloc (.cells (V8 noPair) 46)).setRow w2.heap.size (V8 fp))) := below_setRow ((Below.refl _ _).alloc (Nat.le_refl _) _) (Nat.le_refl _) _
    have HB6 := Lib.hid (HB2.out.trans (HB6a.out.mono HB2.out.size))
    have HBX6 := Lib.hid (HBX2.out.below HB6a.out HBX2.out.1)
    have tok : True := trivial
    cases hcl : clash q ps
    · have hcl' : ps.any (soAdd q) = false := hcl
      rw [hcl']
      have HCL := Lib.hid hcl
      clear hcl hcl'
      go_wp2_with (first
        | (refine wpList_store_row rfl 46 (.tmp 6) (.tmp 17) rfl w2.heap.size (V8 fp) rfl rfl 46 (V8 noPair) HA6.out (pair_info _ H40.out) (by rw [V8_size, V8_size, H40.out]; rfl) (V8_one _) ?_; generalize (w2.alloc (.cells (V8 noPair) 46)).setRow w2.heap.size (V8 fp) = w6 at *)
        | (have _t := tok; refine wpList_load_v8_g rfl 46 _ rfl w.heap.size 0 rfl q _ HBX6.out.2 Try.underlying46 rfl (pair_infoL _ HQ.out) ?_; clear tok; refine Hid.out ?_))
      refine unhid ?_
      refine wpList_slice rfl _ _ _ rfl #[(0, .agg (V8 q))] (by simp [Act.eval]) _ _ (slice_one q HQ.out _) ?_
      have HO7 := Lib.hid (one_pair w6 q HQ.out)
      have HB7a : Hid (Below w6.heap.size w6 (w6.alloc (.cells (V8 q) 46))) := (Below.refl _ _).alloc (Nat.le_refl _) _
      have HB7 := Lib.hid (HB6.out.trans (HB7a.out.mono HB6.out.size))
      have HOL : Hid (w6.heap.size < (w6.alloc (.cells (V8 q) 46)).heap.size) := by show _ < _; simp
      generalize w6.alloc (.cells (V8 q) 46) = w7 at *
      go_wp2_with fail
      have HB8a := fun t => Lib.hid ((Below.refl w7.heap.size w7).alloc (Nat.le_refl _) (.cells #[.slice a n c, .slice (some ⟨w6.heap.size, 0, none⟩) 1 1] t))
      refine (concat_any w7.heap.size a (some ⟨w6.heap.size, 0, none⟩) n 1 c 1 ps [q] _ (by
          have h := heap_alloc_new w7 (.cells #[.slice a n c, .slice (some ⟨w6.heap.size, 0, none⟩) 1 1] 24)
          rw [cell_of_row _ _ _ _ _ _ h]; rfl) (by
          have h := heap_alloc_new w7 (.cells #[.slice a n c, .slice (some ⟨w6.heap.size, 0, none⟩) 1 1] 24)
          rw [cell_of_row _ _ _ _ _ _ h]; rfl) (HS.out.below (HB7.out.trans ((HB8a _).out.mono HB7.out.size))) (HO7.out.below (HB8a _).out) HNN.out rfl (by have := HN.out; omega) (by omega) (by omega) N1.out (fun e => by cases e)).mono ?_
      rintro e w9 ⟨⟨v, rfl, ho⟩, hb⟩
      have HB8 := Lib.hid (HB7.out.trans ((HB8a 24).out.mono HB7.out.size))
      have HO := Lib.hid (ho.lower HB8.out.size)
      have HB9 := Lib.hid (HB8.out.trans (hb.mono HB8.out.size))
      clear ho hb
      go_wp2_with fail
      go_ret2
      exact ⟨⟨_, _, rfl, .inr (.inr ⟨hin, HCL.out, rfl, HO.out⟩)⟩, HB9.out⟩
    · have hcl' : ps.any (soAdd q) = true := hcl
      rw [hcl']
      have HCL := Lib.hid hcl
      clear hcl hcl'
      go_wp2_with (refine wpList_store_row rfl 46 (.tmp 6) (.tmp 17) rfl w2.heap.size (V8 fp) rfl rfl 46 (V8 noPair) HA6.out (pair_info _ H40.out) (by rw [V8_size, V8_size, H40.out]; rfl) (V8_one _) ?_; generalize (w2.alloc (.cells (V8 noPair) 46)).setRow w2.heap.size (V8 fp) = w6 at *)
      go_ret2
      exact ⟨⟨_, _, rfl, .inr (.inl ⟨hin, HCL.out, rfl, rfl⟩)⟩, HB6.out⟩
end Go.Proofs.Ytlhdjbnilfbaoaa
