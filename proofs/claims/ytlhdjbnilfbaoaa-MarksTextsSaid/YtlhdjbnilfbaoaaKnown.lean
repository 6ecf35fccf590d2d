/- The chapter's example of marks: the walk. -/
import Derived.Test.YtlhdjbnilfbaoaaAdd
namespace Go.Proofs.Ytlhdjbnilfbaoaa
open Go.RowKit
set_option linter.unusedVariables false
theorem wpList_build {P : Program} {w : World} {ops : Array Oper} {rest : List Oper} {o : Oper} {a : Act} {Q : Exit → Act → World → Prop} (hw : Region.wanted o (yielded ops a.tmps) = true) (ty : TypeId) (ps : Array (Nat × Operand)) (ho : o.op = .build ty ps)
    (qs : Array (Nat × Value)) (hq : (ps.map fun (i, x) => (i, a.eval x)) = qs) (v : Value) (hr : ∀ W, (Instr.build ty qs).run P W = .ok v W) (h : wpList P ops Q rest (a.put o.dst v) w) : wpList P ops Q (o :: rest) a w := by
  refine wpList_step ?_
  intro K hK
  rw [if_pos hw]
  unfold Oper.wp execOp
  simp only [ho, Sem.run_bind, hq, hr, Result.andThen_ok]
  exact hK _ _ h
theorem wpList_build_c {P : Program} {w : World} {ops : Array Oper} {rest : List Oper} {o : Oper} {a : Act} {Q : Exit → Act → World → Prop} (hw : Region.wanted o (yielded ops a.tmps) = true) (ty : TypeId) (x : Value) (ho : o.op = .build ty #[(0, .const x)])
    (v : Value) (hr : ∀ W, (Instr.build ty #[(0, x)]).run P W = .ok v W) (h : wpList P ops Q rest (a.put o.dst v) w) : wpList P ops Q (o :: rest) a w :=
  wpList_build hw ty _ ho #[(0, x)] (by simp [Act.eval]) v hr h
theorem wpList_build_2 {P : Program} {w : World} {ops : Array Oper} {rest : List Oper} {o : Oper} {a : Act} {Q : Exit → Act → World → Prop} (hw : Region.wanted o (yielded ops a.tmps) = true) (ty : TypeId) (x y : Operand) (ho : o.op = .build ty #[(0, x), (1, y)])
    (u1 u2 : Value) (h1 : a.eval x = u1) (h2 : a.eval y = u2) (v : Value) (hr : ∀ W, (Instr.build ty #[(0, u1), (1, u2)]).run P W = .ok v W) (h : wpList P ops Q rest (a.put o.dst v) w) : wpList P ops Q (o :: rest) a w :=
  wpList_build hw ty _ ho #[(0, u1), (1, u2)] (by simp [h1, h2]) v hr h
def id1 : List Int := [1, 0, 0, 0, 0, 0, 0, 0, 0, 0, 0, 0, 0, 0, 0, 0, 0, 0, 0, 0]
theorem build_id1 (W : World) : (Instr.build 42 #[(0, .int .u8 1)]).run Try.prog W = .ok (.agg (V8 id1)) W := by kernel_rfl
theorem id1_len : id1.length = 20 := by decide +kernel
def id2 : List Int := [2, 0, 0, 0, 0, 0, 0, 0, 0, 0, 0, 0, 0, 0, 0, 0, 0, 0, 0, 0]
theorem build_id2 (W : World) : (Instr.build 42 #[(0, .int .u8 2)]).run Try.prog W = .ok (.agg (V8 id2)) W := by kernel_rfl
theorem id2_len : id2.length = 20 := by decide +kernel
def id3 : List Int := [3, 0, 0, 0, 0, 0, 0, 0, 0, 0, 0, 0, 0, 0, 0, 0, 0, 0, 0, 0]
theorem build_id3 (W : World) : (Instr.build 42 #[(0, .int .u8 3)]).run Try.prog W = .ok (.agg (V8 id3)) W := by kernel_rfl
theorem id3_len : id3.length = 20 := by decide +kernel
theorem len40 {g h : List Int} (hg : g.length = 20) (hh : h.length = 20) : (g ++ h).length = 40 := by rw [List.length_append, hg, hh]
theorem soAdd_12 : soAdd (id1 ++ id2) (id1 ++ id3) = true := by decide +kernel
theorem not_12 : ¬ (id1 ++ id2) = (id1 ++ id3) := by decide +kernel
theorem is_13 : (id1 ++ id3).take 20 = id1 ∧ (id1 ++ id3).drop 20 = id3 := by decide +kernel
theorem eq_33 : (id3 == id3) = true := by decide +kernel
set_option maxRecDepth 100000 in
set_option maxHeartbeats 8000000 in
theorem known_any (w : World) : Calls Try.prog 13 #[] w fun e w' => e = .returned (.bool true) ∧ Below w.heap.size w w' := by
  have hz2 := fun W => mzero_id W
  go_enter Try.func13, Try.ntmps13
  go_wp2_with (first
    | (refine wpList_build_c rfl 42 (.int .u8 1) rfl (.agg (V8 id1)) build_id1 ?_)
    | (refine wpList_build_c rfl 42 (.int .u8 3) rfl (.agg (V8 id3)) build_id3 ?_)
    | (refine wpList_build_2 rfl 46 _ _ rfl (.agg (V8 id1)) (.agg (V8 id3)) rfl rfl (.agg (V8 (id1 ++ id3))) (build_pair id1 id3 id1_len id3_len) ?_))
  refine (add_any none 0 [] (id1 ++ id3) w ⟨by simp, .inl rfl⟩ (by simp) (len40 id1_len id3_len) (fun _ => rfl) (fun _ => rfl)).mono ?_
  rintro e w1 ⟨⟨v, r, rfl, hq⟩, hb⟩
  obtain ⟨rfl, ho⟩ : r = 0 ∧ OwnP 46 w1 w.heap.size v [id1 ++ id3] := by
    rcases hq with ⟨h, -⟩ | ⟨-, h, -⟩ | ⟨-, -, h1, h2⟩
    · cases h
    · cases h
    · exact ⟨h1, by simpa using h2⟩
  obtain ⟨va, vc, rfl, hat, -, hnil⟩ := ho.at
  have HNL : Hid (va = none → [id1 ++ id3] = ([] : List (List Int))) := fun e => by
    rcases hat.rows with h | ⟨b, off, h, -⟩
    · cases h
    · rw [e] at h; cases h
  have HAT := Lib.hid hat
  have HNIL := Lib.hid hnil
  have HB := Lib.hid hb
  rw [show [id1 ++ id3].length = 1 from rfl]
  clear hq hb hat ho hnil
  go_wp2_with (first
    | (refine wpList_build_c rfl 42 (.int .u8 1) rfl (.agg (V8 id1)) build_id1 ?_)
    | (refine wpList_build_c rfl 42 (.int .u8 2) rfl (.agg (V8 id2)) build_id2 ?_)
    | (refine wpList_build_2 rfl 46 _ _ rfl (.agg (V8 id1)) (.agg (V8 id2)) rfl rfl (.agg (V8 (id1 ++ id2))) (build_pair id1 id2 id1_len id2_len) ?_))
  refine (add_any va vc [id1 ++ id3] (id1 ++ id2) w1 HAT.out (by simp) (len40 id1_len id2_len) HNIL.out HNL.out).mono ?_
  rintro e w2 ⟨⟨v, r, rfl, hq⟩, hb⟩
  obtain ⟨rfl, rfl⟩ : r = 9 ∧ v = .slice none 0 0 := by
    rcases hq with ⟨h, -⟩ | ⟨-, -, h1, h2⟩ | ⟨-, h, -⟩
    · exact absurd (List.mem_singleton.1 h) not_12
    · exact ⟨h1, h2⟩
    · unfold clash at h
      rw [List.any_cons, soAdd_12] at h
      cases h
  have HAT2 := Lib.hid (HAT.out.below hb)
  have HB2 := Lib.hid (HB.out.trans (hb.mono HB.out.size))
  clear hq hb
  go_wp2_with (refine wpList_build_c rfl 42 (.int .u8 1) rfl (.agg (V8 id1)) build_id1 ?_)
  refine (hg_any va vc [id1 ++ id3] id1 w2 HAT2.out (by simp) id1_len).mono ?_
  rintro e w3 ⟨rfl, hb⟩
  have HFO : foundI (fun p => p.take 20 == id1) [id1 ++ id3] = some 0 := by
    unfold foundI
    rw [if_pos (by rw [is_13.1]; decide +kernel)]
  rw [HFO, show (pairAt [id1 ++ id3] (some 0)) = id1 ++ id3 from rfl, is_13.2]
  have HB3 := Lib.hid (HB2.out.trans (hb.mono HB2.out.size))
  clear hb HFO
  have he := fun W => run_eql_id W id3 id3 id3_len id3_len
  rw [eq_33] at he
  have HA := Lib.hid (heap_alloc_new w3 (.cells (V8 noId) 42))
  have HR := Lib.hid (row_boxed (setRow_heap _ w3.heap.size (V8 noId) (V8 id3) 42 (0, 0) HA.out)).2
  have HB4 : Hid (Below w.heap.size w ((w3.alloc (.cells (V8 noId) 42)).setRow w3.heap.size (V8 id3))) := HB3.out.trans ((below_setRow ((Below.refl _ _).alloc (Nat.le_refl _) _) (Nat.le_refl _) _).mono HB3.out.size)
  go_wp2_with (first
    | (refine wpList_store_row rfl 42 (.tmp 5) (.tmp 26) rfl w3.heap.size (V8 id3) rfl rfl 42 (V8 noId) HA.out (mid_info _ id3_len) (by rw [V8_size, V8_size, id3_len]; rfl) (V8_one _) ?_)
    | (refine wpList_load_v8_g rfl 42 _ rfl w3.heap.size 0 rfl id3 (.array 20 5) HR.out Try.underlying42 rfl (id_infoL _ id3_len) ?_)
    | (refine wpList_build_c rfl 42 (.int .u8 3) rfl (.agg (V8 id3)) build_id3 ?_))
  go_ret
  exact ⟨rfl, HB4.out⟩
end Go.Proofs.Ytlhdjbnilfbaoaa
