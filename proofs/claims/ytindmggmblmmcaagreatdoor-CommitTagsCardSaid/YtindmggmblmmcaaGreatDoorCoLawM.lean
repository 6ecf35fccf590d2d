/- The law CommitMore. -/
import Derived.Test.YtindmggmblmmcaaGreatDoorCoLawB
import Derived.Test.YtindmggmblmmcaaGreatDoorCoRPrint
import Derived.Test.YtindmggmblmmcaaGreatDoorTgWalk
import Derived.Test.YtindmggmblmmcaaGreatDoorEq
namespace Go.Proofs.YtindmggmblmmcaaGreatDoor
open Go.RowKit Plain Go.ChangeShapes Go.WideShapes Go.ChangeAt Go.Great
set_option linter.unusedVariables false
set_option linter.unusedSimpArgs false
theorem empty_run (W : World) : (Instr.buildSlice 37 0 #[]).run Tryz.prog W = .ok (.slice (some ⟨W.heap.size, 0, none⟩) 0 0) (W.alloc (.cells #[] 5)) := by
  obtain ⟨i, hi, he⟩ := Option.map_eq_some_iff.1 (show (Tryz.prog.info? 5).map (fun i => (i.zero, i.size, i.bytes)) = some (some (.int .u8 0), 1, 1) from by kernel_rfl)
  simp only [Prod.mk.injEq] at he
  simp [Instr.buildSlice, run_underlying Tryz.underlying37, sizeOf, typeInfo, hi, he.2.1, newRow, Instr.fill]
  have e : ∀ v : Value, Array.map (fun x : Nat => v) (Array.range 0) = #[] := fun v => Array.eq_empty_of_size_eq_zero (by simp)
  rw [e]
theorem nums_append (l r : List UInt8) : numsOf (txt l) ++ numsOf (txt r) = numsOf (txt (l ++ r)) := by
  unfold numsOf
  rw [txt_list, txt_list, txt_list, List.map_append]
theorem nums_range (l : List UInt8) : ∀ j : Nat, 0 ≤ (numsOf (txt l))[j]?.getD 0 ∧ (numsOf (txt l))[j]?.getD 0 ≤ 255 := fun j => by
  unfold numsOf
  rw [txt_list, List.getElem?_map]
  cases l[j]? with
  | none => simp
  | some c => have := c.toNat_lt; simp; omega
theorem nums_take (l : List UInt8) (k : Nat) : (numsOf (txt l)).take k = numsOf (txt (l.take k)) := by
  unfold numsOf
  rw [txt_list, txt_list, List.map_take]
theorem rowat_setCell {α : Type} {k : Nat} {enc : α → List Value} {w : World} {a : Option Addr} {xs : List α} (h : RowAt k enc w a xs) {b o : Nat} {v : Value} (hb : ∀ b' off, a = some ⟨b', off, none⟩ → xs.length ≠ 0 → b' ≠ b) : RowAt k enc (w.setCell ⟨b, o, none⟩ v) a xs := by
  by_cases h0 : xs.length = 0
  · exact .inl h0
  · rcases h with h1 | ⟨b', off, rfl, hl, hc⟩
    · exact absurd h1 h0
    · have hn := hb b' off rfl h0
      refine .inr ⟨b', off, rfl, (by simpa [World.setCell] using hl), fun j x hj i u hu => ?_⟩
      exact (heap_cell_ne w b o v b' _ hn).trans (hc j x hj i u hu)
theorem co_any {base : Nat} {e : Ending} {w : World} {o : Option CC} (h : CoParse base e w o) (hg : ∀ C, o = some C → C.tr.length = 20) : ∃ C xa xc fa fc z, e = .returned (.tuple #[.agg (coV C xa xc fa fc), .int .i64 z]) ∧ C.tr.length = 20 := by
  cases o with
  | none => exact ⟨cz, none, 0, none, 0, 4, h, cz_20⟩
  | some C =>
    obtain ⟨xa, xc, fa, fc, he, -⟩ := h
    exact ⟨C, xa, xc, fa, fc, 0, he, hg C rfl⟩
theorem tg_any {e : Ending} {o : Option TX} (h : TgParse e o) (hg : ∀ x, o = some x → x.o.length = 20) : ∃ x z, e = .returned (.tuple #[.agg (tgA x), .int .i64 z]) ∧ x.o.length = 20 := by
  cases o with
  | none => exact ⟨tz, 4, h, tz_20⟩
  | some x => exact ⟨x, 0, h, hg x rfl⟩
theorem coparse_short (a : Option Addr) (m cap : Nat) (L : List UInt8) (w : World) (R : Bytes w a m (numsOf (txt L))) (hm : m ≤ 15000) (hE : EnvC w) (h : parseC L = none) :
    Calls Tryz.prog 15 #[.slice a m cap] w fun e w' => e = .returned (.tuple #[.agg (coV cz none 0 none 0), .int .i64 4]) ∧ Below w.heap.size w w' := by
  have hcp := coparse_any a m cap L w R hm hE
  rw [h] at hcp
  exact hcp
theorem tgA_msg (x : TX) (h20 : x.o.length = 20) (v : ByteArray) : (tgA x).setIfInBounds 26 (.string v) = tgA { x with m := v } := by
  unfold tgA
  rw [List.setIfInBounds_toArray]
  congr 1
  unfold tgL
  rw [List.set_append_right _ _ (by rw [U8_length, h20]; decide), U8_length, h20]
  rfl
theorem fields_tag : ∃ f1 f2 f3 f4 f5, (Tryz.prog.fieldsOf 50).toList = [f1, f2, f3, f4, f5] ∧ (f1.name ≠ "_" ∧ f2.name ≠ "_" ∧ f3.name ≠ "_" ∧ f4.name ≠ "_" ∧ f5.name ≠ "_") ∧ (f1.type = 29 ∧ f1.offset = 0) ∧ (f2.type = 3 ∧ f2.offset = 20) ∧ (f3.type = 9 ∧ f3.offset = 21) ∧ (f4.type = 31 ∧ f4.offset = 22) ∧ f5.type = 9 ∧ f5.offset = 26 := by
  have h : (Tryz.prog.fieldsOf 50).toList.map (fun f => (f.name == "_", f.type, f.offset)) = [(false, 29, 0), (false, 3, 20), (false, 9, 21), (false, 31, 22), (false, 9, 26)] := by kernel_rfl
  generalize (Tryz.prog.fieldsOf 50).toList = l at *
  match l, h with
  | [], h => cases h
  | [_], h => simp at h
  | [_, _], h => simp at h
  | [_, _, _], h => simp at h
  | [_, _, _, _], h => simp at h
  | _ :: _ :: _ :: _ :: _ :: _ :: _, h => simp at h
  | [f1, f2, f3, f4, f5], h =>
    simp only [List.map_cons, List.map_nil, List.cons.injEq, Prod.mk.injEq, and_true, beq_eq_false_iff_ne] at h
    exact ⟨f1, f2, f3, f4, f5, rfl, ⟨h.1.1, h.2.1.1, h.2.2.1.1, h.2.2.2.1.1, h.2.2.2.2.1⟩, h.1.2, h.2.1.2, h.2.2.1.2, h.2.2.2.1.2, h.2.2.2.2.2⟩
theorem part_agg (w : World) (T : TypeId) (n : Nat) (X : Array Value) (off : Nat) (v : Array Value) (ha : (isAgg T).run Tryz.prog w = .ok true w) (hs : (Tryz.prog.info? T).map (·.size) = some n) (he : X.extract off (off + n) = v) : (part T X off).run Tryz.prog w = .ok (.agg v) w := by
  obtain ⟨i, hi, h1⟩ := Option.map_eq_some_iff.1 hs
  simp [part, ha, sizeOf, typeInfo, hi, h1, he]
theorem tg_ext_o (x : TX) (h : x.o.length = 20) : (tgA x).extract 0 (0 + 20) = V8 x.o := by
  apply Array.ext'
  have h2 : (U8 x.o).length = 20 := by rw [U8_length]; exact h
  simp only [tgA, tgL, V8]
  simp
  rw [List.take_append_of_le_length (by omega), List.take_of_length_le (by omega)]
theorem tg_ext_t (x : TX) (h : x.o.length = 20) : (tgA x).extract 22 (22 + 4) = whoA x.t := by
  apply Array.ext'
  have h2 : (U8 x.o).length = 20 := by rw [U8_length]; exact h
  have e : tgL x = (U8 x.o ++ [.int .i64 x.k, .string x.n]) ++ (whoL x.t ++ [.string x.m]) := by unfold tgL tgT; simp
  unfold tgA
  rw [Array.toList_extract, e, List.extract_eq_take_drop, List.drop_left' (by simp [h2])]
  rfl
theorem tg_at (x : TX) (h : x.o.length = 20) (i : Nat) (v : Value) (hv : (tgT x)[i]? = some v) : (tgA x)[20 + i]? = some v := by
  have : (tgA x)[20 + i]? = (tgL x)[20 + i]? := List.getElem?_toArray
  rw [this]
  unfold tgL
  rw [List.getElem?_append_right (by rw [U8_length, h]; omega), U8_length, h, Nat.add_sub_cancel_left]
  exact hv
theorem eqItems_self8 (d : Nat) (w : World) (xs : List Int) : ∀ is : List Nat, (∀ i ∈ is, i < xs.length) →
    (Op.eqItems (d + 1) 5 1 (V8 xs) (V8 xs) is).run Tryz.prog w = .ok true w
  | [], _ => by simp [Op.eqItems]
  | i :: is, h => by
    have h1 := V8_get xs i (h i (by simp))
    have ih := eqItems_self8 d w xs is (fun j hj => h j (by simp [hj]))
    simp only [Op.eqItems, Sem.run_bind, Nat.mul_one, run_part_plain w u8plain h1, Result.andThen_ok, run_equalIn_int w d 5 .u8 .u8 _ _ Tryz.underlying5]
    simp [ih]
set_option maxRecDepth 100000 in
theorem neq_tag (x : TX) (h : x.o.length = 20) (w : World) : (binOp .neq 50 (.agg (tgA x)) (.agg (tgA x))).run Tryz.prog w = .ok (.bool false) w := by
  obtain ⟨f1, f2, f3, f4, f5, hf, ⟨n1, n2, n3, n4, n5⟩, ⟨t1, o1⟩, ⟨t2, o2⟩, ⟨t3, o3⟩, ⟨t4, o4⟩, t5, o5⟩ := fields_tag
  have e : (Op.equalIn (9995 + 5) 50 (.agg (tgA x)) (.agg (tgA x))).run Tryz.prog w = .ok true w := by
    rw [run_equalIn_struct w (9995 + 4) 50 _ _ Tryz.underlying50 (by kernel_rfl), hf]
    refine eqFields_self _ _ _ _ _ fun f hm => ?_
    simp only [List.mem_cons, List.not_mem_nil, or_false] at hm
    rcases hm with rfl | rfl | rfl | rfl | rfl
    · refine ⟨n1, .agg (V8 x.o), by rw [t1, o1]; exact part_agg w 29 20 _ 0 _ (by kernel_rfl) (by kernel_rfl) (tg_ext_o x h), ?_⟩
      obtain ⟨i, hi, -⟩ := Option.map_eq_some_iff.1 (show (Tryz.prog.info? 5).map (fun i => (i.zero, i.size, i.bytes)) = some (some (.int .u8 0), 1, 1) from by kernel_rfl)
      rw [t1, run_equalIn_array w (9995 + 3) (V8 x.o) (V8 x.o) Tryz.underlying29 hi, u8cells]
      exact eqItems_self8 _ w x.o _ fun j hj => by have := List.mem_range.1 hj; omega
    · exact ⟨n2, .int .i64 x.k, by rw [t2, o2]; exact run_part_plain w (by kernel_rfl) (tg_at x h 0 _ rfl), by rw [t2, run_equalIn_int w (9995 + 3) 3 .i64 .i64 x.k x.k Tryz.underlying3, beq_self_eq_true]⟩
    · exact ⟨n3, .string x.n, by rw [t3, o3]; exact run_part_plain w (by kernel_rfl) (tg_at x h 1 _ rfl), by rw [t3, run_equalIn_string w (9995 + 3) 9 x.n x.n Tryz.underlying9, beq_self_eq_true]⟩
    · exact ⟨n4, .agg (whoA x.t), by rw [t4, o4]; exact part_agg w 31 4 _ 22 _ (by kernel_rfl) (by kernel_rfl) (tg_ext_t x h), by rw [t4]; exact eqin_who 9995 w x.t⟩
    · exact ⟨n5, .string x.m, by rw [t5, o5]; exact run_part_plain w (by kernel_rfl) (tg_at x h 6 _ rfl), by rw [t5, run_equalIn_string w (9995 + 3) 9 x.m x.m Tryz.underlying9, beq_self_eq_true]⟩
  rw [run_neq_struct]
  rw [show (9995 + 5 : Nat) = 10000 from rfl] at e
  rw [e]
  rfl
theorem guardn_tag (x y : Operand) (u v : Array Value) (W : World) : (eqGuard .neq 50 x y (.agg u) (.agg v)).run Tryz.prog W = .ok () W := by simp [eqGuard]
set_option maxRecDepth 100000 in
set_option maxHeartbeats 64000000 in
theorem lawmore_any (a0 : Option Addr) (len0 cap0 : Nat) (xs : List Int) (a1 : Option Addr) (len1 cap1 : Nat) (ys : List Int) (w : World) (hE : EnvC w) (hR0 : RowB w a0 (min len0 2000) cap0 xs) (hc0 : len0 ≤ cap0) (hR1 : RowB w a1 (min len1 200) cap1 ys) (hc1 : len1 ≤ cap1) :
    Calls Tryz.prog 7 #[.slice a0 len0 cap0, .slice a1 len1 cap1] w fun e w' => e = .returned (.bool true) ∧ Below w.heap.size w w' := by
  obtain ⟨L0, rfl⟩ := text_of xs hR0.mem
  obtain ⟨L1, rfl⟩ := text_of ys hR1.mem
  obtain ⟨m0, hm0⟩ : ∃ m, min len0 2000 = m := ⟨_, rfl⟩
  obtain ⟨m1, hm1⟩ : ∃ m, min len1 200 = m := ⟨_, rfl⟩
  obtain ⟨m2, hm2⟩ : ∃ m, min m0 45 = m := ⟨_, rfl⟩
  rw [hm0] at hR0
  rw [hm1] at hR1
  have HMB : Hid (m0 ≤ 2000 ∧ m1 ≤ 200 ∧ m2 ≤ 45 ∧ m2 ≤ m0) := by show _ ∧ _; omega
  have hmin0 : min (len0 : Int) 2000 = (m0 : Int) := by omega
  have hmin1 : min (len1 : Int) 200 = (m1 : Int) := by omega
  have hmin2 : min (m0 : Int) 45 = (m2 : Int) := by omega
  have hsl0 : ∀ W, (Instr.sliceAt 37 (.slice a0 len0 cap0) none (some (.int .i64 (m0 : Int))) none).run Tryz.prog W = .ok (.slice a0 m0 cap0) W := slice_to a0 len0 cap0 m0 (by omega)
  have hsl1 : ∀ W, (Instr.sliceAt 37 (.slice a1 len1 cap1) none (some (.int .i64 (m1 : Int))) none).run Tryz.prog W = .ok (.slice a1 m1 cap1) W := slice_to a1 len1 cap1 m1 (by omega)
  have hsl2 : ∀ W, (Instr.sliceAt 37 (.slice a0 m0 cap0) none (some (.int .i64 (m2 : Int))) none).run Tryz.prog W = .ok (.slice a0 m2 cap0) W := slice_to a0 m0 cap0 m2 (by omega)
  have R0 := Lib.hid hR0
  have R1 := Lib.hid hR1
  have HE := Lib.hid hE
  have HL0 : Hid (L0.length = m0) := by have h1 := hR0.bytes.1; rw [numsOf_length, txt_size] at h1; exact h1
  have HL1 : Hid (L1.length = m1) := by have h1 := hR1.bytes.1; rw [numsOf_length, txt_size] at h1; exact h1
  have R2 : Hid (RowB w a0 m2 cap0 (numsOf (txt (L0.take m2)))) := by
    have := hR0.front m2 HMB.out.2.2.2
    rwa [nums_take] at this
  have HSHORT : Hid (parseC (L0.take m2) = none) := parse_short (by rw [List.length_take]; have := HMB.out; omega)
  have hzc := zero_co
  have hzt := zero_tag
  clear hE hR0 hR1 hm0 hm1 hm2 hc0 hc1
  go_enter Tryz.func7, Tryz.ntmps7
  go_wp2_with fail
  refine wp_region_noPanic ?_
  refine wp_region_held_drew (S := fun _ => True) (by kernel_rfl) ?_ (fun hHeld => ?_)
  · exact True.intro
  refine wpAnyH_take (i := 0) (v := ?_) (by simp only [List.getElem?_toArray, List.getElem?_cons_zero]; rfl) (by kernel_rfl) (by kernel_rfl) (by kernel_rfl) (fun _ _ _ h => h) (Or.inl ⟨by rfl, ?_⟩) (by assumption) ?_
  rotate_left
  · intro W hSW
    go_simp
    try with_reducible rfl
  try simp only [Act.put, List.setIfInBounds_toArray, List.set_cons_zero, List.set_cons_succ]
  refine wpAnyH_take (i := 1) (v := ?_) (by simp only [List.getElem?_toArray, List.getElem?_cons_succ, List.getElem?_cons_zero]; rfl) (by kernel_rfl) (by kernel_rfl) (by kernel_rfl) (fun _ _ _ h => h) (Or.inl ⟨by rfl, ?_⟩) (by assumption) ?_
  rotate_left
  · intro W hSW
    go_simp
    try with_reducible rfl
  try simp only [Act.put, List.setIfInBounds_toArray, List.set_cons_zero, List.set_cons_succ]
  refine wpAnyH_take (i := 2) (v := ?_) (by simp only [List.getElem?_toArray, List.getElem?_cons_succ, List.getElem?_cons_zero]; rfl) (by kernel_rfl) (by kernel_rfl) (by kernel_rfl) (fun _ _ _ h => h) (Or.inl ⟨by rfl, ?_⟩) (by assumption) ?_
  rotate_left
  · intro W hSW
    go_simp
    try with_reducible rfl
  try simp only [Act.put, List.setIfInBounds_toArray, List.set_cons_zero, List.set_cons_succ]
  refine wpAnyH_take (i := 3) (v := ?_) (by simp only [List.getElem?_toArray, List.getElem?_cons_succ, List.getElem?_cons_zero]; rfl) (by kernel_rfl) (by kernel_rfl) (by kernel_rfl) (fun _ _ _ h => h) (Or.inl ⟨by rfl, ?_⟩) (by assumption) ?_
  rotate_left
  · intro W hSW
    go_simp
    try with_reducible rfl
  try simp only [Act.put, List.setIfInBounds_toArray, List.set_cons_zero, List.set_cons_succ]
  refine wpAnyH_take (i := 4) (v := ?_) (by simp only [List.getElem?_toArray, List.getElem?_cons_succ, List.getElem?_cons_zero]; rfl) (by kernel_rfl) (by kernel_rfl) (by kernel_rfl) (fun _ _ _ h => h) (Or.inl ⟨by rfl, ?_⟩) (by assumption) ?_
  rotate_left
  · intro W hSW
    go_simp
    try with_reducible rfl
  try simp only [Act.put, List.setIfInBounds_toArray, List.set_cons_zero, List.set_cons_succ]
  refine wpAnyH_take (i := 5) (v := ?_) (by simp only [List.getElem?_toArray, List.getElem?_cons_succ, List.getElem?_cons_zero]; rfl) (by kernel_rfl) (by kernel_rfl) (by kernel_rfl) (fun _ _ _ h => h) (Or.inl ⟨by rfl, ?_⟩) (by assumption) ?_
  rotate_left
  · intro W hSW
    go_simp
    try with_reducible rfl
  try simp only [Act.put, List.setIfInBounds_toArray, List.set_cons_zero, List.set_cons_succ]
  refine wpAnyH_take (i := 6) (v := ?_) (by simp only [List.getElem?_toArray, List.getElem?_cons_succ, List.getElem?_cons_zero]; rfl) (by kernel_rfl) (by kernel_rfl) (by kernel_rfl) (fun _ _ _ h => h) (Or.inl ⟨by rfl, ?_⟩) (by assumption) ?_
  rotate_left
  · intro W hSW
    go_simp
    try with_reducible rfl
  try simp only [Act.put, List.setIfInBounds_toArray, List.set_cons_zero, List.set_cons_succ]
  refine wpAnyH_take (i := 7) (v := ?_) (by simp only [List.getElem?_toArray, List.getElem?_cons_succ, List.getElem?_cons_zero]; rfl) (by kernel_rfl) (by kernel_rfl) (by kernel_rfl) (fun _ _ _ h => h) (Or.inl ⟨by rfl, ?_⟩) (by assumption) ?_
  rotate_left
  · intro W hSW
    go_simp
    try with_reducible rfl
  try simp only [Act.put, List.setIfInBounds_toArray, List.set_cons_zero, List.set_cons_succ]
  refine wpAnyH_take (i := 8) (v := ?_) (by simp only [List.getElem?_toArray, List.getElem?_cons_succ, List.getElem?_cons_zero]; rfl) (by kernel_rfl) (by kernel_rfl) (by kernel_rfl) (fun _ _ _ h => h) (Or.inl ⟨by rfl, ?_⟩) (by assumption) ?_
  rotate_left
  · intro W hSW
    go_simp
    try with_reducible rfl
  try simp only [Act.put, List.setIfInBounds_toArray, List.set_cons_zero, List.set_cons_succ]
  refine wpAnyH_take (i := 9) (v := ?_) (by simp only [List.getElem?_toArray, List.getElem?_cons_succ, List.getElem?_cons_zero]; rfl) (by kernel_rfl) (by kernel_rfl) (by kernel_rfl) (fun _ _ _ h => h) (Or.inl ⟨by rfl, ?_⟩) (by assumption) ?_
  rotate_left
  · intro W hSW
    go_simp
    try with_reducible rfl
  try simp only [Act.put, List.setIfInBounds_toArray, List.set_cons_zero, List.set_cons_succ]
  refine wpAnyH_take (i := 10) (v := ?_) (by simp only [List.getElem?_toArray, List.getElem?_cons_succ, List.getElem?_cons_zero]; rfl) (by kernel_rfl) (by kernel_rfl) (by kernel_rfl) (fun _ _ _ h => h) (Or.inl ⟨by rfl, ?_⟩) (by assumption) ?_
  rotate_left
  · intro W hSW
    go_simp
    try with_reducible rfl
  try simp only [Act.put, List.setIfInBounds_toArray, List.set_cons_zero, List.set_cons_succ]
  refine wpAnyH_take (i := 11) (v := ?_) (by simp only [List.getElem?_toArray, List.getElem?_cons_succ, List.getElem?_cons_zero]; rfl) (by kernel_rfl) (by kernel_rfl) (by kernel_rfl) (fun _ _ _ h => h) (Or.inl ⟨by rfl, ?_⟩) (by assumption) ?_
  rotate_left
  · intro W hSW
    go_simp
    try with_reducible rfl
  try simp only [Act.put, List.setIfInBounds_toArray, List.set_cons_zero, List.set_cons_succ]
  refine wpAnyH_done (by kernel_rfl) ?_ _
  refine NoPanic.normal ?_
  clear hHeld hmin0 hmin1 hsl0 hsl1
  obtain ⟨w0, hw0⟩ : ∃ W, w.drew = W := ⟨_, rfl⟩
  have HB0 : Hid (Below w.heap.size w w0) := by rw [← hw0]; exact (Below.refl _ _).drew
  try rw [hw0]
  clear hw0
  have HEM : Hid (Mid (w0.alloc (.cells #[] 5)) w0.heap.size (.slice (some ⟨w0.heap.size, 0, none⟩) 0 0) 0 []) := ⟨rfl, .inr ⟨w0.heap.size, 0, 0, rfl, Nat.le_refl _, by simp, Nat.le_refl _, by omega, fun j v hj => by simp [U8] at hj, fun j hj => by omega⟩⟩
  have HQA : Hid (Bytes (w0.alloc (.cells #[] 5)) a0 m0 (numsOf (txt L0))) := R0.out.bytes.below (HB0.out.alloc HB0.out.size _)
  have HBA : Hid (Below w0.heap.size w0 (w0.alloc (.cells #[] 5))) := (Below.refl _ _).alloc (Nat.le_refl _) _
  go_wp2_with (first
    | refine wpList_slice rfl 37 0 #[] rfl #[] rfl _ _ (empty_run w0) ?_
    | (refine wpList_append_to rfl _ _ 37 rfl w0.heap.size (.slice (some ⟨w0.heap.size, 0, none⟩) 0 0) 0 [] rfl HEM.out (.slice a0 m0 cap0) m0 (numsOf (txt L0)) rfl (src_bytes HQA.out) m0 (numsOf (txt L0)) (by omega) rfl (by have := HMB.out; omega) HBA.out.size ?_
       rintro b1 k1 u1 hm1 hu1
       have HM1 := Lib.hid hm1
       have HU1 : Hid (Below w0.heap.size w0 u1) := HBA.out.trans hu1
       have HQB : Hid (Bytes u1 a1 m1 (numsOf (txt L1))) := R1.out.bytes.below (HB0.out.trans (HU1.out.mono HB0.out.size))
       clear hm1 hu1)
    | (refine wpList_append_to rfl _ _ 37 rfl w0.heap.size (.slice b1 m0 k1) m0 (numsOf (txt L0)) rfl HM1.out (.slice a1 m1 cap1) m1 (numsOf (txt L1)) rfl (src_bytes HQB.out) (m0 + m1) (numsOf (txt (L0 ++ L1))) rfl (nums_append L0 L1) (by have := HMB.out; omega) HU1.out.size ?_
       rintro b2 k2 u2 hm2 hu2
       have HM2 := Lib.hid hm2
       have HU2 : Hid (Below w0.heap.size w0 u2) := HU1.out.trans hu2
       clear hm2 hu2))
  have HBU := Lib.hid (HB0.out.trans (HU2.out.mono HB0.out.size))
  have HQ : Hid (Bytes u2 b2 (m0 + m1) (numsOf (txt (L0 ++ L1)))) := HM2.out.bytes (nums_range _)
  clear HEM HQA HBA HM1 HU1 HQB HM2 HU2
  cases hpc : parseC L0 with
  | none =>
    cases htc : parseT L0 with
    | none =>
      have hcp := coparse_any a0 m0 cap0 L0 u2 (R0.out.bytes.below HBU.out) (by have := HMB.out; omega) (HE.out.below HBU.out)
      rw [hpc] at hcp
      refine hcp.mono ?_
      clear hcp
      rintro e w3 ⟨hpo, hb⟩
      have HB3 := Lib.hid (HBU.out.trans (hb.mono HBU.out.size))
      have HQ3 := Lib.hid (HQ.out.below hb)
      clear hb HQ
      obtain rfl := hpo
      have HZ3 : Hid ((w3.alloc (.cells (coA cz (.slice none 0 0) (.slice none 0 0)) 34)).heap[w3.heap.size]? = some (.cells (coA cz (.slice none 0 0) (.slice none 0 0)) 34 (0, 0))) := heap_alloc_new _ _
      have HS3 : Hid (Below w3.heap.size w3 ((w3.alloc (.cells (coA cz (.slice none 0 0) (.slice none 0 0)) 34)).setRow w3.heap.size (coV cz none 0 none 0))) := below_setRow ((Below.refl _ _).alloc (Nat.le_refl _) _) (Nat.le_refl _) _
      have HR3 : Hid (((w3.alloc (.cells (coA cz (.slice none 0 0) (.slice none 0 0)) 34)).setRow w3.heap.size (coV cz none 0 none 0)).heap[w3.heap.size]? = some (.cells (coV cz none 0 none 0) 34 (0, 0))) := setRow_heap _ _ _ _ _ _ HZ3.out
      go_wp2_with (first
        | refine wpList_store_row rfl 34 _ _ rfl w3.heap.size (coV cz none 0 none 0) rfl rfl 34 (coA cz (.slice none 0 0) (.slice none 0 0)) HZ3.out (info_coA cz _ _ cz_20) (by unfold coV; rw [coA_size _ _ _ cz_20, coA_size cz _ _ cz_20]) (coA_one _ _ _ rfl rfl) ?_)
      obtain ⟨w4, hw3⟩ : ∃ Wn, (w3.alloc (.cells (coA cz (.slice none 0 0) (.slice none 0 0)) 34)).setRow w3.heap.size (coV cz none 0 none 0) = Wn := ⟨_, rfl⟩
      rw [hw3] at HS3 HR3 ⊢
      obtain ⟨b6, hb3⟩ : ∃ x, w3.heap.size = x := ⟨_, rfl⟩
      rw [hb3] at HR3 ⊢
      clear hw3 HZ3
      clear hb3 HR3
      have HB4 := Lib.hid (HB3.out.trans (HS3.out.mono HB3.out.size))
      have HQ4 := Lib.hid (HQ3.out.below HS3.out)
      clear HQ3
      go_wp2_with fail
      refine (coparse_any b2 (m0 + m1) k2 (L0 ++ L1) w4 HQ4.out (by have := HMB.out; omega) (HE.out.below HB4.out)).mono ?_
      rintro e w5 ⟨hpo, hb⟩
      have HB5 := Lib.hid (HB4.out.trans (hb.mono HB4.out.size))
      have HQ5 := Lib.hid (HQ4.out.below hb)
      obtain ⟨D, ea, ec, ga, gc, z, rfl, hd20⟩ := co_any hpo (fun C hC => (parse_back hC).2.2.1.1)
      have HD20 := Lib.hid hd20
      clear hpo hb hd20 HQ4
      have HZ5 : Hid ((w5.alloc (.cells (coA cz (.slice none 0 0) (.slice none 0 0)) 34)).heap[w5.heap.size]? = some (.cells (coA cz (.slice none 0 0) (.slice none 0 0)) 34 (0, 0))) := heap_alloc_new _ _
      have HS5 : Hid (Below w5.heap.size w5 ((w5.alloc (.cells (coA cz (.slice none 0 0) (.slice none 0 0)) 34)).setRow w5.heap.size (coV D ea ec ga gc))) := below_setRow ((Below.refl _ _).alloc (Nat.le_refl _) _) (Nat.le_refl _) _
      have HR5 : Hid (((w5.alloc (.cells (coA cz (.slice none 0 0) (.slice none 0 0)) 34)).setRow w5.heap.size (coV D ea ec ga gc)).heap[w5.heap.size]? = some (.cells (coV D ea ec ga gc) 34 (0, 0))) := setRow_heap _ _ _ _ _ _ HZ5.out
      go_wp2_with (first
        | refine wpList_store_row rfl 34 _ _ rfl w5.heap.size (coV D ea ec ga gc) rfl rfl 34 (coA cz (.slice none 0 0) (.slice none 0 0)) HZ5.out (info_coA D _ _ HD20.out) (by unfold coV; rw [coA_size _ _ _ cz_20, coA_size D _ _ HD20.out]) (coA_one _ _ _ rfl rfl) ?_)
      obtain ⟨w6, hw5⟩ : ∃ Wn, (w5.alloc (.cells (coA cz (.slice none 0 0) (.slice none 0 0)) 34)).setRow w5.heap.size (coV D ea ec ga gc) = Wn := ⟨_, rfl⟩
      rw [hw5] at HS5 HR5 ⊢
      obtain ⟨b8, hb5⟩ : ∃ x, w5.heap.size = x := ⟨_, rfl⟩
      rw [hb5] at HR5 ⊢
      clear hw5 HZ5
      clear hb5 HR5
      have HB6 := Lib.hid (HB5.out.trans (HS5.out.mono HB5.out.size))
      have HQ6 := Lib.hid (HQ5.out.below HS5.out)
      clear HQ5
      go_wp2_with fail
      refine (tgparse_any a0 m0 cap0 L0 w6 (R0.out.bytes.below HB6.out) (by have := HMB.out; omega) (HE.out.below HB6.out) _ htc).mono ?_
      rintro e w7 ⟨hpo, hb⟩
      have HB7 := Lib.hid (HB6.out.trans (hb.mono HB6.out.size))
      have HQ7 := Lib.hid (HQ6.out.below hb)
      clear hb HQ6
      obtain rfl := hpo
      have HZ7 : Hid ((w7.alloc (.cells (tgA tz) 50)).heap[w7.heap.size]? = some (.cells (tgA tz) 50 (0, 0))) := heap_alloc_new _ _
      have HS7 : Hid (Below w7.heap.size w7 ((w7.alloc (.cells (tgA tz) 50)).setRow w7.heap.size (tgA tz))) := below_setRow ((Below.refl _ _).alloc (Nat.le_refl _) _) (Nat.le_refl _) _
      have HR7 : Hid (((w7.alloc (.cells (tgA tz) 50)).setRow w7.heap.size (tgA tz)).heap[w7.heap.size]? = some (.cells (tgA tz) 50 (0, 0))) := setRow_heap _ _ _ _ _ _ HZ7.out
      go_wp2_with (first
        | refine wpList_store_row rfl 50 _ _ rfl w7.heap.size (tgA tz) rfl rfl 50 (tgA tz) HZ7.out (info_tagA tz tz_20) ((tgA_size tz tz_20).trans (tgA_size tz tz_20).symm) (tgA_one _) ?_)
      obtain ⟨w8, hw7⟩ : ∃ Wn, (w7.alloc (.cells (tgA tz) 50)).setRow w7.heap.size (tgA tz) = Wn := ⟨_, rfl⟩
      rw [hw7] at HS7 HR7 ⊢
      obtain ⟨b10, hb7⟩ : ∃ x, w7.heap.size = x := ⟨_, rfl⟩
      rw [hb7] at HR7 ⊢
      clear hw7 HZ7
      clear hb7 HR7
      have HB8 := Lib.hid (HB7.out.trans (HS7.out.mono HB7.out.size))
      have HQ8 := Lib.hid (HQ7.out.below HS7.out)
      clear HQ7
      go_wp2_with fail
      refine (tgparse_any b2 (m0 + m1) k2 (L0 ++ L1) w8 HQ8.out (by have := HMB.out; omega) (HE.out.below HB8.out) _ rfl).mono ?_
      rintro e w9 ⟨hpo, hb⟩
      have HB9 := Lib.hid (HB8.out.trans (hb.mono HB8.out.size))
      clear hb HQ8
      obtain ⟨Y, z2, rfl, hy20⟩ := tg_any hpo (fun x hx => (tag_back hx).2.2.1)
      have HY20 := Lib.hid hy20
      clear hpo hy20
      have HZ9 : Hid ((w9.alloc (.cells (tgA tz) 50)).heap[w9.heap.size]? = some (.cells (tgA tz) 50 (0, 0))) := heap_alloc_new _ _
      have HS9 : Hid (Below w9.heap.size w9 ((w9.alloc (.cells (tgA tz) 50)).setRow w9.heap.size (tgA Y))) := below_setRow ((Below.refl _ _).alloc (Nat.le_refl _) _) (Nat.le_refl _) _
      have HR9 : Hid (((w9.alloc (.cells (tgA tz) 50)).setRow w9.heap.size (tgA Y)).heap[w9.heap.size]? = some (.cells (tgA Y) 50 (0, 0))) := setRow_heap _ _ _ _ _ _ HZ9.out
      go_wp2_with (first
        | (refine wpList_store_row rfl 50 _ _ rfl w9.heap.size (tgA Y) rfl rfl 50 (tgA tz) HZ9.out (info_tagA Y HY20.out) ((tgA_size tz tz_20).trans (tgA_size Y HY20.out).symm) (tgA_one _) ?_
           obtain ⟨w10, hw9⟩ : ∃ Wn, (w9.alloc (.cells (tgA tz) 50)).setRow w9.heap.size (tgA Y) = Wn := ⟨_, rfl⟩
           rw [hw9] at HS9 HR9 ⊢
           obtain ⟨b12, hb9⟩ : ∃ x, w9.heap.size = x := ⟨_, rfl⟩
           rw [hb9] at HR9 ⊢
           clear hw9 HZ9
           clear hb9 HR9
           have HB10 := Lib.hid (HB9.out.trans (HS9.out.mono HB9.out.size))
           clear HS3 HS5 HS7 HS9)
      )
      refine (known_any w10 (HE.out.below HB10.out)).mono ?_
      rintro e wk ⟨rfl, hbk⟩
      have HBK := Lib.hid (HB10.out.trans (hbk.mono HB10.out.size))
      clear hbk
      go_wp2_with fail
      go_ret
      exact ⟨rfl, HBK.out⟩
    | some X =>
      have HX20 : Hid (X.o.length = 20) := (tag_back htc).2.2.1
      have HTMORE := Lib.hid (tag_more htc L1)
      have HXM : Hid (X.m.size ≤ 2000) := by
        have h1 := (tag_back htc).1
        have h2 := congrArg List.length h1
        have h3 := HL0.out
        have h4 := HMB.out
        show _ ≤ _
        rw [Lib.size_eq]
        unfold printT at h2
        simp only [List.length_append, List.length_cons] at h2
        omega
      have hcp := coparse_any a0 m0 cap0 L0 u2 (R0.out.bytes.below HBU.out) (by have := HMB.out; omega) (HE.out.below HBU.out)
      rw [hpc] at hcp
      refine hcp.mono ?_
      clear hcp
      rintro e w3 ⟨hpo, hb⟩
      have HB3 := Lib.hid (HBU.out.trans (hb.mono HBU.out.size))
      have HQ3 := Lib.hid (HQ.out.below hb)
      clear hb HQ
      obtain rfl := hpo
      have HZ3 : Hid ((w3.alloc (.cells (coA cz (.slice none 0 0) (.slice none 0 0)) 34)).heap[w3.heap.size]? = some (.cells (coA cz (.slice none 0 0) (.slice none 0 0)) 34 (0, 0))) := heap_alloc_new _ _
      have HS3 : Hid (Below w3.heap.size w3 ((w3.alloc (.cells (coA cz (.slice none 0 0) (.slice none 0 0)) 34)).setRow w3.heap.size (coV cz none 0 none 0))) := below_setRow ((Below.refl _ _).alloc (Nat.le_refl _) _) (Nat.le_refl _) _
      have HR3 : Hid (((w3.alloc (.cells (coA cz (.slice none 0 0) (.slice none 0 0)) 34)).setRow w3.heap.size (coV cz none 0 none 0)).heap[w3.heap.size]? = some (.cells (coV cz none 0 none 0) 34 (0, 0))) := setRow_heap _ _ _ _ _ _ HZ3.out
      go_wp2_with (first
        | refine wpList_store_row rfl 34 _ _ rfl w3.heap.size (coV cz none 0 none 0) rfl rfl 34 (coA cz (.slice none 0 0) (.slice none 0 0)) HZ3.out (info_coA cz _ _ cz_20) (by unfold coV; rw [coA_size _ _ _ cz_20, coA_size cz _ _ cz_20]) (coA_one _ _ _ rfl rfl) ?_)
      obtain ⟨w4, hw3⟩ : ∃ Wn, (w3.alloc (.cells (coA cz (.slice none 0 0) (.slice none 0 0)) 34)).setRow w3.heap.size (coV cz none 0 none 0) = Wn := ⟨_, rfl⟩
      rw [hw3] at HS3 HR3 ⊢
      obtain ⟨b6, hb3⟩ : ∃ x, w3.heap.size = x := ⟨_, rfl⟩
      rw [hb3] at HR3 ⊢
      clear hw3 HZ3
      clear hb3 HR3
      have HB4 := Lib.hid (HB3.out.trans (HS3.out.mono HB3.out.size))
      have HQ4 := Lib.hid (HQ3.out.below HS3.out)
      clear HQ3
      go_wp2_with fail
      refine (coparse_any b2 (m0 + m1) k2 (L0 ++ L1) w4 HQ4.out (by have := HMB.out; omega) (HE.out.below HB4.out)).mono ?_
      rintro e w5 ⟨hpo, hb⟩
      have HB5 := Lib.hid (HB4.out.trans (hb.mono HB4.out.size))
      have HQ5 := Lib.hid (HQ4.out.below hb)
      obtain ⟨D, ea, ec, ga, gc, z, rfl, hd20⟩ := co_any hpo (fun C hC => (parse_back hC).2.2.1.1)
      have HD20 := Lib.hid hd20
      clear hpo hb hd20 HQ4
      have HZ5 : Hid ((w5.alloc (.cells (coA cz (.slice none 0 0) (.slice none 0 0)) 34)).heap[w5.heap.size]? = some (.cells (coA cz (.slice none 0 0) (.slice none 0 0)) 34 (0, 0))) := heap_alloc_new _ _
      have HS5 : Hid (Below w5.heap.size w5 ((w5.alloc (.cells (coA cz (.slice none 0 0) (.slice none 0 0)) 34)).setRow w5.heap.size (coV D ea ec ga gc))) := below_setRow ((Below.refl _ _).alloc (Nat.le_refl _) _) (Nat.le_refl _) _
      have HR5 : Hid (((w5.alloc (.cells (coA cz (.slice none 0 0) (.slice none 0 0)) 34)).setRow w5.heap.size (coV D ea ec ga gc)).heap[w5.heap.size]? = some (.cells (coV D ea ec ga gc) 34 (0, 0))) := setRow_heap _ _ _ _ _ _ HZ5.out
      go_wp2_with (first
        | refine wpList_store_row rfl 34 _ _ rfl w5.heap.size (coV D ea ec ga gc) rfl rfl 34 (coA cz (.slice none 0 0) (.slice none 0 0)) HZ5.out (info_coA D _ _ HD20.out) (by unfold coV; rw [coA_size _ _ _ cz_20, coA_size D _ _ HD20.out]) (coA_one _ _ _ rfl rfl) ?_)
      obtain ⟨w6, hw5⟩ : ∃ Wn, (w5.alloc (.cells (coA cz (.slice none 0 0) (.slice none 0 0)) 34)).setRow w5.heap.size (coV D ea ec ga gc) = Wn := ⟨_, rfl⟩
      rw [hw5] at HS5 HR5 ⊢
      obtain ⟨b8, hb5⟩ : ∃ x, w5.heap.size = x := ⟨_, rfl⟩
      rw [hb5] at HR5 ⊢
      clear hw5 HZ5
      clear hb5 HR5
      have HB6 := Lib.hid (HB5.out.trans (HS5.out.mono HB5.out.size))
      have HQ6 := Lib.hid (HQ5.out.below HS5.out)
      clear HQ5
      go_wp2_with fail
      refine (tgparse_any a0 m0 cap0 L0 w6 (R0.out.bytes.below HB6.out) (by have := HMB.out; omega) (HE.out.below HB6.out) _ htc).mono ?_
      rintro e w7 ⟨hpo, hb⟩
      have HB7 := Lib.hid (HB6.out.trans (hb.mono HB6.out.size))
      have HQ7 := Lib.hid (HQ6.out.below hb)
      clear hb HQ6
      obtain rfl := hpo
      have HZ7 : Hid ((w7.alloc (.cells (tgA tz) 50)).heap[w7.heap.size]? = some (.cells (tgA tz) 50 (0, 0))) := heap_alloc_new _ _
      have HS7 : Hid (Below w7.heap.size w7 ((w7.alloc (.cells (tgA tz) 50)).setRow w7.heap.size (tgA X))) := below_setRow ((Below.refl _ _).alloc (Nat.le_refl _) _) (Nat.le_refl _) _
      have HR7 : Hid (((w7.alloc (.cells (tgA tz) 50)).setRow w7.heap.size (tgA X)).heap[w7.heap.size]? = some (.cells (tgA X) 50 (0, 0))) := setRow_heap _ _ _ _ _ _ HZ7.out
      go_wp2_with (first
        | refine wpList_store_row rfl 50 _ _ rfl w7.heap.size (tgA X) rfl rfl 50 (tgA tz) HZ7.out (info_tagA X HX20.out) ((tgA_size tz tz_20).trans (tgA_size X HX20.out).symm) (tgA_one _) ?_)
      obtain ⟨w8, hw7⟩ : ∃ Wn, (w7.alloc (.cells (tgA tz) 50)).setRow w7.heap.size (tgA X) = Wn := ⟨_, rfl⟩
      rw [hw7] at HS7 HR7 ⊢
      obtain ⟨b10, hb7⟩ : ∃ x, w7.heap.size = x := ⟨_, rfl⟩
      rw [hb7] at HR7 ⊢
      clear hw7 HZ7
      have HLT : Hid (w.heap.size ≤ b10) := by rw [← hb7]; exact HB7.out.size
      clear hb7
      have HB8 := Lib.hid (HB7.out.trans (HS7.out.mono HB7.out.size))
      have HQ8 := Lib.hid (HQ7.out.below HS7.out)
      clear HQ7
      go_wp2_with fail
      refine (tgparse_any b2 (m0 + m1) k2 (L0 ++ L1) w8 HQ8.out (by have := HMB.out; omega) (HE.out.below HB8.out) _ HTMORE.out).mono ?_
      rintro e w9 ⟨hpo, hb⟩
      have HB9 := Lib.hid (HB8.out.trans (hb.mono HB8.out.size))
      have HR7 := Lib.hid ((hb.block b10 (Array.getElem?_eq_some_iff.1 HR7.out).1).trans HR7.out)
      clear hb HQ8
      obtain ⟨Y, hY⟩ : ∃ Y, ({ X with m := txt (X.m.data.toList ++ L1) } : TX) = Y := ⟨_, rfl⟩
      rw [hY] at hpo
      obtain rfl := hpo
      have HYE := Lib.hid hY
      have HY20 : Hid (Y.o.length = 20) := by rw [← hY]; exact HX20.out
      clear hY HTMORE
      have HNE102 : Hid (b10 ≠ w9.heap.size) := by have := (Array.getElem?_eq_some_iff.1 HR7.out).1; show _ ≠ _; omega
      have HZ9 : Hid ((w9.alloc (.cells (tgA tz) 50)).heap[w9.heap.size]? = some (.cells (tgA tz) 50 (0, 0))) := heap_alloc_new _ _
      have HS9 : Hid (Below w9.heap.size w9 ((w9.alloc (.cells (tgA tz) 50)).setRow w9.heap.size (tgA Y))) := below_setRow ((Below.refl _ _).alloc (Nat.le_refl _) _) (Nat.le_refl _) _
      have HR9 : Hid (((w9.alloc (.cells (tgA tz) 50)).setRow w9.heap.size (tgA Y)).heap[w9.heap.size]? = some (.cells (tgA Y) 50 (0, 0))) := setRow_heap _ _ _ _ _ _ HZ9.out
      go_wp2_with (first
        | (refine wpList_store_row rfl 50 _ _ rfl w9.heap.size (tgA Y) rfl rfl 50 (tgA tz) HZ9.out (info_tagA Y HY20.out) ((tgA_size tz tz_20).trans (tgA_size Y HY20.out).symm) (tgA_one _) ?_
           have HR7 := Lib.hid ((HS9.out.block b10 (Array.getElem?_eq_some_iff.1 HR7.out).1).trans HR7.out)
           obtain ⟨w10, hw9⟩ : ∃ Wn, (w9.alloc (.cells (tgA tz) 50)).setRow w9.heap.size (tgA Y) = Wn := ⟨_, rfl⟩
           rw [hw9] at HS9 HR9 HR7 ⊢
           obtain ⟨b12, hb9⟩ : ∃ x, w9.heap.size = x := ⟨_, rfl⟩
           rw [hb9] at HR9 ⊢
           clear hw9 HZ9
           rw [hb9] at HNE102
           clear hb9
           have HB10 := Lib.hid (HB9.out.trans (HS9.out.mono HB9.out.size))
           clear HS3 HS5 HS7 HS9
           have hgm := (TgRow.of HR7.out HX20.out).msg
           have hgf := frozen_of_row _ b10 26 _ _ HR7.out
           have htm := text_run w10 a1 m1 cap1 _ (R1.out.bytes.below HB10.out)
           rw [str_nums] at htm
           have HADD : Hid (∀ W, (binOp .add 9 (.string X.m) (.string (txt L1))).run Tryz.prog W = .ok (.string Y.m) W) := fun W => by
             have h1 := add_txt X.m (txt L1) _ rfl (by rw [txt_size]; have := HXM.out; have := HL1.out; have := HMB.out; omega) W
             rw [h1, ← HYE.out, txt_list]
           have HS26 : Hid ((w10.setCell ⟨b10, 26, none⟩ (.string Y.m)).heap[b10]? = some (.cells (tgA Y) 50 (0, 0))) := by
             show _ = _
             have s1 := heap_setCell_same w10 b10 26 _ _ (.string Y.m) HR7.out
             rw [tgA_msg X HX20.out] at s1
             rw [s1, ← HYE.out]
           have HS27 : Hid ((w10.setCell ⟨b10, 26, none⟩ (.string Y.m)).heap[b12]? = some (.cells (tgA Y) 50 (0, 0))) := (heap_setCell_ne w10 ⟨b10, 26, none⟩ _ b12 HNE102.out.symm).trans HR9.out
           have HBF : Hid (Below w.heap.size w (w10.setCell ⟨b10, 26, none⟩ (.string Y.m))) := HB10.out.setCell (p := ⟨b10, 26, none⟩) HLT.out _)
        | refine wpList_eql (by rfl) .add 9 _ _ _ rfl (.string X.m) (.string (txt L1)) rfl rfl (.string Y.m) (guard_addn _ _ _ _) (fun W => HADD.out W) ?_
        | refine wpList_load_row_g rfl 50 _ rfl b10 rfl 50 (tgA Y) (0, 0) _ HS26.out Tryz.underlying50 rfl (info_tagA Y HY20.out) ?_
        | refine wpList_load_row_g rfl 50 _ rfl b12 rfl 50 (tgA Y) (0, 0) _ HS27.out Tryz.underlying50 rfl (info_tagA Y HY20.out) ?_
        | refine wpList_eql (by rfl) .neq 50 _ _ _ rfl (.agg (tgA Y)) (.agg (tgA Y)) rfl rfl (.bool false) (guardn_tag _ _ _ _) (fun W => neq_tag Y HY20.out W) ?_)
      clear hgm hgf htm HADD
      refine (known_any _ (HE.out.below HBF.out)).mono ?_
      rintro e wk ⟨rfl, hbk⟩
      have HBK := Lib.hid (HBF.out.trans (hbk.mono HBF.out.size))
      clear hbk
      go_wp2_with fail
      go_ret
      exact ⟨rfl, HBK.out⟩
  | some C =>
    have HMORE := Lib.hid (parse_more hpc L1)
    have HSZ : Hid (C.m.size ≤ 2000 ∧ C.ps.length ≤ 100000 ∧ C.xs.length ≤ 100000) := by
      have h1 := (parse_back hpc).1
      have h2 := congrArg List.length h1
      have h3 := HL0.out
      have h4 := HMB.out
      have h5 := raw_small L0 (by omega)
      rw [← parse_raw hpc] at h5
      rw [printC_size] at h2
      refine ⟨by rw [Lib.size_eq]; omega, by have := h5.2.2.1; omega, by have := h5.2.2.2.1; omega⟩
    cases htc : parseT L0 with
    | none =>
      have hcp := coparse_any a0 m0 cap0 L0 u2 (R0.out.bytes.below HBU.out) (by have := HMB.out; omega) (HE.out.below HBU.out)
      rw [hpc] at hcp
      refine hcp.mono ?_
      clear hcp
      rintro e w3 ⟨hpo, hb⟩
      have HB3 := Lib.hid (HBU.out.trans (hb.mono HBU.out.size))
      have HQ3 := Lib.hid (HQ.out.below hb)
      clear hb HQ
      obtain ⟨ca, cc, da, dc, rfl, hat, hfx, hff⟩ := hpo
      have HC20 := Lib.hid hat.n20
      have HPX0 : Hid (∀ b' off, ca = some ⟨b', off, none⟩ → C.ps.length ≠ 0 → b' < w3.heap.size) := fun b' off he h0 => by
        rcases hat.pars with h | ⟨b, o, e, hl, -⟩
        · exact absurd h h0
        · rw [e] at he
          simp only [Option.some.injEq, Addr.mk.injEq] at he
          omega
      have HXX0 : Hid (∀ b' off, da = some ⟨b', off, none⟩ → C.xs.length ≠ 0 → b' < w3.heap.size) := fun b' off he h0 => by
        rcases hat.exts with h | ⟨b, o, e, hl, -⟩
        · exact absurd h h0
        · rw [e] at he
          simp only [Option.some.injEq, Addr.mk.injEq] at he
          omega
      have HLO : Hid (w.heap.size ≤ w3.heap.size) := HB3.out.size
      clear hfx hff
      have HZ3 : Hid ((w3.alloc (.cells (coA cz (.slice none 0 0) (.slice none 0 0)) 34)).heap[w3.heap.size]? = some (.cells (coA cz (.slice none 0 0) (.slice none 0 0)) 34 (0, 0))) := heap_alloc_new _ _
      have HS3 : Hid (Below w3.heap.size w3 ((w3.alloc (.cells (coA cz (.slice none 0 0) (.slice none 0 0)) 34)).setRow w3.heap.size (coV C ca cc da dc))) := below_setRow ((Below.refl _ _).alloc (Nat.le_refl _) _) (Nat.le_refl _) _
      have HR3 : Hid (((w3.alloc (.cells (coA cz (.slice none 0 0) (.slice none 0 0)) 34)).setRow w3.heap.size (coV C ca cc da dc)).heap[w3.heap.size]? = some (.cells (coV C ca cc da dc) 34 (0, 0))) := setRow_heap _ _ _ _ _ _ HZ3.out
      have HATC := Lib.hid (hat.below HS3.out)
      clear hat
      go_wp2_with (first
        | refine wpList_store_row rfl 34 _ _ rfl w3.heap.size (coV C ca cc da dc) rfl rfl 34 (coA cz (.slice none 0 0) (.slice none 0 0)) HZ3.out (info_coA C _ _ HC20.out) (by unfold coV; rw [coA_size _ _ _ cz_20, coA_size C _ _ HC20.out]) (coA_one _ _ _ rfl rfl) ?_)
      obtain ⟨w4, hw3⟩ : ∃ Wn, (w3.alloc (.cells (coA cz (.slice none 0 0) (.slice none 0 0)) 34)).setRow w3.heap.size (coV C ca cc da dc) = Wn := ⟨_, rfl⟩
      rw [hw3] at HS3 HR3 HATC ⊢
      obtain ⟨b6, hb3⟩ : ∃ x, w3.heap.size = x := ⟨_, rfl⟩
      rw [hb3] at HR3 ⊢
      clear hw3 HZ3
      rw [hb3] at HPX0 HXX0 HLO
      clear hb3
      have HB4 := Lib.hid (HB3.out.trans (HS3.out.mono HB3.out.size))
      have HQ4 := Lib.hid (HQ3.out.below HS3.out)
      clear HQ3
      go_wp2_with fail
      have hcp := coparse_any b2 (m0 + m1) k2 (L0 ++ L1) w4 HQ4.out (by have := HMB.out; omega) (HE.out.below HB4.out)
      rw [HMORE.out] at hcp
      refine hcp.mono ?_
      clear hcp
      rintro e w5 ⟨hpo, hb⟩
      have HB5 := Lib.hid (HB4.out.trans (hb.mono HB4.out.size))
      have HQ5 := Lib.hid (HQ4.out.below hb)
      obtain ⟨D, hD⟩ : ∃ D, ({ C with m := txt (C.m.data.toList ++ L1) } : CC) = D := ⟨_, rfl⟩
      rw [hD] at hpo
      obtain ⟨ea, ec, ga, gc, rfl, hat, hfx, hff⟩ := hpo
      have HEX0 : Hid (∀ b' off, ea = some ⟨b', off, none⟩ → D.ps.length ≠ 0 → b' ≠ b6) := fun b' off he _ => by have h1 := hfx b' off he; have h2 := (Array.getElem?_eq_some_iff.1 HR3.out).1; omega
      have HGX0 : Hid (∀ b' off, ga = some ⟨b', off, none⟩ → D.xs.length ≠ 0 → b' ≠ b6) := fun b' off he _ => by have h1 := hff b' off he; have h2 := (Array.getElem?_eq_some_iff.1 HR3.out).1; omega
      have HD20 := Lib.hid hat.n20
      have HDE := Lib.hid hD
      have HR3 := Lib.hid ((hb.block b6 (Array.getElem?_eq_some_iff.1 HR3.out).1).trans HR3.out)
      have HATC := Lib.hid (HATC.out.below hb)
      have HNE68 : Hid (b6 ≠ w5.heap.size) := by have := (Array.getElem?_eq_some_iff.1 HR3.out).1; show _ ≠ _; omega
      clear hfx hff hb HQ4 HMORE hD
      have HZ5 : Hid ((w5.alloc (.cells (coA cz (.slice none 0 0) (.slice none 0 0)) 34)).heap[w5.heap.size]? = some (.cells (coA cz (.slice none 0 0) (.slice none 0 0)) 34 (0, 0))) := heap_alloc_new _ _
      have HS5 : Hid (Below w5.heap.size w5 ((w5.alloc (.cells (coA cz (.slice none 0 0) (.slice none 0 0)) 34)).setRow w5.heap.size (coV D ea ec ga gc))) := below_setRow ((Below.refl _ _).alloc (Nat.le_refl _) _) (Nat.le_refl _) _
      have HR5 : Hid (((w5.alloc (.cells (coA cz (.slice none 0 0) (.slice none 0 0)) 34)).setRow w5.heap.size (coV D ea ec ga gc)).heap[w5.heap.size]? = some (.cells (coV D ea ec ga gc) 34 (0, 0))) := setRow_heap _ _ _ _ _ _ HZ5.out
      have HATD := Lib.hid (hat.below HS5.out)
      clear hat
      go_wp2_with (first
        | refine wpList_store_row rfl 34 _ _ rfl w5.heap.size (coV D ea ec ga gc) rfl rfl 34 (coA cz (.slice none 0 0) (.slice none 0 0)) HZ5.out (info_coA D _ _ HD20.out) (by unfold coV; rw [coA_size _ _ _ cz_20, coA_size D _ _ HD20.out]) (coA_one _ _ _ rfl rfl) ?_)
      have HR3 := Lib.hid ((HS5.out.block b6 (Array.getElem?_eq_some_iff.1 HR3.out).1).trans HR3.out)
      have HATC := Lib.hid (HATC.out.below HS5.out)
      obtain ⟨w6, hw5⟩ : ∃ Wn, (w5.alloc (.cells (coA cz (.slice none 0 0) (.slice none 0 0)) 34)).setRow w5.heap.size (coV D ea ec ga gc) = Wn := ⟨_, rfl⟩
      rw [hw5] at HS5 HR5 HATD HR3 HATC ⊢
      obtain ⟨b8, hb5⟩ : ∃ x, w5.heap.size = x := ⟨_, rfl⟩
      rw [hb5] at HR5 ⊢
      clear hw5 HZ5
      rw [hb5] at HNE68
      clear hb5
      have HB6 := Lib.hid (HB5.out.trans (HS5.out.mono HB5.out.size))
      have HQ6 := Lib.hid (HQ5.out.below HS5.out)
      clear HQ5
      go_wp2_with fail
      refine (tgparse_any a0 m0 cap0 L0 w6 (R0.out.bytes.below HB6.out) (by have := HMB.out; omega) (HE.out.below HB6.out) _ htc).mono ?_
      rintro e w7 ⟨hpo, hb⟩
      have HB7 := Lib.hid (HB6.out.trans (hb.mono HB6.out.size))
      have HQ7 := Lib.hid (HQ6.out.below hb)
      have HR3 := Lib.hid ((hb.block b6 (Array.getElem?_eq_some_iff.1 HR3.out).1).trans HR3.out)
      have HATC := Lib.hid (HATC.out.below hb)
      have HR5 := Lib.hid ((hb.block b8 (Array.getElem?_eq_some_iff.1 HR5.out).1).trans HR5.out)
      have HATD := Lib.hid (HATD.out.below hb)
      clear hb HQ6
      obtain rfl := hpo
      have HZ7 : Hid ((w7.alloc (.cells (tgA tz) 50)).heap[w7.heap.size]? = some (.cells (tgA tz) 50 (0, 0))) := heap_alloc_new _ _
      have HS7 : Hid (Below w7.heap.size w7 ((w7.alloc (.cells (tgA tz) 50)).setRow w7.heap.size (tgA tz))) := below_setRow ((Below.refl _ _).alloc (Nat.le_refl _) _) (Nat.le_refl _) _
      have HR7 : Hid (((w7.alloc (.cells (tgA tz) 50)).setRow w7.heap.size (tgA tz)).heap[w7.heap.size]? = some (.cells (tgA tz) 50 (0, 0))) := setRow_heap _ _ _ _ _ _ HZ7.out
      go_wp2_with (first
        | refine wpList_store_row rfl 50 _ _ rfl w7.heap.size (tgA tz) rfl rfl 50 (tgA tz) HZ7.out (info_tagA tz tz_20) ((tgA_size tz tz_20).trans (tgA_size tz tz_20).symm) (tgA_one _) ?_)
      have HR3 := Lib.hid ((HS7.out.block b6 (Array.getElem?_eq_some_iff.1 HR3.out).1).trans HR3.out)
      have HATC := Lib.hid (HATC.out.below HS7.out)
      have HR5 := Lib.hid ((HS7.out.block b8 (Array.getElem?_eq_some_iff.1 HR5.out).1).trans HR5.out)
      have HATD := Lib.hid (HATD.out.below HS7.out)
      obtain ⟨w8, hw7⟩ : ∃ Wn, (w7.alloc (.cells (tgA tz) 50)).setRow w7.heap.size (tgA tz) = Wn := ⟨_, rfl⟩
      rw [hw7] at HS7 HR7 HR3 HATC HR5 HATD ⊢
      obtain ⟨b10, hb7⟩ : ∃ x, w7.heap.size = x := ⟨_, rfl⟩
      rw [hb7] at HR7 ⊢
      clear hw7 HZ7
      clear hb7 HR7
      have HB8 := Lib.hid (HB7.out.trans (HS7.out.mono HB7.out.size))
      have HQ8 := Lib.hid (HQ7.out.below HS7.out)
      clear HQ7
      go_wp2_with fail
      refine (tgparse_any b2 (m0 + m1) k2 (L0 ++ L1) w8 HQ8.out (by have := HMB.out; omega) (HE.out.below HB8.out) _ rfl).mono ?_
      rintro e w9 ⟨hpo, hb⟩
      have HB9 := Lib.hid (HB8.out.trans (hb.mono HB8.out.size))
      have HR3 := Lib.hid ((hb.block b6 (Array.getElem?_eq_some_iff.1 HR3.out).1).trans HR3.out)
      have HATC := Lib.hid (HATC.out.below hb)
      have HR5 := Lib.hid ((hb.block b8 (Array.getElem?_eq_some_iff.1 HR5.out).1).trans HR5.out)
      have HATD := Lib.hid (HATD.out.below hb)
      clear hb HQ8
      obtain ⟨Y, z2, rfl, hy20⟩ := tg_any hpo (fun x hx => (tag_back hx).2.2.1)
      have HY20 := Lib.hid hy20
      clear hpo hy20
      have HZ9 : Hid ((w9.alloc (.cells (tgA tz) 50)).heap[w9.heap.size]? = some (.cells (tgA tz) 50 (0, 0))) := heap_alloc_new _ _
      have HS9 : Hid (Below w9.heap.size w9 ((w9.alloc (.cells (tgA tz) 50)).setRow w9.heap.size (tgA Y))) := below_setRow ((Below.refl _ _).alloc (Nat.le_refl _) _) (Nat.le_refl _) _
      have HR9 : Hid (((w9.alloc (.cells (tgA tz) 50)).setRow w9.heap.size (tgA Y)).heap[w9.heap.size]? = some (.cells (tgA Y) 50 (0, 0))) := setRow_heap _ _ _ _ _ _ HZ9.out
      go_wp2_with (first
        | (refine wpList_store_row rfl 50 _ _ rfl w9.heap.size (tgA Y) rfl rfl 50 (tgA tz) HZ9.out (info_tagA Y HY20.out) ((tgA_size tz tz_20).trans (tgA_size Y HY20.out).symm) (tgA_one _) ?_
           have HR3 := Lib.hid ((HS9.out.block b6 (Array.getElem?_eq_some_iff.1 HR3.out).1).trans HR3.out)
           have HATC := Lib.hid (HATC.out.below HS9.out)
           have HR5 := Lib.hid ((HS9.out.block b8 (Array.getElem?_eq_some_iff.1 HR5.out).1).trans HR5.out)
           have HATD := Lib.hid (HATD.out.below HS9.out)
           obtain ⟨w10, hw9⟩ : ∃ Wn, (w9.alloc (.cells (tgA tz) 50)).setRow w9.heap.size (tgA Y) = Wn := ⟨_, rfl⟩
           rw [hw9] at HS9 HR9 HR3 HATC HR5 HATD ⊢
           obtain ⟨b12, hb9⟩ : ∃ x, w9.heap.size = x := ⟨_, rfl⟩
           rw [hb9] at HR9 ⊢
           clear hw9 HZ9
           clear hb9 HR9
           have HB10 := Lib.hid (HB9.out.trans (HS9.out.mono HB9.out.size))
           clear HS3 HS5 HS7 HS9
           have hcm := (CoRow.of HR3.out HC20.out).msg
           have hfm := frozen_of_row _ b6 30 _ _ HR3.out
           have htm := text_run w10 a1 m1 cap1 _ (R1.out.bytes.below HB10.out)
           rw [str_nums] at htm
           have HADD : Hid (∀ W, (binOp .add 9 (.string C.m) (.string (txt L1))).run Tryz.prog W = .ok (.string D.m) W) := fun W => by
             have h1 := add_txt C.m (txt L1) _ rfl (by rw [txt_size]; have := HSZ.out; have := HL1.out; have := HMB.out; omega) W
             rw [h1, ← HDE.out, txt_list])
        | refine wpList_eql (by rfl) .add 9 _ _ _ rfl (.string C.m) (.string (txt L1)) rfl rfl (.string D.m) (guard_addn _ _ _ _) (fun W => HADD.out W) ?_)
      clear hcm hfm htm HADD
      obtain ⟨w20, hw20⟩ : ∃ X, w10.setCell ⟨b6, 30, none⟩ (.string D.m) = X := ⟨_, rfl⟩
      have HR6D : Hid (w20.heap[b6]? = some (.cells (coA D (.slice ca C.ps.length cc) (.slice da C.xs.length dc)) 34 (0, 0))) := by
        show _ = _
        rw [← hw20]
        have s1 := heap_setCell_same w10 b6 30 _ _ (.string D.m) HR3.out
        unfold coV at s1
        rw [coA_set C _ _ HC20.out 10 _] at s1
        rw [s1, ← HDE.out]
        rfl
      have HR8D : Hid (w20.heap[b8]? = some (.cells (coV D ea ec ga gc) 34 (0, 0))) := by
        show _ = _
        rw [← hw20]
        exact (heap_setCell_ne w10 ⟨b6, 30, none⟩ _ b8 HNE68.out.symm).trans HR5.out
      have HB20 : Hid (Below w.heap.size w w20) := by rw [← hw20]; exact HB10.out.setCell (p := ⟨b6, 30, none⟩) HLO.out _
      have HPS : D.ps = C.ps := by rw [← HDE.out]
      have HXS : D.xs = C.xs := by rw [← HDE.out]
      have HTS : D.tr = C.tr := by rw [← HDE.out]
      have HATX0 : Hid (CoAt w20 D ca da) := by
        rw [← hw20]
        refine ⟨HD20.out, by rw [HTS]; exact HATC.out.byt, by rw [HPS]; exact HATC.out.ids, ?_, ?_⟩
        · rw [HPS]; exact rowat_setCell HATC.out.pars (fun b' off he h0 => Nat.ne_of_lt (HPX0.out b' off he h0))
        · rw [HXS]; exact rowat_setCell HATC.out.exts (fun b' off he h0 => Nat.ne_of_lt (HXX0.out b' off he h0))
      have HATY0 : Hid (CoAt w20 D ea ga) := by
        rw [← hw20]
        exact ⟨HD20.out, HATD.out.byt, HATD.out.ids, rowat_setCell HATD.out.pars HEX0.out, rowat_setCell HATD.out.exts HGX0.out⟩
      rw [hw20]
      clear hw20 HR3 HR5 HATC HATD HB10
      have HXN : Hid (D.ps.length ≤ 100000) := by rw [HPS]; exact HSZ.out.2.1
      have HFN : Hid (D.xs.length ≤ 100000) := by rw [HXS]; exact HSZ.out.2.2
      rw [← HPS, ← HXS] at HR6D
      have HCX : Hid ((coL D (.slice ca D.ps.length cc) (.slice da D.xs.length dc)).toArray = coV D ca cc da dc) := rfl
      have HCY : Hid ((coL D (.slice ea D.ps.length ec) (.slice ga D.xs.length gc)).toArray = coV D ea ec ga gc) := rfl
      have HLb6 : Hid (∀ W, Below w20.heap.size w20 W → W.rangeAt b6 0 (coL D (.slice ca D.ps.length cc) (.slice da D.xs.length dc))) := fun W hW => (CoRow.of ((hW.block b6 (Array.getElem?_eq_some_iff.1 HR6D.out).1).trans HR6D.out) HD20.out).cells
      have HLb8 : Hid (∀ W, Below w20.heap.size w20 W → W.rangeAt b8 0 (coL D (.slice ea D.ps.length ec) (.slice ga D.xs.length gc))) := fun W hW => (CoRow.of ((hW.block b8 (Array.getElem?_eq_some_iff.1 HR8D.out).1).trans HR8D.out) HD20.out).cells
      have HATX : Hid (∀ W, Below w20.heap.size w20 W → CoAt W D ca da) := fun W hW => HATX0.out.below hW
      have HATY : Hid (∀ W, Below w20.heap.size w20 W → CoAt W D ea ga) := fun W hW => HATY0.out.below hW
      clear HATX0 HATY0 HPS HXS HTS HR6D HR8D HDE
      refine wp_region_noPanic ?_
      refine wp_region_held_drew (S := fun W => Below w20.heap.size w20 W) (by kernel_rfl) ?_ (fun hHeld => ?_)
      · exact (Below.refl _ _).drew
      refine wpAnyH_take (i := 0) (v := ?_) (by simp only [List.getElem?_toArray, List.getElem?_cons_zero]; rfl) (by kernel_rfl) (by kernel_rfl) (by kernel_rfl) (fun _ _ _ h => h) (Or.inl ⟨by rfl, ?_⟩) (by assumption) ?_
      rotate_left
      · intro W hSW
        go_simp
        try with_reducible rfl
      try simp only [Act.put, List.setIfInBounds_toArray, List.set_cons_zero, List.set_cons_succ]
      refine wpAnyH_take (i := 1) (v := ?_) (by simp only [List.getElem?_toArray, List.getElem?_cons_succ, List.getElem?_cons_zero]; rfl) (by kernel_rfl) (by kernel_rfl) (by kernel_rfl) (fun _ _ _ h => h) (Or.inl ⟨by rfl, ?_⟩) (by assumption) ?_
      rotate_left
      · intro W hSW
        go_simp
        try with_reducible rfl
      try simp only [Act.put, List.setIfInBounds_toArray, List.set_cons_zero, List.set_cons_succ]
      refine wpAnyH_take (i := 2) (v := ?_) (by simp only [List.getElem?_toArray, List.getElem?_cons_succ, List.getElem?_cons_zero]; rfl) (by kernel_rfl) (by kernel_rfl) (by kernel_rfl) (fun _ _ _ h => h) (Or.inl ⟨by rfl, ?_⟩) (by assumption) ?_
      rotate_left
      · intro W hSW
        go_simp
        try with_reducible rfl
      try simp only [Act.put, List.setIfInBounds_toArray, List.set_cons_zero, List.set_cons_succ]
      refine wpAnyH_take (i := 3) (by simp only [List.getElem?_toArray, List.getElem?_cons_succ, List.getElem?_cons_zero]; rfl) (by kernel_rfl) (by kernel_rfl) (by kernel_rfl) (fun _ _ _ h => h) (yieldsIf_load_mid (by rfl) 34 _ rfl b6 0 rfl (coL D (.slice ca D.ps.length cc) (.slice da D.xs.length dc)) _ (fun W hSW => HLb6.out W hSW) Tryz.underlying34 rfl (info_co D _ _ HD20.out)) (by assumption) ?_
      try simp only [Act.put, List.setIfInBounds_toArray, List.set_cons_zero, List.set_cons_succ]
      refine wpAnyH_take (i := 5) (by simp only [List.getElem?_toArray, List.getElem?_cons_succ, List.getElem?_cons_zero]; rfl) (by kernel_rfl) (by kernel_rfl) (by kernel_rfl) (fun _ _ _ h => h) (yieldsIf_load_mid (by rfl) 34 _ rfl b8 0 rfl (coL D (.slice ea D.ps.length ec) (.slice ga D.xs.length gc)) _ (fun W hSW => HLb8.out W hSW) Tryz.underlying34 rfl (info_co D _ _ HD20.out)) (by assumption) ?_
      try simp only [Act.put, List.setIfInBounds_toArray, List.set_cons_zero, List.set_cons_succ]
      rw [HCX.out, HCY.out]
      refine wpAnyH_ready (rs := [4]) (by kernel_rfl) (by simp) ?_
      refine AllReadyH.cons (by simp only [List.getElem?_toArray, List.getElem?_cons_succ, List.getElem?_cons_zero]; rfl) (fun K hK => ?_) AllReadyH.nil
      go_simp
      refine (coof_any D ca cc da dc _ (HATX.out _ (Below.refl _ _).drew) HXN.out HFN.out).mono ?_
      rintro e v1 ⟨⟨oa, oc, qa, qc, rfl, ho1⟩, hb⟩
      have hv1 : Below w20.heap.size w20 v1 := (Below.refl _ _).drew.trans hb
      have HV1 := Lib.hid hv1
      have HO1 := Lib.hid ho1
      clear hb hv1 ho1
      go_wp2_with fail
      refine hK.out _ _ (HV1.out) (fun hHeld2 => ?_)
      clear hK K hHeld
      have hHeld := hHeld2
      clear hHeld2
      try simp only [Act.put, List.setIfInBounds_toArray, List.set_cons_zero, List.set_cons_succ]
      refine wpAnyH_ready (rs := [6]) (by kernel_rfl) (by simp) ?_
      refine AllReadyH.cons (by simp only [List.getElem?_toArray, List.getElem?_cons_succ, List.getElem?_cons_zero]; rfl) (fun K hK => ?_) AllReadyH.nil
      go_simp
      refine (coof_any D ea ec ga gc _ (HATY.out _ HV1.out) HXN.out HFN.out).mono ?_
      rintro e v2 ⟨⟨ra, rc, sa, sc, rfl, ho1⟩, hb⟩
      have hv2 : Below w20.heap.size w20 v2 := HV1.out.trans (hb.mono HV1.out.size)
      have HV2 := Lib.hid hv2
      have HO3 := Lib.hid ho1
      have HO5 := Lib.hid (HO1.out.below hb)
      clear hb hv2 ho1
      go_wp2_with fail
      refine hK.out _ _ (HV2.out) (fun hHeld2 => ?_)
      clear hK K hHeld
      have hHeld := hHeld2
      clear hHeld2
      try simp only [Act.put, List.setIfInBounds_toArray, List.set_cons_zero, List.set_cons_succ]
      refine wpAnyH_ready (rs := [7]) (by kernel_rfl) (by simp) ?_
      refine AllReadyH.cons (by simp only [List.getElem?_toArray, List.getElem?_cons_succ, List.getElem?_cons_zero]; rfl) (fun K hK => ?_) AllReadyH.nil
      go_simp
      refine (cosame_any D oa oc qa qc ra rc sa sc _ HO5.out HO3.out HXN.out HFN.out).mono ?_
      rintro e v3 ⟨rfl, hb⟩
      have hv3 : Below w20.heap.size w20 v3 := HV2.out.trans (hb.mono HV2.out.size)
      have HV3 := Lib.hid hv3
      clear hb hv3
      go_wp2_with fail
      refine hK.out _ _ (HV3.out) (fun hHeld2 => ?_)
      clear hK K hHeld
      have hHeld := hHeld2
      clear hHeld2
      try simp only [Act.put, List.setIfInBounds_toArray, List.set_cons_zero, List.set_cons_succ]
      refine wpAnyH_take (i := 8) (v := ?_) (by simp only [List.getElem?_toArray, List.getElem?_cons_succ, List.getElem?_cons_zero]; rfl) (by kernel_rfl) (by kernel_rfl) (by kernel_rfl) (fun _ _ _ h => h) (Or.inl ⟨by rfl, ?_⟩) (by assumption) ?_
      rotate_left
      · intro W hSW
        go_simp
        try with_reducible rfl
      try simp only [Act.put, List.setIfInBounds_toArray, List.set_cons_zero, List.set_cons_succ]
      refine wpAnyH_take (i := 9) (v := ?_) (by simp only [List.getElem?_toArray, List.getElem?_cons_succ, List.getElem?_cons_zero]; rfl) (by kernel_rfl) (by kernel_rfl) (by kernel_rfl) (fun _ _ _ h => h) (Or.inl ⟨by rfl, ?_⟩) (by assumption) ?_
      rotate_left
      · intro W hSW
        go_simp
        try with_reducible rfl
      try simp only [Act.put, List.setIfInBounds_toArray, List.set_cons_zero, List.set_cons_succ]
      refine wpAnyH_done (by kernel_rfl) ?_ _
      refine NoPanic.normal ?_
      clear hHeld
      have HB21 := Lib.hid (HB20.out.trans (HV3.out.mono HB20.out.size))
      obtain ⟨w21, hw21⟩ : ∃ X, v3 = X := ⟨_, rfl⟩
      rw [hw21] at HB21  ⊢
      clear hw21 HV1 HV2 HV3 HO1 HO3 HO5
      go_wp2_with fail
      refine (coparse_short a0 m2 cap0 (L0.take m2) w21 (R2.out.bytes.below HB21.out) (by have := HMB.out; omega) (HE.out.below HB21.out) HSHORT.out).mono ?_
      rintro e w22 ⟨rfl, hb⟩
      have HB22 := Lib.hid (HB21.out.trans (hb.mono HB21.out.size))
      clear hb
      have HZ22 : Hid ((w22.alloc (.cells (coA cz (.slice none 0 0) (.slice none 0 0)) 34)).heap[w22.heap.size]? = some (.cells (coA cz (.slice none 0 0) (.slice none 0 0)) 34 (0, 0))) := heap_alloc_new _ _
      have HS22 : Hid (Below w22.heap.size w22 ((w22.alloc (.cells (coA cz (.slice none 0 0) (.slice none 0 0)) 34)).setRow w22.heap.size (coV cz none 0 none 0))) := below_setRow ((Below.refl _ _).alloc (Nat.le_refl _) _) (Nat.le_refl _) _
      have HR22 : Hid (((w22.alloc (.cells (coA cz (.slice none 0 0) (.slice none 0 0)) 34)).setRow w22.heap.size (coV cz none 0 none 0)).heap[w22.heap.size]? = some (.cells (coV cz none 0 none 0) 34 (0, 0))) := setRow_heap _ _ _ _ _ _ HZ22.out
      go_wp2_with (first
        | (refine wpList_store_row rfl 34 _ _ rfl w22.heap.size (coV cz none 0 none 0) rfl rfl 34 (coA cz (.slice none 0 0) (.slice none 0 0)) HZ22.out (info_coA cz _ _ cz_20) (by unfold coV; rw [coA_size _ _ _ cz_20, coA_size cz _ _ cz_20]) (coA_one _ _ _ rfl rfl) ?_
           obtain ⟨w23, hw22⟩ : ∃ Wn, (w22.alloc (.cells (coA cz (.slice none 0 0) (.slice none 0 0)) 34)).setRow w22.heap.size (coV cz none 0 none 0) = Wn := ⟨_, rfl⟩
           rw [hw22] at HS22 HR22 ⊢
           obtain ⟨b14, hb22⟩ : ∃ x, w22.heap.size = x := ⟨_, rfl⟩
           rw [hb22] at HR22 ⊢
           clear hw22 HZ22
           clear hb22 HR22
           have HB23 := Lib.hid (HB22.out.trans (HS22.out.mono HB22.out.size)))
      )
      refine (known_any w23 (HE.out.below HB23.out)).mono ?_
      rintro e wk ⟨rfl, hbk⟩
      have HBK := Lib.hid (HB23.out.trans (hbk.mono HB23.out.size))
      clear hbk
      go_wp2_with fail
      go_ret
      exact ⟨rfl, HBK.out⟩
    | some X =>
      have HX20 : Hid (X.o.length = 20) := (tag_back htc).2.2.1
      have HTMORE := Lib.hid (tag_more htc L1)
      have HXM : Hid (X.m.size ≤ 2000) := by
        have h1 := (tag_back htc).1
        have h2 := congrArg List.length h1
        have h3 := HL0.out
        have h4 := HMB.out
        show _ ≤ _
        rw [Lib.size_eq]
        unfold printT at h2
        simp only [List.length_append, List.length_cons] at h2
        omega
      have hcp := coparse_any a0 m0 cap0 L0 u2 (R0.out.bytes.below HBU.out) (by have := HMB.out; omega) (HE.out.below HBU.out)
      rw [hpc] at hcp
      refine hcp.mono ?_
      clear hcp
      rintro e w3 ⟨hpo, hb⟩
      have HB3 := Lib.hid (HBU.out.trans (hb.mono HBU.out.size))
      have HQ3 := Lib.hid (HQ.out.below hb)
      clear hb HQ
      obtain ⟨ca, cc, da, dc, rfl, hat, hfx, hff⟩ := hpo
      have HC20 := Lib.hid hat.n20
      have HPX0 : Hid (∀ b' off, ca = some ⟨b', off, none⟩ → C.ps.length ≠ 0 → b' < w3.heap.size) := fun b' off he h0 => by
        rcases hat.pars with h | ⟨b, o, e, hl, -⟩
        · exact absurd h h0
        · rw [e] at he
          simp only [Option.some.injEq, Addr.mk.injEq] at he
          omega
      have HXX0 : Hid (∀ b' off, da = some ⟨b', off, none⟩ → C.xs.length ≠ 0 → b' < w3.heap.size) := fun b' off he h0 => by
        rcases hat.exts with h | ⟨b, o, e, hl, -⟩
        · exact absurd h h0
        · rw [e] at he
          simp only [Option.some.injEq, Addr.mk.injEq] at he
          omega
      have HLO : Hid (w.heap.size ≤ w3.heap.size) := HB3.out.size
      clear hfx hff
      have HZ3 : Hid ((w3.alloc (.cells (coA cz (.slice none 0 0) (.slice none 0 0)) 34)).heap[w3.heap.size]? = some (.cells (coA cz (.slice none 0 0) (.slice none 0 0)) 34 (0, 0))) := heap_alloc_new _ _
      have HS3 : Hid (Below w3.heap.size w3 ((w3.alloc (.cells (coA cz (.slice none 0 0) (.slice none 0 0)) 34)).setRow w3.heap.size (coV C ca cc da dc))) := below_setRow ((Below.refl _ _).alloc (Nat.le_refl _) _) (Nat.le_refl _) _
      have HR3 : Hid (((w3.alloc (.cells (coA cz (.slice none 0 0) (.slice none 0 0)) 34)).setRow w3.heap.size (coV C ca cc da dc)).heap[w3.heap.size]? = some (.cells (coV C ca cc da dc) 34 (0, 0))) := setRow_heap _ _ _ _ _ _ HZ3.out
      have HATC := Lib.hid (hat.below HS3.out)
      clear hat
      go_wp2_with (first
        | refine wpList_store_row rfl 34 _ _ rfl w3.heap.size (coV C ca cc da dc) rfl rfl 34 (coA cz (.slice none 0 0) (.slice none 0 0)) HZ3.out (info_coA C _ _ HC20.out) (by unfold coV; rw [coA_size _ _ _ cz_20, coA_size C _ _ HC20.out]) (coA_one _ _ _ rfl rfl) ?_)
      obtain ⟨w4, hw3⟩ : ∃ Wn, (w3.alloc (.cells (coA cz (.slice none 0 0) (.slice none 0 0)) 34)).setRow w3.heap.size (coV C ca cc da dc) = Wn := ⟨_, rfl⟩
      rw [hw3] at HS3 HR3 HATC ⊢
      obtain ⟨b6, hb3⟩ : ∃ x, w3.heap.size = x := ⟨_, rfl⟩
      rw [hb3] at HR3 ⊢
      clear hw3 HZ3
      rw [hb3] at HPX0 HXX0 HLO
      clear hb3
      have HB4 := Lib.hid (HB3.out.trans (HS3.out.mono HB3.out.size))
      have HQ4 := Lib.hid (HQ3.out.below HS3.out)
      clear HQ3
      go_wp2_with fail
      have hcp := coparse_any b2 (m0 + m1) k2 (L0 ++ L1) w4 HQ4.out (by have := HMB.out; omega) (HE.out.below HB4.out)
      rw [HMORE.out] at hcp
      refine hcp.mono ?_
      clear hcp
      rintro e w5 ⟨hpo, hb⟩
      have HB5 := Lib.hid (HB4.out.trans (hb.mono HB4.out.size))
      have HQ5 := Lib.hid (HQ4.out.below hb)
      obtain ⟨D, hD⟩ : ∃ D, ({ C with m := txt (C.m.data.toList ++ L1) } : CC) = D := ⟨_, rfl⟩
      rw [hD] at hpo
      obtain ⟨ea, ec, ga, gc, rfl, hat, hfx, hff⟩ := hpo
      have HEX0 : Hid (∀ b' off, ea = some ⟨b', off, none⟩ → D.ps.length ≠ 0 → b' ≠ b6) := fun b' off he _ => by have h1 := hfx b' off he; have h2 := (Array.getElem?_eq_some_iff.1 HR3.out).1; omega
      have HGX0 : Hid (∀ b' off, ga = some ⟨b', off, none⟩ → D.xs.length ≠ 0 → b' ≠ b6) := fun b' off he _ => by have h1 := hff b' off he; have h2 := (Array.getElem?_eq_some_iff.1 HR3.out).1; omega
      have HD20 := Lib.hid hat.n20
      have HDE := Lib.hid hD
      have HR3 := Lib.hid ((hb.block b6 (Array.getElem?_eq_some_iff.1 HR3.out).1).trans HR3.out)
      have HATC := Lib.hid (HATC.out.below hb)
      have HNE68 : Hid (b6 ≠ w5.heap.size) := by have := (Array.getElem?_eq_some_iff.1 HR3.out).1; show _ ≠ _; omega
      clear hfx hff hb HQ4 HMORE hD
      have HZ5 : Hid ((w5.alloc (.cells (coA cz (.slice none 0 0) (.slice none 0 0)) 34)).heap[w5.heap.size]? = some (.cells (coA cz (.slice none 0 0) (.slice none 0 0)) 34 (0, 0))) := heap_alloc_new _ _
      have HS5 : Hid (Below w5.heap.size w5 ((w5.alloc (.cells (coA cz (.slice none 0 0) (.slice none 0 0)) 34)).setRow w5.heap.size (coV D ea ec ga gc))) := below_setRow ((Below.refl _ _).alloc (Nat.le_refl _) _) (Nat.le_refl _) _
      have HR5 : Hid (((w5.alloc (.cells (coA cz (.slice none 0 0) (.slice none 0 0)) 34)).setRow w5.heap.size (coV D ea ec ga gc)).heap[w5.heap.size]? = some (.cells (coV D ea ec ga gc) 34 (0, 0))) := setRow_heap _ _ _ _ _ _ HZ5.out
      have HATD := Lib.hid (hat.below HS5.out)
      clear hat
      go_wp2_with (first
        | refine wpList_store_row rfl 34 _ _ rfl w5.heap.size (coV D ea ec ga gc) rfl rfl 34 (coA cz (.slice none 0 0) (.slice none 0 0)) HZ5.out (info_coA D _ _ HD20.out) (by unfold coV; rw [coA_size _ _ _ cz_20, coA_size D _ _ HD20.out]) (coA_one _ _ _ rfl rfl) ?_)
      have HR3 := Lib.hid ((HS5.out.block b6 (Array.getElem?_eq_some_iff.1 HR3.out).1).trans HR3.out)
      have HATC := Lib.hid (HATC.out.below HS5.out)
      obtain ⟨w6, hw5⟩ : ∃ Wn, (w5.alloc (.cells (coA cz (.slice none 0 0) (.slice none 0 0)) 34)).setRow w5.heap.size (coV D ea ec ga gc) = Wn := ⟨_, rfl⟩
      rw [hw5] at HS5 HR5 HATD HR3 HATC ⊢
      obtain ⟨b8, hb5⟩ : ∃ x, w5.heap.size = x := ⟨_, rfl⟩
      rw [hb5] at HR5 ⊢
      clear hw5 HZ5
      rw [hb5] at HNE68
      clear hb5
      have HB6 := Lib.hid (HB5.out.trans (HS5.out.mono HB5.out.size))
      have HQ6 := Lib.hid (HQ5.out.below HS5.out)
      clear HQ5
      go_wp2_with fail
      refine (tgparse_any a0 m0 cap0 L0 w6 (R0.out.bytes.below HB6.out) (by have := HMB.out; omega) (HE.out.below HB6.out) _ htc).mono ?_
      rintro e w7 ⟨hpo, hb⟩
      have HB7 := Lib.hid (HB6.out.trans (hb.mono HB6.out.size))
      have HQ7 := Lib.hid (HQ6.out.below hb)
      have HR3 := Lib.hid ((hb.block b6 (Array.getElem?_eq_some_iff.1 HR3.out).1).trans HR3.out)
      have HATC := Lib.hid (HATC.out.below hb)
      have HR5 := Lib.hid ((hb.block b8 (Array.getElem?_eq_some_iff.1 HR5.out).1).trans HR5.out)
      have HATD := Lib.hid (HATD.out.below hb)
      clear hb HQ6
      obtain rfl := hpo
      have HLT67 : Hid (b6 < w7.heap.size) := (Array.getElem?_eq_some_iff.1 HR3.out).1
      have HZ7 : Hid ((w7.alloc (.cells (tgA tz) 50)).heap[w7.heap.size]? = some (.cells (tgA tz) 50 (0, 0))) := heap_alloc_new _ _
      have HS7 : Hid (Below w7.heap.size w7 ((w7.alloc (.cells (tgA tz) 50)).setRow w7.heap.size (tgA X))) := below_setRow ((Below.refl _ _).alloc (Nat.le_refl _) _) (Nat.le_refl _) _
      have HR7 : Hid (((w7.alloc (.cells (tgA tz) 50)).setRow w7.heap.size (tgA X)).heap[w7.heap.size]? = some (.cells (tgA X) 50 (0, 0))) := setRow_heap _ _ _ _ _ _ HZ7.out
      go_wp2_with (first
        | refine wpList_store_row rfl 50 _ _ rfl w7.heap.size (tgA X) rfl rfl 50 (tgA tz) HZ7.out (info_tagA X HX20.out) ((tgA_size tz tz_20).trans (tgA_size X HX20.out).symm) (tgA_one _) ?_)
      have HR3 := Lib.hid ((HS7.out.block b6 (Array.getElem?_eq_some_iff.1 HR3.out).1).trans HR3.out)
      have HATC := Lib.hid (HATC.out.below HS7.out)
      have HR5 := Lib.hid ((HS7.out.block b8 (Array.getElem?_eq_some_iff.1 HR5.out).1).trans HR5.out)
      have HATD := Lib.hid (HATD.out.below HS7.out)
      obtain ⟨w8, hw7⟩ : ∃ Wn, (w7.alloc (.cells (tgA tz) 50)).setRow w7.heap.size (tgA X) = Wn := ⟨_, rfl⟩
      rw [hw7] at HS7 HR7 HR3 HATC HR5 HATD ⊢
      obtain ⟨b10, hb7⟩ : ∃ x, w7.heap.size = x := ⟨_, rfl⟩
      rw [hb7] at HR7 ⊢
      clear hw7 HZ7
      have HLT : Hid (w.heap.size ≤ b10) := by rw [← hb7]; exact HB7.out.size
      have HNT1 : Hid (b10 ≠ b6) := by have := (Array.getElem?_eq_some_iff.1 HR3.out).1; rw [← hb7]; show _ ≠ _; exact Nat.ne_of_gt (HLT67.out)
      clear hb7
      have HB8 := Lib.hid (HB7.out.trans (HS7.out.mono HB7.out.size))
      have HQ8 := Lib.hid (HQ7.out.below HS7.out)
      clear HQ7
      go_wp2_with fail
      refine (tgparse_any b2 (m0 + m1) k2 (L0 ++ L1) w8 HQ8.out (by have := HMB.out; omega) (HE.out.below HB8.out) _ HTMORE.out).mono ?_
      rintro e w9 ⟨hpo, hb⟩
      have HB9 := Lib.hid (HB8.out.trans (hb.mono HB8.out.size))
      have HR3 := Lib.hid ((hb.block b6 (Array.getElem?_eq_some_iff.1 HR3.out).1).trans HR3.out)
      have HATC := Lib.hid (HATC.out.below hb)
      have HR5 := Lib.hid ((hb.block b8 (Array.getElem?_eq_some_iff.1 HR5.out).1).trans HR5.out)
      have HATD := Lib.hid (HATD.out.below hb)
      have HR7 := Lib.hid ((hb.block b10 (Array.getElem?_eq_some_iff.1 HR7.out).1).trans HR7.out)
      clear hb HQ8
      obtain ⟨Y, hY⟩ : ∃ Y, ({ X with m := txt (X.m.data.toList ++ L1) } : TX) = Y := ⟨_, rfl⟩
      rw [hY] at hpo
      obtain rfl := hpo
      have HYE := Lib.hid hY
      have HY20 : Hid (Y.o.length = 20) := by rw [← hY]; exact HX20.out
      clear hY HTMORE
      have HNE102 : Hid (b10 ≠ w9.heap.size) := by have := (Array.getElem?_eq_some_iff.1 HR7.out).1; show _ ≠ _; omega
      have HLT69 : Hid (b6 < w9.heap.size) := (Array.getElem?_eq_some_iff.1 HR3.out).1
      have HZ9 : Hid ((w9.alloc (.cells (tgA tz) 50)).heap[w9.heap.size]? = some (.cells (tgA tz) 50 (0, 0))) := heap_alloc_new _ _
      have HS9 : Hid (Below w9.heap.size w9 ((w9.alloc (.cells (tgA tz) 50)).setRow w9.heap.size (tgA Y))) := below_setRow ((Below.refl _ _).alloc (Nat.le_refl _) _) (Nat.le_refl _) _
      have HR9 : Hid (((w9.alloc (.cells (tgA tz) 50)).setRow w9.heap.size (tgA Y)).heap[w9.heap.size]? = some (.cells (tgA Y) 50 (0, 0))) := setRow_heap _ _ _ _ _ _ HZ9.out
      go_wp2_with (first
        | (refine wpList_store_row rfl 50 _ _ rfl w9.heap.size (tgA Y) rfl rfl 50 (tgA tz) HZ9.out (info_tagA Y HY20.out) ((tgA_size tz tz_20).trans (tgA_size Y HY20.out).symm) (tgA_one _) ?_
           have HR3 := Lib.hid ((HS9.out.block b6 (Array.getElem?_eq_some_iff.1 HR3.out).1).trans HR3.out)
           have HATC := Lib.hid (HATC.out.below HS9.out)
           have HR5 := Lib.hid ((HS9.out.block b8 (Array.getElem?_eq_some_iff.1 HR5.out).1).trans HR5.out)
           have HATD := Lib.hid (HATD.out.below HS9.out)
           have HR7 := Lib.hid ((HS9.out.block b10 (Array.getElem?_eq_some_iff.1 HR7.out).1).trans HR7.out)
           obtain ⟨w10, hw9⟩ : ∃ Wn, (w9.alloc (.cells (tgA tz) 50)).setRow w9.heap.size (tgA Y) = Wn := ⟨_, rfl⟩
           rw [hw9] at HS9 HR9 HR3 HATC HR5 HATD HR7 ⊢
           obtain ⟨b12, hb9⟩ : ∃ x, w9.heap.size = x := ⟨_, rfl⟩
           rw [hb9] at HR9 ⊢
           clear hw9 HZ9
           rw [hb9] at HNE102
           have HNT2 : Hid (b12 ≠ b6) := by rw [← hb9]; show _ ≠ _; exact Nat.ne_of_gt (HLT69.out)
           clear hb9
           have HB10 := Lib.hid (HB9.out.trans (HS9.out.mono HB9.out.size))
           clear HS3 HS5 HS7 HS9
           have HNb10 : Hid (b10 ≠ b6) := HNT1.out
           have HNb12 : Hid (b12 ≠ b6) := HNT2.out
           have hcm := (CoRow.of HR3.out HC20.out).msg
           have hfm := frozen_of_row _ b6 30 _ _ HR3.out
           have htm := text_run w10 a1 m1 cap1 _ (R1.out.bytes.below HB10.out)
           rw [str_nums] at htm
           have HADD : Hid (∀ W, (binOp .add 9 (.string C.m) (.string (txt L1))).run Tryz.prog W = .ok (.string D.m) W) := fun W => by
             have h1 := add_txt C.m (txt L1) _ rfl (by rw [txt_size]; have := HSZ.out; have := HL1.out; have := HMB.out; omega) W
             rw [h1, ← HDE.out, txt_list])
        | refine wpList_eql (by rfl) .add 9 _ _ _ rfl (.string C.m) (.string (txt L1)) rfl rfl (.string D.m) (guard_addn _ _ _ _) (fun W => HADD.out W) ?_)
      clear hcm hfm htm HADD
      obtain ⟨w20, hw20⟩ : ∃ X, w10.setCell ⟨b6, 30, none⟩ (.string D.m) = X := ⟨_, rfl⟩
      have HR6D : Hid (w20.heap[b6]? = some (.cells (coA D (.slice ca C.ps.length cc) (.slice da C.xs.length dc)) 34 (0, 0))) := by
        show _ = _
        rw [← hw20]
        have s1 := heap_setCell_same w10 b6 30 _ _ (.string D.m) HR3.out
        unfold coV at s1
        rw [coA_set C _ _ HC20.out 10 _] at s1
        rw [s1, ← HDE.out]
        rfl
      have HR8D : Hid (w20.heap[b8]? = some (.cells (coV D ea ec ga gc) 34 (0, 0))) := by
        show _ = _
        rw [← hw20]
        exact (heap_setCell_ne w10 ⟨b6, 30, none⟩ _ b8 HNE68.out.symm).trans HR5.out
      have HB20 : Hid (Below w.heap.size w w20) := by rw [← hw20]; exact HB10.out.setCell (p := ⟨b6, 30, none⟩) HLO.out _
      have HPS : D.ps = C.ps := by rw [← HDE.out]
      have HXS : D.xs = C.xs := by rw [← HDE.out]
      have HTS : D.tr = C.tr := by rw [← HDE.out]
      have HATX0 : Hid (CoAt w20 D ca da) := by
        rw [← hw20]
        refine ⟨HD20.out, by rw [HTS]; exact HATC.out.byt, by rw [HPS]; exact HATC.out.ids, ?_, ?_⟩
        · rw [HPS]; exact rowat_setCell HATC.out.pars (fun b' off he h0 => Nat.ne_of_lt (HPX0.out b' off he h0))
        · rw [HXS]; exact rowat_setCell HATC.out.exts (fun b' off he h0 => Nat.ne_of_lt (HXX0.out b' off he h0))
      have HATY0 : Hid (CoAt w20 D ea ga) := by
        rw [← hw20]
        exact ⟨HD20.out, HATD.out.byt, HATD.out.ids, rowat_setCell HATD.out.pars HEX0.out, rowat_setCell HATD.out.exts HGX0.out⟩
      have HR7 : Hid (w20.heap[b10]? = some (.cells (tgA X) 50 (0, 0))) := by
        show _ = _
        rw [← hw20]
        exact (heap_setCell_ne w10 ⟨b6, 30, none⟩ _ b10 HNb10.out).trans HR7.out
      have HR9 : Hid (w20.heap[b12]? = some (.cells (tgA Y) 50 (0, 0))) := by
        show _ = _
        rw [← hw20]
        exact (heap_setCell_ne w10 ⟨b6, 30, none⟩ _ b12 HNb12.out).trans HR9.out
      rw [hw20]
      clear hw20 HR3 HR5 HATC HATD HB10
      have HXN : Hid (D.ps.length ≤ 100000) := by rw [HPS]; exact HSZ.out.2.1
      have HFN : Hid (D.xs.length ≤ 100000) := by rw [HXS]; exact HSZ.out.2.2
      rw [← HPS, ← HXS] at HR6D
      have HCX : Hid ((coL D (.slice ca D.ps.length cc) (.slice da D.xs.length dc)).toArray = coV D ca cc da dc) := rfl
      have HCY : Hid ((coL D (.slice ea D.ps.length ec) (.slice ga D.xs.length gc)).toArray = coV D ea ec ga gc) := rfl
      have HLb6 : Hid (∀ W, Below w20.heap.size w20 W → W.rangeAt b6 0 (coL D (.slice ca D.ps.length cc) (.slice da D.xs.length dc))) := fun W hW => (CoRow.of ((hW.block b6 (Array.getElem?_eq_some_iff.1 HR6D.out).1).trans HR6D.out) HD20.out).cells
      have HLb8 : Hid (∀ W, Below w20.heap.size w20 W → W.rangeAt b8 0 (coL D (.slice ea D.ps.length ec) (.slice ga D.xs.length gc))) := fun W hW => (CoRow.of ((hW.block b8 (Array.getElem?_eq_some_iff.1 HR8D.out).1).trans HR8D.out) HD20.out).cells
      have HATX : Hid (∀ W, Below w20.heap.size w20 W → CoAt W D ca da) := fun W hW => HATX0.out.below hW
      have HATY : Hid (∀ W, Below w20.heap.size w20 W → CoAt W D ea ga) := fun W hW => HATY0.out.below hW
      clear HATX0 HATY0 HPS HXS HTS HR6D HR8D HDE
      refine wp_region_noPanic ?_
      refine wp_region_held_drew (S := fun W => Below w20.heap.size w20 W) (by kernel_rfl) ?_ (fun hHeld => ?_)
      · exact (Below.refl _ _).drew
      refine wpAnyH_take (i := 0) (v := ?_) (by simp only [List.getElem?_toArray, List.getElem?_cons_zero]; rfl) (by kernel_rfl) (by kernel_rfl) (by kernel_rfl) (fun _ _ _ h => h) (Or.inl ⟨by rfl, ?_⟩) (by assumption) ?_
      rotate_left
      · intro W hSW
        go_simp
        try with_reducible rfl
      try simp only [Act.put, List.setIfInBounds_toArray, List.set_cons_zero, List.set_cons_succ]
      refine wpAnyH_take (i := 1) (v := ?_) (by simp only [List.getElem?_toArray, List.getElem?_cons_succ, List.getElem?_cons_zero]; rfl) (by kernel_rfl) (by kernel_rfl) (by kernel_rfl) (fun _ _ _ h => h) (Or.inl ⟨by rfl, ?_⟩) (by assumption) ?_
      rotate_left
      · intro W hSW
        go_simp
        try with_reducible rfl
      try simp only [Act.put, List.setIfInBounds_toArray, List.set_cons_zero, List.set_cons_succ]
      refine wpAnyH_take (i := 2) (v := ?_) (by simp only [List.getElem?_toArray, List.getElem?_cons_succ, List.getElem?_cons_zero]; rfl) (by kernel_rfl) (by kernel_rfl) (by kernel_rfl) (fun _ _ _ h => h) (Or.inl ⟨by rfl, ?_⟩) (by assumption) ?_
      rotate_left
      · intro W hSW
        go_simp
        try with_reducible rfl
      try simp only [Act.put, List.setIfInBounds_toArray, List.set_cons_zero, List.set_cons_succ]
      refine wpAnyH_take (i := 3) (by simp only [List.getElem?_toArray, List.getElem?_cons_succ, List.getElem?_cons_zero]; rfl) (by kernel_rfl) (by kernel_rfl) (by kernel_rfl) (fun _ _ _ h => h) (yieldsIf_load_mid (by rfl) 34 _ rfl b6 0 rfl (coL D (.slice ca D.ps.length cc) (.slice da D.xs.length dc)) _ (fun W hSW => HLb6.out W hSW) Tryz.underlying34 rfl (info_co D _ _ HD20.out)) (by assumption) ?_
      try simp only [Act.put, List.setIfInBounds_toArray, List.set_cons_zero, List.set_cons_succ]
      refine wpAnyH_take (i := 5) (by simp only [List.getElem?_toArray, List.getElem?_cons_succ, List.getElem?_cons_zero]; rfl) (by kernel_rfl) (by kernel_rfl) (by kernel_rfl) (fun _ _ _ h => h) (yieldsIf_load_mid (by rfl) 34 _ rfl b8 0 rfl (coL D (.slice ea D.ps.length ec) (.slice ga D.xs.length gc)) _ (fun W hSW => HLb8.out W hSW) Tryz.underlying34 rfl (info_co D _ _ HD20.out)) (by assumption) ?_
      try simp only [Act.put, List.setIfInBounds_toArray, List.set_cons_zero, List.set_cons_succ]
      rw [HCX.out, HCY.out]
      refine wpAnyH_ready (rs := [4]) (by kernel_rfl) (by simp) ?_
      refine AllReadyH.cons (by simp only [List.getElem?_toArray, List.getElem?_cons_succ, List.getElem?_cons_zero]; rfl) (fun K hK => ?_) AllReadyH.nil
      go_simp
      refine (coof_any D ca cc da dc _ (HATX.out _ (Below.refl _ _).drew) HXN.out HFN.out).mono ?_
      rintro e v1 ⟨⟨oa, oc, qa, qc, rfl, ho1⟩, hb⟩
      have hv1 : Below w20.heap.size w20 v1 := (Below.refl _ _).drew.trans hb
      have HV1 := Lib.hid hv1
      have HO1 := Lib.hid ho1
      clear hb hv1 ho1
      go_wp2_with fail
      refine hK.out _ _ (HV1.out) (fun hHeld2 => ?_)
      clear hK K hHeld
      have hHeld := hHeld2
      clear hHeld2
      try simp only [Act.put, List.setIfInBounds_toArray, List.set_cons_zero, List.set_cons_succ]
      refine wpAnyH_ready (rs := [6]) (by kernel_rfl) (by simp) ?_
      refine AllReadyH.cons (by simp only [List.getElem?_toArray, List.getElem?_cons_succ, List.getElem?_cons_zero]; rfl) (fun K hK => ?_) AllReadyH.nil
      go_simp
      refine (coof_any D ea ec ga gc _ (HATY.out _ HV1.out) HXN.out HFN.out).mono ?_
      rintro e v2 ⟨⟨ra, rc, sa, sc, rfl, ho1⟩, hb⟩
      have hv2 : Below w20.heap.size w20 v2 := HV1.out.trans (hb.mono HV1.out.size)
      have HV2 := Lib.hid hv2
      have HO3 := Lib.hid ho1
      have HO5 := Lib.hid (HO1.out.below hb)
      clear hb hv2 ho1
      go_wp2_with fail
      refine hK.out _ _ (HV2.out) (fun hHeld2 => ?_)
      clear hK K hHeld
      have hHeld := hHeld2
      clear hHeld2
      try simp only [Act.put, List.setIfInBounds_toArray, List.set_cons_zero, List.set_cons_succ]
      refine wpAnyH_ready (rs := [7]) (by kernel_rfl) (by simp) ?_
      refine AllReadyH.cons (by simp only [List.getElem?_toArray, List.getElem?_cons_succ, List.getElem?_cons_zero]; rfl) (fun K hK => ?_) AllReadyH.nil
      go_simp
      refine (cosame_any D oa oc qa qc ra rc sa sc _ HO5.out HO3.out HXN.out HFN.out).mono ?_
      rintro e v3 ⟨rfl, hb⟩
      have hv3 : Below w20.heap.size w20 v3 := HV2.out.trans (hb.mono HV2.out.size)
      have HV3 := Lib.hid hv3
      clear hb hv3
      go_wp2_with fail
      refine hK.out _ _ (HV3.out) (fun hHeld2 => ?_)
      clear hK K hHeld
      have hHeld := hHeld2
      clear hHeld2
      try simp only [Act.put, List.setIfInBounds_toArray, List.set_cons_zero, List.set_cons_succ]
      refine wpAnyH_take (i := 8) (v := ?_) (by simp only [List.getElem?_toArray, List.getElem?_cons_succ, List.getElem?_cons_zero]; rfl) (by kernel_rfl) (by kernel_rfl) (by kernel_rfl) (fun _ _ _ h => h) (Or.inl ⟨by rfl, ?_⟩) (by assumption) ?_
      rotate_left
      · intro W hSW
        go_simp
        try with_reducible rfl
      try simp only [Act.put, List.setIfInBounds_toArray, List.set_cons_zero, List.set_cons_succ]
      refine wpAnyH_take (i := 9) (v := ?_) (by simp only [List.getElem?_toArray, List.getElem?_cons_succ, List.getElem?_cons_zero]; rfl) (by kernel_rfl) (by kernel_rfl) (by kernel_rfl) (fun _ _ _ h => h) (Or.inl ⟨by rfl, ?_⟩) (by assumption) ?_
      rotate_left
      · intro W hSW
        go_simp
        try with_reducible rfl
      try simp only [Act.put, List.setIfInBounds_toArray, List.set_cons_zero, List.set_cons_succ]
      refine wpAnyH_done (by kernel_rfl) ?_ _
      refine NoPanic.normal ?_
      clear hHeld
      have HB21 := Lib.hid (HB20.out.trans (HV3.out.mono HB20.out.size))
      have HR7 := Lib.hid ((HV3.out.block b10 (Array.getElem?_eq_some_iff.1 HR7.out).1).trans HR7.out)
      have HR9 := Lib.hid ((HV3.out.block b12 (Array.getElem?_eq_some_iff.1 HR9.out).1).trans HR9.out)
      obtain ⟨w21, hw21⟩ : ∃ X, v3 = X := ⟨_, rfl⟩
      rw [hw21] at HB21 HR7 HR9 ⊢
      clear hw21 HV1 HV2 HV3 HO1 HO3 HO5
      go_wp2_with fail
      refine (coparse_short a0 m2 cap0 (L0.take m2) w21 (R2.out.bytes.below HB21.out) (by have := HMB.out; omega) (HE.out.below HB21.out) HSHORT.out).mono ?_
      rintro e w22 ⟨rfl, hb⟩
      have HB22 := Lib.hid (HB21.out.trans (hb.mono HB21.out.size))
      have HR7 := Lib.hid ((hb.block b10 (Array.getElem?_eq_some_iff.1 HR7.out).1).trans HR7.out)
      have HR9 := Lib.hid ((hb.block b12 (Array.getElem?_eq_some_iff.1 HR9.out).1).trans HR9.out)
      clear hb
      have HZ22 : Hid ((w22.alloc (.cells (coA cz (.slice none 0 0) (.slice none 0 0)) 34)).heap[w22.heap.size]? = some (.cells (coA cz (.slice none 0 0) (.slice none 0 0)) 34 (0, 0))) := heap_alloc_new _ _
      have HS22 : Hid (Below w22.heap.size w22 ((w22.alloc (.cells (coA cz (.slice none 0 0) (.slice none 0 0)) 34)).setRow w22.heap.size (coV cz none 0 none 0))) := below_setRow ((Below.refl _ _).alloc (Nat.le_refl _) _) (Nat.le_refl _) _
      have HR22 : Hid (((w22.alloc (.cells (coA cz (.slice none 0 0) (.slice none 0 0)) 34)).setRow w22.heap.size (coV cz none 0 none 0)).heap[w22.heap.size]? = some (.cells (coV cz none 0 none 0) 34 (0, 0))) := setRow_heap _ _ _ _ _ _ HZ22.out
      go_wp2_with (first
        | (refine wpList_store_row rfl 34 _ _ rfl w22.heap.size (coV cz none 0 none 0) rfl rfl 34 (coA cz (.slice none 0 0) (.slice none 0 0)) HZ22.out (info_coA cz _ _ cz_20) (by unfold coV; rw [coA_size _ _ _ cz_20, coA_size cz _ _ cz_20]) (coA_one _ _ _ rfl rfl) ?_
           have HR7 := Lib.hid ((HS22.out.block b10 (Array.getElem?_eq_some_iff.1 HR7.out).1).trans HR7.out)
           have HR9 := Lib.hid ((HS22.out.block b12 (Array.getElem?_eq_some_iff.1 HR9.out).1).trans HR9.out)
           obtain ⟨w23, hw22⟩ : ∃ Wn, (w22.alloc (.cells (coA cz (.slice none 0 0) (.slice none 0 0)) 34)).setRow w22.heap.size (coV cz none 0 none 0) = Wn := ⟨_, rfl⟩
           rw [hw22] at HS22 HR22 HR7 HR9 ⊢
           obtain ⟨b14, hb22⟩ : ∃ x, w22.heap.size = x := ⟨_, rfl⟩
           rw [hb22] at HR22 ⊢
           clear hw22 HZ22
           clear hb22 HR22
           have HB23 := Lib.hid (HB22.out.trans (HS22.out.mono HB22.out.size))
           have hgm := (TgRow.of HR7.out HX20.out).msg
           have hgf := frozen_of_row _ b10 26 _ _ HR7.out
           have htm := text_run w23 a1 m1 cap1 _ (R1.out.bytes.below HB23.out)
           rw [str_nums] at htm
           have HADD : Hid (∀ W, (binOp .add 9 (.string X.m) (.string (txt L1))).run Tryz.prog W = .ok (.string Y.m) W) := fun W => by
             have h1 := add_txt X.m (txt L1) _ rfl (by rw [txt_size]; have := HXM.out; have := HL1.out; have := HMB.out; omega) W
             rw [h1, ← HYE.out, txt_list]
           have HS26 : Hid ((w23.setCell ⟨b10, 26, none⟩ (.string Y.m)).heap[b10]? = some (.cells (tgA Y) 50 (0, 0))) := by
             show _ = _
             have s1 := heap_setCell_same w23 b10 26 _ _ (.string Y.m) HR7.out
             rw [tgA_msg X HX20.out] at s1
             rw [s1, ← HYE.out]
           have HS27 : Hid ((w23.setCell ⟨b10, 26, none⟩ (.string Y.m)).heap[b12]? = some (.cells (tgA Y) 50 (0, 0))) := (heap_setCell_ne w23 ⟨b10, 26, none⟩ _ b12 HNE102.out.symm).trans HR9.out
           have HBF : Hid (Below w.heap.size w (w23.setCell ⟨b10, 26, none⟩ (.string Y.m))) := HB23.out.setCell (p := ⟨b10, 26, none⟩) HLT.out _)
        | refine wpList_eql (by rfl) .add 9 _ _ _ rfl (.string X.m) (.string (txt L1)) rfl rfl (.string Y.m) (guard_addn _ _ _ _) (fun W => HADD.out W) ?_
        | refine wpList_load_row_g rfl 50 _ rfl b10 rfl 50 (tgA Y) (0, 0) _ HS26.out Tryz.underlying50 rfl (info_tagA Y HY20.out) ?_
        | refine wpList_load_row_g rfl 50 _ rfl b12 rfl 50 (tgA Y) (0, 0) _ HS27.out Tryz.underlying50 rfl (info_tagA Y HY20.out) ?_
        | refine wpList_eql (by rfl) .neq 50 _ _ _ rfl (.agg (tgA Y)) (.agg (tgA Y)) rfl rfl (.bool false) (guardn_tag _ _ _ _) (fun W => neq_tag Y HY20.out W) ?_)
      clear hgm hgf htm HADD
      refine (known_any _ (HE.out.below HBF.out)).mono ?_
      rintro e wk ⟨rfl, hbk⟩
      have HBK := Lib.hid (HBF.out.trans (hbk.mono HBF.out.size))
      clear hbk
      go_wp2_with fail
      go_ret
      exact ⟨rfl, HBK.out⟩
end Go.Proofs.YtindmggmblmmcaaGreatDoor
