/- marks.right: the walk (two maps that count). -/
import Derived.Test.YtlhdjbnilfbaoaaSame
import Derived.Test.YtlhdjbnilfbaoaaMkMath
import Derived.Test.YtlhdjbnilfbaoaaCount
import Derived.WideKeyArr2
namespace Go.Proofs.Ytlhdjbnilfbaoaa
open Go.RowKit Go.WideMaps Go.Maps Plain
set_option linter.unusedVariables false
set_option linter.unusedSimpArgs false
theorem idKey : ArrKey Try.prog 42 5 20 where
  hu := Try.underlying42
  plain := by kernel_rfl
  one := by kernel_rfl
  size := by kernel_rfl
theorem typesMore : ∃ m, Try.prog.types.size = m + 1 := ⟨Try.prog.types.size - 1, by kernel_rfl⟩
theorem mapM_some {α β : Type} (f : α → Option β) : ∀ l : List α, (∀ a ∈ l, ∃ b, f a = some b) → ∃ bs, l.mapM f = some bs
  | [], _ => ⟨[], rfl⟩
  | a :: l, h => by
    obtain ⟨b, hb⟩ := h a (by simp)
    obtain ⟨bs, hbs⟩ := mapM_some f l (fun x hx => h x (by simp [hx]))
    exact ⟨b :: bs, by simp [List.mapM_cons, hb, hbs]⟩
theorem key_id (q : List Int) (h : q.length = 20) (hr : ∀ x ∈ q, 0 ≤ x ∧ x ≤ 255) : ∃ kl, keyOf Try.prog 42 (.agg (V8 q)) = some kl := by
  have hkt := idKey.keyType typesMore
  obtain ⟨m, hm⟩ := typesMore
  obtain ⟨m', hm'⟩ : ∃ m', m = m' + 1 := by
    have h2 : 2 ≤ Try.prog.types.size := by decide +kernel
    exact ⟨m - 1, by omega⟩
  subst hm'
  unfold keyOf
  simp only [idKey.hu]
  rw [if_pos (by simp [hkt, Value.formed, idKey.hu, idKey.size, V8_size, h]), hm]
  unfold Program.keyLits
  simp only [idKey.hu, Value.cells]
  rw [if_pos (by rw [idKey.size, Array.length_toList, V8_size, h])]
  obtain ⟨bs, hbs⟩ := mapM_some (fun i => Try.prog.keyLits (m' + 1 + 1) 5 (((V8 q).toList.drop (i * Try.prog.cellsOf 5)).take (Try.prog.cellsOf 5))) (List.range 20) (fun i hi => by
    rw [List.mem_range] at hi
    rw [idKey.one, Nat.mul_one, V8_list]
    have hlt : i < (U8 q).length := by rw [U8_length]; omega
    have hv : (U8 q)[i] = .int .u8 (q[i]'(by omega)) := by
      have e : (U8 q)[i]? = some (.int .u8 (q[i]'(by omega))) := by unfold U8; rw [List.getElem?_map, List.getElem?_eq_getElem (by omega)]; rfl
      rw [List.getElem?_eq_getElem hlt] at e
      injection e
    have hx := hr _ (List.getElem_mem (by omega : i < q.length))
    have hd : ((U8 q).drop i).take 1 = [.int .u8 (q[i]'(by omega))] := by
      rw [List.drop_eq_getElem_cons hlt, hv]; rfl
    rw [hd]
    refine ⟨[.int .u8 (q[i]'(by omega))], ?_⟩
    unfold Program.keyLits
    have hu : Try.prog.underlying 5 = some (.int .u8) := Try.underlying5
    generalize q[i] = x at *
    have hw : (Lit.int .u8 x).wf = true := by
      have e1 : IntKind.min .u8 = 0 := by decide
      have e2 : IntKind.max .u8 = 255 := by decide
      show (decide (IntKind.min .u8 ≤ x) && decide (x ≤ IntKind.max .u8)) = true
      rw [e1, e2]; simp; omega
    simp [hu, hw])
  rw [hbs]
  exact ⟨_, rfl⟩
def mkId (q : List Int) : Value := .agg (V8 q)
theorem U8_inj {p q : List Int} (h : U8 p = U8 q) : p = q := by
  unfold U8 at h
  refine List.map_inj_right (f := Value.int .u8) ?_ |>.1 h
  intro x y e
  injection e
theorem mk_inj (p q : List Int) (h : mkId p = mkId q) : p = q := by
  unfold mkId V8 at h
  injection h with h
  injection h with h
  exact U8_inj h
theorem zero_int (u : World) : (zeroValue 3).run Try.prog u = .ok (.int .i64 0) u := by kernel_rfl
theorem step_lookup {P : Program} {w : World} {ops : Array Oper} {o : Oper} {a : Act} {K : Act → World → Prop} {Q : Exit → Act → World → Prop} {E : Prop} (hw : Region.wanted o (yielded ops a.tmps) = true) (ty : TypeId) (x y : Operand) (c : Bool) (ho : o.op = .lookup ty x y c)
    (u1 u2 : Value) (h1 : a.eval x = u1) (h2 : a.eval y = u2) (v : Value) (w' : World) (hr : (Instr.lookup ty u1 u2 c).run P w = .ok v w') (h : K (a.put o.dst v) w') : if Region.wanted o (yielded ops a.tmps) = true then Oper.wp P o a w K Q else E := by
  rw [if_pos hw]
  unfold Oper.wp execOp
  simp only [ho, h1, h2, Sem.run_bind, hr, Result.andThen_ok]
  exact h
theorem step_mapEntry {P : Program} {w : World} {ops : Array Oper} {o : Oper} {a : Act} {K : Act → World → Prop} {Q : Exit → Act → World → Prop} {E : Prop} (hw : Region.wanted o (yielded ops a.tmps) = true) (ty : TypeId) (x y : Operand) (ho : o.op = .mapEntry ty x y)
    (u1 u2 : Value) (h1 : a.eval x = u1) (h2 : a.eval y = u2) (v : Value) (w' : World) (hr : (Instr.mapEntry ty u1 u2).run P w = .ok v w') (h : K (a.put o.dst v) w') : if Region.wanted o (yielded ops a.tmps) = true then Oper.wp P o a w K Q else E := by
  rw [if_pos hw]
  unfold Oper.wp execOp
  simp only [ho, h1, h2, Sem.run_bind, hr, Result.andThen_ok]
  exact h
theorem step_entryStore {P : Program} {w : World} {ops : Array Oper} {o : Oper} {a : Act} {K : Act → World → Prop} {Q : Exit → Act → World → Prop} {E : Prop} (hw : Region.wanted o (yielded ops a.tmps) = true) (ty : TypeId) (x y z : Operand) (ho : o.op = .entryStore ty x y z)
    (u1 u2 u3 : Value) (h1 : a.eval x = u1) (h2 : a.eval y = u2) (h3 : a.eval z = u3) (w' : World) (hr : (Instr.entryStore ty u1 u2 u3).run P w = .ok () w') (h : K (a.put o.dst undef) w') : if Region.wanted o (yielded ops a.tmps) = true then Oper.wp P o a w K Q else E := by
  rw [if_pos hw]
  unfold Oper.wp execOp
  simp only [ho, h1, h2, h3, Sem.run_bind, hr, Result.andThen_ok]
  exact h
theorem wp_via {P : Program} {c : Code} {Q : Exit → Act → World → Prop} {a : Act} {w : World} (A : Act) (W : World) (h1 : c.wp P (fun e a' w' => e = .normal ∧ a' = A ∧ w' = W) a w) (h2 : Q .normal A W) : c.wp P Q a w := by
  refine wp_mono h1 fun e a' w' ⟨he, ha, hw⟩ => ?_
  subst he ha hw
  exact h2
abbrev CM (w : World) (b : Nat) (ks : List (List Int)) : Prop := CountMap Try.prog 42 3 mkId w b ks
def gitK (ps : List (List Int)) (k : Nat) : List (List Int) := ((ps.take k).map (·.take 20)).reverse
def hgK (ps : List (List Int)) (k : Nat) : List (List Int) := ((ps.take k).map (·.drop 20)).reverse
theorem gitK_step {ps : List (List Int)} {k : Nat} {p : List Int} (h : ps[k]? = some p) : gitK ps (k + 1) = p.take 20 :: gitK ps k := by
  unfold gitK; rw [take_snoc h, List.map_append, List.reverse_append]; rfl
theorem hgK_step {ps : List (List Int)} {k : Nat} {p : List Int} (h : ps[k]? = some p) : hgK ps (k + 1) = p.drop 20 :: hgK ps k := by
  unfold hgK; rw [take_snoc h, List.map_append, List.reverse_append]; rfl
theorem gitK_len (ps : List (List Int)) (k : Nat) : (gitK ps k).length ≤ ps.length := by unfold gitK; simp; omega
theorem hgK_len (ps : List (List Int)) (k : Nat) : (hgK ps k).length ≤ ps.length := by unfold hgK; simp; omega
/-- May marks have these? -/
def rightP (ps : List (List Int)) : Bool := decide ((ps.map (·.take 20)).Nodup) && decide ((ps.map (·.drop 20)).Nodup)
theorem nodup_rev {α : Type} (l : List α) : l.reverse.Nodup ↔ l.Nodup := by
  unfold List.Nodup
  rw [List.pairwise_reverse]
  exact ⟨fun h => h.imp fun h => h.symm, fun h => h.imp fun h => h.symm⟩
theorem git_all (ps : List (List Int)) : (decide (dn (gitK ps ps.length) = ps.length)) = decide ((ps.map (·.take 20)).Nodup) := by
  have h := dn_all (gitK ps ps.length)
  have hl : (gitK ps ps.length).length = ps.length := by unfold gitK; simp
  rw [hl] at h
  have hr : (gitK ps ps.length).Nodup ↔ (ps.map (·.take 20)).Nodup := by unfold gitK; rw [List.take_length]; exact nodup_rev _
  rw [decide_eq_decide, h, hr]
theorem hg_all (ps : List (List Int)) : (decide (dn (hgK ps ps.length) = ps.length)) = decide ((ps.map (·.drop 20)).Nodup) := by
  have h := dn_all (hgK ps ps.length)
  have hl : (hgK ps ps.length).length = ps.length := by unfold hgK; simp
  rw [hl] at h
  have hr : (hgK ps ps.length).Nodup ↔ (ps.map (·.drop 20)).Nodup := by unfold hgK; rw [List.take_length]; exact nodup_rev _
  rw [decide_eq_decide, h, hr]
set_option maxRecDepth 100000 in
set_option maxHeartbeats 32000000 in
theorem mright_any (a : Option Addr) (c : Nat) (ps : List (List Int)) (w : World) (h : PsAt w a ps) (hn : ps.length ≤ 1000000) (hgp : ∀ p ∈ ps, ∀ x ∈ p, 0 ≤ x ∧ x ≤ 255) :
    Calls Try.prog 14 #[.slice a ps.length c] w fun e w' => e = .returned (.bool (rightP ps)) ∧ Below w.heap.size w w' := by
  have H := Lib.hid h
  have HN := Lib.hid hn
  have HALL := Lib.hid hgp
  have hg0 : CM ((w.alloc (.map #[] 0)).alloc (.map #[] 0)) w.heap.size [] := (CountMap.made w Try.prog 42 3 mkId).block (Below.heap_alloc _ _ _ (by simp))
  have hh0 : CM ((w.alloc (.map #[] 0)).alloc (.map #[] 0)) (w.heap.size + 1) [] := by
    have := CountMap.made (w.alloc (.map #[] 0)) Try.prog 42 3 mkId
    simpa using this
  have HG0 := Lib.hid hg0
  have HH0 := Lib.hid hh0
  have HB0 : Hid (Below w.heap.size w ((w.alloc (.map #[] 0)).alloc (.map #[] 0))) := ((Below.refl _ _).alloc (Nat.le_refl _) _).alloc (by simp) _
  clear h hn hgp hg0 hh0
  have hzp := zero_pair
  obtain ⟨n, hnl⟩ : ∃ n, ps.length = n := ⟨_, rfl⟩
  have HN2 := Lib.hid hnl
  rw [hnl] at HN ⊢
  have HNB : Hid (n ≤ 1000000) := HN.out
  clear HN
  have HN := Lib.hid HN2.out
  have HRP : Hid (rightP ps = (decide (dn (gitK ps n) = n) && decide (dn (hgK ps n) = n))) := by
    show _ = _
    unfold rightP
    rw [← git_all, ← hg_all, HN.out]
  clear hnl HN2
  have hmm := @run_makeMap Try.prog
  go_enter Try.func14, Try.ntmps14
  go_wp2_with fail
  clear hmm
  generalize (w.alloc (.map #[] 0)).alloc (.map #[] 0) = w0 at *
  go_loopw [11] (fun i wr => ∃ k : Nat, k ≤ n ∧ i = .int .i64 (k : Int) ∧ CM wr w.heap.size (gitK ps k) ∧ CM wr (w.heap.size + 1) (hgK ps k) ∧ Below w.heap.size w wr) (fun i _ => n - (intOf i).toNat)
  case atStart => exact ⟨0, by omega, rfl, HG0.out, HH0.out, HB0.out⟩
  case round =>
    obtain ⟨k, hk, rfl, hg, hh, hb⟩ := hrel
    have HGW := Lib.hid hg
    have HHW := Lib.hid hh
    have HBW := Lib.hid hb
    have WK := Lib.hid (next_int k (by have := HNB.out; omega))
    clear hg hh hb HG0 HH0 HB0
    by_cases hkn : k = n
    · subst hkn
      obtain ⟨ge, gc, hge, hgs⟩ := HGW.out.len
      obtain ⟨he, hc, hhe, hhs⟩ := HHW.out.len
      have hki : ¬ (k : Int) < (k : Int) := by omega
      have hlg : (Builtin.len_ #[67] 3 #[.map (some w.heap.size)]).run Try.prog wr = .ok (.int .i64 ((dn (gitK ps k) : Nat) : Int)) wr := by
        rw [← hgs]
        simp [Builtin.len_, MapKept.run_getObj_map hge, Result.andThen, goInt]
      have hlh : (Builtin.len_ #[67] 3 #[.map (some (w.heap.size + 1))]).run Try.prog wr = .ok (.int .i64 ((dn (hgK ps k) : Nat) : Int)) wr := by
        rw [← hhs]
        simp [Builtin.len_, MapKept.run_getObj_map hhe, Result.andThen, goInt]
      generalize dn (gitK ps k) = n1 at *
      generalize dn (hgK ps k) = n2 at *
      clear hgs hhs hge hhe
      by_cases e1 : n1 = k
      · have e1i : (n1 : Int) = (k : Int) := by omega
        by_cases e2 : n2 = k
        · have e2i : (n2 : Int) = (k : Int) := by omega
          go_wp2_with fail
          go_ret
          exact ⟨by rw [HRP.out, decide_eq_true e1, decide_eq_true e2]; rfl, HBW.out⟩
        · have e2i : ((n2 : Int) == (k : Int)) = false := by simp; omega
          go_wp2_with fail
          go_ret
          exact ⟨by rw [HRP.out, decide_eq_true e1, decide_eq_false e2]; first | rfl | (rw [e2i]; rfl) | (show Ending.returned (.bool ((n2 : Int) == (k : Int))) = _; rw [e2i]; rfl), HBW.out⟩
      · have e1i : ¬ (n1 : Int) = (k : Int) := by omega
        go_wp2_with fail
        go_ret
        exact ⟨by rw [HRP.out, decide_eq_false e1]; rfl, HBW.out⟩
    · have hkl : k < n := by omega
      have hki : (k : Int) < (n : Int) := by omega
      obtain ⟨b, off, p, rfl, hp, h40, hbl, hr⟩ := H.out.at (k := k) (by rw [HN.out]; exact hkl)
      have HR := Lib.hid (range_below hr HBW.out hbl)
      have HP := Lib.hid hp
      have H40 := Lib.hid h40
      have HGP : Hid (∀ x ∈ p, 0 ≤ x ∧ x ≤ 255) := HALL.out p (List.mem_of_getElem? hp)
      have HKL := Lib.hid hkl
      have HI := Lib.hid (pair_info p h40)
      have HS : Hid ((V8 noPair).size = (V8 p).size) := by show _ = _; rw [V8_size, V8_size, h40]; rfl
      have HZN : Hid ((wr.alloc (.cells (V8 noPair) 46)).heap[wr.heap.size]? = some (.cells (V8 noPair) 46 (0, 0))) := heap_alloc_new _ _
      have hb2 : Below wr.heap.size wr ((wr.alloc (.cells (V8 noPair) 46)).setRow wr.heap.size (V8 p)) := below_setRow ((Below.refl _ _).alloc (Nat.le_refl _) _) (Nat.le_refl _) _
      have HBWb := Lib.hid (HBW.out.trans (hb2.mono HBW.out.size))
      have HBXb := Lib.hid (setRow_heap _ _ _ (V8 p) _ _ HZN.out)
      have HBLb : Hid (wr.heap.size < ((wr.alloc (.cells (V8 noPair) 46)).setRow wr.heap.size (V8 p)).heap.size) := (Array.getElem?_eq_some_iff.1 HBXb.out).1
      have HGb := Lib.hid (HGW.out.below hb2 HGW.out.lt)
      have HHb := Lib.hid (HHW.out.below hb2 HHW.out.lt)
      have HBM : Hid (w.heap.size + 1 < wr.heap.size) := HHW.out.lt
      clear hr hbl hp h40 hb2 hkl
      go_wp2_with (first
        | refine wpList_load_v8 rfl 46 _ rfl b (off + k * 40) rfl p _ HR.out Try.underlying46 rfl (pair_infoL _ H40.out) ?_
        | refine wpList_store_row rfl 46 _ _ rfl wr.heap.size (V8 p) rfl rfl 46 (V8 noPair) HZN.out HI.out HS.out (V8_one _) ?_)
      clear HZN HR HGW HHW HBW
      generalize (wr.alloc (.cells (V8 noPair) 46)).setRow wr.heap.size (V8 p) = wb at *
      generalize wr.heap.size = bx at *
      obtain ⟨kl, hkl⟩ := key_id (p.take 20) (take20_len H40.out) (fun x hx => HGP.out x (by first | exact List.mem_of_mem_take hx | exact List.mem_of_mem_drop hx))
      obtain ⟨st, es1, clock1, hme, hlk, hsb, hgb, hrest⟩ := CountMap.entry (w := wb.drew) (HGb.out.block rfl) idKey.law Try.underlying67 zero_int Try.underlying3 mk_inj (by have h1 := HNB.out; have h2 := gitK_len ps k; rw [HN.out] at h2; omega) (p.take 20) hkl
      obtain ⟨hl2, wz, hes, hcz, hgz⟩ := hrest _ hsb
      have HBY : Hid ((ChangeMaps.setBlock wb.drew (w.heap.size) (.map es1 clock1)).heap[bx]? = some (.cells (V8 p) 46 (0, 0))) := (hgb.block bx HBLb.out (fun e => by injection e with e; have := HBM.out; omega)).trans HBXb.out
      have hlt2 : bx < (ChangeMaps.setBlock wb.drew (w.heap.size) (.map es1 clock1)).heap.size := (Array.getElem?_eq_some_iff.1 HBY.out).1
      have HBZ : Hid (wz.heap[bx]? = some (.cells (V8 p) 46 (0, 0))) := (hgz.block bx hlt2 (fun e => by injection e with e; have := HBM.out; omega)).trans HBY.out
      have HBLc : Hid (bx < wz.heap.size) := (Array.getElem?_eq_some_iff.1 HBZ.out).1
      have HCZc : Hid (CM wz (w.heap.size) (p.take 20 :: gitK ps k)) := hcz
      have HOZc : Hid (CM wz (w.heap.size + 1) (hgK ps k)) := CountMap.kept (CountMap.kept (w := wb.drew) (HHb.out.block rfl) hgb (by simp)) hgz (by simp)
      have HBWc : Hid (Below w.heap.size w wz) := (HBWb.out.trans ((((Below.refl _ _).drew).grown hgb (by first | exact HBWb.out.size | exact Nat.le_trans HBWb.out.size (Nat.le_refl _)) (fun g hg => by injection hg with hg; omega)).grown hgz (Nat.le_trans HBWb.out.size hgb.size) (fun g hg => by injection hg with hg; omega)))
      obtain ⟨cc, hcc⟩ : ∃ n, cnt (p.take 20) (gitK ps k) = n := ⟨_, rfl⟩
      have mc : IntKind.i64.wrap ((cc : Int) + 1) = (cc : Int) + 1 := IntWalk.i64_in _ (by have h1 := HNB.out; have h2 := gitK_len ps k; have h3 := cnt_le (p.take 20) (gitK ps k); rw [hcc] at h3; rw [HN.out] at h2; omega)
      rw [hcc] at hme hlk hl2 hes
      unfold mkId at hme hlk hl2
      clear hsb hrest hcz hgb hgz hcc hkl hlt2
      apply wp_via
      · refine wp_region_noPanic ?_
        refine wp_region_held_drew (S := fun W => W.heap[bx]? = some (.cells (V8 p) 46 (0, 0))) (by kernel_rfl) ?_ (fun hHeld => ?_)
        · exact HBXb.out
        refine wpAnyH_take (i := 0) (v := ?_) (by simp only [List.getElem?_toArray, List.getElem?_cons_zero]; rfl) (by kernel_rfl) (by kernel_rfl) (by kernel_rfl) (fun _ _ _ h => h) (Or.inl ⟨by rfl, ?_⟩) (by assumption) ?_
        rotate_left
        · intro W hSW
          go_simp
          try with_reducible rfl
        try simp only [Act.put, List.setIfInBounds_toArray, List.set_cons_zero, List.set_cons_succ]
        refine wpAnyH_take (i := 1) (v := ?_) (by simp only [List.getElem?_toArray, List.getElem?_cons_succ, List.getElem?_cons_zero]; rfl) (by kernel_rfl) (by kernel_rfl) (by kernel_rfl) (fun _ _ _ h => h) (Or.inl ⟨by rfl, ?_⟩) (by assumption) ?_
        rotate_left
        · intro W hSW
          go_simp
          try with_reducible rfl
        try simp only [Act.put, List.setIfInBounds_toArray, List.set_cons_zero, List.set_cons_succ]
        refine wpAnyH_take (i := 2) (by simp only [List.getElem?_toArray, List.getElem?_cons_succ, List.getElem?_cons_zero]; rfl) (by kernel_rfl) (by kernel_rfl) (by kernel_rfl) (fun _ _ _ h => h) (yieldsIf_load_v8 (by rfl) 42 _ rfl bx 0 rfl (p.take 20) (.array 20 5) (fun W hSW => range_git (row_boxed hSW).2) Try.underlying42 rfl (id_infoL _ (take20_len H40.out))) (by assumption) ?_
        try simp only [Act.put, List.setIfInBounds_toArray, List.set_cons_zero, List.set_cons_succ]
        refine wpAnyH_ready (rs := [3, 5]) (by kernel_rfl) (by simp) ?_
        refine AllReadyH.cons (by simp only [List.getElem?_toArray, List.getElem?_cons_succ, List.getElem?_cons_zero]; rfl) (fun K hK => ?_) (AllReadyH.cons (by simp only [List.getElem?_toArray, List.getElem?_cons_succ, List.getElem?_cons_zero]; rfl) (fun K hK => ?_) AllReadyH.nil)
        · refine step_lookup (by rfl) 67 _ _ _ (by rfl) (.map (some (w.heap.size))) (.agg (V8 (p.take 20))) rfl (by rfl) _ _ hlk ?_
          refine hK.out _ _ (HBXb.out) (fun hHeld2 => ?_)
          clear hK K hHeld
          have hHeld := hHeld2
          clear hHeld2
          try simp only [Act.put, List.setIfInBounds_toArray, List.set_cons_zero, List.set_cons_succ]
          refine wpAnyH_take (i := 4) (v := ?_) (by simp only [List.getElem?_toArray, List.getElem?_cons_succ, List.getElem?_cons_zero]; rfl) (by kernel_rfl) (by kernel_rfl) (by kernel_rfl) (fun _ _ _ h => h) (Or.inl ⟨by rfl, ?_⟩) (by assumption) ?_
          rotate_left
          · intro W hSW
            go_simp
            try with_reducible rfl
          try simp only [Act.put, List.setIfInBounds_toArray, List.set_cons_zero, List.set_cons_succ]
          refine wpAnyH_ready (rs := [5]) (by kernel_rfl) (by simp) ?_
          refine AllReadyH.cons (by simp only [List.getElem?_toArray, List.getElem?_cons_succ, List.getElem?_cons_zero]; rfl) (fun K hK => ?_) AllReadyH.nil
          refine step_mapEntry (by rfl) 67 _ _ (by rfl) (.map (some (w.heap.size))) (.agg (V8 (p.take 20))) rfl (by rfl) _ _ hme ?_
          refine hK.out _ _ (HBY.out) (fun hHeld2 => ?_)
          clear hK K hHeld
          have hHeld := hHeld2
          clear hHeld2
          try simp only [Act.put, List.setIfInBounds_toArray, List.set_cons_zero, List.set_cons_succ]
          refine wpAnyH_take (i := 6) (v := ?_) (by simp only [List.getElem?_toArray, List.getElem?_cons_succ, List.getElem?_cons_zero]; rfl) (by kernel_rfl) (by kernel_rfl) (by kernel_rfl) (fun _ _ _ h => h) (Or.inl ⟨by rfl, ?_⟩) (by assumption) ?_
          rotate_left
          · intro W hSW
            go_simp
            try with_reducible rfl
          try simp only [Act.put, List.setIfInBounds_toArray, List.set_cons_zero, List.set_cons_succ]
          refine wpAnyH_ready (rs := [7]) (by kernel_rfl) (by simp) ?_
          refine AllReadyH.cons (by simp only [List.getElem?_toArray, List.getElem?_cons_succ, List.getElem?_cons_zero]; rfl) (fun K hK => ?_) AllReadyH.nil
          refine step_entryStore (by rfl) 67 _ _ _ (by rfl) (.map (some (w.heap.size))) (.int .i64 st) (.int .i64 ((cc : Int) + 1)) rfl (by rfl) (by rfl) _ hes ?_
          refine hK.out _ _ (HBZ.out) (fun hHeld2 => ?_)
          clear hK K hHeld
          have hHeld := hHeld2
          clear hHeld2
          try simp only [Act.put, List.setIfInBounds_toArray, List.set_cons_zero, List.set_cons_succ]
          refine wpAnyH_done (by kernel_rfl) ?_ _
          refine NoPanic.normal ?_
          exact ⟨rfl, rfl, rfl⟩
        · refine step_mapEntry (by rfl) 67 _ _ (by rfl) (.map (some (w.heap.size))) (.agg (V8 (p.take 20))) rfl (by rfl) _ _ hme ?_
          refine hK.out _ _ (HBY.out) (fun hHeld2 => ?_)
          clear hK K hHeld
          have hHeld := hHeld2
          clear hHeld2
          try simp only [Act.put, List.setIfInBounds_toArray, List.set_cons_zero, List.set_cons_succ]
          refine wpAnyH_take (i := 6) (v := ?_) (by simp only [List.getElem?_toArray, List.getElem?_cons_succ, List.getElem?_cons_zero]; rfl) (by kernel_rfl) (by kernel_rfl) (by kernel_rfl) (fun _ _ _ h => h) (Or.inl ⟨by rfl, ?_⟩) (by assumption) ?_
          rotate_left
          · intro W hSW
            go_simp
            try with_reducible rfl
          try simp only [Act.put, List.setIfInBounds_toArray, List.set_cons_zero, List.set_cons_succ]
          refine wpAnyH_ready (rs := [3]) (by kernel_rfl) (by simp) ?_
          refine AllReadyH.cons (by simp only [List.getElem?_toArray, List.getElem?_cons_succ, List.getElem?_cons_zero]; rfl) (fun K hK => ?_) AllReadyH.nil
          refine step_lookup (by rfl) 67 _ _ _ (by rfl) (.map (some (w.heap.size))) (.agg (V8 (p.take 20))) rfl (by rfl) _ _ hl2 ?_
          refine hK.out _ _ (HBY.out) (fun hHeld2 => ?_)
          clear hK K hHeld
          have hHeld := hHeld2
          clear hHeld2
          try simp only [Act.put, List.setIfInBounds_toArray, List.set_cons_zero, List.set_cons_succ]
          refine wpAnyH_take (i := 4) (v := ?_) (by simp only [List.getElem?_toArray, List.getElem?_cons_succ, List.getElem?_cons_zero]; rfl) (by kernel_rfl) (by kernel_rfl) (by kernel_rfl) (fun _ _ _ h => h) (Or.inl ⟨by rfl, ?_⟩) (by assumption) ?_
          rotate_left
          · intro W hSW
            go_simp
            try with_reducible rfl
          try simp only [Act.put, List.setIfInBounds_toArray, List.set_cons_zero, List.set_cons_succ]
          refine wpAnyH_ready (rs := [7]) (by kernel_rfl) (by simp) ?_
          refine AllReadyH.cons (by simp only [List.getElem?_toArray, List.getElem?_cons_succ, List.getElem?_cons_zero]; rfl) (fun K hK => ?_) AllReadyH.nil
          refine step_entryStore (by rfl) 67 _ _ _ (by rfl) (.map (some (w.heap.size))) (.int .i64 st) (.int .i64 ((cc : Int) + 1)) rfl (by rfl) (by rfl) _ hes ?_
          refine hK.out _ _ (HBZ.out) (fun hHeld2 => ?_)
          clear hK K hHeld
          have hHeld := hHeld2
          clear hHeld2
          try simp only [Act.put, List.setIfInBounds_toArray, List.set_cons_zero, List.set_cons_succ]
          refine wpAnyH_done (by kernel_rfl) ?_ _
          refine NoPanic.normal ?_
          exact ⟨rfl, rfl, rfl⟩
      have HBXc := Lib.hid HBZ.out
      clear hme hlk hl2 hes HBY HBZ
      go_wp2_with fail
      obtain ⟨kl, hkl⟩ := key_id (p.drop 20) (drop20_len H40.out) (fun x hx => HGP.out x (by first | exact List.mem_of_mem_take hx | exact List.mem_of_mem_drop hx))
      obtain ⟨st, es1, clock1, hme, hlk, hsb, hgb, hrest⟩ := CountMap.entry (w := wz.drew) (HOZc.out.block rfl) idKey.law Try.underlying67 zero_int Try.underlying3 mk_inj (by have h1 := HNB.out; have h2 := hgK_len ps k; rw [HN.out] at h2; omega) (p.drop 20) hkl
      obtain ⟨hl2, wy, hes, hcz, hgz⟩ := hrest _ hsb
      have HBY : Hid ((ChangeMaps.setBlock wz.drew (w.heap.size + 1) (.map es1 clock1)).heap[bx]? = some (.cells (V8 p) 46 (0, 0))) := (hgb.block bx HBLc.out (fun e => by injection e with e; have := HBM.out; omega)).trans HBXc.out
      have hlt2 : bx < (ChangeMaps.setBlock wz.drew (w.heap.size + 1) (.map es1 clock1)).heap.size := (Array.getElem?_eq_some_iff.1 HBY.out).1
      have HBZ : Hid (wy.heap[bx]? = some (.cells (V8 p) 46 (0, 0))) := (hgz.block bx hlt2 (fun e => by injection e with e; have := HBM.out; omega)).trans HBY.out
      have HBLd : Hid (bx < wy.heap.size) := (Array.getElem?_eq_some_iff.1 HBZ.out).1
      have HCZd : Hid (CM wy (w.heap.size + 1) (p.drop 20 :: hgK ps k)) := hcz
      have HOZd : Hid (CM wy (w.heap.size) (p.take 20 :: gitK ps k)) := CountMap.kept (CountMap.kept (w := wz.drew) (HCZc.out.block rfl) hgb (by simp)) hgz (by simp)
      have HBWd : Hid (Below w.heap.size w wy) := (HBWc.out.trans ((((Below.refl _ _).drew).grown hgb (by first | exact HBWc.out.size | exact Nat.le_trans HBWc.out.size (Nat.le_refl _)) (fun g hg => by injection hg with hg; omega)).grown hgz (Nat.le_trans HBWc.out.size hgb.size) (fun g hg => by injection hg with hg; omega)))
      obtain ⟨cc, hcc⟩ : ∃ n, cnt (p.drop 20) (hgK ps k) = n := ⟨_, rfl⟩
      have mc : IntKind.i64.wrap ((cc : Int) + 1) = (cc : Int) + 1 := IntWalk.i64_in _ (by have h1 := HNB.out; have h2 := hgK_len ps k; have h3 := cnt_le (p.drop 20) (hgK ps k); rw [hcc] at h3; rw [HN.out] at h2; omega)
      rw [hcc] at hme hlk hl2 hes
      unfold mkId at hme hlk hl2
      clear hsb hrest hcz hgb hgz hcc hkl hlt2
      apply wp_via
      · refine wp_region_noPanic ?_
        refine wp_region_held_drew (S := fun W => W.heap[bx]? = some (.cells (V8 p) 46 (0, 0))) (by kernel_rfl) ?_ (fun hHeld => ?_)
        · exact HBXc.out
        refine wpAnyH_take (i := 0) (v := ?_) (by simp only [List.getElem?_toArray, List.getElem?_cons_zero]; rfl) (by kernel_rfl) (by kernel_rfl) (by kernel_rfl) (fun _ _ _ h => h) (Or.inl ⟨by rfl, ?_⟩) (by assumption) ?_
        rotate_left
        · intro W hSW
          go_simp
          try with_reducible rfl
        try simp only [Act.put, List.setIfInBounds_toArray, List.set_cons_zero, List.set_cons_succ]
        refine wpAnyH_take (i := 1) (v := ?_) (by simp only [List.getElem?_toArray, List.getElem?_cons_succ, List.getElem?_cons_zero]; rfl) (by kernel_rfl) (by kernel_rfl) (by kernel_rfl) (fun _ _ _ h => h) (Or.inl ⟨by rfl, ?_⟩) (by assumption) ?_
        rotate_left
        · intro W hSW
          go_simp
          try with_reducible rfl
        try simp only [Act.put, List.setIfInBounds_toArray, List.set_cons_zero, List.set_cons_succ]
        refine wpAnyH_take (i := 2) (by simp only [List.getElem?_toArray, List.getElem?_cons_succ, List.getElem?_cons_zero]; rfl) (by kernel_rfl) (by kernel_rfl) (by kernel_rfl) (fun _ _ _ h => h) (yieldsIf_load_v8 (by rfl) 42 _ rfl bx 20 rfl (p.drop 20) (.array 20 5) (fun W hSW => range_hg (row_boxed hSW).2) Try.underlying42 rfl (id_infoL _ (drop20_len H40.out))) (by assumption) ?_
        try simp only [Act.put, List.setIfInBounds_toArray, List.set_cons_zero, List.set_cons_succ]
        refine wpAnyH_ready (rs := [3, 5]) (by kernel_rfl) (by simp) ?_
        refine AllReadyH.cons (by simp only [List.getElem?_toArray, List.getElem?_cons_succ, List.getElem?_cons_zero]; rfl) (fun K hK => ?_) (AllReadyH.cons (by simp only [List.getElem?_toArray, List.getElem?_cons_succ, List.getElem?_cons_zero]; rfl) (fun K hK => ?_) AllReadyH.nil)
        · refine step_lookup (by rfl) 67 _ _ _ (by rfl) (.map (some (w.heap.size + 1))) (.agg (V8 (p.drop 20))) rfl (by rfl) _ _ hlk ?_
          refine hK.out _ _ (HBXc.out) (fun hHeld2 => ?_)
          clear hK K hHeld
          have hHeld := hHeld2
          clear hHeld2
          try simp only [Act.put, List.setIfInBounds_toArray, List.set_cons_zero, List.set_cons_succ]
          refine wpAnyH_take (i := 4) (v := ?_) (by simp only [List.getElem?_toArray, List.getElem?_cons_succ, List.getElem?_cons_zero]; rfl) (by kernel_rfl) (by kernel_rfl) (by kernel_rfl) (fun _ _ _ h => h) (Or.inl ⟨by rfl, ?_⟩) (by assumption) ?_
          rotate_left
          · intro W hSW
            go_simp
            try with_reducible rfl
          try simp only [Act.put, List.setIfInBounds_toArray, List.set_cons_zero, List.set_cons_succ]
          refine wpAnyH_ready (rs := [5]) (by kernel_rfl) (by simp) ?_
          refine AllReadyH.cons (by simp only [List.getElem?_toArray, List.getElem?_cons_succ, List.getElem?_cons_zero]; rfl) (fun K hK => ?_) AllReadyH.nil
          refine step_mapEntry (by rfl) 67 _ _ (by rfl) (.map (some (w.heap.size + 1))) (.agg (V8 (p.drop 20))) rfl (by rfl) _ _ hme ?_
          refine hK.out _ _ (HBY.out) (fun hHeld2 => ?_)
          clear hK K hHeld
          have hHeld := hHeld2
          clear hHeld2
          try simp only [Act.put, List.setIfInBounds_toArray, List.set_cons_zero, List.set_cons_succ]
          refine wpAnyH_take (i := 6) (v := ?_) (by simp only [List.getElem?_toArray, List.getElem?_cons_succ, List.getElem?_cons_zero]; rfl) (by kernel_rfl) (by kernel_rfl) (by kernel_rfl) (fun _ _ _ h => h) (Or.inl ⟨by rfl, ?_⟩) (by assumption) ?_
          rotate_left
          · intro W hSW
            go_simp
            try with_reducible rfl
          try simp only [Act.put, List.setIfInBounds_toArray, List.set_cons_zero, List.set_cons_succ]
          refine wpAnyH_ready (rs := [7]) (by kernel_rfl) (by simp) ?_
          refine AllReadyH.cons (by simp only [List.getElem?_toArray, List.getElem?_cons_succ, List.getElem?_cons_zero]; rfl) (fun K hK => ?_) AllReadyH.nil
          refine step_entryStore (by rfl) 67 _ _ _ (by rfl) (.map (some (w.heap.size + 1))) (.int .i64 st) (.int .i64 ((cc : Int) + 1)) rfl (by rfl) (by rfl) _ hes ?_
          refine hK.out _ _ (HBZ.out) (fun hHeld2 => ?_)
          clear hK K hHeld
          have hHeld := hHeld2
          clear hHeld2
          try simp only [Act.put, List.setIfInBounds_toArray, List.set_cons_zero, List.set_cons_succ]
          refine wpAnyH_done (by kernel_rfl) ?_ _
          refine NoPanic.normal ?_
          exact ⟨rfl, rfl, rfl⟩
        · refine step_mapEntry (by rfl) 67 _ _ (by rfl) (.map (some (w.heap.size + 1))) (.agg (V8 (p.drop 20))) rfl (by rfl) _ _ hme ?_
          refine hK.out _ _ (HBY.out) (fun hHeld2 => ?_)
          clear hK K hHeld
          have hHeld := hHeld2
          clear hHeld2
          try simp only [Act.put, List.setIfInBounds_toArray, List.set_cons_zero, List.set_cons_succ]
          refine wpAnyH_take (i := 6) (v := ?_) (by simp only [List.getElem?_toArray, List.getElem?_cons_succ, List.getElem?_cons_zero]; rfl) (by kernel_rfl) (by kernel_rfl) (by kernel_rfl) (fun _ _ _ h => h) (Or.inl ⟨by rfl, ?_⟩) (by assumption) ?_
          rotate_left
          · intro W hSW
            go_simp
            try with_reducible rfl
          try simp only [Act.put, List.setIfInBounds_toArray, List.set_cons_zero, List.set_cons_succ]
          refine wpAnyH_ready (rs := [3]) (by kernel_rfl) (by simp) ?_
          refine AllReadyH.cons (by simp only [List.getElem?_toArray, List.getElem?_cons_succ, List.getElem?_cons_zero]; rfl) (fun K hK => ?_) AllReadyH.nil
          refine step_lookup (by rfl) 67 _ _ _ (by rfl) (.map (some (w.heap.size + 1))) (.agg (V8 (p.drop 20))) rfl (by rfl) _ _ hl2 ?_
          refine hK.out _ _ (HBY.out) (fun hHeld2 => ?_)
          clear hK K hHeld
          have hHeld := hHeld2
          clear hHeld2
          try simp only [Act.put, List.setIfInBounds_toArray, List.set_cons_zero, List.set_cons_succ]
          refine wpAnyH_take (i := 4) (v := ?_) (by simp only [List.getElem?_toArray, List.getElem?_cons_succ, List.getElem?_cons_zero]; rfl) (by kernel_rfl) (by kernel_rfl) (by kernel_rfl) (fun _ _ _ h => h) (Or.inl ⟨by rfl, ?_⟩) (by assumption) ?_
          rotate_left
          · intro W hSW
            go_simp
            try with_reducible rfl
          try simp only [Act.put, List.setIfInBounds_toArray, List.set_cons_zero, List.set_cons_succ]
          refine wpAnyH_ready (rs := [7]) (by kernel_rfl) (by simp) ?_
          refine AllReadyH.cons (by simp only [List.getElem?_toArray, List.getElem?_cons_succ, List.getElem?_cons_zero]; rfl) (fun K hK => ?_) AllReadyH.nil
          refine step_entryStore (by rfl) 67 _ _ _ (by rfl) (.map (some (w.heap.size + 1))) (.int .i64 st) (.int .i64 ((cc : Int) + 1)) rfl (by rfl) (by rfl) _ hes ?_
          refine hK.out _ _ (HBZ.out) (fun hHeld2 => ?_)
          clear hK K hHeld
          have hHeld := hHeld2
          clear hHeld2
          try simp only [Act.put, List.setIfInBounds_toArray, List.set_cons_zero, List.set_cons_succ]
          refine wpAnyH_done (by kernel_rfl) ?_ _
          refine NoPanic.normal ?_
          exact ⟨rfl, rfl, rfl⟩
      have HBXd := Lib.hid HBZ.out
      clear hme hlk hl2 hes HBY HBZ
      go_wp2_with fail
      exact ⟨⟨k + 1, by have := HKL.out; omega, by rw [WK.out _ rfl], by rw [gitK_step HP.out]; exact HOZd.out, by rw [hgK_step HP.out]; exact HCZd.out, HBWd.out⟩, by have := HKL.out; rw [WK.out _ rfl]; simp [intOf]; omega⟩
end Go.Proofs.Ytlhdjbnilfbaoaa
