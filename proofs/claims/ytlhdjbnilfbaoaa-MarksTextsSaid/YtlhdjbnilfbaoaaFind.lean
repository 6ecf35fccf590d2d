/- The first pair that is so: the walks. -/
import Derived.Test.YtlhdjbnilfbaoaaClos
namespace Go.Proofs.Ytlhdjbnilfbaoaa
open Go.RowKit
set_option linter.unusedVariables false
theorem wpList_load_v8_g {P : Program} {ops : Array Oper} {rest : List Oper} {o : Oper} {a : Act} {w : World} {Q : Exit → Act → World → Prop} (hw : Region.wanted o (yielded ops a.tmps) = true) (ty : TypeId) (x : Operand) (ho : o.op = .load ty x)
    (b off : Nat) (hx : a.eval x = .pointer (some ⟨b, off, none⟩)) (cs : List Int) (d : TypeDesc) (hc : w.rangeAt b off (U8 cs))
    (hu : P.underlying ty = some d) (hd : d.isRow = true) (hi : (P.info? ty).map (·.size) = some (U8 cs).length)
    (h : wpList P ops Q rest (a.put o.dst (.agg (V8 cs))) w) : wpList P ops Q (o :: rest) a w := by
  refine wpList_step ?_
  intro K hK
  rw [if_pos hw]
  exact wp_load_mid ty x ho b off hx (U8 cs) d hc hu hd hi (hK _ _ h)
def soAdd (q p : List Int) : Bool := p.take 20 == q.take 20 || p.drop 20 == q.drop 20
set_option maxRecDepth 100000 in
set_option maxHeartbeats 4000000 in
theorem so_Add (p q : List Int) (hp : p.length = 40) (hq : q.length = 40) (g : Nat) (w : World) (hg : Boxed w g q) :
    Calls Try.prog 32 #[.agg (V8 p), .pointer (some ⟨g, 0, none⟩)] w fun e w' => e = .returned (.bool (soAdd q p)) ∧ Below w.heap.size w w' := by
  have HP := Lib.hid hp
  have HQ := Lib.hid hq
  have HG : Hid (Boxed (w.alloc (.cells (V8 p) 46)) g q) := hg.below ((Below.refl _ _).alloc (Nat.le_refl _) _) hg.1
  have HR : Hid ((w.alloc (.cells (V8 p) 46)).rangeAt w.heap.size 0 (U8 p)) := box_range w p _
  have HBW : Hid (Below w.heap.size w (w.alloc (.cells (V8 p) 46))) := (Below.refl _ _).alloc (Nat.le_refl _) _
  have he := fun W => run_eql_id W (p.take 20) (q.take 20) (take20_len hp) (take20_len hq)
  have he2 := fun W => run_eql_id W (p.drop 20) (q.drop 20) (drop20_len hp) (drop20_len hq)
  clear hp hq hg
  cases h1 : (p.take 20 == q.take 20)
  · rw [h1] at he
    have HS : Hid (soAdd q p = (p.drop 20 == q.drop 20)) := by show _ = _; unfold soAdd; rw [h1]; rfl
    clear h1
    go_enter Try.func32, Try.ntmps32
    go_wp2_with (first
      | (refine wpList_load_v8_g rfl 42 _ rfl w.heap.size 0 rfl (p.take 20) (.array 20 5) (range_git HR.out) Try.underlying42 rfl (id_infoL _ (take20_len HP.out)) ?_)
      | (refine wpList_load_v8_g rfl 42 _ rfl g 0 rfl (q.take 20) (.array 20 5) (range_git HG.out.2) Try.underlying42 rfl (id_infoL _ (take20_len HQ.out)) ?_)
      | (refine wpList_load_v8_g rfl 42 _ rfl w.heap.size 20 rfl (p.drop 20) (.array 20 5) (range_hg HR.out) Try.underlying42 rfl (id_infoL _ (drop20_len HP.out)) ?_)
      | (refine wpList_load_v8_g rfl 42 _ rfl g 20 rfl (q.drop 20) (.array 20 5) (range_hg HG.out.2) Try.underlying42 rfl (id_infoL _ (drop20_len HQ.out)) ?_))
    go_ret
    rw [HS.out]
    exact ⟨rfl, HBW.out⟩
  · rw [h1] at he
    have HS : Hid (soAdd q p = true) := by show _ = _; unfold soAdd; rw [h1]; rfl
    clear h1
    go_enter Try.func32, Try.ntmps32
    go_wp2_with (first
      | (refine wpList_load_v8_g rfl 42 _ rfl w.heap.size 0 rfl (p.take 20) (.array 20 5) (range_git HR.out) Try.underlying42 rfl (id_infoL _ (take20_len HP.out)) ?_)
      | (refine wpList_load_v8_g rfl 42 _ rfl g 0 rfl (q.take 20) (.array 20 5) (range_git HG.out.2) Try.underlying42 rfl (id_infoL _ (take20_len HQ.out)) ?_))
    go_ret
    rw [HS.out]
    exact ⟨rfl, HBW.out⟩
/-- The first place of a pair that is so. -/
def foundI (f : List Int → Bool) : List (List Int) → Option Nat
  | [] => none
  | p :: ps => if f p then some 0 else (foundI f ps).map (· + 1)
def foundV (o : Option Nat) : Int := match o with | some k => (k : Int) | none => -1
theorem foundI_none {f : List Int → Bool} : ∀ {ps : List (List Int)}, (∀ p ∈ ps, f p = false) → foundI f ps = none
  | [], _ => rfl
  | p :: ps, h => by unfold foundI; rw [if_neg (by rw [h p (by simp)]; decide), foundI_none fun q hq => h q (by simp [hq])]; rfl
theorem foundI_at {f : List Int → Bool} : ∀ {ps : List (List Int)} {k : Nat} {p : List Int}, (∀ p ∈ ps.take k, f p = false) → ps[k]? = some p → f p = true → foundI f ps = some k
  | [], k, p, _, h, _ => by simp at h
  | q :: ps, 0, p, _, h, hf => by
    simp at h
    subst h
    unfold foundI
    rw [if_pos hf]
  | q :: ps, k + 1, p, h, hk, hf => by
    unfold foundI
    rw [if_neg (by rw [h q (by simp)]; decide), foundI_at (k := k) (p := p) (fun r hr => h r (by simp [hr])) (by simpa using hk) hf]
    rfl
theorem foundI_some {f : List Int → Bool} : ∀ {ps : List (List Int)} {k : Nat}, foundI f ps = some k → ∃ p, ps[k]? = some p ∧ f p = true ∧ ∀ q ∈ ps.take k, f q = false
  | [], k, h => by cases h
  | q :: ps, k, h => by
    unfold foundI at h
    split at h
    · rename_i hq
      injection h with h
      subst h
      exact ⟨q, rfl, hq, by simp⟩
    · rename_i hq
      obtain ⟨j, hj, rfl⟩ := Option.map_eq_some_iff.1 h
      obtain ⟨p, h1, h2, h3⟩ := foundI_some hj
      refine ⟨p, by simpa using h1, h2, fun r hr => ?_⟩
      rw [List.take_succ_cons] at hr
      rcases List.mem_cons.1 hr with rfl | hr
      · simpa using hq
      · exact h3 r hr
theorem foundI_no {f : List Int → Bool} : ∀ {ps : List (List Int)}, foundI f ps = none → ∀ p ∈ ps, f p = false
  | [], _, p, hp => by cases hp
  | q :: ps, h, p, hp => by
    unfold foundI at h
    split at h
    · cases h
    · rename_i hq
      rcases List.mem_cons.1 hp with rfl | hp
      · simpa using hq
      · exact foundI_no (by simpa using h) p hp
def pairAt (ps : List (List Int)) : Option Nat → List Int
  | some k => ps[k]?.getD noPair
  | none => noPair
theorem take_all_snoc {f : List Int → Bool} {ps : List (List Int)} {k : Nat} {p : List Int} (h : ∀ q ∈ ps.take k, f q = false) (hk : ps[k]? = some p) (hp : f p = false) : ∀ q ∈ ps.take (k + 1), f q = false := fun q hq => by
  rw [List.take_add_one, hk] at hq
  rcases List.mem_append.1 hq with hq | hq
  · exact h q hq
  · have : q = p := by simpa using hq
    rw [this]; exact hp
set_option maxRecDepth 100000 in
set_option maxHeartbeats 4000000 in
theorem indexFunc_Hg (a : Option Addr) (c : Nat) (ps : List (List Int)) (pv : Value) (f : List Int → Bool) (w : World) (h : PsAt w a ps) (hn : ps.length ≤ 1000000)
    (HQ : ∀ p W, p.length = 40 → Below w.heap.size w W → Calls Try.prog 34 #[.agg (V8 p), pv] W fun e w' => e = .returned (.bool (f p)) ∧ Below W.heap.size W w') :
    Calls Try.prog 39 #[.slice a ps.length c, .func (.func 34) #[] #[pv]] w fun e w' => e = .returned (.int .i64 (foundV (foundI f ps))) ∧ Below w.heap.size w w' := by
  have HH : Hid (∀ p W, p.length = 40 → Below w.heap.size w W → Calls Try.prog 34 #[.agg (V8 p), pv] W fun e w' => e = .returned (.bool (f p)) ∧ Below W.heap.size W w') := HQ
  have HS := Lib.hid h
  obtain ⟨n, hnl⟩ : ∃ n, ps.length = n := ⟨_, rfl⟩
  have HN := Lib.hid hnl
  rw [hnl] at hn ⊢
  clear HQ h hnl
  go_enter Try.func39, Try.ntmps39
  go_wp2_with fail
  go_loopw [8] (fun i wr => ∃ k : Nat, k ≤ n ∧ i = .int .i64 (k : Int) ∧ (∀ q ∈ ps.take k, f q = false) ∧ Below w.heap.size w wr) (fun i _ => n - (intOf i).toNat)
  case atStart => exact ⟨0, by omega, rfl, by simp, Below.refl _ _⟩
  case round =>
    obtain ⟨k, hk, rfl, hf, hb⟩ := hrel
    have HF := Lib.hid hf
    have HB := Lib.hid hb
    clear hf hb
    have wk := next_int k (by omega)
    by_cases hkn : k = n
    · subst hkn
      have HE : Hid (foundV (foundI f ps) = -1) := by
        have := HF.out
        rw [List.take_of_length_le (by rw [HN.out]; omega)] at this
        show _ = _
        rw [foundI_none this]; rfl
      go_wp2_with fail
      go_ret
      rw [HE.out]
      exact ⟨rfl, HB.out⟩
    · have hkl : k < n := by omega
      have hki : (k : Int) < (n : Int) := by omega
      obtain ⟨b, off, p, rfl, hp, h40, hbl, hr⟩ := HS.out.at (k := k) (by rw [HN.out]; exact hkl)
      have HR := Lib.hid (range_below hr HB.out hbl)
      have HP := Lib.hid hp
      have H40 := Lib.hid h40
      have hcall := HH.out p wr h40 HB.out
      clear hr hp h40
      cases hfp : f p
      · rw [hfp] at hcall
        have HF2 := Lib.hid (take_all_snoc HF.out HP.out hfp)
        have HC := Lib.hid hcall
        clear hcall hfp
        go_wp2_with (refine wpList_load_v8_g rfl 46 _ rfl b (off + k * 40) rfl p _ HR.out Try.underlying46 rfl (pair_infoL _ H40.out) ?_)
        refine HC.out.mono ?_
        rintro e w2 ⟨rfl, hb2⟩
        have HB2 := Lib.hid (HB.out.trans (hb2.mono HB.out.size))
        clear hb2
        go_wp2_with fail
        exact ⟨⟨k + 1, by omega, by first | rfl | exact congrArg (Value.int .i64) (wk _ rfl), HF2.out, HB2.out⟩, by simp [intOf] <;> omega⟩
      · rw [hfp] at hcall
        have HE : Hid (foundV (foundI f ps) = (k : Int)) := by
          show _ = _
          rw [foundI_at HF.out HP.out hfp]; rfl
        have HC := Lib.hid hcall
        clear hcall hfp
        go_wp2_with (refine wpList_load_v8_g rfl 46 _ rfl b (off + k * 40) rfl p _ HR.out Try.underlying46 rfl (pair_infoL _ H40.out) ?_)
        refine HC.out.mono ?_
        rintro e w2 ⟨rfl, hb2⟩
        have HB2 := Lib.hid (HB.out.trans (hb2.mono HB.out.size))
        clear hb2
        go_wp2_with fail
        go_ret
        rw [HE.out]
        exact ⟨rfl, HB2.out⟩
set_option maxRecDepth 100000 in
set_option maxHeartbeats 4000000 in
theorem indexFunc_Add (a : Option Addr) (c : Nat) (ps : List (List Int)) (pv : Value) (f : List Int → Bool) (w : World) (h : PsAt w a ps) (hn : ps.length ≤ 1000000)
    (HQ : ∀ p W, p.length = 40 → Below w.heap.size w W → Calls Try.prog 32 #[.agg (V8 p), pv] W fun e w' => e = .returned (.bool (f p)) ∧ Below W.heap.size W w') :
    Calls Try.prog 39 #[.slice a ps.length c, .func (.func 32) #[] #[pv]] w fun e w' => e = .returned (.int .i64 (foundV (foundI f ps))) ∧ Below w.heap.size w w' := by
  have HH : Hid (∀ p W, p.length = 40 → Below w.heap.size w W → Calls Try.prog 32 #[.agg (V8 p), pv] W fun e w' => e = .returned (.bool (f p)) ∧ Below W.heap.size W w') := HQ
  have HS := Lib.hid h
  obtain ⟨n, hnl⟩ : ∃ n, ps.length = n := ⟨_, rfl⟩
  have HN := Lib.hid hnl
  rw [hnl] at hn ⊢
  clear HQ h hnl
  go_enter Try.func39, Try.ntmps39
  go_wp2_with fail
  go_loopw [8] (fun i wr => ∃ k : Nat, k ≤ n ∧ i = .int .i64 (k : Int) ∧ (∀ q ∈ ps.take k, f q = false) ∧ Below w.heap.size w wr) (fun i _ => n - (intOf i).toNat)
  case atStart => exact ⟨0, by omega, rfl, by simp, Below.refl _ _⟩
  case round =>
    obtain ⟨k, hk, rfl, hf, hb⟩ := hrel
    have HF := Lib.hid hf
    have HB := Lib.hid hb
    clear hf hb
    have wk := next_int k (by omega)
    by_cases hkn : k = n
    · subst hkn
      have HE : Hid (foundV (foundI f ps) = -1) := by
        have := HF.out
        rw [List.take_of_length_le (by rw [HN.out]; omega)] at this
        show _ = _
        rw [foundI_none this]; rfl
      go_wp2_with fail
      go_ret
      rw [HE.out]
      exact ⟨rfl, HB.out⟩
    · have hkl : k < n := by omega
      have hki : (k : Int) < (n : Int) := by omega
      obtain ⟨b, off, p, rfl, hp, h40, hbl, hr⟩ := HS.out.at (k := k) (by rw [HN.out]; exact hkl)
      have HR := Lib.hid (range_below hr HB.out hbl)
      have HP := Lib.hid hp
      have H40 := Lib.hid h40
      have hcall := HH.out p wr h40 HB.out
      clear hr hp h40
      cases hfp : f p
      · rw [hfp] at hcall
        have HF2 := Lib.hid (take_all_snoc HF.out HP.out hfp)
        have HC := Lib.hid hcall
        clear hcall hfp
        go_wp2_with (refine wpList_load_v8_g rfl 46 _ rfl b (off + k * 40) rfl p _ HR.out Try.underlying46 rfl (pair_infoL _ H40.out) ?_)
        refine HC.out.mono ?_
        rintro e w2 ⟨rfl, hb2⟩
        have HB2 := Lib.hid (HB.out.trans (hb2.mono HB.out.size))
        clear hb2
        go_wp2_with fail
        exact ⟨⟨k + 1, by omega, by first | rfl | exact congrArg (Value.int .i64) (wk _ rfl), HF2.out, HB2.out⟩, by simp [intOf] <;> omega⟩
      · rw [hfp] at hcall
        have HE : Hid (foundV (foundI f ps) = (k : Int)) := by
          show _ = _
          rw [foundI_at HF.out HP.out hfp]; rfl
        have HC := Lib.hid hcall
        clear hcall hfp
        go_wp2_with (refine wpList_load_v8_g rfl 46 _ rfl b (off + k * 40) rfl p _ HR.out Try.underlying46 rfl (pair_infoL _ H40.out) ?_)
        refine HC.out.mono ?_
        rintro e w2 ⟨rfl, hb2⟩
        have HB2 := Lib.hid (HB.out.trans (hb2.mono HB.out.size))
        clear hb2
        go_wp2_with fail
        go_ret
        rw [HE.out]
        exact ⟨rfl, HB2.out⟩
end Go.Proofs.Ytlhdjbnilfbaoaa
