/- A person's text and back: commit.Text, personOf, Person: the walks. -/
import Derived.Test.YtindmggmblmmcaaGreatDoorCoWho
namespace Go.Proofs.YtindmggmblmmcaaGreatDoor
open Go.RowKit Plain
set_option linter.unusedVariables false
set_option linter.unusedSimpArgs false
theorem wpList_load_row_g {P : Program} {ops : Array Oper} {rest : List Oper} {o : Oper} {a : Act} {w : World} {Q : Exit → Act → World → Prop} (hw : Region.wanted o (yielded ops a.tmps) = true) (ty : TypeId) (x : Operand) (ho : o.op = .load ty x)
    (g : Nat) (hx : a.eval x = .pointer (some ⟨g, 0, none⟩)) (t : TypeId) (cs : Array Value) (fr : Nat × Nat) (d : TypeDesc) (hg : w.heap[g]? = some (.cells cs t fr))
    (hu : P.underlying ty = some d) (hd : (match d with | .struct _ | .array _ _ => true | _ => false) = true) (hi : (P.info? ty).map (·.size) = some cs.size)
    (h : wpList P ops Q rest (a.put o.dst (.agg cs)) w) : wpList P ops Q (o :: rest) a w := by
  unfold wpList
  rw [if_pos hw]
  exact .inl (wp_load_row ty x ho g hx t cs fr d hg hu hd hi h)
theorem build_who0 (W : World) : (Instr.build 31 #[]).run Tryz.prog W = .ok (.agg (whoA wzero)) W := run_build W _ _ _ (by kernel_rfl)
theorem build_who (n m z : ByteArray) (t : Int) (W : World) : (Instr.build 31 #[(0, .string n), (1, .string m), (2, .int .i64 t), (3, .string z)]).run Tryz.prog W = .ok (.agg (whoA ⟨n, m, t, z⟩)) W := run_build W _ _ _ (by kernel_rfl)
theorem info_who (x : WX) : (Tryz.prog.info? 31).map (·.size) = some (whoA x).size := by show _ = some 4; kernel_rfl
theorem who_one (x : WX) : (whoA x).all (·.oneCell') = true := by
  rw [Array.all_eq_true_iff_forall_mem]; intro v hv; simp [whoA] at hv; rcases hv with rfl | rfl | rfl | rfl <;> rfl
theorem map_four (a : Act) (x y z u : Operand) (v1 v2 v3 v4 : Value) (h1 : a.eval x = v1) (h2 : a.eval y = v2) (h3 : a.eval z = v3) (h4 : a.eval u = v4) : (#[(0, x), (1, y), (2, z), (3, u)] : Array (Nat × Operand)).map (fun (i, x) => (i, a.eval x)) = #[(0, v1), (1, v2), (2, v3), (3, v4)] := by simp [h1, h2, h3, h4]
theorem decF_le (l : List UInt8) : (decF l).1 ≤ 4611686018427387903 := by
  unfold decF
  split
  · split
    · rename_i h
      show Int.toNat _ ≤ _
      omega
    · show 0 ≤ _; omega
  · show 0 ≤ _; omega
theorem decF_snd (l : List UInt8) : (decF l).2 = 0 ∨ (decF l).2 = 4 := by
  unfold decF
  split
  · split
    · exact .inl rfl
    · exact .inr rfl
  · exact .inr rfl
set_option maxRecDepth 100000 in
set_option maxHeartbeats 8000000 in
theorem text_any (x : WX) (w : World) (hE : EnvC w) (hs : WhoSmall x) : Calls Tryz.prog 25 #[.agg (whoA x)] w fun e w' => e = .returned (.tuple #[.string (if whoB x = true then txt (whoT x) else ⟨#[]⟩), .int .i64 (if whoB x = true then 0 else 4)]) ∧ Below w.heap.size w w' := by
  have HE := Lib.hid hE
  have HS := Lib.hid hs
  have HB0 : Hid (Below w.heap.size w (w.alloc (.cells (whoA x) 31))) := (Below.refl _ _).alloc (Nat.le_refl _) _
  have HR0 : Hid ((w.alloc (.cells (whoA x) 31)).heap[w.heap.size]? = some (.cells (whoA x) 31 (0, 0))) := heap_alloc_new _ _
  obtain ⟨T, hT⟩ : ∃ T, (if whoB x = true then txt (whoT x) else ⟨#[]⟩) = T := ⟨_, rfl⟩
  obtain ⟨n, hn⟩ : ∃ n : Int, (if whoB x = true then 0 else 4) = n := ⟨_, rfl⟩
  have HT := Lib.hid hT
  have HN := Lib.hid hn
  rw [hT, hn]
  clear hE hs hT hn
  go_enter Tryz.func25, Tryz.ntmps25
  go_wp2_with (first
    | refine wpList_load_row rfl 31 _ rfl w.heap.size rfl 31 (whoA x) (0, 0) _ HR0.out Tryz.underlying31 rfl (info_who x) ?_)
  generalize w.alloc (.cells (whoA x) 31) = w0 at *
  obtain ⟨p0, hp0⟩ : ∃ p, w.heap.size = p := ⟨_, rfl⟩
  rw [hp0] at HR0
  simp only [hp0]
  have HPE := Lib.hid hp0
  clear hp0
  refine (who_any x w0 HS.out).mono ?_
  rintro e w1 ⟨rfl, hb⟩
  have HR1 := Lib.hid ((hb.block p0 (Array.getElem?_eq_some_iff.1 HR0.out).1).trans HR0.out)
  have HB1 := Lib.hid (HB0.out.trans (hb.mono HB0.out.size))
  clear hb
  cases hr : whoB x
  · have HRB := Lib.hid hr
    clear hr
    go_wp2_with fail
    go_ret2
    exact ⟨by rw [← HT.out, ← HN.out, HRB.out] <;> rfl, HB1.out⟩
  · have HRB := Lib.hid hr
    clear hr
    go_wp2_with (first
      | refine wpList_load_row rfl 31 _ rfl p0 rfl 31 (whoA x) (0, 0) _ HR1.out Tryz.underlying31 rfl (info_who x) ?_)
    refine (whotext_any x w1 (HE.out.below HB1.out) HS.out).mono ?_
    rintro e w2 ⟨rfl, hb⟩
    have HB2 := Lib.hid (HB1.out.trans (hb.mono HB1.out.size))
    clear hb
    go_wp2_with fail
    go_ret2
    exact ⟨by rw [← HT.out, ← HN.out, HRB.out] <;> rfl, HB2.out⟩
set_option maxRecDepth 100000 in
set_option maxHeartbeats 8000000 in
theorem personOf_any (L : List UInt8) (w : World) (hE : EnvC w) (hL : L.length ≤ 40000) : Calls Tryz.prog 58 #[.string (txt L)] w fun e w' => (∃ x b, e = .returned (.tuple #[.agg (whoA x), .bool b]) ∧ personR L = (if b = true then some x else none) ∧ WhoSmall x) ∧ Below w.heap.size w w' := by
  have HE := Lib.hid hE
  have HWZ : Hid (WhoSmall wzero) := by show _ ∧ _ ∧ _ ∧ _ ∧ _; decide
  obtain ⟨N, R, b1, h1⟩ : ∃ N R b, Lib.cut L [32, 60] = (N, R, b) := ⟨_, _, _, rfl⟩
  obtain ⟨M, R2, b2, h2⟩ : ∃ N R' b, Lib.cut R [62, 32] = (N, R', b) := ⟨_, _, _, rfl⟩
  obtain ⟨D, Z, b3, h3⟩ : ∃ N R' b, Lib.cut R2 [32] = (N, R', b) := ⟨_, _, _, rfl⟩
  obtain ⟨r1, r2, h4⟩ : ∃ r1 r2, decF D = (r1, r2) := ⟨_, _, rfl⟩
  have HP : Hid (personR L = if b1 = true then (if b2 = true then (if b3 = true ∧ r2 = 0 then some ⟨txt N, txt M, (r1 : Nat), txt Z⟩ else none) else none) else none) := by
    show _ = _
    unfold personR
    simp only [h1, h2, h3, h4]
  have l1 := cutS_len L [32, 60]
  rw [h1] at l1
  have l2 := cutS_len R [62, 32]
  rw [h2] at l2
  have l3 := cutS_len R2 [32]
  rw [h3] at l3
  dsimp only at l1 l2 l3
  have HC1 : Hid (∀ W, Env W → Calls Tryz.prog 70 #[.string (txt L), .string ⟨#[32, 60]⟩] W fun e w' => e = .returned (.tuple #[.string (txt N), .string (txt R), .bool b1]) ∧ Below W.heap.size W w') := fun W hW => by
    have := cutS_any L [32, 60] W hW (by omega)
    rw [h1] at this; exact this
  have HC2 : Hid (∀ W, Env W → Calls Tryz.prog 70 #[.string (txt R), .string ⟨#[62, 32]⟩] W fun e w' => e = .returned (.tuple #[.string (txt M), .string (txt R2), .bool b2]) ∧ Below W.heap.size W w') := fun W hW => by
    have := cutS_any R [62, 32] W hW (by omega)
    rw [h2] at this; exact this
  have HC3 : Hid (∀ W, Env W → Calls Tryz.prog 70 #[.string (txt R2), .string ⟨#[32]⟩] W fun e w' => e = .returned (.tuple #[.string (txt D), .string (txt Z), .bool b3]) ∧ Below W.heap.size W w') := fun W hW => by
    have := cutS_any R2 [32] W hW (by omega)
    rw [h3] at this; exact this
  have HC4 : Hid (∀ W, EnvC W → Calls Tryz.prog 77 #[.string (txt D)] W fun e w' => e = .returned (.tuple #[.int .i64 (r1 : Nat), .int .i64 (r2 : Nat)]) ∧ Below W.heap.size W w') := fun W hW => by
    have := fromDec_any (txt D) (by rw [txt_size]; omega) W hW.tab hW.errs
    rw [txt_list, h4] at this; exact this
  have h5 := decF_le D
  have h6 := decF_snd D
  rw [h4] at h5 h6
  dsimp only at h5 h6
  have HWX : Hid (WhoSmall ⟨txt N, txt M, (r1 : Nat), txt Z⟩) := by
    refine ⟨?_, ?_, ?_, ?_, ?_⟩
    · show (txt N).size ≤ _; rw [txt_size]; omega
    · show (txt M).size ≤ _; rw [txt_size]; omega
    · show (txt Z).size ≤ _; rw [txt_size]; omega
    · show _ ≤ (r1 : Int); omega
    · show (r1 : Int) ≤ _; omega
  have H6 := Lib.hid h6
  have HBA0 : Hid (Below w.heap.size w (w.alloc (.cells #[.string ⟨#[]⟩, .string ⟨#[]⟩, .int .i64 0, .string ⟨#[]⟩] 31))) := (Below.refl _ _).alloc (Nat.le_refl _) _
  have HZ0 : Hid ((w.alloc (.cells #[.string ⟨#[]⟩, .string ⟨#[]⟩, .int .i64 0, .string ⟨#[]⟩] 31)).heap[w.heap.size]? = some (.cells #[.string ⟨#[]⟩, .string ⟨#[]⟩, .int .i64 0, .string ⟨#[]⟩] 31 (0, 0))) := heap_alloc_new _ _
  clear hE hL h1 h2 h3 h4 h5 h6 l1 l2 l3
  go_enter Tryz.func58, Tryz.ntmps58
  go_wp2_with fail
  generalize w.alloc (.cells #[.string ⟨#[]⟩, .string ⟨#[]⟩, .int .i64 0, .string ⟨#[]⟩] 31) = w0 at *
  obtain ⟨b0, hb0⟩ : ∃ p, w.heap.size = p := ⟨_, rfl⟩
  rw [hb0] at HZ0
  simp only [hb0]
  have HB0 : Hid (Below b0 w w0) := by rw [← hb0]; exact HBA0.out
  have HB0E : Hid (b0 ≤ b0) := Nat.le_refl _
  have HE0 : Hid (EnvC w0) := HE.out.below HBA0.out
  have HPE := Lib.hid hb0
  clear hb0 HBA0
  refine (HC1.out w0 HE0.out.env).mono ?_
  rintro e w1 ⟨rfl, hb⟩
  have HB1 := Lib.hid (HB0.out.trans (hb.mono (by have := (Array.getElem?_eq_some_iff.1 HZ0.out).1; omega)))
  have HE1 := Lib.hid (HE0.out.below hb)
  have HZ1 := Lib.hid ((hb.block b0 (Array.getElem?_eq_some_iff.1 HZ0.out).1).trans HZ0.out)
  clear hb HC1 HB0 HE0 HZ0
  cases b1
  · go_wp2_with (first
      | refine wpList_buildQ rfl 31 _ rfl #[] (by rfl) _ build_who0 ?_
      | refine wpList_store_row rfl 31 _ _ rfl b0 (whoA wzero) rfl rfl 31 #[.string ⟨#[]⟩, .string ⟨#[]⟩, .int .i64 0, .string ⟨#[]⟩] HZ1.out (info_who _) rfl (who_one _) ?_)
    refine bodyPost_ret (results_row_tmp Tryz.results58 _ _ b0 31 (whoA wzero) (0, 0) _ rfl (setRow_heap _ _ _ _ _ _ HZ1.out) Tryz.underlying31 rfl (info_who _)) rfl ⟨⟨wzero, false, rfl, by rw [HP.out] <;> rfl, HWZ.out⟩, by rw [HPE.out]; exact below_setRow HB1.out HB0E.out _⟩
  go_wp2_with fail
  refine (HC2.out w1 HE1.out.env).mono ?_
  rintro e w2 ⟨rfl, hb⟩
  have HB2 := Lib.hid (HB1.out.trans (hb.mono (by have := (Array.getElem?_eq_some_iff.1 HZ1.out).1; omega)))
  have HE2 := Lib.hid (HE1.out.below hb)
  have HZ2 := Lib.hid ((hb.block b0 (Array.getElem?_eq_some_iff.1 HZ1.out).1).trans HZ1.out)
  clear hb HC2 HB1 HE1 HZ1
  cases b2
  · go_wp2_with (first
      | refine wpList_buildQ rfl 31 _ rfl #[] (by rfl) _ build_who0 ?_
      | refine wpList_store_row rfl 31 _ _ rfl b0 (whoA wzero) rfl rfl 31 #[.string ⟨#[]⟩, .string ⟨#[]⟩, .int .i64 0, .string ⟨#[]⟩] HZ2.out (info_who _) rfl (who_one _) ?_)
    refine bodyPost_ret (results_row_tmp Tryz.results58 _ _ b0 31 (whoA wzero) (0, 0) _ rfl (setRow_heap _ _ _ _ _ _ HZ2.out) Tryz.underlying31 rfl (info_who _)) rfl ⟨⟨wzero, false, rfl, by rw [HP.out] <;> rfl, HWZ.out⟩, by rw [HPE.out]; exact below_setRow HB2.out HB0E.out _⟩
  go_wp2_with fail
  refine (HC3.out w2 HE2.out.env).mono ?_
  rintro e w3 ⟨rfl, hb⟩
  have HB3 := Lib.hid (HB2.out.trans (hb.mono (by have := (Array.getElem?_eq_some_iff.1 HZ2.out).1; omega)))
  have HE3 := Lib.hid (HE2.out.below hb)
  have HZ3 := Lib.hid ((hb.block b0 (Array.getElem?_eq_some_iff.1 HZ2.out).1).trans HZ2.out)
  clear hb HC3 HB2 HE2 HZ2
  go_wp2_with fail
  refine (HC4.out w3 HE3.out).mono ?_
  rintro e w4 ⟨rfl, hb⟩
  have HB4 := Lib.hid (HB3.out.trans (hb.mono (by have := (Array.getElem?_eq_some_iff.1 HZ3.out).1; omega)))
  have HZ4 := Lib.hid ((hb.block b0 (Array.getElem?_eq_some_iff.1 HZ3.out).1).trans HZ3.out)
  clear hb HC4 HB3 HE3 HZ3
  have h6 := H6.out
  clear H6
  cases b3
  all_goals rcases h6 with rfl | rfl
  all_goals
    go_wp2_with (first
      | refine wpList_buildQ rfl 31 _ rfl #[(0, .string (txt N)), (1, .string (txt M)), (2, .int .i64 (r1 : Nat)), (3, .string (txt Z))] (map_four _ _ _ _ _ _ _ _ _ rfl rfl rfl rfl) _ (build_who _ _ _ _) ?_
      | refine wpList_store_row rfl 31 _ _ rfl b0 (whoA ⟨txt N, txt M, (r1 : Nat), txt Z⟩) rfl rfl 31 #[.string ⟨#[]⟩, .string ⟨#[]⟩, .int .i64 0, .string ⟨#[]⟩] HZ4.out (info_who _) rfl (who_one _) ?_)
    refine bodyPost_ret (results_row_tmp Tryz.results58 _ _ b0 31 (whoA ⟨txt N, txt M, (r1 : Nat), txt Z⟩) (0, 0) _ rfl (setRow_heap _ _ _ _ _ _ HZ4.out) Tryz.underlying31 rfl (info_who _)) rfl ⟨⟨⟨txt N, txt M, (r1 : Nat), txt Z⟩, _, rfl, by rw [HP.out] <;> rfl, HWX.out⟩, by rw [HPE.out]; exact below_setRow HB4.out HB0E.out _⟩
set_option maxRecDepth 100000 in
set_option maxHeartbeats 8000000 in
theorem person_any (L : List UInt8) (w : World) (hE : EnvC w) (hL : L.length ≤ 40000) : Calls Tryz.prog 29 #[.string (txt L)] w fun e w' => e = .returned (.tuple #[.agg (whoA (personE L).1), .int .i64 ((personE L).2 : Nat)]) ∧ Below w.heap.size w w' := by
  have HE := Lib.hid hE
  have HC : Hid (∀ W, EnvC W → Calls Tryz.prog 58 #[.string (txt L)] W fun e w' => (∃ x b, e = .returned (.tuple #[.agg (whoA x), .bool b]) ∧ personR L = (if b = true then some x else none) ∧ WhoSmall x) ∧ Below W.heap.size W w') := fun W hW => personOf_any L W hW hL
  have HBA0 : Hid (Below w.heap.size w (w.alloc (.cells #[.string ⟨#[]⟩, .string ⟨#[]⟩, .int .i64 0, .string ⟨#[]⟩] 31))) := (Below.refl _ _).alloc (Nat.le_refl _) _
  have HZ0 : Hid ((w.alloc (.cells #[.string ⟨#[]⟩, .string ⟨#[]⟩, .int .i64 0, .string ⟨#[]⟩] 31)).heap[w.heap.size]? = some (.cells #[.string ⟨#[]⟩, .string ⟨#[]⟩, .int .i64 0, .string ⟨#[]⟩] 31 (0, 0))) := heap_alloc_new _ _
  clear hE hL
  go_enter Tryz.func29, Tryz.ntmps29
  go_wp2_with fail
  generalize w.alloc (.cells #[.string ⟨#[]⟩, .string ⟨#[]⟩, .int .i64 0, .string ⟨#[]⟩] 31) = w0 at *
  obtain ⟨b0, hb0⟩ : ∃ p, w.heap.size = p := ⟨_, rfl⟩
  rw [hb0] at HZ0
  simp only [hb0]
  have HB0 : Hid (Below b0 w w0) := by rw [← hb0]; exact HBA0.out
  have HB0E : Hid (b0 ≤ b0) := Nat.le_refl _
  have HE0 : Hid (EnvC w0) := HE.out.below HBA0.out
  have HPE := Lib.hid hb0
  clear hb0 HBA0
  refine (HC.out w0 HE0.out).mono ?_
  rintro e w1 ⟨⟨x, b, rfl, hpr, hws⟩, hb⟩
  have HPR := Lib.hid hpr
  have HWS := Lib.hid hws
  have HB1 := Lib.hid (HB0.out.trans (hb.mono (by have := (Array.getElem?_eq_some_iff.1 HZ0.out).1; omega)))
  have HZ1 := Lib.hid ((hb.block b0 (Array.getElem?_eq_some_iff.1 HZ0.out).1).trans HZ0.out)
  have HL1 : Hid (b0 < w1.heap.size) := (Array.getElem?_eq_some_iff.1 HZ1.out).1
  clear hb hpr hws HC HB0 HE0 HZ0
  have HBA2 : Hid (Below w1.heap.size w1 (w1.alloc (.cells #[.string ⟨#[]⟩, .string ⟨#[]⟩, .int .i64 0, .string ⟨#[]⟩] 31))) := (Below.refl _ _).alloc (Nat.le_refl _) _
  have HZ2 : Hid ((w1.alloc (.cells #[.string ⟨#[]⟩, .string ⟨#[]⟩, .int .i64 0, .string ⟨#[]⟩] 31)).heap[w1.heap.size]? = some (.cells #[.string ⟨#[]⟩, .string ⟨#[]⟩, .int .i64 0, .string ⟨#[]⟩] 31 (0, 0))) := heap_alloc_new _ _
  cases b
  · have HF : Hid (personE L = (wzero, 4)) := by show _ = _; unfold personE; rw [HPR.out]; rfl
    have HR2 : Hid (((w1.alloc (.cells #[.string ⟨#[]⟩, .string ⟨#[]⟩, .int .i64 0, .string ⟨#[]⟩] 31)).setRow w1.heap.size (whoA x)).heap[w1.heap.size]? = some (.cells (whoA x) 31 (0, 0))) := setRow_heap _ _ _ _ _ _ HZ2.out
    have HB2 : Hid (Below w1.heap.size w1 ((w1.alloc (.cells #[.string ⟨#[]⟩, .string ⟨#[]⟩, .int .i64 0, .string ⟨#[]⟩] 31)).setRow w1.heap.size (whoA x))) := below_setRow HBA2.out (Nat.le_refl _) _
    have HZ3 := Lib.hid ((HB2.out.block b0 HL1.out).trans HZ1.out)
    have HB3 := Lib.hid (HB1.out.trans (HB2.out.mono (Nat.le_of_lt HL1.out)))
    go_wp2_with (first
      | refine wpList_store_row rfl 31 _ _ rfl w1.heap.size (whoA x) rfl rfl 31 #[.string ⟨#[]⟩, .string ⟨#[]⟩, .int .i64 0, .string ⟨#[]⟩] HZ2.out (info_who _) rfl (who_one _) ?_
      | refine wpList_buildQ rfl 31 _ rfl #[] (by rfl) _ build_who0 ?_
      | refine wpList_store_row rfl 31 _ _ rfl b0 (whoA wzero) rfl rfl 31 #[.string ⟨#[]⟩, .string ⟨#[]⟩, .int .i64 0, .string ⟨#[]⟩] HZ3.out (info_who _) rfl (who_one _) ?_)
    refine bodyPost_ret (results_row_tmp Tryz.results29 _ _ b0 31 (whoA wzero) (0, 0) _ rfl (setRow_heap _ _ _ _ _ _ HZ3.out) Tryz.underlying31 rfl (info_who _)) rfl ⟨by rw [HF.out] <;> rfl, by rw [HPE.out]; exact below_setRow HB3.out HB0E.out _⟩
  · have HR2 : Hid (((w1.alloc (.cells #[.string ⟨#[]⟩, .string ⟨#[]⟩, .int .i64 0, .string ⟨#[]⟩] 31)).setRow w1.heap.size (whoA x)).heap[w1.heap.size]? = some (.cells (whoA x) 31 (0, 0))) := setRow_heap _ _ _ _ _ _ HZ2.out
    have HB2 : Hid (Below w1.heap.size w1 ((w1.alloc (.cells #[.string ⟨#[]⟩, .string ⟨#[]⟩, .int .i64 0, .string ⟨#[]⟩] 31)).setRow w1.heap.size (whoA x))) := below_setRow HBA2.out (Nat.le_refl _) _
    have HZ3 := Lib.hid ((HB2.out.block b0 HL1.out).trans HZ1.out)
    have HB3 := Lib.hid (HB1.out.trans (HB2.out.mono (Nat.le_of_lt HL1.out)))
    go_wp2_with (first
      | refine wpList_store_row rfl 31 _ _ rfl w1.heap.size (whoA x) rfl rfl 31 #[.string ⟨#[]⟩, .string ⟨#[]⟩, .int .i64 0, .string ⟨#[]⟩] HZ2.out (info_who _) rfl (who_one _) ?_
      | refine wpList_load_row_g rfl 31 _ rfl w1.heap.size rfl 31 (whoA x) (0, 0) _ HR2.out Tryz.underlying31 rfl (info_who x) ?_)
    generalize (w1.alloc (.cells #[.string ⟨#[]⟩, .string ⟨#[]⟩, .int .i64 0, .string ⟨#[]⟩] 31)).setRow w1.heap.size (whoA x) = w2 at *
    refine (who_any x w2 HWS.out).mono ?_
    rintro e w3 ⟨rfl, hb⟩
    have HR3 := Lib.hid ((hb.block w1.heap.size (Array.getElem?_eq_some_iff.1 HR2.out).1).trans HR2.out)
    have HZ4 := Lib.hid ((hb.block b0 (Array.getElem?_eq_some_iff.1 HZ3.out).1).trans HZ3.out)
    have HB4 := Lib.hid (HB3.out.trans (hb.mono (by have := (Array.getElem?_eq_some_iff.1 HZ3.out).1; omega)))
    clear hb
    cases hr : whoB x
    · have HF : Hid (personE L = (wzero, 4)) := by show _ = _; unfold personE; simp [HPR.out, hr]
      clear hr
      go_wp2_with (first
        | refine wpList_buildQ rfl 31 _ rfl #[] (by rfl) _ build_who0 ?_
        | refine wpList_store_row rfl 31 _ _ rfl b0 (whoA wzero) rfl rfl 31 #[.string ⟨#[]⟩, .string ⟨#[]⟩, .int .i64 0, .string ⟨#[]⟩] HZ4.out (info_who _) rfl (who_one _) ?_)
      refine bodyPost_ret (results_row_tmp Tryz.results29 _ _ b0 31 (whoA wzero) (0, 0) _ rfl (setRow_heap _ _ _ _ _ _ HZ4.out) Tryz.underlying31 rfl (info_who _)) rfl ⟨by rw [HF.out] <;> rfl, by rw [HPE.out]; exact below_setRow HB4.out HB0E.out _⟩
    · have HF : Hid (personE L = (x, 0)) := by show _ = _; unfold personE; simp [HPR.out, hr]
      clear hr
      go_wp2_with (first
        | refine wpList_load_row rfl 31 _ rfl w1.heap.size rfl 31 (whoA x) (0, 0) _ HR3.out Tryz.underlying31 rfl (info_who x) ?_
        | refine wpList_store_row rfl 31 _ _ rfl b0 (whoA x) rfl rfl 31 #[.string ⟨#[]⟩, .string ⟨#[]⟩, .int .i64 0, .string ⟨#[]⟩] HZ4.out (info_who _) rfl (who_one _) ?_)
      refine bodyPost_ret (results_row_tmp Tryz.results29 _ _ b0 31 (whoA x) (0, 0) _ rfl (setRow_heap _ _ _ _ _ _ HZ4.out) Tryz.underlying31 rfl (info_who _)) rfl ⟨by rw [HF.out] <;> rfl, by rw [HPE.out]; exact below_setRow HB4.out HB0E.out _⟩
end Go.Proofs.YtindmggmblmmcaaGreatDoor
