/- What is found by a path: manifest.Find. -/
import Derived.Test.YtcbjadecocggjaaDoorMgOf
import Derived.Test.YtcbjadecocggjaaDoorParse
namespace Go.Proofs.YtcbjadecocggjaaDoor
open Go.Sort Go.RowKit Go.WideMaps Go.Maps Plain Go.ChangeShapes Go.WideShapes Go.ChangeAt Go.Great
set_option linter.unusedVariables false
set_option linter.unusedSimpArgs false
def foundI (f : MF → Bool) : List MF → Option Nat
  | [] => none
  | p :: ps => if f p then some 0 else (foundI f ps).map (· + 1)
def foundV (o : Option Nat) : Int := match o with | some k => (k : Int) | none => -1
theorem foundI_none {f : MF → Bool} : ∀ {ps : List MF}, (∀ p ∈ ps, f p = false) → foundI f ps = none
  | [], _ => rfl
  | p :: ps, h => by unfold foundI; rw [if_neg (by rw [h p (by simp)]; decide), foundI_none fun q hq => h q (by simp [hq])]; rfl
theorem foundI_at {f : MF → Bool} : ∀ {ps : List MF} {k : Nat} {p : MF}, (∀ p ∈ ps.take k, f p = false) → ps[k]? = some p → f p = true → foundI f ps = some k
  | [], k, p, _, h, _ => by simp at h
  | q :: ps, 0, p, _, h, hf => by
    simp at h
    subst h
    unfold foundI
    rw [if_pos hf]
  | q :: ps, k + 1, p, h, hk, hf => by
    unfold foundI
    rw [if_neg (by rw [h q (by simp)]; decide), foundI_at (k := k) (p := p) (fun r hr => h r (by simp [hr])) (by simpa using hk) hf]
    rfl
theorem foundI_some {f : MF → Bool} : ∀ {ps : List MF} {k : Nat}, foundI f ps = some k → ∃ p, ps[k]? = some p ∧ f p = true ∧ ∀ q ∈ ps.take k, f q = false
  | [], k, h => by cases h
  | q :: ps, k, h => by
    unfold foundI at h
    split at h
    · rename_i hq
      injection h with h
      subst h
      exact ⟨q, rfl, hq, by simp⟩
    · rename_i hq
      obtain ⟨j, hj, rfl⟩ := Option.map_eq_some_iff.1 h
      obtain ⟨p, h1, h2, h3⟩ := foundI_some hj
      refine ⟨p, by simpa using h1, h2, fun r hr => ?_⟩
      rw [List.take_succ_cons] at hr
      rcases List.mem_cons.1 hr with rfl | hr
      · simpa using hq
      · exact h3 r hr
theorem foundI_no {f : MF → Bool} : ∀ {ps : List MF}, foundI f ps = none → ∀ p ∈ ps, f p = false
  | [], _, p, hp => by cases hp
  | q :: ps, h, p, hp => by
    unfold foundI at h
    split at h
    · cases h
    · rename_i hq
      rcases List.mem_cons.1 hp with rfl | hp
      · simpa using hq
      · exact foundI_no (by simpa using h) p hp
theorem take_all_snoc {f : MF → Bool} {ps : List MF} {k : Nat} {p : MF} (h : ∀ q ∈ ps.take k, f q = false) (hk : ps[k]? = some p) (hp : f p = false) : ∀ q ∈ ps.take (k + 1), f q = false := fun q hq => by
  rw [List.take_add_one, hk] at hq
  rcases List.mem_append.1 hq with hq | hq
  · exact h q hq
  · have : q = p := by simpa using hq
    rw [this]; exact hp
theorem row_keepM {W W' : World} {g n : Nat} {o : Obj} (R : W.heap[g]? = some o) (hb : Below n W W') (hn : g < n) : W'.heap[g]? = some o := (hb.block g hn).trans R
def fileAt (xs : List MF) : Option Nat → MF
  | some k => xs[k]?.getD noFile
  | none => noFile
theorem build_nofile (W : World) : (Instr.build 32 #[]).run Tryd.prog W = .ok (.agg (fileA noFile)) W := by kernel_rfl
set_option maxRecDepth 100000 in
set_option maxHeartbeats 16000000 in
theorem so_find (x : MF) (p : ByteArray) (h20 : x.n.length = 20) (g : Nat) (w : World) (hg : g < w.heap.size) (hc : w.cell? ⟨g, 0, none⟩ = some (.string p)) :
    Calls Tryd.prog 18 #[.agg (fileA x), .pointer (some ⟨g, 0, none⟩)] w fun e w' => e = .returned (.bool (pL x == p.data.toList)) ∧ Below w.heap.size w w' := by
  have HBW : Hid (Below w.heap.size w (w.alloc (.cells (fileA x) 32))) := (Below.refl _ _).alloc (Nat.le_refl _) _
  have q1 : (w.alloc (.cells (fileA x) 32)).cell? ⟨w.heap.size, 0, none⟩ = some (.string x.p) := range_path (row_file (heap_alloc_new w _))
  have q2 : (w.alloc (.cells (fileA x) 32)).cell? ⟨g, 0, none⟩ = some (.string p) := (HBW.out.cell (p := ⟨g, 0, none⟩) hg).trans hc
  obtain ⟨bl, hbl⟩ : ∃ b, (x.p.toList == p.toList) = b := ⟨_, rfl⟩
  have HEQ : Hid (∀ W, (binOp .eql 9 (.string x.p) (.string p)).run Tryd.prog W = .ok (.bool bl) W) := fun W => by rw [eq_strM, hbl]
  have HPX : Hid ((pL x == p.data.toList) = bl) := by show _ = _; rw [← hbl, path_eq]; rfl
  clear h20 hg hc hbl
  go_enter Tryd.func18, Tryd.ntmps18
  go_wp2_with (first
    | refine wpList_eql (by rfl) .eql 9 _ _ _ rfl (.string x.p) (.string p) rfl rfl (.bool bl) (guard_eq _ _ _ _) (fun W => HEQ.out W) ?_)
  go_ret
  rw [HPX.out]
  exact ⟨rfl, HBW.out⟩
set_option maxRecDepth 100000 in
set_option maxHeartbeats 16000000 in
theorem indexFunc_files (a : Option Addr) (c : Nat) (ps : List MF) (pv : Value) (f : MF → Bool) (w : World) (h : FsAt w a ps) (hn : ps.length ≤ 1000000)
    (HQ : ∀ p W, p.n.length = 20 → Below w.heap.size w W → Calls Tryd.prog 18 #[.agg (fileA p), pv] W fun e w' => e = .returned (.bool (f p)) ∧ Below W.heap.size W w') :
    Calls Tryd.prog 17 #[.slice a ps.length c, .func (.func 18) #[] #[pv]] w fun e w' => e = .returned (.int .i64 (foundV (foundI f ps))) ∧ Below w.heap.size w w' := by
  have HH : Hid (∀ p W, p.n.length = 20 → Below w.heap.size w W → Calls Tryd.prog 18 #[.agg (fileA p), pv] W fun e w' => e = .returned (.bool (f p)) ∧ Below W.heap.size W w') := HQ
  have HS := Lib.hid h
  obtain ⟨n, hnl⟩ : ∃ n, ps.length = n := ⟨_, rfl⟩
  have HN := Lib.hid hnl
  rw [hnl] at hn ⊢
  clear HQ h hnl
  go_enter Tryd.func17, Tryd.ntmps17
  go_wp2_with fail
  go_loopw [8] (fun i wr => ∃ k : Nat, k ≤ n ∧ i = .int .i64 (k : Int) ∧ (∀ q ∈ ps.take k, f q = false) ∧ Below w.heap.size w wr) (fun i _ => n - (intOf i).toNat)
  case atStart => exact ⟨0, by omega, rfl, by simp, Below.refl _ _⟩
  case round =>
    obtain ⟨k, hk, rfl, hf, hb⟩ := hrel
    have HF := Lib.hid hf
    have HB := Lib.hid hb
    clear hf hb
    have wk := next_int k (by omega)
    by_cases hkn : k = n
    · subst hkn
      have HE : Hid (foundV (foundI f ps) = -1) := by
        have := HF.out
        rw [List.take_of_length_le (by rw [HN.out]; omega)] at this
        show _ = _
        rw [foundI_none this]; rfl
      go_wp2_with fail
      go_ret
      rw [HE.out]
      exact ⟨rfl, HB.out⟩
    · have hkl : k < n := by omega
      have hki : (k : Int) < (n : Int) := by omega
      obtain ⟨b, off, p, rfl, hp, h20, hbl, hr⟩ := HS.out.at (k := k) (by rw [HN.out]; exact hkl)
      have HR := Lib.hid (range_below hr HB.out hbl)
      have HP := Lib.hid hp
      have HIL := Lib.hid (file_infoL p h20)
      have hcall := HH.out p wr h20 HB.out
      clear hr hp h20
      cases hfp : f p
      · rw [hfp] at hcall
        have HF2 := Lib.hid (take_all_snoc HF.out HP.out hfp)
        have HC := Lib.hid hcall
        clear hcall hfp
        go_wp2_with (refine wpList_file rfl 32 _ rfl b (off + k * 22) rfl p _ HR.out Tryd.underlying32 rfl HIL.out ?_)
        refine HC.out.mono ?_
        rintro e w2 ⟨rfl, hb2⟩
        have HB2 := Lib.hid (HB.out.trans (hb2.mono HB.out.size))
        clear hb2
        go_wp2_with fail
        exact ⟨⟨k + 1, by omega, by first | rfl | exact congrArg (Value.int .i64) (wk _ rfl), HF2.out, HB2.out⟩, by simp [intOf] <;> omega⟩
      · rw [hfp] at hcall
        have HE : Hid (foundV (foundI f ps) = (k : Int)) := by
          show _ = _
          rw [foundI_at HF.out HP.out hfp]; rfl
        have HC := Lib.hid hcall
        clear hcall hfp
        go_wp2_with (refine wpList_file rfl 32 _ rfl b (off + k * 22) rfl p _ HR.out Tryd.underlying32 rfl HIL.out ?_)
        refine HC.out.mono ?_
        rintro e w2 ⟨rfl, hb2⟩
        have HB2 := Lib.hid (HB.out.trans (hb2.mono HB.out.size))
        clear hb2
        go_wp2_with fail
        go_ret
        rw [HE.out]
        exact ⟨rfl, HB2.out⟩
set_option maxRecDepth 100000 in
set_option maxHeartbeats 16000000 in
theorem find_any (a : Option Addr) (c : Nat) (ps : List MF) (s : ByteArray) (w : World) (h : FsAt w a ps) (hn : ps.length ≤ 1000000) :
    Calls Tryd.prog 9 #[.slice a ps.length c, .string s] w fun e w' => e = .returned (.tuple #[.agg (fileA (fileAt ps (foundI (fun x => pL x == s.data.toList) ps))), .bool (foundI (fun x => pL x == s.data.toList) ps).isSome]) ∧ Below w.heap.size w w' := by
  have hz := fun W => zero_file W
  have hbn := fun W => build_nofile W
  have HB0 : Hid (Below w.heap.size w ((w.alloc (.cells #[.string s] 9)).alloc (.cells (fileA noFile) 32))) := ((Below.refl _ _).alloc (Nat.le_refl _) _).alloc (by simp) _
  have HG0 := Lib.hid (heap_alloc_new (w.alloc (.cells #[.string s] 9)) (.cells (fileA noFile) 32))
  have HL0 : Hid ((w.alloc (.cells #[.string s] 9)).heap.size < ((w.alloc (.cells #[.string s] 9)).alloc (.cells (fileA noFile) 32)).heap.size) := by show _ < _; simp
  have HC0 : Hid (w.heap.size < ((w.alloc (.cells #[.string s] 9)).alloc (.cells (fileA noFile) 32)).heap.size ∧ ((w.alloc (.cells #[.string s] 9)).alloc (.cells (fileA noFile) 32)).cell? ⟨w.heap.size, 0, none⟩ = some (.string s)) := by
    refine ⟨by simp; try omega, ?_⟩
    have hb : Below (w.heap.size + 1) (w.alloc (.cells #[.string s] 9)) ((w.alloc (.cells #[.string s] 9)).alloc (.cells (fileA noFile) 32)) := (Below.refl _ _).alloc (by simp) _
    exact (hb.cell (p := ⟨w.heap.size, 0, none⟩) (Nat.lt_succ_self _)).trans (cell_one_new w (.string s) _ 0 _ rfl)
  have HAS : Hid ((w.alloc (.cells #[.string s] 9)).heap.size = w.heap.size + 1) := by show _ = _; simp
  have HS := Lib.hid h
  have HN := Lib.hid hn
  clear h hn
  go_enter Tryd.func9, Tryd.ntmps9
  go_wp2_with fail
  generalize (w.alloc (.cells #[.string s] 9)).alloc (.cells (fileA noFile) 32) = w0 at *
  refine (indexFunc_files a c ps (.pointer (some ⟨w.heap.size, 0, none⟩)) (fun x => pL x == s.data.toList) w0 (HS.out.below HB0.out) HN.out fun p W h1 h2 => so_find p s h1 w.heap.size W (Nat.lt_of_lt_of_le HC0.out.1 h2.size) ((h2.cell (p := ⟨w.heap.size, 0, none⟩) HC0.out.1).trans HC0.out.2)).mono ?_
  rintro e w1 ⟨rfl, hb⟩
  have HG1 := Lib.hid (row_keepM HG0.out hb HL0.out)
  have HB1 := Lib.hid (HB0.out.trans (hb.mono HB0.out.size))
  rw [HAS.out] at HG1
  clear hb HG0 HL0 HB0
  try rw [HAS.out]
  cases hf : foundI (fun x => pL x == s.data.toList) ps with
  | none =>
    rw [show foundV none = -1 from rfl]
    go_wp2_with (refine wpList_store_row rfl 32 (.tmp 4) (.tmp 12) rfl (w.heap.size + 1) (fileA noFile) rfl rfl 32 (fileA noFile) HG1.out (file_info noFile zeros20_len) rfl (fileA_one _) ?_)
    refine bodyPost_ret (results_row_tmp Tryd.results9 _ _ (w.heap.size + 1) 32 (fileA noFile) (0, 0) _ rfl (setRow_heap _ _ _ _ _ _ HG1.out) Tryd.underlying32 rfl (file_info noFile zeros20_len)) rfl ⟨by rw [hf]; rfl, ?_⟩
    exact below_setRow HB1.out (Nat.le_succ _) _
  | some k =>
    obtain ⟨p, hp, -, -⟩ := foundI_some hf
    have hk : k < ps.length := (List.getElem?_eq_some_iff.1 hp).1
    obtain ⟨b, off, p', rfl, hp', h20, hbl, hr⟩ := HS.out.at hk
    obtain rfl : p = p' := by rw [hp] at hp'; injection hp'
    have HE : Hid (fileAt ps (some k) = p) := by show ps[k]?.getD noFile = p; rw [hp]; rfl
    have HR := Lib.hid (range_below hr HB1.out hbl)
    have HI := Lib.hid (file_info p h20)
    have HIL := Lib.hid (file_infoL p h20)
    have HSZ : Hid ((fileA noFile).size = (fileA p).size) := by show _ = _; rw [fileA_size _ h20, fileA_size _ zeros20_len]
    have HF := Lib.hid hf
    have hki : (k : Int) < (ps.length : Int) := by omega
    have hk0 : ¬ (k : Int) < 0 := by omega
    rw [show foundV (some k) = (k : Int) from rfl]
    clear hr hp hp' h20 hf hbl
    generalize ps.length = n at *
    go_wp2_with (first
      | (refine wpList_file rfl 32 _ rfl b (off + k * 22) rfl p _ HR.out Tryd.underlying32 rfl HIL.out ?_)
      | (refine wpList_store_row rfl 32 (.tmp 4) (.tmp 16) rfl (w.heap.size + 1) (fileA p) rfl rfl 32 (fileA noFile) HG1.out HI.out HSZ.out (fileA_one _) ?_))
    refine bodyPost_ret (results_row_tmp Tryd.results9 _ _ (w.heap.size + 1) 32 (fileA p) (0, 0) _ rfl (setRow_heap _ _ _ _ _ _ HG1.out) Tryd.underlying32 rfl HI.out) rfl ⟨by rw [HF.out, HE.out]; rfl, ?_⟩
    exact below_setRow HB1.out (Nat.le_succ _) _
end Go.Proofs.YtcbjadecocggjaaDoor
