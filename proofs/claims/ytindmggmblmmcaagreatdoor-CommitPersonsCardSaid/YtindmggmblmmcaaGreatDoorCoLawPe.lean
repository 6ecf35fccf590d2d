/- The law CommitPersons. -/
import Derived.Test.YtindmggmblmmcaaGreatDoorCoWhoIn
namespace Go.Proofs.YtindmggmblmmcaaGreatDoor
open Go.RowKit Plain Go.ChangeShapes Go.WideShapes Go.ChangeAt
set_option linter.unusedVariables false
set_option linter.unusedSimpArgs false
theorem info_rwhoL (x : WX) : (Tryz.prog.info? 25).map (·.size) = some (whoL x).length := by show _ = some 4; kernel_rfl
theorem who_range {w : World} {b : Nat} {x : WX} {t : TypeId} {fr : Nat × Nat} (h : w.heap[b]? = some (.cells (whoA x) t fr)) : w.rangeAt b 0 (whoL x) := fun j v hj => by
  rw [Nat.zero_add, cell_of_row _ _ _ _ _ _ h]
  have : (whoA x)[j]? = (whoL x)[j]? := List.getElem?_toArray
  rw [this]
  exact hj
theorem guess_small (L : List UInt8) (h : L.length ≤ 1000) : WhoSmall (guessX L) := by
  have l1 := cutS_len L [60]
  have l2 := cutS_len (Lib.cut L [60]).2.1 [62]
  have l0 := frontF_len (Lib.cut (Lib.cut L [60]).2.1 [62]).2.1
  have l3 := cutS_len (frontF (Lib.cut (Lib.cut L [60]).2.1 [62]).2.1) [32]
  have l4 := decF_le (Lib.cut (frontF (Lib.cut (Lib.cut L [60]).2.1 [62]).2.1) [32]).1
  refine ⟨?_, ?_, ?_, ?_, ?_⟩
  · show (txt (List.take _ _)).size ≤ _; rw [txt_size, List.length_take]; omega
  · show (txt _).size ≤ _; rw [txt_size]; omega
  · show (txt _).size ≤ _; rw [txt_size]; omega
  · show (-9223372036854775808 : Int) ≤ ((_ : Nat) : Int); omega
  · show ((_ : Nat) : Int) ≤ 9223372036854775807; omega
theorem few_text {x : WX} (h : InWho x) : (whoT (fewW x)).length ≤ 1000 := by
  have h1 := cutB_size 200 x.n
  have h2 := cutB_size 200 x.m
  have h3 := cutB_size 200 x.z
  have h4 := itoa_len x.t h.t64
  unfold whoT
  simp only [List.length_append, List.length_cons, List.length_nil]
  rw [← Lib.size_eq, ← Lib.size_eq, ← Lib.size_eq]
  show (cutB 200 x.n).size + _ + (cutB 200 x.m).size + _ + (Lib.itoa x.t).length + _ + (cutB 200 x.z).size ≤ _
  omega
set_option maxRecDepth 100000 in
set_option maxHeartbeats 32000000 in
theorem lawpersons_any (x : WX) (s : ByteArray) (w : World) (hE : EnvC w) (hi : InWho x) : Calls Tryz.prog 6 #[.agg (whoA x), .string s] w fun e w' => e = .returned (.bool true) ∧ Below w.heap.size w w' := by
  have HE := Lib.hid hE
  have hft := few_text hi
  obtain ⟨F, hF⟩ : ∃ F, fewW x = F := ⟨_, rfl⟩
  have HFS : Hid (WhoSmall F) := by rw [← hF]; exact few_who hi
  rw [hF] at hft
  have HWI : Hid (∀ W, Calls Tryz.prog 24 #[.agg (whoA x)] W fun e w' => e = .returned (.agg (whoA F)) ∧ Below W.heap.size W w') := fun W => by
    have := whoin_any x W
    rw [hF] at this; exact this
  obtain ⟨L, hL⟩ : ∃ L, (cutB 200 s).data.toList = L := ⟨_, rfl⟩
  have HLL : Hid (L.length ≤ 200) := by rw [← hL, ← Lib.size_eq]; exact cutB_size 200 s
  have hm : min (s.size : Int) 200 = ((min s.size 200 : Nat) : Int) := by omega
  have hs1 : ∀ W, (Instr.slice 9 (.string s) none (some (.int .i64 ((min s.size 200 : Nat) : Int))) none).run Tryz.prog W = .ok (.string (txt L)) W := fun W => by
    rw [← hL, txt_of]
    exact slice_front s (min s.size 200) (by omega) _ rfl W
  have hpg := personE_guess L
  have hgs := guess_small L (by have := HLL.out; omega)
  have hge : ∀ W, Calls Tryz.prog 30 #[.string (txt L)] W fun e w' => e = .returned (.agg (whoA (guessX L))) ∧ Below W.heap.size W w' := fun W => guess_any L W (by have := HLL.out; omega)
  obtain ⟨g, hg⟩ : ∃ g, guessX L = g := ⟨_, rfl⟩
  rw [hg] at hpg hgs hge
  have HPG := Lib.hid hpg
  have HGS := Lib.hid hgs
  have HGE := Lib.hid hge
  have HB0 : Hid (Below w.heap.size w (w.alloc (.cells (whoA x) 25))) := (Below.refl _ _).alloc (Nat.le_refl _) _
  have HR0 : Hid ((w.alloc (.cells (whoA x) 25)).heap[w.heap.size]? = some (.cells (whoA x) 25 (0, 0))) := heap_alloc_new _ _
  clear hE hi hF hL hg hpg hgs hge
  go_enter Tryz.func6, Tryz.ntmps6
  go_wp2_with (first
    | refine wpList_load_row rfl 25 _ rfl w.heap.size rfl 25 (whoA x) (0, 0) _ HR0.out Tryz.underlying25 rfl (info_rwho x) ?_)
  cases hwf : whoB F with
  | true =>
    have HWF := Lib.hid hwf
    have HPF : Hid (∀ W, EnvC W → Calls Tryz.prog 29 #[.string (txt (whoT F))] W fun e w' => e = .returned (.tuple #[.agg (whoA F), .int .i64 0]) ∧ Below W.heap.size W w') := fun W hW => by
      have := person_any (whoT F) W hW (by omega)
      rw [personE_yes hwf] at this; exact this
    clear hwf hft
    refine (HWI.out _).mono ?_
    rintro e w1 ⟨rfl, hb⟩
    have HB1 := Lib.hid (HB0.out.trans (hb.mono HB0.out.size))
    clear hb HWI HR0 HB0
    have HZ1 : Hid ((w1.alloc (.cells #[.string ⟨#[]⟩, .string ⟨#[]⟩, .int .i64 0, .string ⟨#[]⟩] 31)).heap[w1.heap.size]? = some (.cells #[.string ⟨#[]⟩, .string ⟨#[]⟩, .int .i64 0, .string ⟨#[]⟩] 31 (0, 0))) := heap_alloc_new _ _
    have HS1 : Hid (Below w1.heap.size w1 ((w1.alloc (.cells #[.string ⟨#[]⟩, .string ⟨#[]⟩, .int .i64 0, .string ⟨#[]⟩] 31)).setRow w1.heap.size (whoA F))) := below_setRow ((Below.refl _ _).alloc (Nat.le_refl _) _) (Nat.le_refl _) _
    have HR1 : Hid (((w1.alloc (.cells #[.string ⟨#[]⟩, .string ⟨#[]⟩, .int .i64 0, .string ⟨#[]⟩] 31)).setRow w1.heap.size (whoA F)).heap[w1.heap.size]? = some (.cells (whoA F) 31 (0, 0))) := setRow_heap _ _ _ _ _ _ HZ1.out
    go_wp2_with (first
      | refine wpList_store_row rfl 31 _ _ rfl w1.heap.size (whoA F) rfl rfl 31 #[.string ⟨#[]⟩, .string ⟨#[]⟩, .int .i64 0, .string ⟨#[]⟩] HZ1.out (info_who _) rfl (who_one _) ?_
      | refine wpList_load_row rfl 31 _ rfl w1.heap.size rfl 31 (whoA F) (0, 0) _ HR1.out Tryz.underlying31 rfl (info_who F) ?_)
    clear hs1 hm
    obtain ⟨w2, hw1⟩ : ∃ X, (w1.alloc (.cells #[.string ⟨#[]⟩, .string ⟨#[]⟩, .int .i64 0, .string ⟨#[]⟩] 31)).setRow w1.heap.size (whoA F) = X := ⟨_, rfl⟩
    rw [hw1] at HS1 HR1 ⊢
    obtain ⟨b5, hb1⟩ : ∃ x, w1.heap.size = x := ⟨_, rfl⟩
    rw [hb1] at HR1 ⊢
    clear hw1 hb1 HZ1
    have HB2 := Lib.hid (HB1.out.trans (HS1.out.mono HB1.out.size))
    refine (text_any F w2 (HE.out.below HB2.out) HFS.out).mono ?_
    rintro e w3 ⟨rfl, hb⟩
    rw [HWF.out]
    have HB3 := Lib.hid (HB2.out.trans (hb.mono HB2.out.size))
    have HR13 := Lib.hid ((hb.block b5 (Array.getElem?_eq_some_iff.1 HR1.out).1).trans HR1.out)
    clear hb HR1
    simp only [if_true]
    go_wp2_with (first
      | refine wpList_load_row rfl 31 _ rfl b5 rfl 31 (whoA F) (0, 0) _ HR13.out Tryz.underlying31 rfl (info_who F) ?_)
    refine (whoof_any F w3).mono ?_
    rintro e w4 ⟨rfl, hb⟩
    have HB4 := Lib.hid (HB3.out.trans (hb.mono HB3.out.size))
    have HR14 := Lib.hid ((hb.block b5 (Array.getElem?_eq_some_iff.1 HR13.out).1).trans HR13.out)
    clear hb HR13
    go_wp2_with fail
    refine (rperson_any F w4 HFS.out).mono ?_
    rintro e w5 ⟨rfl, hb⟩
    rw [HWF.out]
    have HB5 := Lib.hid (HB4.out.trans (hb.mono HB4.out.size))
    have HR15 := Lib.hid ((hb.block b5 (Array.getElem?_eq_some_iff.1 HR14.out).1).trans HR14.out)
    clear hb HR14
    go_wp2_with (first
      | refine wpList_load_row_g rfl 31 _ rfl b5 rfl 31 (whoA F) (0, 0) _ HR15.out Tryz.underlying31 rfl (info_who F) ?_)
    refine (whoof_any F w5).mono ?_
    rintro e w51 ⟨rfl, hb⟩
    have HB51 := Lib.hid (HB5.out.trans (hb.mono HB5.out.size))
    have HR16 := Lib.hid ((hb.block b5 (Array.getElem?_eq_some_iff.1 HR15.out).1).trans HR15.out)
    clear hb HR15
    go_wp2_with fail
    refine (rtext_any F w51 (HE.out.below HB51.out) HFS.out).mono ?_
    rintro e w52 ⟨rfl, hb⟩
    have HB52 := Lib.hid (HB51.out.trans (hb.mono HB51.out.size))
    have HR17 := Lib.hid ((hb.block b5 (Array.getElem?_eq_some_iff.1 HR16.out).1).trans HR16.out)
    have HNE := Lib.hid (neq_self (txt (whoT F)))
    clear hb HR16
    go_wp2_with (first
      | refine wpList_eql (by rfl) .neq 9 _ _ _ rfl (.string (txt (whoT F))) (.string (txt (whoT F))) rfl rfl (.bool false) (guard_ne _ _ _ _) HNE.out ?_)
    refine (HPF.out w52 (HE.out.below HB52.out)).mono ?_
    rintro e w53 ⟨rfl, hb⟩
    have HB53 := Lib.hid (HB52.out.trans (hb.mono HB52.out.size))
    have HR18 := Lib.hid ((hb.block b5 (Array.getElem?_eq_some_iff.1 HR17.out).1).trans HR17.out)
    clear hb HR17
    have HZ53 : Hid ((w53.alloc (.cells #[.string ⟨#[]⟩, .string ⟨#[]⟩, .int .i64 0, .string ⟨#[]⟩] 31)).heap[w53.heap.size]? = some (.cells #[.string ⟨#[]⟩, .string ⟨#[]⟩, .int .i64 0, .string ⟨#[]⟩] 31 (0, 0))) := heap_alloc_new _ _
    have HS53 : Hid (Below w53.heap.size w53 ((w53.alloc (.cells #[.string ⟨#[]⟩, .string ⟨#[]⟩, .int .i64 0, .string ⟨#[]⟩] 31)).setRow w53.heap.size (whoA F))) := below_setRow ((Below.refl _ _).alloc (Nat.le_refl _) _) (Nat.le_refl _) _
    have HR53 : Hid (((w53.alloc (.cells #[.string ⟨#[]⟩, .string ⟨#[]⟩, .int .i64 0, .string ⟨#[]⟩] 31)).setRow w53.heap.size (whoA F)).heap[w53.heap.size]? = some (.cells (whoA F) 31 (0, 0))) := setRow_heap _ _ _ _ _ _ HZ53.out
    have HR19 := Lib.hid ((HS53.out.block b5 (Array.getElem?_eq_some_iff.1 HR18.out).1).trans HR18.out)
    go_wp2_with (first
      | refine wpList_store_row rfl 31 _ _ rfl w53.heap.size (whoA F) rfl rfl 31 #[.string ⟨#[]⟩, .string ⟨#[]⟩, .int .i64 0, .string ⟨#[]⟩] HZ53.out (info_who _) rfl (who_one _) ?_
      | refine wpList_load_row_g rfl 31 _ rfl b5 rfl 31 (whoA F) (0, 0) _ HR19.out Tryz.underlying31 rfl (info_who F) ?_
      | refine wpList_load_row_g rfl 31 _ rfl w53.heap.size rfl 31 (whoA F) (0, 0) _ HR53.out Tryz.underlying31 rfl (info_who F) ?_
      | refine wpList_eql (by rfl) .neq 31 _ _ _ rfl (.agg (whoA F)) (.agg (whoA F)) rfl rfl (.bool false) (guardn_who _ _ _ _) (neq_who F) ?_)
    clear HR18 HR19
    obtain ⟨w54, hw53⟩ : ∃ X, (w53.alloc (.cells #[.string ⟨#[]⟩, .string ⟨#[]⟩, .int .i64 0, .string ⟨#[]⟩] 31)).setRow w53.heap.size (whoA F) = X := ⟨_, rfl⟩
    rw [hw53] at HS53 HR53 ⊢
    obtain ⟨b9, hb53⟩ : ∃ x, w53.heap.size = x := ⟨_, rfl⟩
    rw [hb53] at HR53 ⊢
    clear hw53 hb53 HZ53
    have HB54 := Lib.hid (HB53.out.trans (HS53.out.mono HB53.out.size))
    cases hwg : whoB g with
    | true =>
      have HWG := Lib.hid hwg
      by_cases htg : whoT g = L
      · have HTG := Lib.hid htg
        have hpe : personE L = (g, 0) := by rw [HPG.out, if_pos ⟨hwg, htg⟩]
        have HPE : Hid (∀ W, EnvC W → Calls Tryz.prog 29 #[.string (txt L)] W fun e w' => e = .returned (.tuple #[.agg (whoA g), .int .i64 0]) ∧ Below W.heap.size W w') := fun W hW => by
          have := person_any L W hW (by have := HLL.out; omega)
          rw [hpe] at this; exact this
        have HEQ : Hid (∀ W, (binOp .eql 9 (.string (txt L)) (.string (txt L))).run Tryz.prog W = .ok (.bool true) W) := eq_self (txt L)
        clear hpe hwg htg
        refine (HPE.out w54 (HE.out.below HB54.out)).mono ?_
        rintro e w6 ⟨rfl, hb⟩
        have HB6 := Lib.hid (HB54.out.trans (hb.mono HB54.out.size))
        clear hb
        have HZ6 : Hid ((w6.alloc (.cells #[.string ⟨#[]⟩, .string ⟨#[]⟩, .int .i64 0, .string ⟨#[]⟩] 31)).heap[w6.heap.size]? = some (.cells #[.string ⟨#[]⟩, .string ⟨#[]⟩, .int .i64 0, .string ⟨#[]⟩] 31 (0, 0))) := heap_alloc_new _ _
        have HS6 : Hid (Below w6.heap.size w6 ((w6.alloc (.cells #[.string ⟨#[]⟩, .string ⟨#[]⟩, .int .i64 0, .string ⟨#[]⟩] 31)).setRow w6.heap.size (whoA g))) := below_setRow ((Below.refl _ _).alloc (Nat.le_refl _) _) (Nat.le_refl _) _
        have HR6 : Hid (((w6.alloc (.cells #[.string ⟨#[]⟩, .string ⟨#[]⟩, .int .i64 0, .string ⟨#[]⟩] 31)).setRow w6.heap.size (whoA g)).heap[w6.heap.size]? = some (.cells (whoA g) 31 (0, 0))) := setRow_heap _ _ _ _ _ _ HZ6.out
        go_wp2_with (first
          | refine wpList_store_row rfl 31 _ _ rfl w6.heap.size (whoA g) rfl rfl 31 #[.string ⟨#[]⟩, .string ⟨#[]⟩, .int .i64 0, .string ⟨#[]⟩] HZ6.out (info_who _) rfl (who_one _) ?_)
        obtain ⟨w7, hw6⟩ : ∃ X, (w6.alloc (.cells #[.string ⟨#[]⟩, .string ⟨#[]⟩, .int .i64 0, .string ⟨#[]⟩] 31)).setRow w6.heap.size (whoA g) = X := ⟨_, rfl⟩
        rw [hw6] at HS6 HR6 ⊢
        obtain ⟨zb, hb6⟩ : ∃ x, w6.heap.size = x := ⟨_, rfl⟩
        rw [hb6] at HR6 ⊢
        clear hw6 hb6 HZ6
        have HB7 := Lib.hid (HB6.out.trans (HS6.out.mono HB6.out.size))
        refine (HGE.out w7).mono ?_
        rintro e w8 ⟨rfl, hb⟩
        have HB8 := Lib.hid (HB7.out.trans (hb.mono HB7.out.size))
        have HR68 := Lib.hid ((hb.block zb (Array.getElem?_eq_some_iff.1 HR6.out).1).trans HR6.out)
        clear hb HR6
        have HZ8 : Hid ((w8.alloc (.cells #[.string ⟨#[]⟩, .string ⟨#[]⟩, .int .i64 0, .string ⟨#[]⟩] 25)).heap[w8.heap.size]? = some (.cells #[.string ⟨#[]⟩, .string ⟨#[]⟩, .int .i64 0, .string ⟨#[]⟩] 25 (0, 0))) := heap_alloc_new _ _
        have HS8 : Hid (Below w8.heap.size w8 ((w8.alloc (.cells #[.string ⟨#[]⟩, .string ⟨#[]⟩, .int .i64 0, .string ⟨#[]⟩] 25)).setRow w8.heap.size (whoA g))) := below_setRow ((Below.refl _ _).alloc (Nat.le_refl _) _) (Nat.le_refl _) _
        have HR8 : Hid (((w8.alloc (.cells #[.string ⟨#[]⟩, .string ⟨#[]⟩, .int .i64 0, .string ⟨#[]⟩] 25)).setRow w8.heap.size (whoA g)).heap[w8.heap.size]? = some (.cells (whoA g) 25 (0, 0))) := setRow_heap _ _ _ _ _ _ HZ8.out
        go_wp2_with (first
          | refine wpList_store_row rfl 25 _ _ rfl w8.heap.size (whoA g) rfl rfl 25 #[.string ⟨#[]⟩, .string ⟨#[]⟩, .int .i64 0, .string ⟨#[]⟩] HZ8.out (info_rwho _) rfl (who_one _) ?_
          | refine wpList_load_row rfl 25 _ rfl w8.heap.size rfl 25 (whoA g) (0, 0) _ HR8.out Tryz.underlying25 rfl (info_rwho g) ?_)
        obtain ⟨w0, hw8⟩ : ∃ X, (w8.alloc (.cells #[.string ⟨#[]⟩, .string ⟨#[]⟩, .int .i64 0, .string ⟨#[]⟩] 25)).setRow w8.heap.size (whoA g) = X := ⟨_, rfl⟩
        rw [hw8] at HS8 HR8 ⊢
        obtain ⟨gb, hb8⟩ : ∃ x, w8.heap.size = x := ⟨_, rfl⟩
        rw [hb8] at HR8 ⊢
        clear hw8 hb8 HZ8
        have HB0' := Lib.hid (HB8.out.trans (HS8.out.mono HB8.out.size))
        have HR60 := Lib.hid ((HS8.out.block zb (Array.getElem?_eq_some_iff.1 HR68.out).1).trans HR68.out)
        refine (rperson_any g w0 HGS.out).mono ?_
        rintro e w1' ⟨rfl, hb⟩
        rw [HWG.out]
        have HB1' := Lib.hid (HB0'.out.trans (hb.mono HB0'.out.size))
        have HR61 := Lib.hid ((hb.block zb (Array.getElem?_eq_some_iff.1 HR60.out).1).trans HR60.out)
        have HR81 := Lib.hid ((hb.block gb (Array.getElem?_eq_some_iff.1 HR8.out).1).trans HR8.out)
        clear hb HR60 HR8 HR68
        go_wp2_with (first
          | refine wpList_load_row_g rfl 25 _ rfl gb rfl 25 (whoA g) (0, 0) _ HR81.out Tryz.underlying25 rfl (info_rwho g) ?_)
        refine (rtext_any g w1' (HE.out.below HB1'.out) HGS.out).mono ?_
        rintro e w9 ⟨rfl, hb⟩
        have HB9 := Lib.hid (HB1'.out.trans (hb.mono HB1'.out.size))
        have HR62 := Lib.hid ((hb.block zb (Array.getElem?_eq_some_iff.1 HR61.out).1).trans HR61.out)
        have HR82 := Lib.hid ((hb.block gb (Array.getElem?_eq_some_iff.1 HR81.out).1).trans HR81.out)
        clear hb
        have HLZ : Hid (∀ W, Below w9.heap.size w9 W → W.rangeAt zb 0 (whoL g)) := fun W hW => who_range ((hW.block zb (Array.getElem?_eq_some_iff.1 HR62.out).1).trans HR62.out)
        have HLG : Hid (∀ W, Below w9.heap.size w9 W → W.rangeAt gb 0 (whoL g)) := fun W hW => who_range ((hW.block gb (Array.getElem?_eq_some_iff.1 HR82.out).1).trans HR82.out)
        clear HR62 HR82 HR61 HR81
        rw [HTG.out]
        go_wp2_with (first
          | refine wpList_eql (by rfl) .eql 9 _ _ _ rfl (.string (txt L)) (.string (txt L)) rfl rfl (.bool true) (guard_eq _ _ _ _) HEQ.out ?_)
        refine wp_region_noPanic ?_
        refine wp_region_held_drew (S := fun W => Below w9.heap.size w9 W) (by kernel_rfl) ?_ (fun hHeld => ?_)
        · exact (Below.refl _ _).drew
        refine wpAnyH_ready (rs := [0]) (by kernel_rfl) (by simp) ?_
        refine AllReadyH.cons (by simp only [List.getElem?_toArray, List.getElem?_cons_zero]; rfl) (fun K hK => ?_) AllReadyH.nil
        go_simp
        refine (known_any _ (HE.out.below (HB9.out.trans ((Below.refl w9.heap.size w9).drew.mono HB9.out.size)))).mono ?_
        rintro e v0 ⟨rfl, hb⟩
        have hv0 : Below w9.heap.size w9 v0 := (Below.refl _ _).drew.trans hb
        have HV0 := Lib.hid hv0
        clear hb hv0
        go_wp2_with fail
        refine hK.out _ _ (HV0.out) (fun hHeld2 => ?_)
        clear hK K hHeld
        have hHeld := hHeld2
        clear hHeld2
        try simp only [Act.put, List.setIfInBounds_toArray, List.set_cons_zero, List.set_cons_succ]
        refine wpAnyH_take (i := 1) (v := ?_) (by simp only [List.getElem?_toArray, List.getElem?_cons_succ, List.getElem?_cons_zero]; rfl) (by kernel_rfl) (by kernel_rfl) (by kernel_rfl) (fun _ _ _ h => h) (Or.inl ⟨by rfl, ?_⟩) (by assumption) ?_
        rotate_left
        · intro W hSW
          go_simp
          try with_reducible rfl
        try simp only [Act.put, List.setIfInBounds_toArray, List.set_cons_zero, List.set_cons_succ]
        refine wpAnyH_take (i := 2) (v := ?_) (by simp only [List.getElem?_toArray, List.getElem?_cons_succ, List.getElem?_cons_zero]; rfl) (by kernel_rfl) (by kernel_rfl) (by kernel_rfl) (fun _ _ _ h => h) (Or.inl ⟨by rfl, ?_⟩) (by assumption) ?_
        rotate_left
        · intro W hSW
          go_simp
          try with_reducible rfl
        try simp only [Act.put, List.setIfInBounds_toArray, List.set_cons_zero, List.set_cons_succ]
        refine wpAnyH_take (i := 3) (v := ?_) (by simp only [List.getElem?_toArray, List.getElem?_cons_succ, List.getElem?_cons_zero]; rfl) (by kernel_rfl) (by kernel_rfl) (by kernel_rfl) (fun _ _ _ h => h) (Or.inl ⟨by rfl, ?_⟩) (by assumption) ?_
        rotate_left
        · intro W hSW
          go_simp
          try with_reducible rfl
        try simp only [Act.put, List.setIfInBounds_toArray, List.set_cons_zero, List.set_cons_succ]
        refine wpAnyH_take (i := 4) (v := ?_) (by simp only [List.getElem?_toArray, List.getElem?_cons_succ, List.getElem?_cons_zero]; rfl) (by kernel_rfl) (by kernel_rfl) (by kernel_rfl) (fun _ _ _ h => h) (Or.inl ⟨by rfl, ?_⟩) (by assumption) ?_
        rotate_left
        · intro W hSW
          go_simp
          try with_reducible rfl
        try simp only [Act.put, List.setIfInBounds_toArray, List.set_cons_zero, List.set_cons_succ]
        refine wpAnyH_take (i := 5) (v := ?_) (by simp only [List.getElem?_toArray, List.getElem?_cons_succ, List.getElem?_cons_zero]; rfl) (by kernel_rfl) (by kernel_rfl) (by kernel_rfl) (fun _ _ _ h => h) (Or.inl ⟨by rfl, ?_⟩) (by assumption) ?_
        rotate_left
        · intro W hSW
          go_simp
          try with_reducible rfl
        try simp only [Act.put, List.setIfInBounds_toArray, List.set_cons_zero, List.set_cons_succ]
        refine wpAnyH_take (i := 6) (v := ?_) (by simp only [List.getElem?_toArray, List.getElem?_cons_succ, List.getElem?_cons_zero]; rfl) (by kernel_rfl) (by kernel_rfl) (by kernel_rfl) (fun _ _ _ h => h) (Or.inl ⟨by rfl, ?_⟩) (by assumption) ?_
        rotate_left
        · intro W hSW
          go_simp
          try with_reducible rfl
        try simp only [Act.put, List.setIfInBounds_toArray, List.set_cons_zero, List.set_cons_succ]
        refine wpAnyH_take (i := 7) (v := ?_) (by simp only [List.getElem?_toArray, List.getElem?_cons_succ, List.getElem?_cons_zero]; rfl) (by kernel_rfl) (by kernel_rfl) (by kernel_rfl) (fun _ _ _ h => h) (Or.inl ⟨by rfl, ?_⟩) (by assumption) ?_
        rotate_left
        · intro W hSW
          go_simp
          try with_reducible rfl
        try simp only [Act.put, List.setIfInBounds_toArray, List.set_cons_zero, List.set_cons_succ]
        refine wpAnyH_take (i := 8) (v := ?_) (by simp only [List.getElem?_toArray, List.getElem?_cons_succ, List.getElem?_cons_zero]; rfl) (by kernel_rfl) (by kernel_rfl) (by kernel_rfl) (fun _ _ _ h => h) (Or.inl ⟨by rfl, ?_⟩) (by assumption) ?_
        rotate_left
        · intro W hSW
          go_simp
          try with_reducible rfl
        try simp only [Act.put, List.setIfInBounds_toArray, List.set_cons_zero, List.set_cons_succ]
        refine wpAnyH_take (i := 9) (v := ?_) (by simp only [List.getElem?_toArray, List.getElem?_cons_succ, List.getElem?_cons_zero]; rfl) (by kernel_rfl) (by kernel_rfl) (by kernel_rfl) (fun _ _ _ h => h) (Or.inl ⟨by rfl, ?_⟩) (by assumption) ?_
        rotate_left
        · intro W hSW
          go_simp
          try with_reducible rfl
        try simp only [Act.put, List.setIfInBounds_toArray, List.set_cons_zero, List.set_cons_succ]
        refine wpAnyH_take (i := 10) (v := ?_) (by simp only [List.getElem?_toArray, List.getElem?_cons_succ, List.getElem?_cons_zero]; rfl) (by kernel_rfl) (by kernel_rfl) (by kernel_rfl) (fun _ _ _ h => h) (Or.inl ⟨by rfl, ?_⟩) (by assumption) ?_
        rotate_left
        · intro W hSW
          go_simp
          try with_reducible rfl
        try simp only [Act.put, List.setIfInBounds_toArray, List.set_cons_zero, List.set_cons_succ]
        refine wpAnyH_take (i := 11) (by simp only [List.getElem?_toArray, List.getElem?_cons_succ, List.getElem?_cons_zero]; rfl) (by kernel_rfl) (by kernel_rfl) (by kernel_rfl) (fun _ _ _ h => h) (yieldsIf_load_mid (by rfl) 31 _ rfl zb 0 rfl (whoL g) _ (fun W hSW => HLZ.out W hSW) Tryz.underlying31 rfl (info_whoL g)) (by assumption) ?_
        try simp only [Act.put, List.setIfInBounds_toArray, List.set_cons_zero, List.set_cons_succ]
        refine wpAnyH_take (i := 13) (by simp only [List.getElem?_toArray, List.getElem?_cons_succ, List.getElem?_cons_zero]; rfl) (by kernel_rfl) (by kernel_rfl) (by kernel_rfl) (fun _ _ _ h => h) (yieldsIf_load_mid (by rfl) 25 _ rfl gb 0 rfl (whoL g) _ (fun W hSW => HLG.out W hSW) Tryz.underlying25 rfl (info_rwhoL g)) (by assumption) ?_
        try simp only [Act.put, List.setIfInBounds_toArray, List.set_cons_zero, List.set_cons_succ]
        try rw [show (whoL g).toArray = whoA g from rfl]
        refine wpAnyH_ready (rs := [12]) (by kernel_rfl) (by simp) ?_
        refine AllReadyH.cons (by simp only [List.getElem?_toArray, List.getElem?_cons_succ, List.getElem?_cons_zero]; rfl) (fun K hK => ?_) AllReadyH.nil
        go_simp
        refine (whoof_any g _).mono ?_
        rintro e v1 ⟨rfl, hb⟩
        have hv1 : Below w9.heap.size w9 v1 := HV0.out.trans (hb.mono HV0.out.size)
        have HV1 := Lib.hid hv1
        clear hb hv1
        go_wp2_with fail
        refine hK.out _ _ (HV1.out) (fun hHeld2 => ?_)
        clear hK K hHeld
        have hHeld := hHeld2
        clear hHeld2
        try simp only [Act.put, List.setIfInBounds_toArray, List.set_cons_zero, List.set_cons_succ]
        refine wpAnyH_take (i := 14) (by simp only [List.getElem?_toArray, List.getElem?_cons_succ, List.getElem?_cons_zero]; rfl) (by kernel_rfl) (by kernel_rfl) (by kernel_rfl) (fun _ _ _ h => h) (yieldsIf_eql (by rfl) .eql 25 _ _ _ rfl (.agg (whoA g)) (.agg (whoA g)) rfl rfl (.bool true) (guarde_rwho _ _ _ _) (eql_rwho g)) (by assumption) ?_
        try simp only [Act.put, List.setIfInBounds_toArray, List.set_cons_zero, List.set_cons_succ]
        refine wpAnyH_take (i := 15) (v := ?_) (by simp only [List.getElem?_toArray, List.getElem?_cons_succ, List.getElem?_cons_zero]; rfl) (by kernel_rfl) (by kernel_rfl) (by kernel_rfl) (fun _ _ _ h => h) (Or.inl ⟨by rfl, ?_⟩) (by assumption) ?_
        rotate_left
        · intro W hSW
          go_simp
          try with_reducible rfl
        try simp only [Act.put, List.setIfInBounds_toArray, List.set_cons_zero, List.set_cons_succ]
        refine wpAnyH_take (i := 16) (v := ?_) (by simp only [List.getElem?_toArray, List.getElem?_cons_succ, List.getElem?_cons_zero]; rfl) (by kernel_rfl) (by kernel_rfl) (by kernel_rfl) (fun _ _ _ h => h) (Or.inl ⟨by rfl, ?_⟩) (by assumption) ?_
        rotate_left
        · intro W hSW
          go_simp
          try with_reducible rfl
        try simp only [Act.put, List.setIfInBounds_toArray, List.set_cons_zero, List.set_cons_succ]
        refine wpAnyH_take (i := 17) (v := ?_) (by simp only [List.getElem?_toArray, List.getElem?_cons_succ, List.getElem?_cons_zero]; rfl) (by kernel_rfl) (by kernel_rfl) (by kernel_rfl) (fun _ _ _ h => h) (Or.inl ⟨by rfl, ?_⟩) (by assumption) ?_
        rotate_left
        · intro W hSW
          go_simp
          try with_reducible rfl
        try simp only [Act.put, List.setIfInBounds_toArray, List.set_cons_zero, List.set_cons_succ]
        refine wpAnyH_take (i := 18) (v := ?_) (by simp only [List.getElem?_toArray, List.getElem?_cons_succ, List.getElem?_cons_zero]; rfl) (by kernel_rfl) (by kernel_rfl) (by kernel_rfl) (fun _ _ _ h => h) (Or.inl ⟨by rfl, ?_⟩) (by assumption) ?_
        rotate_left
        · intro W hSW
          go_simp
          try with_reducible rfl
        try simp only [Act.put, List.setIfInBounds_toArray, List.set_cons_zero, List.set_cons_succ]
        refine wpAnyH_take (i := 19) (v := ?_) (by simp only [List.getElem?_toArray, List.getElem?_cons_succ, List.getElem?_cons_zero]; rfl) (by kernel_rfl) (by kernel_rfl) (by kernel_rfl) (fun _ _ _ h => h) (Or.inl ⟨by rfl, ?_⟩) (by assumption) ?_
        rotate_left
        · intro W hSW
          go_simp
          try with_reducible rfl
        try simp only [Act.put, List.setIfInBounds_toArray, List.set_cons_zero, List.set_cons_succ]
        refine wpAnyH_take (i := 20) (v := undef) (by simp only [List.getElem?_toArray, List.getElem?_cons_succ, List.getElem?_cons_zero]; rfl) (by kernel_rfl) (by kernel_rfl) (by kernel_rfl) (fun _ _ _ h => h) (Or.inr ⟨by rfl, rfl⟩) (by assumption) ?_
        try simp only [Act.put, List.setIfInBounds_toArray, List.set_cons_zero, List.set_cons_succ]
        refine wpAnyH_take (i := 21) (v := undef) (by simp only [List.getElem?_toArray, List.getElem?_cons_succ, List.getElem?_cons_zero]; rfl) (by kernel_rfl) (by kernel_rfl) (by kernel_rfl) (fun _ _ _ h => h) (Or.inr ⟨by rfl, rfl⟩) (by assumption) ?_
        try simp only [Act.put, List.setIfInBounds_toArray, List.set_cons_zero, List.set_cons_succ]
        refine wpAnyH_take (i := 22) (v := undef) (by simp only [List.getElem?_toArray, List.getElem?_cons_succ, List.getElem?_cons_zero]; rfl) (by kernel_rfl) (by kernel_rfl) (by kernel_rfl) (fun _ _ _ h => h) (Or.inr ⟨by rfl, rfl⟩) (by assumption) ?_
        try simp only [Act.put, List.setIfInBounds_toArray, List.set_cons_zero, List.set_cons_succ]
        refine wpAnyH_take (i := 23) (v := undef) (by simp only [List.getElem?_toArray, List.getElem?_cons_succ, List.getElem?_cons_zero]; rfl) (by kernel_rfl) (by kernel_rfl) (by kernel_rfl) (fun _ _ _ h => h) (Or.inr ⟨by rfl, rfl⟩) (by assumption) ?_
        try simp only [Act.put, List.setIfInBounds_toArray, List.set_cons_zero, List.set_cons_succ]
        refine wpAnyH_take (i := 24) (v := undef) (by simp only [List.getElem?_toArray, List.getElem?_cons_succ, List.getElem?_cons_zero]; rfl) (by kernel_rfl) (by kernel_rfl) (by kernel_rfl) (fun _ _ _ h => h) (Or.inr ⟨by rfl, rfl⟩) (by assumption) ?_
        try simp only [Act.put, List.setIfInBounds_toArray, List.set_cons_zero, List.set_cons_succ]
        refine wpAnyH_take (i := 25) (v := undef) (by simp only [List.getElem?_toArray, List.getElem?_cons_succ, List.getElem?_cons_zero]; rfl) (by kernel_rfl) (by kernel_rfl) (by kernel_rfl) (fun _ _ _ h => h) (Or.inr ⟨by rfl, rfl⟩) (by assumption) ?_
        try simp only [Act.put, List.setIfInBounds_toArray, List.set_cons_zero, List.set_cons_succ]
        refine wpAnyH_take (i := 26) (v := undef) (by simp only [List.getElem?_toArray, List.getElem?_cons_succ, List.getElem?_cons_zero]; rfl) (by kernel_rfl) (by kernel_rfl) (by kernel_rfl) (fun _ _ _ h => h) (Or.inr ⟨by rfl, rfl⟩) (by assumption) ?_
        try simp only [Act.put, List.setIfInBounds_toArray, List.set_cons_zero, List.set_cons_succ]
        refine wpAnyH_take (i := 27) (v := ?_) (by simp only [List.getElem?_toArray, List.getElem?_cons_succ, List.getElem?_cons_zero]; rfl) (by kernel_rfl) (by kernel_rfl) (by kernel_rfl) (fun _ _ _ h => h) (Or.inl ⟨by rfl, ?_⟩) (by assumption) ?_
        rotate_left
        · intro W hSW
          go_simp
          try with_reducible rfl
        try simp only [Act.put, List.setIfInBounds_toArray, List.set_cons_zero, List.set_cons_succ]
        refine wpAnyH_take (i := 28) (v := ?_) (by simp only [List.getElem?_toArray, List.getElem?_cons_succ, List.getElem?_cons_zero]; rfl) (by kernel_rfl) (by kernel_rfl) (by kernel_rfl) (fun _ _ _ h => h) (Or.inl ⟨by rfl, ?_⟩) (by assumption) ?_
        rotate_left
        · intro W hSW
          go_simp
          try with_reducible rfl
        try simp only [Act.put, List.setIfInBounds_toArray, List.set_cons_zero, List.set_cons_succ]
        refine wpAnyH_take (i := 29) (v := ?_) (by simp only [List.getElem?_toArray, List.getElem?_cons_succ, List.getElem?_cons_zero]; rfl) (by kernel_rfl) (by kernel_rfl) (by kernel_rfl) (fun _ _ _ h => h) (Or.inl ⟨by rfl, ?_⟩) (by assumption) ?_
        rotate_left
        · intro W hSW
          go_simp
          try with_reducible rfl
        try simp only [Act.put, List.setIfInBounds_toArray, List.set_cons_zero, List.set_cons_succ]
        refine wpAnyH_done (by kernel_rfl) ?_ _
        refine NoPanic.normal ?_
        clear hHeld
        go_wp2_with fail
        go_ret
        exact ⟨rfl, HB9.out.trans (HV1.out.mono HB9.out.size)⟩
      · have hpe : personE L = (wzero, 4) := by rw [HPG.out, if_neg (fun h => htg h.2)]
        have HPE : Hid (∀ W, EnvC W → Calls Tryz.prog 29 #[.string (txt L)] W fun e w' => e = .returned (.tuple #[.agg (whoA wzero), .int .i64 4]) ∧ Below W.heap.size W w') := fun W hW => by
          have := person_any L W hW (by have := HLL.out; omega)
          rw [hpe] at this; exact this
        have HEQ : Hid (∀ W, (binOp .eql 9 (.string (txt (whoT g))) (.string (txt L))).run Tryz.prog W = .ok (.bool false) W) := fun W => by
          rw [str_eql, txt_list, txt_list, show (whoT g == L) = false from by rw [Bool.eq_false_iff]; intro h; exact htg (eq_of_beq h)]
        clear hpe hwg htg
        refine (HPE.out w54 (HE.out.below HB54.out)).mono ?_
        rintro e w6 ⟨rfl, hb⟩
        have HB6 := Lib.hid (HB54.out.trans (hb.mono HB54.out.size))
        clear hb
        have HZ6 : Hid ((w6.alloc (.cells #[.string ⟨#[]⟩, .string ⟨#[]⟩, .int .i64 0, .string ⟨#[]⟩] 31)).heap[w6.heap.size]? = some (.cells #[.string ⟨#[]⟩, .string ⟨#[]⟩, .int .i64 0, .string ⟨#[]⟩] 31 (0, 0))) := heap_alloc_new _ _
        have HS6 : Hid (Below w6.heap.size w6 ((w6.alloc (.cells #[.string ⟨#[]⟩, .string ⟨#[]⟩, .int .i64 0, .string ⟨#[]⟩] 31)).setRow w6.heap.size (whoA wzero))) := below_setRow ((Below.refl _ _).alloc (Nat.le_refl _) _) (Nat.le_refl _) _
        have HR6 : Hid (((w6.alloc (.cells #[.string ⟨#[]⟩, .string ⟨#[]⟩, .int .i64 0, .string ⟨#[]⟩] 31)).setRow w6.heap.size (whoA wzero)).heap[w6.heap.size]? = some (.cells (whoA wzero) 31 (0, 0))) := setRow_heap _ _ _ _ _ _ HZ6.out
        go_wp2_with (first
          | refine wpList_store_row rfl 31 _ _ rfl w6.heap.size (whoA wzero) rfl rfl 31 #[.string ⟨#[]⟩, .string ⟨#[]⟩, .int .i64 0, .string ⟨#[]⟩] HZ6.out (info_who _) rfl (who_one _) ?_)
        obtain ⟨w7, hw6⟩ : ∃ X, (w6.alloc (.cells #[.string ⟨#[]⟩, .string ⟨#[]⟩, .int .i64 0, .string ⟨#[]⟩] 31)).setRow w6.heap.size (whoA wzero) = X := ⟨_, rfl⟩
        rw [hw6] at HS6 HR6 ⊢
        obtain ⟨zb, hb6⟩ : ∃ x, w6.heap.size = x := ⟨_, rfl⟩
        rw [hb6] at HR6 ⊢
        clear hw6 hb6 HZ6
        have HB7 := Lib.hid (HB6.out.trans (HS6.out.mono HB6.out.size))
        refine (HGE.out w7).mono ?_
        rintro e w8 ⟨rfl, hb⟩
        have HB8 := Lib.hid (HB7.out.trans (hb.mono HB7.out.size))
        have HR68 := Lib.hid ((hb.block zb (Array.getElem?_eq_some_iff.1 HR6.out).1).trans HR6.out)
        clear hb HR6
        have HZ8 : Hid ((w8.alloc (.cells #[.string ⟨#[]⟩, .string ⟨#[]⟩, .int .i64 0, .string ⟨#[]⟩] 25)).heap[w8.heap.size]? = some (.cells #[.string ⟨#[]⟩, .string ⟨#[]⟩, .int .i64 0, .string ⟨#[]⟩] 25 (0, 0))) := heap_alloc_new _ _
        have HS8 : Hid (Below w8.heap.size w8 ((w8.alloc (.cells #[.string ⟨#[]⟩, .string ⟨#[]⟩, .int .i64 0, .string ⟨#[]⟩] 25)).setRow w8.heap.size (whoA g))) := below_setRow ((Below.refl _ _).alloc (Nat.le_refl _) _) (Nat.le_refl _) _
        have HR8 : Hid (((w8.alloc (.cells #[.string ⟨#[]⟩, .string ⟨#[]⟩, .int .i64 0, .string ⟨#[]⟩] 25)).setRow w8.heap.size (whoA g)).heap[w8.heap.size]? = some (.cells (whoA g) 25 (0, 0))) := setRow_heap _ _ _ _ _ _ HZ8.out
        go_wp2_with (first
          | refine wpList_store_row rfl 25 _ _ rfl w8.heap.size (whoA g) rfl rfl 25 #[.string ⟨#[]⟩, .string ⟨#[]⟩, .int .i64 0, .string ⟨#[]⟩] HZ8.out (info_rwho _) rfl (who_one _) ?_
          | refine wpList_load_row rfl 25 _ rfl w8.heap.size rfl 25 (whoA g) (0, 0) _ HR8.out Tryz.underlying25 rfl (info_rwho g) ?_)
        obtain ⟨w0, hw8⟩ : ∃ X, (w8.alloc (.cells #[.string ⟨#[]⟩, .string ⟨#[]⟩, .int .i64 0, .string ⟨#[]⟩] 25)).setRow w8.heap.size (whoA g) = X := ⟨_, rfl⟩
        rw [hw8] at HS8 HR8 ⊢
        obtain ⟨gb, hb8⟩ : ∃ x, w8.heap.size = x := ⟨_, rfl⟩
        rw [hb8] at HR8 ⊢
        clear hw8 hb8 HZ8
        have HB0' := Lib.hid (HB8.out.trans (HS8.out.mono HB8.out.size))
        have HR60 := Lib.hid ((HS8.out.block zb (Array.getElem?_eq_some_iff.1 HR68.out).1).trans HR68.out)
        refine (rperson_any g w0 HGS.out).mono ?_
        rintro e w1' ⟨rfl, hb⟩
        rw [HWG.out]
        have HB1' := Lib.hid (HB0'.out.trans (hb.mono HB0'.out.size))
        have HR61 := Lib.hid ((hb.block zb (Array.getElem?_eq_some_iff.1 HR60.out).1).trans HR60.out)
        have HR81 := Lib.hid ((hb.block gb (Array.getElem?_eq_some_iff.1 HR8.out).1).trans HR8.out)
        clear hb HR60 HR8 HR68
        go_wp2_with (first
          | refine wpList_load_row_g rfl 25 _ rfl gb rfl 25 (whoA g) (0, 0) _ HR81.out Tryz.underlying25 rfl (info_rwho g) ?_)
        refine (rtext_any g w1' (HE.out.below HB1'.out) HGS.out).mono ?_
        rintro e w9 ⟨rfl, hb⟩
        have HB9 := Lib.hid (HB1'.out.trans (hb.mono HB1'.out.size))
        have HR62 := Lib.hid ((hb.block zb (Array.getElem?_eq_some_iff.1 HR61.out).1).trans HR61.out)
        have HR82 := Lib.hid ((hb.block gb (Array.getElem?_eq_some_iff.1 HR81.out).1).trans HR81.out)
        clear hb
        have HLZ : Hid (∀ W, Below w9.heap.size w9 W → W.rangeAt zb 0 (whoL wzero)) := fun W hW => who_range ((hW.block zb (Array.getElem?_eq_some_iff.1 HR62.out).1).trans HR62.out)
        have HLG : Hid (∀ W, Below w9.heap.size w9 W → W.rangeAt gb 0 (whoL g)) := fun W hW => who_range ((hW.block gb (Array.getElem?_eq_some_iff.1 HR82.out).1).trans HR82.out)
        clear HR62 HR82 HR61 HR81
        go_wp2_with (first
          | refine wpList_eql (by rfl) .eql 9 _ _ _ rfl (.string (txt (whoT g))) (.string (txt L)) rfl rfl (.bool false) (guard_eq _ _ _ _) HEQ.out ?_)
        refine wp_region_noPanic ?_
        refine wp_region_held_drew (S := fun W => Below w9.heap.size w9 W) (by kernel_rfl) ?_ (fun hHeld => ?_)
        · exact (Below.refl _ _).drew
        refine wpAnyH_ready (rs := [0]) (by kernel_rfl) (by simp) ?_
        refine AllReadyH.cons (by simp only [List.getElem?_toArray, List.getElem?_cons_zero]; rfl) (fun K hK => ?_) AllReadyH.nil
        go_simp
        refine (known_any _ (HE.out.below (HB9.out.trans ((Below.refl w9.heap.size w9).drew.mono HB9.out.size)))).mono ?_
        rintro e v0 ⟨rfl, hb⟩
        have hv0 : Below w9.heap.size w9 v0 := (Below.refl _ _).drew.trans hb
        have HV0 := Lib.hid hv0
        clear hb hv0
        go_wp2_with fail
        refine hK.out _ _ (HV0.out) (fun hHeld2 => ?_)
        clear hK K hHeld
        have hHeld := hHeld2
        clear hHeld2
        try simp only [Act.put, List.setIfInBounds_toArray, List.set_cons_zero, List.set_cons_succ]
        refine wpAnyH_take (i := 1) (v := ?_) (by simp only [List.getElem?_toArray, List.getElem?_cons_succ, List.getElem?_cons_zero]; rfl) (by kernel_rfl) (by kernel_rfl) (by kernel_rfl) (fun _ _ _ h => h) (Or.inl ⟨by rfl, ?_⟩) (by assumption) ?_
        rotate_left
        · intro W hSW
          go_simp
          try with_reducible rfl
        try simp only [Act.put, List.setIfInBounds_toArray, List.set_cons_zero, List.set_cons_succ]
        refine wpAnyH_take (i := 2) (v := ?_) (by simp only [List.getElem?_toArray, List.getElem?_cons_succ, List.getElem?_cons_zero]; rfl) (by kernel_rfl) (by kernel_rfl) (by kernel_rfl) (fun _ _ _ h => h) (Or.inl ⟨by rfl, ?_⟩) (by assumption) ?_
        rotate_left
        · intro W hSW
          go_simp
          try with_reducible rfl
        try simp only [Act.put, List.setIfInBounds_toArray, List.set_cons_zero, List.set_cons_succ]
        refine wpAnyH_take (i := 3) (v := ?_) (by simp only [List.getElem?_toArray, List.getElem?_cons_succ, List.getElem?_cons_zero]; rfl) (by kernel_rfl) (by kernel_rfl) (by kernel_rfl) (fun _ _ _ h => h) (Or.inl ⟨by rfl, ?_⟩) (by assumption) ?_
        rotate_left
        · intro W hSW
          go_simp
          try with_reducible rfl
        try simp only [Act.put, List.setIfInBounds_toArray, List.set_cons_zero, List.set_cons_succ]
        refine wpAnyH_take (i := 4) (v := ?_) (by simp only [List.getElem?_toArray, List.getElem?_cons_succ, List.getElem?_cons_zero]; rfl) (by kernel_rfl) (by kernel_rfl) (by kernel_rfl) (fun _ _ _ h => h) (Or.inl ⟨by rfl, ?_⟩) (by assumption) ?_
        rotate_left
        · intro W hSW
          go_simp
          try with_reducible rfl
        try simp only [Act.put, List.setIfInBounds_toArray, List.set_cons_zero, List.set_cons_succ]
        refine wpAnyH_take (i := 5) (v := ?_) (by simp only [List.getElem?_toArray, List.getElem?_cons_succ, List.getElem?_cons_zero]; rfl) (by kernel_rfl) (by kernel_rfl) (by kernel_rfl) (fun _ _ _ h => h) (Or.inl ⟨by rfl, ?_⟩) (by assumption) ?_
        rotate_left
        · intro W hSW
          go_simp
          try with_reducible rfl
        try simp only [Act.put, List.setIfInBounds_toArray, List.set_cons_zero, List.set_cons_succ]
        refine wpAnyH_take (i := 6) (v := ?_) (by simp only [List.getElem?_toArray, List.getElem?_cons_succ, List.getElem?_cons_zero]; rfl) (by kernel_rfl) (by kernel_rfl) (by kernel_rfl) (fun _ _ _ h => h) (Or.inl ⟨by rfl, ?_⟩) (by assumption) ?_
        rotate_left
        · intro W hSW
          go_simp
          try with_reducible rfl
        try simp only [Act.put, List.setIfInBounds_toArray, List.set_cons_zero, List.set_cons_succ]
        refine wpAnyH_take (i := 7) (v := ?_) (by simp only [List.getElem?_toArray, List.getElem?_cons_succ, List.getElem?_cons_zero]; rfl) (by kernel_rfl) (by kernel_rfl) (by kernel_rfl) (fun _ _ _ h => h) (Or.inl ⟨by rfl, ?_⟩) (by assumption) ?_
        rotate_left
        · intro W hSW
          go_simp
          try with_reducible rfl
        try simp only [Act.put, List.setIfInBounds_toArray, List.set_cons_zero, List.set_cons_succ]
        refine wpAnyH_take (i := 8) (v := ?_) (by simp only [List.getElem?_toArray, List.getElem?_cons_succ, List.getElem?_cons_zero]; rfl) (by kernel_rfl) (by kernel_rfl) (by kernel_rfl) (fun _ _ _ h => h) (Or.inl ⟨by rfl, ?_⟩) (by assumption) ?_
        rotate_left
        · intro W hSW
          go_simp
          try with_reducible rfl
        try simp only [Act.put, List.setIfInBounds_toArray, List.set_cons_zero, List.set_cons_succ]
        refine wpAnyH_take (i := 9) (v := ?_) (by simp only [List.getElem?_toArray, List.getElem?_cons_succ, List.getElem?_cons_zero]; rfl) (by kernel_rfl) (by kernel_rfl) (by kernel_rfl) (fun _ _ _ h => h) (Or.inl ⟨by rfl, ?_⟩) (by assumption) ?_
        rotate_left
        · intro W hSW
          go_simp
          try with_reducible rfl
        try simp only [Act.put, List.setIfInBounds_toArray, List.set_cons_zero, List.set_cons_succ]
        refine wpAnyH_take (i := 10) (v := ?_) (by simp only [List.getElem?_toArray, List.getElem?_cons_succ, List.getElem?_cons_zero]; rfl) (by kernel_rfl) (by kernel_rfl) (by kernel_rfl) (fun _ _ _ h => h) (Or.inl ⟨by rfl, ?_⟩) (by assumption) ?_
        rotate_left
        · intro W hSW
          go_simp
          try with_reducible rfl
        try simp only [Act.put, List.setIfInBounds_toArray, List.set_cons_zero, List.set_cons_succ]
        refine wpAnyH_take (i := 11) (v := undef) (by simp only [List.getElem?_toArray, List.getElem?_cons_succ, List.getElem?_cons_zero]; rfl) (by kernel_rfl) (by kernel_rfl) (by kernel_rfl) (fun _ _ _ h => h) (Or.inr ⟨by rfl, rfl⟩) (by assumption) ?_
        try simp only [Act.put, List.setIfInBounds_toArray, List.set_cons_zero, List.set_cons_succ]
        refine wpAnyH_take (i := 12) (v := undef) (by simp only [List.getElem?_toArray, List.getElem?_cons_succ, List.getElem?_cons_zero]; rfl) (by kernel_rfl) (by kernel_rfl) (by kernel_rfl) (fun _ _ _ h => h) (Or.inr ⟨by rfl, rfl⟩) (by assumption) ?_
        try simp only [Act.put, List.setIfInBounds_toArray, List.set_cons_zero, List.set_cons_succ]
        refine wpAnyH_take (i := 13) (v := undef) (by simp only [List.getElem?_toArray, List.getElem?_cons_succ, List.getElem?_cons_zero]; rfl) (by kernel_rfl) (by kernel_rfl) (by kernel_rfl) (fun _ _ _ h => h) (Or.inr ⟨by rfl, rfl⟩) (by assumption) ?_
        try simp only [Act.put, List.setIfInBounds_toArray, List.set_cons_zero, List.set_cons_succ]
        refine wpAnyH_take (i := 14) (v := undef) (by simp only [List.getElem?_toArray, List.getElem?_cons_succ, List.getElem?_cons_zero]; rfl) (by kernel_rfl) (by kernel_rfl) (by kernel_rfl) (fun _ _ _ h => h) (Or.inr ⟨by rfl, rfl⟩) (by assumption) ?_
        try simp only [Act.put, List.setIfInBounds_toArray, List.set_cons_zero, List.set_cons_succ]
        refine wpAnyH_take (i := 15) (v := ?_) (by simp only [List.getElem?_toArray, List.getElem?_cons_succ, List.getElem?_cons_zero]; rfl) (by kernel_rfl) (by kernel_rfl) (by kernel_rfl) (fun _ _ _ h => h) (Or.inl ⟨by rfl, ?_⟩) (by assumption) ?_
        rotate_left
        · intro W hSW
          go_simp
          try with_reducible rfl
        try simp only [Act.put, List.setIfInBounds_toArray, List.set_cons_zero, List.set_cons_succ]
        refine wpAnyH_take (i := 16) (v := ?_) (by simp only [List.getElem?_toArray, List.getElem?_cons_succ, List.getElem?_cons_zero]; rfl) (by kernel_rfl) (by kernel_rfl) (by kernel_rfl) (fun _ _ _ h => h) (Or.inl ⟨by rfl, ?_⟩) (by assumption) ?_
        rotate_left
        · intro W hSW
          go_simp
          try with_reducible rfl
        try simp only [Act.put, List.setIfInBounds_toArray, List.set_cons_zero, List.set_cons_succ]
        refine wpAnyH_take (i := 17) (v := ?_) (by simp only [List.getElem?_toArray, List.getElem?_cons_succ, List.getElem?_cons_zero]; rfl) (by kernel_rfl) (by kernel_rfl) (by kernel_rfl) (fun _ _ _ h => h) (Or.inl ⟨by rfl, ?_⟩) (by assumption) ?_
        rotate_left
        · intro W hSW
          go_simp
          try with_reducible rfl
        try simp only [Act.put, List.setIfInBounds_toArray, List.set_cons_zero, List.set_cons_succ]
        refine wpAnyH_take (i := 18) (v := ?_) (by simp only [List.getElem?_toArray, List.getElem?_cons_succ, List.getElem?_cons_zero]; rfl) (by kernel_rfl) (by kernel_rfl) (by kernel_rfl) (fun _ _ _ h => h) (Or.inl ⟨by rfl, ?_⟩) (by assumption) ?_
        rotate_left
        · intro W hSW
          go_simp
          try with_reducible rfl
        try simp only [Act.put, List.setIfInBounds_toArray, List.set_cons_zero, List.set_cons_succ]
        refine wpAnyH_take (i := 19) (v := ?_) (by simp only [List.getElem?_toArray, List.getElem?_cons_succ, List.getElem?_cons_zero]; rfl) (by kernel_rfl) (by kernel_rfl) (by kernel_rfl) (fun _ _ _ h => h) (Or.inl ⟨by rfl, ?_⟩) (by assumption) ?_
        rotate_left
        · intro W hSW
          go_simp
          try with_reducible rfl
        try simp only [Act.put, List.setIfInBounds_toArray, List.set_cons_zero, List.set_cons_succ]
        refine wpAnyH_take (i := 20) (v := ?_) (by simp only [List.getElem?_toArray, List.getElem?_cons_succ, List.getElem?_cons_zero]; rfl) (by kernel_rfl) (by kernel_rfl) (by kernel_rfl) (fun _ _ _ h => h) (Or.inl ⟨by rfl, ?_⟩) (by assumption) ?_
        rotate_left
        · intro W hSW
          go_simp
          try with_reducible rfl
        try simp only [Act.put, List.setIfInBounds_toArray, List.set_cons_zero, List.set_cons_succ]
        refine wpAnyH_take (i := 21) (v := ?_) (by simp only [List.getElem?_toArray, List.getElem?_cons_succ, List.getElem?_cons_zero]; rfl) (by kernel_rfl) (by kernel_rfl) (by kernel_rfl) (fun _ _ _ h => h) (Or.inl ⟨by rfl, ?_⟩) (by assumption) ?_
        rotate_left
        · intro W hSW
          go_simp
          try with_reducible rfl
        try simp only [Act.put, List.setIfInBounds_toArray, List.set_cons_zero, List.set_cons_succ]
        refine wpAnyH_take (i := 22) (v := ?_) (by simp only [List.getElem?_toArray, List.getElem?_cons_succ, List.getElem?_cons_zero]; rfl) (by kernel_rfl) (by kernel_rfl) (by kernel_rfl) (fun _ _ _ h => h) (Or.inl ⟨by rfl, ?_⟩) (by assumption) ?_
        rotate_left
        · intro W hSW
          go_simp
          try with_reducible rfl
        try simp only [Act.put, List.setIfInBounds_toArray, List.set_cons_zero, List.set_cons_succ]
        refine wpAnyH_take (i := 23) (by simp only [List.getElem?_toArray, List.getElem?_cons_succ, List.getElem?_cons_zero]; rfl) (by kernel_rfl) (by kernel_rfl) (by kernel_rfl) (fun _ _ _ h => h) (yieldsIf_load_mid (by rfl) 31 _ rfl zb 0 rfl (whoL wzero) _ (fun W hSW => HLZ.out W hSW) Tryz.underlying31 rfl (info_whoL wzero)) (by assumption) ?_
        try simp only [Act.put, List.setIfInBounds_toArray, List.set_cons_zero, List.set_cons_succ]
        try rw [show (whoL wzero).toArray = whoA wzero from rfl]
        refine wpAnyH_take (i := 24) (by simp only [List.getElem?_toArray, List.getElem?_cons_succ, List.getElem?_cons_zero]; rfl) (by kernel_rfl) (by kernel_rfl) (by kernel_rfl) (fun _ _ _ h => h) (yieldsIf_build (by rfl) _ _ rfl #[] (by simp) (.agg (whoA wzero)) build_who0) (by assumption) ?_
        try simp only [Act.put, List.setIfInBounds_toArray, List.set_cons_zero, List.set_cons_succ]
        refine wpAnyH_take (i := 25) (by simp only [List.getElem?_toArray, List.getElem?_cons_succ, List.getElem?_cons_zero]; rfl) (by kernel_rfl) (by kernel_rfl) (by kernel_rfl) (fun _ _ _ h => h) (yieldsIf_eql (by rfl) .eql 31 _ _ _ rfl (.agg (whoA wzero)) (.agg (whoA wzero)) rfl rfl (.bool true) (guarde_who _ _ _ _) (eql_who wzero)) (by assumption) ?_
        try simp only [Act.put, List.setIfInBounds_toArray, List.set_cons_zero, List.set_cons_succ]
        refine wpAnyH_take (i := 26) (v := ?_) (by simp only [List.getElem?_toArray, List.getElem?_cons_succ, List.getElem?_cons_zero]; rfl) (by kernel_rfl) (by kernel_rfl) (by kernel_rfl) (fun _ _ _ h => h) (Or.inl ⟨by rfl, ?_⟩) (by assumption) ?_
        rotate_left
        · intro W hSW
          go_simp
          try with_reducible rfl
        try simp only [Act.put, List.setIfInBounds_toArray, List.set_cons_zero, List.set_cons_succ]
        refine wpAnyH_take (i := 27) (v := ?_) (by simp only [List.getElem?_toArray, List.getElem?_cons_succ, List.getElem?_cons_zero]; rfl) (by kernel_rfl) (by kernel_rfl) (by kernel_rfl) (fun _ _ _ h => h) (Or.inl ⟨by rfl, ?_⟩) (by assumption) ?_
        rotate_left
        · intro W hSW
          go_simp
          try with_reducible rfl
        try simp only [Act.put, List.setIfInBounds_toArray, List.set_cons_zero, List.set_cons_succ]
        refine wpAnyH_take (i := 28) (v := ?_) (by simp only [List.getElem?_toArray, List.getElem?_cons_succ, List.getElem?_cons_zero]; rfl) (by kernel_rfl) (by kernel_rfl) (by kernel_rfl) (fun _ _ _ h => h) (Or.inl ⟨by rfl, ?_⟩) (by assumption) ?_
        rotate_left
        · intro W hSW
          go_simp
          try with_reducible rfl
        try simp only [Act.put, List.setIfInBounds_toArray, List.set_cons_zero, List.set_cons_succ]
        refine wpAnyH_take (i := 29) (v := ?_) (by simp only [List.getElem?_toArray, List.getElem?_cons_succ, List.getElem?_cons_zero]; rfl) (by kernel_rfl) (by kernel_rfl) (by kernel_rfl) (fun _ _ _ h => h) (Or.inl ⟨by rfl, ?_⟩) (by assumption) ?_
        rotate_left
        · intro W hSW
          go_simp
          try with_reducible rfl
        try simp only [Act.put, List.setIfInBounds_toArray, List.set_cons_zero, List.set_cons_succ]
        refine wpAnyH_done (by kernel_rfl) ?_ _
        refine NoPanic.normal ?_
        clear hHeld
        go_wp2_with fail
        go_ret
        exact ⟨rfl, HB9.out.trans (HV0.out.mono HB9.out.size)⟩
    | false =>
      have HWG := Lib.hid hwg
      have hpe : personE L = (wzero, 4) := by rw [HPG.out, if_neg (fun h => by rw [hwg] at h; cases h.1)]
      have HPE : Hid (∀ W, EnvC W → Calls Tryz.prog 29 #[.string (txt L)] W fun e w' => e = .returned (.tuple #[.agg (whoA wzero), .int .i64 4]) ∧ Below W.heap.size W w') := fun W hW => by
        have := person_any L W hW (by have := HLL.out; omega)
        rw [hpe] at this; exact this
      clear hpe hwg
      refine (HPE.out w54 (HE.out.below HB54.out)).mono ?_
      rintro e w6 ⟨rfl, hb⟩
      have HB6 := Lib.hid (HB54.out.trans (hb.mono HB54.out.size))
      clear hb
      have HZ6 : Hid ((w6.alloc (.cells #[.string ⟨#[]⟩, .string ⟨#[]⟩, .int .i64 0, .string ⟨#[]⟩] 31)).heap[w6.heap.size]? = some (.cells #[.string ⟨#[]⟩, .string ⟨#[]⟩, .int .i64 0, .string ⟨#[]⟩] 31 (0, 0))) := heap_alloc_new _ _
      have HS6 : Hid (Below w6.heap.size w6 ((w6.alloc (.cells #[.string ⟨#[]⟩, .string ⟨#[]⟩, .int .i64 0, .string ⟨#[]⟩] 31)).setRow w6.heap.size (whoA wzero))) := below_setRow ((Below.refl _ _).alloc (Nat.le_refl _) _) (Nat.le_refl _) _
      have HR6 : Hid (((w6.alloc (.cells #[.string ⟨#[]⟩, .string ⟨#[]⟩, .int .i64 0, .string ⟨#[]⟩] 31)).setRow w6.heap.size (whoA wzero)).heap[w6.heap.size]? = some (.cells (whoA wzero) 31 (0, 0))) := setRow_heap _ _ _ _ _ _ HZ6.out
      go_wp2_with (first
        | refine wpList_store_row rfl 31 _ _ rfl w6.heap.size (whoA wzero) rfl rfl 31 #[.string ⟨#[]⟩, .string ⟨#[]⟩, .int .i64 0, .string ⟨#[]⟩] HZ6.out (info_who _) rfl (who_one _) ?_)
      obtain ⟨w7, hw6⟩ : ∃ X, (w6.alloc (.cells #[.string ⟨#[]⟩, .string ⟨#[]⟩, .int .i64 0, .string ⟨#[]⟩] 31)).setRow w6.heap.size (whoA wzero) = X := ⟨_, rfl⟩
      rw [hw6] at HS6 HR6 ⊢
      obtain ⟨zb, hb6⟩ : ∃ x, w6.heap.size = x := ⟨_, rfl⟩
      rw [hb6] at HR6 ⊢
      clear hw6 hb6 HZ6
      have HB7 := Lib.hid (HB6.out.trans (HS6.out.mono HB6.out.size))
      refine (HGE.out w7).mono ?_
      rintro e w8 ⟨rfl, hb⟩
      have HB8 := Lib.hid (HB7.out.trans (hb.mono HB7.out.size))
      have HR68 := Lib.hid ((hb.block zb (Array.getElem?_eq_some_iff.1 HR6.out).1).trans HR6.out)
      clear hb HR6
      have HZ8 : Hid ((w8.alloc (.cells #[.string ⟨#[]⟩, .string ⟨#[]⟩, .int .i64 0, .string ⟨#[]⟩] 25)).heap[w8.heap.size]? = some (.cells #[.string ⟨#[]⟩, .string ⟨#[]⟩, .int .i64 0, .string ⟨#[]⟩] 25 (0, 0))) := heap_alloc_new _ _
      have HS8 : Hid (Below w8.heap.size w8 ((w8.alloc (.cells #[.string ⟨#[]⟩, .string ⟨#[]⟩, .int .i64 0, .string ⟨#[]⟩] 25)).setRow w8.heap.size (whoA g))) := below_setRow ((Below.refl _ _).alloc (Nat.le_refl _) _) (Nat.le_refl _) _
      have HR8 : Hid (((w8.alloc (.cells #[.string ⟨#[]⟩, .string ⟨#[]⟩, .int .i64 0, .string ⟨#[]⟩] 25)).setRow w8.heap.size (whoA g)).heap[w8.heap.size]? = some (.cells (whoA g) 25 (0, 0))) := setRow_heap _ _ _ _ _ _ HZ8.out
      go_wp2_with (first
        | refine wpList_store_row rfl 25 _ _ rfl w8.heap.size (whoA g) rfl rfl 25 #[.string ⟨#[]⟩, .string ⟨#[]⟩, .int .i64 0, .string ⟨#[]⟩] HZ8.out (info_rwho _) rfl (who_one _) ?_
        | refine wpList_load_row rfl 25 _ rfl w8.heap.size rfl 25 (whoA g) (0, 0) _ HR8.out Tryz.underlying25 rfl (info_rwho g) ?_)
      obtain ⟨w0, hw8⟩ : ∃ X, (w8.alloc (.cells #[.string ⟨#[]⟩, .string ⟨#[]⟩, .int .i64 0, .string ⟨#[]⟩] 25)).setRow w8.heap.size (whoA g) = X := ⟨_, rfl⟩
      rw [hw8] at HS8 HR8 ⊢
      obtain ⟨gb, hb8⟩ : ∃ x, w8.heap.size = x := ⟨_, rfl⟩
      rw [hb8] at HR8 ⊢
      clear hw8 hb8 HZ8
      have HB0' := Lib.hid (HB8.out.trans (HS8.out.mono HB8.out.size))
      have HR60 := Lib.hid ((HS8.out.block zb (Array.getElem?_eq_some_iff.1 HR68.out).1).trans HR68.out)
      refine (rperson_any g w0 HGS.out).mono ?_
      rintro e w1' ⟨rfl, hb⟩
      rw [HWG.out]
      have HB1' := Lib.hid (HB0'.out.trans (hb.mono HB0'.out.size))
      have HR61 := Lib.hid ((hb.block zb (Array.getElem?_eq_some_iff.1 HR60.out).1).trans HR60.out)
      have HR81 := Lib.hid ((hb.block gb (Array.getElem?_eq_some_iff.1 HR8.out).1).trans HR8.out)
      clear hb HR60 HR8 HR68
      obtain ⟨w9, hw9⟩ : ∃ X, w1' = X := ⟨_, rfl⟩
      rw [hw9] at HB1' HR61 HR81 ⊢
      have HB9 := HB1'
      have HR62 := HR61
      have HR82 := HR81
      clear hw9
      have HLZ : Hid (∀ W, Below w9.heap.size w9 W → W.rangeAt zb 0 (whoL wzero)) := fun W hW => who_range ((hW.block zb (Array.getElem?_eq_some_iff.1 HR62.out).1).trans HR62.out)
      have HLG : Hid (∀ W, Below w9.heap.size w9 W → W.rangeAt gb 0 (whoL g)) := fun W hW => who_range ((hW.block gb (Array.getElem?_eq_some_iff.1 HR82.out).1).trans HR82.out)
      clear HR62 HR82 HR61 HR81
      go_wp2_with fail
      refine wp_region_noPanic ?_
      refine wp_region_held_drew (S := fun W => Below w9.heap.size w9 W) (by kernel_rfl) ?_ (fun hHeld => ?_)
      · exact (Below.refl _ _).drew
      refine wpAnyH_ready (rs := [0]) (by kernel_rfl) (by simp) ?_
      refine AllReadyH.cons (by simp only [List.getElem?_toArray, List.getElem?_cons_zero]; rfl) (fun K hK => ?_) AllReadyH.nil
      go_simp
      refine (known_any _ (HE.out.below (HB9.out.trans ((Below.refl w9.heap.size w9).drew.mono HB9.out.size)))).mono ?_
      rintro e v0 ⟨rfl, hb⟩
      have hv0 : Below w9.heap.size w9 v0 := (Below.refl _ _).drew.trans hb
      have HV0 := Lib.hid hv0
      clear hb hv0
      go_wp2_with fail
      refine hK.out _ _ (HV0.out) (fun hHeld2 => ?_)
      clear hK K hHeld
      have hHeld := hHeld2
      clear hHeld2
      try simp only [Act.put, List.setIfInBounds_toArray, List.set_cons_zero, List.set_cons_succ]
      refine wpAnyH_take (i := 1) (v := ?_) (by simp only [List.getElem?_toArray, List.getElem?_cons_succ, List.getElem?_cons_zero]; rfl) (by kernel_rfl) (by kernel_rfl) (by kernel_rfl) (fun _ _ _ h => h) (Or.inl ⟨by rfl, ?_⟩) (by assumption) ?_
      rotate_left
      · intro W hSW
        go_simp
        try with_reducible rfl
      try simp only [Act.put, List.setIfInBounds_toArray, List.set_cons_zero, List.set_cons_succ]
      refine wpAnyH_take (i := 2) (v := ?_) (by simp only [List.getElem?_toArray, List.getElem?_cons_succ, List.getElem?_cons_zero]; rfl) (by kernel_rfl) (by kernel_rfl) (by kernel_rfl) (fun _ _ _ h => h) (Or.inl ⟨by rfl, ?_⟩) (by assumption) ?_
      rotate_left
      · intro W hSW
        go_simp
        try with_reducible rfl
      try simp only [Act.put, List.setIfInBounds_toArray, List.set_cons_zero, List.set_cons_succ]
      refine wpAnyH_take (i := 3) (v := ?_) (by simp only [List.getElem?_toArray, List.getElem?_cons_succ, List.getElem?_cons_zero]; rfl) (by kernel_rfl) (by kernel_rfl) (by kernel_rfl) (fun _ _ _ h => h) (Or.inl ⟨by rfl, ?_⟩) (by assumption) ?_
      rotate_left
      · intro W hSW
        go_simp
        try with_reducible rfl
      try simp only [Act.put, List.setIfInBounds_toArray, List.set_cons_zero, List.set_cons_succ]
      refine wpAnyH_take (i := 4) (v := ?_) (by simp only [List.getElem?_toArray, List.getElem?_cons_succ, List.getElem?_cons_zero]; rfl) (by kernel_rfl) (by kernel_rfl) (by kernel_rfl) (fun _ _ _ h => h) (Or.inl ⟨by rfl, ?_⟩) (by assumption) ?_
      rotate_left
      · intro W hSW
        go_simp
        try with_reducible rfl
      try simp only [Act.put, List.setIfInBounds_toArray, List.set_cons_zero, List.set_cons_succ]
      refine wpAnyH_take (i := 5) (v := ?_) (by simp only [List.getElem?_toArray, List.getElem?_cons_succ, List.getElem?_cons_zero]; rfl) (by kernel_rfl) (by kernel_rfl) (by kernel_rfl) (fun _ _ _ h => h) (Or.inl ⟨by rfl, ?_⟩) (by assumption) ?_
      rotate_left
      · intro W hSW
        go_simp
        try with_reducible rfl
      try simp only [Act.put, List.setIfInBounds_toArray, List.set_cons_zero, List.set_cons_succ]
      refine wpAnyH_take (i := 6) (v := ?_) (by simp only [List.getElem?_toArray, List.getElem?_cons_succ, List.getElem?_cons_zero]; rfl) (by kernel_rfl) (by kernel_rfl) (by kernel_rfl) (fun _ _ _ h => h) (Or.inl ⟨by rfl, ?_⟩) (by assumption) ?_
      rotate_left
      · intro W hSW
        go_simp
        try with_reducible rfl
      try simp only [Act.put, List.setIfInBounds_toArray, List.set_cons_zero, List.set_cons_succ]
      refine wpAnyH_take (i := 7) (v := ?_) (by simp only [List.getElem?_toArray, List.getElem?_cons_succ, List.getElem?_cons_zero]; rfl) (by kernel_rfl) (by kernel_rfl) (by kernel_rfl) (fun _ _ _ h => h) (Or.inl ⟨by rfl, ?_⟩) (by assumption) ?_
      rotate_left
      · intro W hSW
        go_simp
        try with_reducible rfl
      try simp only [Act.put, List.setIfInBounds_toArray, List.set_cons_zero, List.set_cons_succ]
      refine wpAnyH_take (i := 8) (v := ?_) (by simp only [List.getElem?_toArray, List.getElem?_cons_succ, List.getElem?_cons_zero]; rfl) (by kernel_rfl) (by kernel_rfl) (by kernel_rfl) (fun _ _ _ h => h) (Or.inl ⟨by rfl, ?_⟩) (by assumption) ?_
      rotate_left
      · intro W hSW
        go_simp
        try with_reducible rfl
      try simp only [Act.put, List.setIfInBounds_toArray, List.set_cons_zero, List.set_cons_succ]
      refine wpAnyH_take (i := 9) (v := ?_) (by simp only [List.getElem?_toArray, List.getElem?_cons_succ, List.getElem?_cons_zero]; rfl) (by kernel_rfl) (by kernel_rfl) (by kernel_rfl) (fun _ _ _ h => h) (Or.inl ⟨by rfl, ?_⟩) (by assumption) ?_
      rotate_left
      · intro W hSW
        go_simp
        try with_reducible rfl
      try simp only [Act.put, List.setIfInBounds_toArray, List.set_cons_zero, List.set_cons_succ]
      refine wpAnyH_take (i := 10) (v := ?_) (by simp only [List.getElem?_toArray, List.getElem?_cons_succ, List.getElem?_cons_zero]; rfl) (by kernel_rfl) (by kernel_rfl) (by kernel_rfl) (fun _ _ _ h => h) (Or.inl ⟨by rfl, ?_⟩) (by assumption) ?_
      rotate_left
      · intro W hSW
        go_simp
        try with_reducible rfl
      try simp only [Act.put, List.setIfInBounds_toArray, List.set_cons_zero, List.set_cons_succ]
      refine wpAnyH_take (i := 11) (v := undef) (by simp only [List.getElem?_toArray, List.getElem?_cons_succ, List.getElem?_cons_zero]; rfl) (by kernel_rfl) (by kernel_rfl) (by kernel_rfl) (fun _ _ _ h => h) (Or.inr ⟨by rfl, rfl⟩) (by assumption) ?_
      try simp only [Act.put, List.setIfInBounds_toArray, List.set_cons_zero, List.set_cons_succ]
      refine wpAnyH_take (i := 12) (v := undef) (by simp only [List.getElem?_toArray, List.getElem?_cons_succ, List.getElem?_cons_zero]; rfl) (by kernel_rfl) (by kernel_rfl) (by kernel_rfl) (fun _ _ _ h => h) (Or.inr ⟨by rfl, rfl⟩) (by assumption) ?_
      try simp only [Act.put, List.setIfInBounds_toArray, List.set_cons_zero, List.set_cons_succ]
      refine wpAnyH_take (i := 13) (v := undef) (by simp only [List.getElem?_toArray, List.getElem?_cons_succ, List.getElem?_cons_zero]; rfl) (by kernel_rfl) (by kernel_rfl) (by kernel_rfl) (fun _ _ _ h => h) (Or.inr ⟨by rfl, rfl⟩) (by assumption) ?_
      try simp only [Act.put, List.setIfInBounds_toArray, List.set_cons_zero, List.set_cons_succ]
      refine wpAnyH_take (i := 14) (v := undef) (by simp only [List.getElem?_toArray, List.getElem?_cons_succ, List.getElem?_cons_zero]; rfl) (by kernel_rfl) (by kernel_rfl) (by kernel_rfl) (fun _ _ _ h => h) (Or.inr ⟨by rfl, rfl⟩) (by assumption) ?_
      try simp only [Act.put, List.setIfInBounds_toArray, List.set_cons_zero, List.set_cons_succ]
      refine wpAnyH_take (i := 15) (v := ?_) (by simp only [List.getElem?_toArray, List.getElem?_cons_succ, List.getElem?_cons_zero]; rfl) (by kernel_rfl) (by kernel_rfl) (by kernel_rfl) (fun _ _ _ h => h) (Or.inl ⟨by rfl, ?_⟩) (by assumption) ?_
      rotate_left
      · intro W hSW
        go_simp
        try with_reducible rfl
      try simp only [Act.put, List.setIfInBounds_toArray, List.set_cons_zero, List.set_cons_succ]
      refine wpAnyH_take (i := 16) (v := ?_) (by simp only [List.getElem?_toArray, List.getElem?_cons_succ, List.getElem?_cons_zero]; rfl) (by kernel_rfl) (by kernel_rfl) (by kernel_rfl) (fun _ _ _ h => h) (Or.inl ⟨by rfl, ?_⟩) (by assumption) ?_
      rotate_left
      · intro W hSW
        go_simp
        try with_reducible rfl
      try simp only [Act.put, List.setIfInBounds_toArray, List.set_cons_zero, List.set_cons_succ]
      refine wpAnyH_take (i := 17) (v := ?_) (by simp only [List.getElem?_toArray, List.getElem?_cons_succ, List.getElem?_cons_zero]; rfl) (by kernel_rfl) (by kernel_rfl) (by kernel_rfl) (fun _ _ _ h => h) (Or.inl ⟨by rfl, ?_⟩) (by assumption) ?_
      rotate_left
      · intro W hSW
        go_simp
        try with_reducible rfl
      try simp only [Act.put, List.setIfInBounds_toArray, List.set_cons_zero, List.set_cons_succ]
      refine wpAnyH_take (i := 18) (v := ?_) (by simp only [List.getElem?_toArray, List.getElem?_cons_succ, List.getElem?_cons_zero]; rfl) (by kernel_rfl) (by kernel_rfl) (by kernel_rfl) (fun _ _ _ h => h) (Or.inl ⟨by rfl, ?_⟩) (by assumption) ?_
      rotate_left
      · intro W hSW
        go_simp
        try with_reducible rfl
      try simp only [Act.put, List.setIfInBounds_toArray, List.set_cons_zero, List.set_cons_succ]
      refine wpAnyH_take (i := 19) (v := ?_) (by simp only [List.getElem?_toArray, List.getElem?_cons_succ, List.getElem?_cons_zero]; rfl) (by kernel_rfl) (by kernel_rfl) (by kernel_rfl) (fun _ _ _ h => h) (Or.inl ⟨by rfl, ?_⟩) (by assumption) ?_
      rotate_left
      · intro W hSW
        go_simp
        try with_reducible rfl
      try simp only [Act.put, List.setIfInBounds_toArray, List.set_cons_zero, List.set_cons_succ]
      refine wpAnyH_take (i := 20) (v := ?_) (by simp only [List.getElem?_toArray, List.getElem?_cons_succ, List.getElem?_cons_zero]; rfl) (by kernel_rfl) (by kernel_rfl) (by kernel_rfl) (fun _ _ _ h => h) (Or.inl ⟨by rfl, ?_⟩) (by assumption) ?_
      rotate_left
      · intro W hSW
        go_simp
        try with_reducible rfl
      try simp only [Act.put, List.setIfInBounds_toArray, List.set_cons_zero, List.set_cons_succ]
      refine wpAnyH_take (i := 21) (v := ?_) (by simp only [List.getElem?_toArray, List.getElem?_cons_succ, List.getElem?_cons_zero]; rfl) (by kernel_rfl) (by kernel_rfl) (by kernel_rfl) (fun _ _ _ h => h) (Or.inl ⟨by rfl, ?_⟩) (by assumption) ?_
      rotate_left
      · intro W hSW
        go_simp
        try with_reducible rfl
      try simp only [Act.put, List.setIfInBounds_toArray, List.set_cons_zero, List.set_cons_succ]
      refine wpAnyH_take (i := 22) (v := ?_) (by simp only [List.getElem?_toArray, List.getElem?_cons_succ, List.getElem?_cons_zero]; rfl) (by kernel_rfl) (by kernel_rfl) (by kernel_rfl) (fun _ _ _ h => h) (Or.inl ⟨by rfl, ?_⟩) (by assumption) ?_
      rotate_left
      · intro W hSW
        go_simp
        try with_reducible rfl
      try simp only [Act.put, List.setIfInBounds_toArray, List.set_cons_zero, List.set_cons_succ]
      refine wpAnyH_take (i := 23) (by simp only [List.getElem?_toArray, List.getElem?_cons_succ, List.getElem?_cons_zero]; rfl) (by kernel_rfl) (by kernel_rfl) (by kernel_rfl) (fun _ _ _ h => h) (yieldsIf_load_mid (by rfl) 31 _ rfl zb 0 rfl (whoL wzero) _ (fun W hSW => HLZ.out W hSW) Tryz.underlying31 rfl (info_whoL wzero)) (by assumption) ?_
      try simp only [Act.put, List.setIfInBounds_toArray, List.set_cons_zero, List.set_cons_succ]
      try rw [show (whoL wzero).toArray = whoA wzero from rfl]
      refine wpAnyH_take (i := 24) (by simp only [List.getElem?_toArray, List.getElem?_cons_succ, List.getElem?_cons_zero]; rfl) (by kernel_rfl) (by kernel_rfl) (by kernel_rfl) (fun _ _ _ h => h) (yieldsIf_build (by rfl) _ _ rfl #[] (by simp) (.agg (whoA wzero)) build_who0) (by assumption) ?_
      try simp only [Act.put, List.setIfInBounds_toArray, List.set_cons_zero, List.set_cons_succ]
      refine wpAnyH_take (i := 25) (by simp only [List.getElem?_toArray, List.getElem?_cons_succ, List.getElem?_cons_zero]; rfl) (by kernel_rfl) (by kernel_rfl) (by kernel_rfl) (fun _ _ _ h => h) (yieldsIf_eql (by rfl) .eql 31 _ _ _ rfl (.agg (whoA wzero)) (.agg (whoA wzero)) rfl rfl (.bool true) (guarde_who _ _ _ _) (eql_who wzero)) (by assumption) ?_
      try simp only [Act.put, List.setIfInBounds_toArray, List.set_cons_zero, List.set_cons_succ]
      refine wpAnyH_take (i := 26) (v := ?_) (by simp only [List.getElem?_toArray, List.getElem?_cons_succ, List.getElem?_cons_zero]; rfl) (by kernel_rfl) (by kernel_rfl) (by kernel_rfl) (fun _ _ _ h => h) (Or.inl ⟨by rfl, ?_⟩) (by assumption) ?_
      rotate_left
      · intro W hSW
        go_simp
        try with_reducible rfl
      try simp only [Act.put, List.setIfInBounds_toArray, List.set_cons_zero, List.set_cons_succ]
      refine wpAnyH_take (i := 27) (v := ?_) (by simp only [List.getElem?_toArray, List.getElem?_cons_succ, List.getElem?_cons_zero]; rfl) (by kernel_rfl) (by kernel_rfl) (by kernel_rfl) (fun _ _ _ h => h) (Or.inl ⟨by rfl, ?_⟩) (by assumption) ?_
      rotate_left
      · intro W hSW
        go_simp
        try with_reducible rfl
      try simp only [Act.put, List.setIfInBounds_toArray, List.set_cons_zero, List.set_cons_succ]
      refine wpAnyH_take (i := 28) (v := ?_) (by simp only [List.getElem?_toArray, List.getElem?_cons_succ, List.getElem?_cons_zero]; rfl) (by kernel_rfl) (by kernel_rfl) (by kernel_rfl) (fun _ _ _ h => h) (Or.inl ⟨by rfl, ?_⟩) (by assumption) ?_
      rotate_left
      · intro W hSW
        go_simp
        try with_reducible rfl
      try simp only [Act.put, List.setIfInBounds_toArray, List.set_cons_zero, List.set_cons_succ]
      refine wpAnyH_take (i := 29) (v := ?_) (by simp only [List.getElem?_toArray, List.getElem?_cons_succ, List.getElem?_cons_zero]; rfl) (by kernel_rfl) (by kernel_rfl) (by kernel_rfl) (fun _ _ _ h => h) (Or.inl ⟨by rfl, ?_⟩) (by assumption) ?_
      rotate_left
      · intro W hSW
        go_simp
        try with_reducible rfl
      try simp only [Act.put, List.setIfInBounds_toArray, List.set_cons_zero, List.set_cons_succ]
      refine wpAnyH_done (by kernel_rfl) ?_ _
      refine NoPanic.normal ?_
      clear hHeld
      go_wp2_with fail
      go_ret
      exact ⟨rfl, HB9.out.trans (HV0.out.mono HB9.out.size)⟩
  | false =>
    have HWF := Lib.hid hwf
    clear hwf hft
    refine (HWI.out _).mono ?_
    rintro e w1 ⟨rfl, hb⟩
    have HB1 := Lib.hid (HB0.out.trans (hb.mono HB0.out.size))
    clear hb HWI HR0 HB0
    have HZ1 : Hid ((w1.alloc (.cells #[.string ⟨#[]⟩, .string ⟨#[]⟩, .int .i64 0, .string ⟨#[]⟩] 31)).heap[w1.heap.size]? = some (.cells #[.string ⟨#[]⟩, .string ⟨#[]⟩, .int .i64 0, .string ⟨#[]⟩] 31 (0, 0))) := heap_alloc_new _ _
    have HS1 : Hid (Below w1.heap.size w1 ((w1.alloc (.cells #[.string ⟨#[]⟩, .string ⟨#[]⟩, .int .i64 0, .string ⟨#[]⟩] 31)).setRow w1.heap.size (whoA F))) := below_setRow ((Below.refl _ _).alloc (Nat.le_refl _) _) (Nat.le_refl _) _
    have HR1 : Hid (((w1.alloc (.cells #[.string ⟨#[]⟩, .string ⟨#[]⟩, .int .i64 0, .string ⟨#[]⟩] 31)).setRow w1.heap.size (whoA F)).heap[w1.heap.size]? = some (.cells (whoA F) 31 (0, 0))) := setRow_heap _ _ _ _ _ _ HZ1.out
    go_wp2_with (first
      | refine wpList_store_row rfl 31 _ _ rfl w1.heap.size (whoA F) rfl rfl 31 #[.string ⟨#[]⟩, .string ⟨#[]⟩, .int .i64 0, .string ⟨#[]⟩] HZ1.out (info_who _) rfl (who_one _) ?_
      | refine wpList_load_row rfl 31 _ rfl w1.heap.size rfl 31 (whoA F) (0, 0) _ HR1.out Tryz.underlying31 rfl (info_who F) ?_)
    clear hs1 hm
    obtain ⟨w2, hw1⟩ : ∃ X, (w1.alloc (.cells #[.string ⟨#[]⟩, .string ⟨#[]⟩, .int .i64 0, .string ⟨#[]⟩] 31)).setRow w1.heap.size (whoA F) = X := ⟨_, rfl⟩
    rw [hw1] at HS1 HR1 ⊢
    obtain ⟨b5, hb1⟩ : ∃ x, w1.heap.size = x := ⟨_, rfl⟩
    rw [hb1] at HR1 ⊢
    clear hw1 hb1 HZ1
    have HB2 := Lib.hid (HB1.out.trans (HS1.out.mono HB1.out.size))
    refine (text_any F w2 (HE.out.below HB2.out) HFS.out).mono ?_
    rintro e w3 ⟨rfl, hb⟩
    rw [HWF.out]
    have HB3 := Lib.hid (HB2.out.trans (hb.mono HB2.out.size))
    have HR13 := Lib.hid ((hb.block b5 (Array.getElem?_eq_some_iff.1 HR1.out).1).trans HR1.out)
    clear hb HR1
    simp only [Bool.false_eq_true, if_false]
    go_wp2_with (first
      | refine wpList_load_row rfl 31 _ rfl b5 rfl 31 (whoA F) (0, 0) _ HR13.out Tryz.underlying31 rfl (info_who F) ?_)
    refine (whoof_any F w3).mono ?_
    rintro e w4 ⟨rfl, hb⟩
    have HB4 := Lib.hid (HB3.out.trans (hb.mono HB3.out.size))
    have HR14 := Lib.hid ((hb.block b5 (Array.getElem?_eq_some_iff.1 HR13.out).1).trans HR13.out)
    clear hb HR13
    go_wp2_with fail
    refine (rperson_any F w4 HFS.out).mono ?_
    rintro e w5 ⟨rfl, hb⟩
    rw [HWF.out]
    have HB5 := Lib.hid (HB4.out.trans (hb.mono HB4.out.size))
    have HR15 := Lib.hid ((hb.block b5 (Array.getElem?_eq_some_iff.1 HR14.out).1).trans HR14.out)
    clear hb HR14
    have HNE := Lib.hid (neq_self ⟨#[]⟩)
    go_wp2_with (first
      | refine wpList_eql (by rfl) .neq 9 _ _ _ rfl (.string ⟨#[]⟩) (.string ⟨#[]⟩) rfl rfl (.bool false) (guard_ne _ _ _ _) HNE.out ?_)
    cases hwg : whoB g with
    | true =>
      have HWG := Lib.hid hwg
      by_cases htg : whoT g = L
      · have HTG := Lib.hid htg
        have hpe : personE L = (g, 0) := by rw [HPG.out, if_pos ⟨hwg, htg⟩]
        have HPE : Hid (∀ W, EnvC W → Calls Tryz.prog 29 #[.string (txt L)] W fun e w' => e = .returned (.tuple #[.agg (whoA g), .int .i64 0]) ∧ Below W.heap.size W w') := fun W hW => by
          have := person_any L W hW (by have := HLL.out; omega)
          rw [hpe] at this; exact this
        have HEQ : Hid (∀ W, (binOp .eql 9 (.string (txt L)) (.string (txt L))).run Tryz.prog W = .ok (.bool true) W) := eq_self (txt L)
        clear hpe hwg htg
        refine (HPE.out w5 (HE.out.below HB5.out)).mono ?_
        rintro e w6 ⟨rfl, hb⟩
        have HB6 := Lib.hid (HB5.out.trans (hb.mono HB5.out.size))
        clear hb
        have HZ6 : Hid ((w6.alloc (.cells #[.string ⟨#[]⟩, .string ⟨#[]⟩, .int .i64 0, .string ⟨#[]⟩] 31)).heap[w6.heap.size]? = some (.cells #[.string ⟨#[]⟩, .string ⟨#[]⟩, .int .i64 0, .string ⟨#[]⟩] 31 (0, 0))) := heap_alloc_new _ _
        have HS6 : Hid (Below w6.heap.size w6 ((w6.alloc (.cells #[.string ⟨#[]⟩, .string ⟨#[]⟩, .int .i64 0, .string ⟨#[]⟩] 31)).setRow w6.heap.size (whoA g))) := below_setRow ((Below.refl _ _).alloc (Nat.le_refl _) _) (Nat.le_refl _) _
        have HR6 : Hid (((w6.alloc (.cells #[.string ⟨#[]⟩, .string ⟨#[]⟩, .int .i64 0, .string ⟨#[]⟩] 31)).setRow w6.heap.size (whoA g)).heap[w6.heap.size]? = some (.cells (whoA g) 31 (0, 0))) := setRow_heap _ _ _ _ _ _ HZ6.out
        go_wp2_with (first
          | refine wpList_store_row rfl 31 _ _ rfl w6.heap.size (whoA g) rfl rfl 31 #[.string ⟨#[]⟩, .string ⟨#[]⟩, .int .i64 0, .string ⟨#[]⟩] HZ6.out (info_who _) rfl (who_one _) ?_)
        obtain ⟨w7, hw6⟩ : ∃ X, (w6.alloc (.cells #[.string ⟨#[]⟩, .string ⟨#[]⟩, .int .i64 0, .string ⟨#[]⟩] 31)).setRow w6.heap.size (whoA g) = X := ⟨_, rfl⟩
        rw [hw6] at HS6 HR6 ⊢
        obtain ⟨zb, hb6⟩ : ∃ x, w6.heap.size = x := ⟨_, rfl⟩
        rw [hb6] at HR6 ⊢
        clear hw6 hb6 HZ6
        have HB7 := Lib.hid (HB6.out.trans (HS6.out.mono HB6.out.size))
        refine (HGE.out w7).mono ?_
        rintro e w8 ⟨rfl, hb⟩
        have HB8 := Lib.hid (HB7.out.trans (hb.mono HB7.out.size))
        have HR68 := Lib.hid ((hb.block zb (Array.getElem?_eq_some_iff.1 HR6.out).1).trans HR6.out)
        clear hb HR6
        have HZ8 : Hid ((w8.alloc (.cells #[.string ⟨#[]⟩, .string ⟨#[]⟩, .int .i64 0, .string ⟨#[]⟩] 25)).heap[w8.heap.size]? = some (.cells #[.string ⟨#[]⟩, .string ⟨#[]⟩, .int .i64 0, .string ⟨#[]⟩] 25 (0, 0))) := heap_alloc_new _ _
        have HS8 : Hid (Below w8.heap.size w8 ((w8.alloc (.cells #[.string ⟨#[]⟩, .string ⟨#[]⟩, .int .i64 0, .string ⟨#[]⟩] 25)).setRow w8.heap.size (whoA g))) := below_setRow ((Below.refl _ _).alloc (Nat.le_refl _) _) (Nat.le_refl _) _
        have HR8 : Hid (((w8.alloc (.cells #[.string ⟨#[]⟩, .string ⟨#[]⟩, .int .i64 0, .string ⟨#[]⟩] 25)).setRow w8.heap.size (whoA g)).heap[w8.heap.size]? = some (.cells (whoA g) 25 (0, 0))) := setRow_heap _ _ _ _ _ _ HZ8.out
        go_wp2_with (first
          | refine wpList_store_row rfl 25 _ _ rfl w8.heap.size (whoA g) rfl rfl 25 #[.string ⟨#[]⟩, .string ⟨#[]⟩, .int .i64 0, .string ⟨#[]⟩] HZ8.out (info_rwho _) rfl (who_one _) ?_
          | refine wpList_load_row rfl 25 _ rfl w8.heap.size rfl 25 (whoA g) (0, 0) _ HR8.out Tryz.underlying25 rfl (info_rwho g) ?_)
        obtain ⟨w0, hw8⟩ : ∃ X, (w8.alloc (.cells #[.string ⟨#[]⟩, .string ⟨#[]⟩, .int .i64 0, .string ⟨#[]⟩] 25)).setRow w8.heap.size (whoA g) = X := ⟨_, rfl⟩
        rw [hw8] at HS8 HR8 ⊢
        obtain ⟨gb, hb8⟩ : ∃ x, w8.heap.size = x := ⟨_, rfl⟩
        rw [hb8] at HR8 ⊢
        clear hw8 hb8 HZ8
        have HB0' := Lib.hid (HB8.out.trans (HS8.out.mono HB8.out.size))
        have HR60 := Lib.hid ((HS8.out.block zb (Array.getElem?_eq_some_iff.1 HR68.out).1).trans HR68.out)
        refine (rperson_any g w0 HGS.out).mono ?_
        rintro e w1' ⟨rfl, hb⟩
        rw [HWG.out]
        have HB1' := Lib.hid (HB0'.out.trans (hb.mono HB0'.out.size))
        have HR61 := Lib.hid ((hb.block zb (Array.getElem?_eq_some_iff.1 HR60.out).1).trans HR60.out)
        have HR81 := Lib.hid ((hb.block gb (Array.getElem?_eq_some_iff.1 HR8.out).1).trans HR8.out)
        clear hb HR60 HR8 HR68
        go_wp2_with (first
          | refine wpList_load_row_g rfl 25 _ rfl gb rfl 25 (whoA g) (0, 0) _ HR81.out Tryz.underlying25 rfl (info_rwho g) ?_)
        refine (rtext_any g w1' (HE.out.below HB1'.out) HGS.out).mono ?_
        rintro e w9 ⟨rfl, hb⟩
        have HB9 := Lib.hid (HB1'.out.trans (hb.mono HB1'.out.size))
        have HR62 := Lib.hid ((hb.block zb (Array.getElem?_eq_some_iff.1 HR61.out).1).trans HR61.out)
        have HR82 := Lib.hid ((hb.block gb (Array.getElem?_eq_some_iff.1 HR81.out).1).trans HR81.out)
        clear hb
        have HLZ : Hid (∀ W, Below w9.heap.size w9 W → W.rangeAt zb 0 (whoL g)) := fun W hW => who_range ((hW.block zb (Array.getElem?_eq_some_iff.1 HR62.out).1).trans HR62.out)
        have HLG : Hid (∀ W, Below w9.heap.size w9 W → W.rangeAt gb 0 (whoL g)) := fun W hW => who_range ((hW.block gb (Array.getElem?_eq_some_iff.1 HR82.out).1).trans HR82.out)
        clear HR62 HR82 HR61 HR81
        rw [HTG.out]
        go_wp2_with (first
          | refine wpList_eql (by rfl) .eql 9 _ _ _ rfl (.string (txt L)) (.string (txt L)) rfl rfl (.bool true) (guard_eq _ _ _ _) HEQ.out ?_)
        refine wp_region_noPanic ?_
        refine wp_region_held_drew (S := fun W => Below w9.heap.size w9 W) (by kernel_rfl) ?_ (fun hHeld => ?_)
        · exact (Below.refl _ _).drew
        refine wpAnyH_ready (rs := [0]) (by kernel_rfl) (by simp) ?_
        refine AllReadyH.cons (by simp only [List.getElem?_toArray, List.getElem?_cons_zero]; rfl) (fun K hK => ?_) AllReadyH.nil
        go_simp
        refine (known_any _ (HE.out.below (HB9.out.trans ((Below.refl w9.heap.size w9).drew.mono HB9.out.size)))).mono ?_
        rintro e v0 ⟨rfl, hb⟩
        have hv0 : Below w9.heap.size w9 v0 := (Below.refl _ _).drew.trans hb
        have HV0 := Lib.hid hv0
        clear hb hv0
        go_wp2_with fail
        refine hK.out _ _ (HV0.out) (fun hHeld2 => ?_)
        clear hK K hHeld
        have hHeld := hHeld2
        clear hHeld2
        try simp only [Act.put, List.setIfInBounds_toArray, List.set_cons_zero, List.set_cons_succ]
        refine wpAnyH_take (i := 1) (v := ?_) (by simp only [List.getElem?_toArray, List.getElem?_cons_succ, List.getElem?_cons_zero]; rfl) (by kernel_rfl) (by kernel_rfl) (by kernel_rfl) (fun _ _ _ h => h) (Or.inl ⟨by rfl, ?_⟩) (by assumption) ?_
        rotate_left
        · intro W hSW
          go_simp
          try with_reducible rfl
        try simp only [Act.put, List.setIfInBounds_toArray, List.set_cons_zero, List.set_cons_succ]
        refine wpAnyH_take (i := 2) (v := ?_) (by simp only [List.getElem?_toArray, List.getElem?_cons_succ, List.getElem?_cons_zero]; rfl) (by kernel_rfl) (by kernel_rfl) (by kernel_rfl) (fun _ _ _ h => h) (Or.inl ⟨by rfl, ?_⟩) (by assumption) ?_
        rotate_left
        · intro W hSW
          go_simp
          try with_reducible rfl
        try simp only [Act.put, List.setIfInBounds_toArray, List.set_cons_zero, List.set_cons_succ]
        refine wpAnyH_take (i := 3) (v := ?_) (by simp only [List.getElem?_toArray, List.getElem?_cons_succ, List.getElem?_cons_zero]; rfl) (by kernel_rfl) (by kernel_rfl) (by kernel_rfl) (fun _ _ _ h => h) (Or.inl ⟨by rfl, ?_⟩) (by assumption) ?_
        rotate_left
        · intro W hSW
          go_simp
          try with_reducible rfl
        try simp only [Act.put, List.setIfInBounds_toArray, List.set_cons_zero, List.set_cons_succ]
        refine wpAnyH_take (i := 4) (v := ?_) (by simp only [List.getElem?_toArray, List.getElem?_cons_succ, List.getElem?_cons_zero]; rfl) (by kernel_rfl) (by kernel_rfl) (by kernel_rfl) (fun _ _ _ h => h) (Or.inl ⟨by rfl, ?_⟩) (by assumption) ?_
        rotate_left
        · intro W hSW
          go_simp
          try with_reducible rfl
        try simp only [Act.put, List.setIfInBounds_toArray, List.set_cons_zero, List.set_cons_succ]
        refine wpAnyH_take (i := 5) (v := ?_) (by simp only [List.getElem?_toArray, List.getElem?_cons_succ, List.getElem?_cons_zero]; rfl) (by kernel_rfl) (by kernel_rfl) (by kernel_rfl) (fun _ _ _ h => h) (Or.inl ⟨by rfl, ?_⟩) (by assumption) ?_
        rotate_left
        · intro W hSW
          go_simp
          try with_reducible rfl
        try simp only [Act.put, List.setIfInBounds_toArray, List.set_cons_zero, List.set_cons_succ]
        refine wpAnyH_take (i := 6) (v := ?_) (by simp only [List.getElem?_toArray, List.getElem?_cons_succ, List.getElem?_cons_zero]; rfl) (by kernel_rfl) (by kernel_rfl) (by kernel_rfl) (fun _ _ _ h => h) (Or.inl ⟨by rfl, ?_⟩) (by assumption) ?_
        rotate_left
        · intro W hSW
          go_simp
          try with_reducible rfl
        try simp only [Act.put, List.setIfInBounds_toArray, List.set_cons_zero, List.set_cons_succ]
        refine wpAnyH_take (i := 7) (v := ?_) (by simp only [List.getElem?_toArray, List.getElem?_cons_succ, List.getElem?_cons_zero]; rfl) (by kernel_rfl) (by kernel_rfl) (by kernel_rfl) (fun _ _ _ h => h) (Or.inl ⟨by rfl, ?_⟩) (by assumption) ?_
        rotate_left
        · intro W hSW
          go_simp
          try with_reducible rfl
        try simp only [Act.put, List.setIfInBounds_toArray, List.set_cons_zero, List.set_cons_succ]
        refine wpAnyH_take (i := 8) (v := ?_) (by simp only [List.getElem?_toArray, List.getElem?_cons_succ, List.getElem?_cons_zero]; rfl) (by kernel_rfl) (by kernel_rfl) (by kernel_rfl) (fun _ _ _ h => h) (Or.inl ⟨by rfl, ?_⟩) (by assumption) ?_
        rotate_left
        · intro W hSW
          go_simp
          try with_reducible rfl
        try simp only [Act.put, List.setIfInBounds_toArray, List.set_cons_zero, List.set_cons_succ]
        refine wpAnyH_take (i := 9) (v := ?_) (by simp only [List.getElem?_toArray, List.getElem?_cons_succ, List.getElem?_cons_zero]; rfl) (by kernel_rfl) (by kernel_rfl) (by kernel_rfl) (fun _ _ _ h => h) (Or.inl ⟨by rfl, ?_⟩) (by assumption) ?_
        rotate_left
        · intro W hSW
          go_simp
          try with_reducible rfl
        try simp only [Act.put, List.setIfInBounds_toArray, List.set_cons_zero, List.set_cons_succ]
        refine wpAnyH_take (i := 10) (v := ?_) (by simp only [List.getElem?_toArray, List.getElem?_cons_succ, List.getElem?_cons_zero]; rfl) (by kernel_rfl) (by kernel_rfl) (by kernel_rfl) (fun _ _ _ h => h) (Or.inl ⟨by rfl, ?_⟩) (by assumption) ?_
        rotate_left
        · intro W hSW
          go_simp
          try with_reducible rfl
        try simp only [Act.put, List.setIfInBounds_toArray, List.set_cons_zero, List.set_cons_succ]
        refine wpAnyH_take (i := 11) (by simp only [List.getElem?_toArray, List.getElem?_cons_succ, List.getElem?_cons_zero]; rfl) (by kernel_rfl) (by kernel_rfl) (by kernel_rfl) (fun _ _ _ h => h) (yieldsIf_load_mid (by rfl) 31 _ rfl zb 0 rfl (whoL g) _ (fun W hSW => HLZ.out W hSW) Tryz.underlying31 rfl (info_whoL g)) (by assumption) ?_
        try simp only [Act.put, List.setIfInBounds_toArray, List.set_cons_zero, List.set_cons_succ]
        refine wpAnyH_take (i := 13) (by simp only [List.getElem?_toArray, List.getElem?_cons_succ, List.getElem?_cons_zero]; rfl) (by kernel_rfl) (by kernel_rfl) (by kernel_rfl) (fun _ _ _ h => h) (yieldsIf_load_mid (by rfl) 25 _ rfl gb 0 rfl (whoL g) _ (fun W hSW => HLG.out W hSW) Tryz.underlying25 rfl (info_rwhoL g)) (by assumption) ?_
        try simp only [Act.put, List.setIfInBounds_toArray, List.set_cons_zero, List.set_cons_succ]
        try rw [show (whoL g).toArray = whoA g from rfl]
        refine wpAnyH_ready (rs := [12]) (by kernel_rfl) (by simp) ?_
        refine AllReadyH.cons (by simp only [List.getElem?_toArray, List.getElem?_cons_succ, List.getElem?_cons_zero]; rfl) (fun K hK => ?_) AllReadyH.nil
        go_simp
        refine (whoof_any g _).mono ?_
        rintro e v1 ⟨rfl, hb⟩
        have hv1 : Below w9.heap.size w9 v1 := HV0.out.trans (hb.mono HV0.out.size)
        have HV1 := Lib.hid hv1
        clear hb hv1
        go_wp2_with fail
        refine hK.out _ _ (HV1.out) (fun hHeld2 => ?_)
        clear hK K hHeld
        have hHeld := hHeld2
        clear hHeld2
        try simp only [Act.put, List.setIfInBounds_toArray, List.set_cons_zero, List.set_cons_succ]
        refine wpAnyH_take (i := 14) (by simp only [List.getElem?_toArray, List.getElem?_cons_succ, List.getElem?_cons_zero]; rfl) (by kernel_rfl) (by kernel_rfl) (by kernel_rfl) (fun _ _ _ h => h) (yieldsIf_eql (by rfl) .eql 25 _ _ _ rfl (.agg (whoA g)) (.agg (whoA g)) rfl rfl (.bool true) (guarde_rwho _ _ _ _) (eql_rwho g)) (by assumption) ?_
        try simp only [Act.put, List.setIfInBounds_toArray, List.set_cons_zero, List.set_cons_succ]
        refine wpAnyH_take (i := 15) (v := ?_) (by simp only [List.getElem?_toArray, List.getElem?_cons_succ, List.getElem?_cons_zero]; rfl) (by kernel_rfl) (by kernel_rfl) (by kernel_rfl) (fun _ _ _ h => h) (Or.inl ⟨by rfl, ?_⟩) (by assumption) ?_
        rotate_left
        · intro W hSW
          go_simp
          try with_reducible rfl
        try simp only [Act.put, List.setIfInBounds_toArray, List.set_cons_zero, List.set_cons_succ]
        refine wpAnyH_take (i := 16) (v := ?_) (by simp only [List.getElem?_toArray, List.getElem?_cons_succ, List.getElem?_cons_zero]; rfl) (by kernel_rfl) (by kernel_rfl) (by kernel_rfl) (fun _ _ _ h => h) (Or.inl ⟨by rfl, ?_⟩) (by assumption) ?_
        rotate_left
        · intro W hSW
          go_simp
          try with_reducible rfl
        try simp only [Act.put, List.setIfInBounds_toArray, List.set_cons_zero, List.set_cons_succ]
        refine wpAnyH_take (i := 17) (v := ?_) (by simp only [List.getElem?_toArray, List.getElem?_cons_succ, List.getElem?_cons_zero]; rfl) (by kernel_rfl) (by kernel_rfl) (by kernel_rfl) (fun _ _ _ h => h) (Or.inl ⟨by rfl, ?_⟩) (by assumption) ?_
        rotate_left
        · intro W hSW
          go_simp
          try with_reducible rfl
        try simp only [Act.put, List.setIfInBounds_toArray, List.set_cons_zero, List.set_cons_succ]
        refine wpAnyH_take (i := 18) (v := ?_) (by simp only [List.getElem?_toArray, List.getElem?_cons_succ, List.getElem?_cons_zero]; rfl) (by kernel_rfl) (by kernel_rfl) (by kernel_rfl) (fun _ _ _ h => h) (Or.inl ⟨by rfl, ?_⟩) (by assumption) ?_
        rotate_left
        · intro W hSW
          go_simp
          try with_reducible rfl
        try simp only [Act.put, List.setIfInBounds_toArray, List.set_cons_zero, List.set_cons_succ]
        refine wpAnyH_take (i := 19) (v := ?_) (by simp only [List.getElem?_toArray, List.getElem?_cons_succ, List.getElem?_cons_zero]; rfl) (by kernel_rfl) (by kernel_rfl) (by kernel_rfl) (fun _ _ _ h => h) (Or.inl ⟨by rfl, ?_⟩) (by assumption) ?_
        rotate_left
        · intro W hSW
          go_simp
          try with_reducible rfl
        try simp only [Act.put, List.setIfInBounds_toArray, List.set_cons_zero, List.set_cons_succ]
        refine wpAnyH_take (i := 20) (v := undef) (by simp only [List.getElem?_toArray, List.getElem?_cons_succ, List.getElem?_cons_zero]; rfl) (by kernel_rfl) (by kernel_rfl) (by kernel_rfl) (fun _ _ _ h => h) (Or.inr ⟨by rfl, rfl⟩) (by assumption) ?_
        try simp only [Act.put, List.setIfInBounds_toArray, List.set_cons_zero, List.set_cons_succ]
        refine wpAnyH_take (i := 21) (v := undef) (by simp only [List.getElem?_toArray, List.getElem?_cons_succ, List.getElem?_cons_zero]; rfl) (by kernel_rfl) (by kernel_rfl) (by kernel_rfl) (fun _ _ _ h => h) (Or.inr ⟨by rfl, rfl⟩) (by assumption) ?_
        try simp only [Act.put, List.setIfInBounds_toArray, List.set_cons_zero, List.set_cons_succ]
        refine wpAnyH_take (i := 22) (v := undef) (by simp only [List.getElem?_toArray, List.getElem?_cons_succ, List.getElem?_cons_zero]; rfl) (by kernel_rfl) (by kernel_rfl) (by kernel_rfl) (fun _ _ _ h => h) (Or.inr ⟨by rfl, rfl⟩) (by assumption) ?_
        try simp only [Act.put, List.setIfInBounds_toArray, List.set_cons_zero, List.set_cons_succ]
        refine wpAnyH_take (i := 23) (v := undef) (by simp only [List.getElem?_toArray, List.getElem?_cons_succ, List.getElem?_cons_zero]; rfl) (by kernel_rfl) (by kernel_rfl) (by kernel_rfl) (fun _ _ _ h => h) (Or.inr ⟨by rfl, rfl⟩) (by assumption) ?_
        try simp only [Act.put, List.setIfInBounds_toArray, List.set_cons_zero, List.set_cons_succ]
        refine wpAnyH_take (i := 24) (v := undef) (by simp only [List.getElem?_toArray, List.getElem?_cons_succ, List.getElem?_cons_zero]; rfl) (by kernel_rfl) (by kernel_rfl) (by kernel_rfl) (fun _ _ _ h => h) (Or.inr ⟨by rfl, rfl⟩) (by assumption) ?_
        try simp only [Act.put, List.setIfInBounds_toArray, List.set_cons_zero, List.set_cons_succ]
        refine wpAnyH_take (i := 25) (v := undef) (by simp only [List.getElem?_toArray, List.getElem?_cons_succ, List.getElem?_cons_zero]; rfl) (by kernel_rfl) (by kernel_rfl) (by kernel_rfl) (fun _ _ _ h => h) (Or.inr ⟨by rfl, rfl⟩) (by assumption) ?_
        try simp only [Act.put, List.setIfInBounds_toArray, List.set_cons_zero, List.set_cons_succ]
        refine wpAnyH_take (i := 26) (v := undef) (by simp only [List.getElem?_toArray, List.getElem?_cons_succ, List.getElem?_cons_zero]; rfl) (by kernel_rfl) (by kernel_rfl) (by kernel_rfl) (fun _ _ _ h => h) (Or.inr ⟨by rfl, rfl⟩) (by assumption) ?_
        try simp only [Act.put, List.setIfInBounds_toArray, List.set_cons_zero, List.set_cons_succ]
        refine wpAnyH_take (i := 27) (v := ?_) (by simp only [List.getElem?_toArray, List.getElem?_cons_succ, List.getElem?_cons_zero]; rfl) (by kernel_rfl) (by kernel_rfl) (by kernel_rfl) (fun _ _ _ h => h) (Or.inl ⟨by rfl, ?_⟩) (by assumption) ?_
        rotate_left
        · intro W hSW
          go_simp
          try with_reducible rfl
        try simp only [Act.put, List.setIfInBounds_toArray, List.set_cons_zero, List.set_cons_succ]
        refine wpAnyH_take (i := 28) (v := ?_) (by simp only [List.getElem?_toArray, List.getElem?_cons_succ, List.getElem?_cons_zero]; rfl) (by kernel_rfl) (by kernel_rfl) (by kernel_rfl) (fun _ _ _ h => h) (Or.inl ⟨by rfl, ?_⟩) (by assumption) ?_
        rotate_left
        · intro W hSW
          go_simp
          try with_reducible rfl
        try simp only [Act.put, List.setIfInBounds_toArray, List.set_cons_zero, List.set_cons_succ]
        refine wpAnyH_take (i := 29) (v := ?_) (by simp only [List.getElem?_toArray, List.getElem?_cons_succ, List.getElem?_cons_zero]; rfl) (by kernel_rfl) (by kernel_rfl) (by kernel_rfl) (fun _ _ _ h => h) (Or.inl ⟨by rfl, ?_⟩) (by assumption) ?_
        rotate_left
        · intro W hSW
          go_simp
          try with_reducible rfl
        try simp only [Act.put, List.setIfInBounds_toArray, List.set_cons_zero, List.set_cons_succ]
        refine wpAnyH_done (by kernel_rfl) ?_ _
        refine NoPanic.normal ?_
        clear hHeld
        go_wp2_with fail
        go_ret
        exact ⟨rfl, HB9.out.trans (HV1.out.mono HB9.out.size)⟩
      · have hpe : personE L = (wzero, 4) := by rw [HPG.out, if_neg (fun h => htg h.2)]
        have HPE : Hid (∀ W, EnvC W → Calls Tryz.prog 29 #[.string (txt L)] W fun e w' => e = .returned (.tuple #[.agg (whoA wzero), .int .i64 4]) ∧ Below W.heap.size W w') := fun W hW => by
          have := person_any L W hW (by have := HLL.out; omega)
          rw [hpe] at this; exact this
        have HEQ : Hid (∀ W, (binOp .eql 9 (.string (txt (whoT g))) (.string (txt L))).run Tryz.prog W = .ok (.bool false) W) := fun W => by
          rw [str_eql, txt_list, txt_list, show (whoT g == L) = false from by rw [Bool.eq_false_iff]; intro h; exact htg (eq_of_beq h)]
        clear hpe hwg htg
        refine (HPE.out w5 (HE.out.below HB5.out)).mono ?_
        rintro e w6 ⟨rfl, hb⟩
        have HB6 := Lib.hid (HB5.out.trans (hb.mono HB5.out.size))
        clear hb
        have HZ6 : Hid ((w6.alloc (.cells #[.string ⟨#[]⟩, .string ⟨#[]⟩, .int .i64 0, .string ⟨#[]⟩] 31)).heap[w6.heap.size]? = some (.cells #[.string ⟨#[]⟩, .string ⟨#[]⟩, .int .i64 0, .string ⟨#[]⟩] 31 (0, 0))) := heap_alloc_new _ _
        have HS6 : Hid (Below w6.heap.size w6 ((w6.alloc (.cells #[.string ⟨#[]⟩, .string ⟨#[]⟩, .int .i64 0, .string ⟨#[]⟩] 31)).setRow w6.heap.size (whoA wzero))) := below_setRow ((Below.refl _ _).alloc (Nat.le_refl _) _) (Nat.le_refl _) _
        have HR6 : Hid (((w6.alloc (.cells #[.string ⟨#[]⟩, .string ⟨#[]⟩, .int .i64 0, .string ⟨#[]⟩] 31)).setRow w6.heap.size (whoA wzero)).heap[w6.heap.size]? = some (.cells (whoA wzero) 31 (0, 0))) := setRow_heap _ _ _ _ _ _ HZ6.out
        go_wp2_with (first
          | refine wpList_store_row rfl 31 _ _ rfl w6.heap.size (whoA wzero) rfl rfl 31 #[.string ⟨#[]⟩, .string ⟨#[]⟩, .int .i64 0, .string ⟨#[]⟩] HZ6.out (info_who _) rfl (who_one _) ?_)
        obtain ⟨w7, hw6⟩ : ∃ X, (w6.alloc (.cells #[.string ⟨#[]⟩, .string ⟨#[]⟩, .int .i64 0, .string ⟨#[]⟩] 31)).setRow w6.heap.size (whoA wzero) = X := ⟨_, rfl⟩
        rw [hw6] at HS6 HR6 ⊢
        obtain ⟨zb, hb6⟩ : ∃ x, w6.heap.size = x := ⟨_, rfl⟩
        rw [hb6] at HR6 ⊢
        clear hw6 hb6 HZ6
        have HB7 := Lib.hid (HB6.out.trans (HS6.out.mono HB6.out.size))
        refine (HGE.out w7).mono ?_
        rintro e w8 ⟨rfl, hb⟩
        have HB8 := Lib.hid (HB7.out.trans (hb.mono HB7.out.size))
        have HR68 := Lib.hid ((hb.block zb (Array.getElem?_eq_some_iff.1 HR6.out).1).trans HR6.out)
        clear hb HR6
        have HZ8 : Hid ((w8.alloc (.cells #[.string ⟨#[]⟩, .string ⟨#[]⟩, .int .i64 0, .string ⟨#[]⟩] 25)).heap[w8.heap.size]? = some (.cells #[.string ⟨#[]⟩, .string ⟨#[]⟩, .int .i64 0, .string ⟨#[]⟩] 25 (0, 0))) := heap_alloc_new _ _
        have HS8 : Hid (Below w8.heap.size w8 ((w8.alloc (.cells #[.string ⟨#[]⟩, .string ⟨#[]⟩, .int .i64 0, .string ⟨#[]⟩] 25)).setRow w8.heap.size (whoA g))) := below_setRow ((Below.refl _ _).alloc (Nat.le_refl _) _) (Nat.le_refl _) _
        have HR8 : Hid (((w8.alloc (.cells #[.string ⟨#[]⟩, .string ⟨#[]⟩, .int .i64 0, .string ⟨#[]⟩] 25)).setRow w8.heap.size (whoA g)).heap[w8.heap.size]? = some (.cells (whoA g) 25 (0, 0))) := setRow_heap _ _ _ _ _ _ HZ8.out
        go_wp2_with (first
          | refine wpList_store_row rfl 25 _ _ rfl w8.heap.size (whoA g) rfl rfl 25 #[.string ⟨#[]⟩, .string ⟨#[]⟩, .int .i64 0, .string ⟨#[]⟩] HZ8.out (info_rwho _) rfl (who_one _) ?_
          | refine wpList_load_row rfl 25 _ rfl w8.heap.size rfl 25 (whoA g) (0, 0) _ HR8.out Tryz.underlying25 rfl (info_rwho g) ?_)
        obtain ⟨w0, hw8⟩ : ∃ X, (w8.alloc (.cells #[.string ⟨#[]⟩, .string ⟨#[]⟩, .int .i64 0, .string ⟨#[]⟩] 25)).setRow w8.heap.size (whoA g) = X := ⟨_, rfl⟩
        rw [hw8] at HS8 HR8 ⊢
        obtain ⟨gb, hb8⟩ : ∃ x, w8.heap.size = x := ⟨_, rfl⟩
        rw [hb8] at HR8 ⊢
        clear hw8 hb8 HZ8
        have HB0' := Lib.hid (HB8.out.trans (HS8.out.mono HB8.out.size))
        have HR60 := Lib.hid ((HS8.out.block zb (Array.getElem?_eq_some_iff.1 HR68.out).1).trans HR68.out)
        refine (rperson_any g w0 HGS.out).mono ?_
        rintro e w1' ⟨rfl, hb⟩
        rw [HWG.out]
        have HB1' := Lib.hid (HB0'.out.trans (hb.mono HB0'.out.size))
        have HR61 := Lib.hid ((hb.block zb (Array.getElem?_eq_some_iff.1 HR60.out).1).trans HR60.out)
        have HR81 := Lib.hid ((hb.block gb (Array.getElem?_eq_some_iff.1 HR8.out).1).trans HR8.out)
        clear hb HR60 HR8 HR68
        go_wp2_with (first
          | refine wpList_load_row_g rfl 25 _ rfl gb rfl 25 (whoA g) (0, 0) _ HR81.out Tryz.underlying25 rfl (info_rwho g) ?_)
        refine (rtext_any g w1' (HE.out.below HB1'.out) HGS.out).mono ?_
        rintro e w9 ⟨rfl, hb⟩
        have HB9 := Lib.hid (HB1'.out.trans (hb.mono HB1'.out.size))
        have HR62 := Lib.hid ((hb.block zb (Array.getElem?_eq_some_iff.1 HR61.out).1).trans HR61.out)
        have HR82 := Lib.hid ((hb.block gb (Array.getElem?_eq_some_iff.1 HR81.out).1).trans HR81.out)
        clear hb
        have HLZ : Hid (∀ W, Below w9.heap.size w9 W → W.rangeAt zb 0 (whoL wzero)) := fun W hW => who_range ((hW.block zb (Array.getElem?_eq_some_iff.1 HR62.out).1).trans HR62.out)
        have HLG : Hid (∀ W, Below w9.heap.size w9 W → W.rangeAt gb 0 (whoL g)) := fun W hW => who_range ((hW.block gb (Array.getElem?_eq_some_iff.1 HR82.out).1).trans HR82.out)
        clear HR62 HR82 HR61 HR81
        go_wp2_with (first
          | refine wpList_eql (by rfl) .eql 9 _ _ _ rfl (.string (txt (whoT g))) (.string (txt L)) rfl rfl (.bool false) (guard_eq _ _ _ _) HEQ.out ?_)
        refine wp_region_noPanic ?_
        refine wp_region_held_drew (S := fun W => Below w9.heap.size w9 W) (by kernel_rfl) ?_ (fun hHeld => ?_)
        · exact (Below.refl _ _).drew
        refine wpAnyH_ready (rs := [0]) (by kernel_rfl) (by simp) ?_
        refine AllReadyH.cons (by simp only [List.getElem?_toArray, List.getElem?_cons_zero]; rfl) (fun K hK => ?_) AllReadyH.nil
        go_simp
        refine (known_any _ (HE.out.below (HB9.out.trans ((Below.refl w9.heap.size w9).drew.mono HB9.out.size)))).mono ?_
        rintro e v0 ⟨rfl, hb⟩
        have hv0 : Below w9.heap.size w9 v0 := (Below.refl _ _).drew.trans hb
        have HV0 := Lib.hid hv0
        clear hb hv0
        go_wp2_with fail
        refine hK.out _ _ (HV0.out) (fun hHeld2 => ?_)
        clear hK K hHeld
        have hHeld := hHeld2
        clear hHeld2
        try simp only [Act.put, List.setIfInBounds_toArray, List.set_cons_zero, List.set_cons_succ]
        refine wpAnyH_take (i := 1) (v := ?_) (by simp only [List.getElem?_toArray, List.getElem?_cons_succ, List.getElem?_cons_zero]; rfl) (by kernel_rfl) (by kernel_rfl) (by kernel_rfl) (fun _ _ _ h => h) (Or.inl ⟨by rfl, ?_⟩) (by assumption) ?_
        rotate_left
        · intro W hSW
          go_simp
          try with_reducible rfl
        try simp only [Act.put, List.setIfInBounds_toArray, List.set_cons_zero, List.set_cons_succ]
        refine wpAnyH_take (i := 2) (v := ?_) (by simp only [List.getElem?_toArray, List.getElem?_cons_succ, List.getElem?_cons_zero]; rfl) (by kernel_rfl) (by kernel_rfl) (by kernel_rfl) (fun _ _ _ h => h) (Or.inl ⟨by rfl, ?_⟩) (by assumption) ?_
        rotate_left
        · intro W hSW
          go_simp
          try with_reducible rfl
        try simp only [Act.put, List.setIfInBounds_toArray, List.set_cons_zero, List.set_cons_succ]
        refine wpAnyH_take (i := 3) (v := ?_) (by simp only [List.getElem?_toArray, List.getElem?_cons_succ, List.getElem?_cons_zero]; rfl) (by kernel_rfl) (by kernel_rfl) (by kernel_rfl) (fun _ _ _ h => h) (Or.inl ⟨by rfl, ?_⟩) (by assumption) ?_
        rotate_left
        · intro W hSW
          go_simp
          try with_reducible rfl
        try simp only [Act.put, List.setIfInBounds_toArray, List.set_cons_zero, List.set_cons_succ]
        refine wpAnyH_take (i := 4) (v := ?_) (by simp only [List.getElem?_toArray, List.getElem?_cons_succ, List.getElem?_cons_zero]; rfl) (by kernel_rfl) (by kernel_rfl) (by kernel_rfl) (fun _ _ _ h => h) (Or.inl ⟨by rfl, ?_⟩) (by assumption) ?_
        rotate_left
        · intro W hSW
          go_simp
          try with_reducible rfl
        try simp only [Act.put, List.setIfInBounds_toArray, List.set_cons_zero, List.set_cons_succ]
        refine wpAnyH_take (i := 5) (v := ?_) (by simp only [List.getElem?_toArray, List.getElem?_cons_succ, List.getElem?_cons_zero]; rfl) (by kernel_rfl) (by kernel_rfl) (by kernel_rfl) (fun _ _ _ h => h) (Or.inl ⟨by rfl, ?_⟩) (by assumption) ?_
        rotate_left
        · intro W hSW
          go_simp
          try with_reducible rfl
        try simp only [Act.put, List.setIfInBounds_toArray, List.set_cons_zero, List.set_cons_succ]
        refine wpAnyH_take (i := 6) (v := ?_) (by simp only [List.getElem?_toArray, List.getElem?_cons_succ, List.getElem?_cons_zero]; rfl) (by kernel_rfl) (by kernel_rfl) (by kernel_rfl) (fun _ _ _ h => h) (Or.inl ⟨by rfl, ?_⟩) (by assumption) ?_
        rotate_left
        · intro W hSW
          go_simp
          try with_reducible rfl
        try simp only [Act.put, List.setIfInBounds_toArray, List.set_cons_zero, List.set_cons_succ]
        refine wpAnyH_take (i := 7) (v := ?_) (by simp only [List.getElem?_toArray, List.getElem?_cons_succ, List.getElem?_cons_zero]; rfl) (by kernel_rfl) (by kernel_rfl) (by kernel_rfl) (fun _ _ _ h => h) (Or.inl ⟨by rfl, ?_⟩) (by assumption) ?_
        rotate_left
        · intro W hSW
          go_simp
          try with_reducible rfl
        try simp only [Act.put, List.setIfInBounds_toArray, List.set_cons_zero, List.set_cons_succ]
        refine wpAnyH_take (i := 8) (v := ?_) (by simp only [List.getElem?_toArray, List.getElem?_cons_succ, List.getElem?_cons_zero]; rfl) (by kernel_rfl) (by kernel_rfl) (by kernel_rfl) (fun _ _ _ h => h) (Or.inl ⟨by rfl, ?_⟩) (by assumption) ?_
        rotate_left
        · intro W hSW
          go_simp
          try with_reducible rfl
        try simp only [Act.put, List.setIfInBounds_toArray, List.set_cons_zero, List.set_cons_succ]
        refine wpAnyH_take (i := 9) (v := ?_) (by simp only [List.getElem?_toArray, List.getElem?_cons_succ, List.getElem?_cons_zero]; rfl) (by kernel_rfl) (by kernel_rfl) (by kernel_rfl) (fun _ _ _ h => h) (Or.inl ⟨by rfl, ?_⟩) (by assumption) ?_
        rotate_left
        · intro W hSW
          go_simp
          try with_reducible rfl
        try simp only [Act.put, List.setIfInBounds_toArray, List.set_cons_zero, List.set_cons_succ]
        refine wpAnyH_take (i := 10) (v := ?_) (by simp only [List.getElem?_toArray, List.getElem?_cons_succ, List.getElem?_cons_zero]; rfl) (by kernel_rfl) (by kernel_rfl) (by kernel_rfl) (fun _ _ _ h => h) (Or.inl ⟨by rfl, ?_⟩) (by assumption) ?_
        rotate_left
        · intro W hSW
          go_simp
          try with_reducible rfl
        try simp only [Act.put, List.setIfInBounds_toArray, List.set_cons_zero, List.set_cons_succ]
        refine wpAnyH_take (i := 11) (v := undef) (by simp only [List.getElem?_toArray, List.getElem?_cons_succ, List.getElem?_cons_zero]; rfl) (by kernel_rfl) (by kernel_rfl) (by kernel_rfl) (fun _ _ _ h => h) (Or.inr ⟨by rfl, rfl⟩) (by assumption) ?_
        try simp only [Act.put, List.setIfInBounds_toArray, List.set_cons_zero, List.set_cons_succ]
        refine wpAnyH_take (i := 12) (v := undef) (by simp only [List.getElem?_toArray, List.getElem?_cons_succ, List.getElem?_cons_zero]; rfl) (by kernel_rfl) (by kernel_rfl) (by kernel_rfl) (fun _ _ _ h => h) (Or.inr ⟨by rfl, rfl⟩) (by assumption) ?_
        try simp only [Act.put, List.setIfInBounds_toArray, List.set_cons_zero, List.set_cons_succ]
        refine wpAnyH_take (i := 13) (v := undef) (by simp only [List.getElem?_toArray, List.getElem?_cons_succ, List.getElem?_cons_zero]; rfl) (by kernel_rfl) (by kernel_rfl) (by kernel_rfl) (fun _ _ _ h => h) (Or.inr ⟨by rfl, rfl⟩) (by assumption) ?_
        try simp only [Act.put, List.setIfInBounds_toArray, List.set_cons_zero, List.set_cons_succ]
        refine wpAnyH_take (i := 14) (v := undef) (by simp only [List.getElem?_toArray, List.getElem?_cons_succ, List.getElem?_cons_zero]; rfl) (by kernel_rfl) (by kernel_rfl) (by kernel_rfl) (fun _ _ _ h => h) (Or.inr ⟨by rfl, rfl⟩) (by assumption) ?_
        try simp only [Act.put, List.setIfInBounds_toArray, List.set_cons_zero, List.set_cons_succ]
        refine wpAnyH_take (i := 15) (v := ?_) (by simp only [List.getElem?_toArray, List.getElem?_cons_succ, List.getElem?_cons_zero]; rfl) (by kernel_rfl) (by kernel_rfl) (by kernel_rfl) (fun _ _ _ h => h) (Or.inl ⟨by rfl, ?_⟩) (by assumption) ?_
        rotate_left
        · intro W hSW
          go_simp
          try with_reducible rfl
        try simp only [Act.put, List.setIfInBounds_toArray, List.set_cons_zero, List.set_cons_succ]
        refine wpAnyH_take (i := 16) (v := ?_) (by simp only [List.getElem?_toArray, List.getElem?_cons_succ, List.getElem?_cons_zero]; rfl) (by kernel_rfl) (by kernel_rfl) (by kernel_rfl) (fun _ _ _ h => h) (Or.inl ⟨by rfl, ?_⟩) (by assumption) ?_
        rotate_left
        · intro W hSW
          go_simp
          try with_reducible rfl
        try simp only [Act.put, List.setIfInBounds_toArray, List.set_cons_zero, List.set_cons_succ]
        refine wpAnyH_take (i := 17) (v := ?_) (by simp only [List.getElem?_toArray, List.getElem?_cons_succ, List.getElem?_cons_zero]; rfl) (by kernel_rfl) (by kernel_rfl) (by kernel_rfl) (fun _ _ _ h => h) (Or.inl ⟨by rfl, ?_⟩) (by assumption) ?_
        rotate_left
        · intro W hSW
          go_simp
          try with_reducible rfl
        try simp only [Act.put, List.setIfInBounds_toArray, List.set_cons_zero, List.set_cons_succ]
        refine wpAnyH_take (i := 18) (v := ?_) (by simp only [List.getElem?_toArray, List.getElem?_cons_succ, List.getElem?_cons_zero]; rfl) (by kernel_rfl) (by kernel_rfl) (by kernel_rfl) (fun _ _ _ h => h) (Or.inl ⟨by rfl, ?_⟩) (by assumption) ?_
        rotate_left
        · intro W hSW
          go_simp
          try with_reducible rfl
        try simp only [Act.put, List.setIfInBounds_toArray, List.set_cons_zero, List.set_cons_succ]
        refine wpAnyH_take (i := 19) (v := ?_) (by simp only [List.getElem?_toArray, List.getElem?_cons_succ, List.getElem?_cons_zero]; rfl) (by kernel_rfl) (by kernel_rfl) (by kernel_rfl) (fun _ _ _ h => h) (Or.inl ⟨by rfl, ?_⟩) (by assumption) ?_
        rotate_left
        · intro W hSW
          go_simp
          try with_reducible rfl
        try simp only [Act.put, List.setIfInBounds_toArray, List.set_cons_zero, List.set_cons_succ]
        refine wpAnyH_take (i := 20) (v := ?_) (by simp only [List.getElem?_toArray, List.getElem?_cons_succ, List.getElem?_cons_zero]; rfl) (by kernel_rfl) (by kernel_rfl) (by kernel_rfl) (fun _ _ _ h => h) (Or.inl ⟨by rfl, ?_⟩) (by assumption) ?_
        rotate_left
        · intro W hSW
          go_simp
          try with_reducible rfl
        try simp only [Act.put, List.setIfInBounds_toArray, List.set_cons_zero, List.set_cons_succ]
        refine wpAnyH_take (i := 21) (v := ?_) (by simp only [List.getElem?_toArray, List.getElem?_cons_succ, List.getElem?_cons_zero]; rfl) (by kernel_rfl) (by kernel_rfl) (by kernel_rfl) (fun _ _ _ h => h) (Or.inl ⟨by rfl, ?_⟩) (by assumption) ?_
        rotate_left
        · intro W hSW
          go_simp
          try with_reducible rfl
        try simp only [Act.put, List.setIfInBounds_toArray, List.set_cons_zero, List.set_cons_succ]
        refine wpAnyH_take (i := 22) (v := ?_) (by simp only [List.getElem?_toArray, List.getElem?_cons_succ, List.getElem?_cons_zero]; rfl) (by kernel_rfl) (by kernel_rfl) (by kernel_rfl) (fun _ _ _ h => h) (Or.inl ⟨by rfl, ?_⟩) (by assumption) ?_
        rotate_left
        · intro W hSW
          go_simp
          try with_reducible rfl
        try simp only [Act.put, List.setIfInBounds_toArray, List.set_cons_zero, List.set_cons_succ]
        refine wpAnyH_take (i := 23) (by simp only [List.getElem?_toArray, List.getElem?_cons_succ, List.getElem?_cons_zero]; rfl) (by kernel_rfl) (by kernel_rfl) (by kernel_rfl) (fun _ _ _ h => h) (yieldsIf_load_mid (by rfl) 31 _ rfl zb 0 rfl (whoL wzero) _ (fun W hSW => HLZ.out W hSW) Tryz.underlying31 rfl (info_whoL wzero)) (by assumption) ?_
        try simp only [Act.put, List.setIfInBounds_toArray, List.set_cons_zero, List.set_cons_succ]
        try rw [show (whoL wzero).toArray = whoA wzero from rfl]
        refine wpAnyH_take (i := 24) (by simp only [List.getElem?_toArray, List.getElem?_cons_succ, List.getElem?_cons_zero]; rfl) (by kernel_rfl) (by kernel_rfl) (by kernel_rfl) (fun _ _ _ h => h) (yieldsIf_build (by rfl) _ _ rfl #[] (by simp) (.agg (whoA wzero)) build_who0) (by assumption) ?_
        try simp only [Act.put, List.setIfInBounds_toArray, List.set_cons_zero, List.set_cons_succ]
        refine wpAnyH_take (i := 25) (by simp only [List.getElem?_toArray, List.getElem?_cons_succ, List.getElem?_cons_zero]; rfl) (by kernel_rfl) (by kernel_rfl) (by kernel_rfl) (fun _ _ _ h => h) (yieldsIf_eql (by rfl) .eql 31 _ _ _ rfl (.agg (whoA wzero)) (.agg (whoA wzero)) rfl rfl (.bool true) (guarde_who _ _ _ _) (eql_who wzero)) (by assumption) ?_
        try simp only [Act.put, List.setIfInBounds_toArray, List.set_cons_zero, List.set_cons_succ]
        refine wpAnyH_take (i := 26) (v := ?_) (by simp only [List.getElem?_toArray, List.getElem?_cons_succ, List.getElem?_cons_zero]; rfl) (by kernel_rfl) (by kernel_rfl) (by kernel_rfl) (fun _ _ _ h => h) (Or.inl ⟨by rfl, ?_⟩) (by assumption) ?_
        rotate_left
        · intro W hSW
          go_simp
          try with_reducible rfl
        try simp only [Act.put, List.setIfInBounds_toArray, List.set_cons_zero, List.set_cons_succ]
        refine wpAnyH_take (i := 27) (v := ?_) (by simp only [List.getElem?_toArray, List.getElem?_cons_succ, List.getElem?_cons_zero]; rfl) (by kernel_rfl) (by kernel_rfl) (by kernel_rfl) (fun _ _ _ h => h) (Or.inl ⟨by rfl, ?_⟩) (by assumption) ?_
        rotate_left
        · intro W hSW
          go_simp
          try with_reducible rfl
        try simp only [Act.put, List.setIfInBounds_toArray, List.set_cons_zero, List.set_cons_succ]
        refine wpAnyH_take (i := 28) (v := ?_) (by simp only [List.getElem?_toArray, List.getElem?_cons_succ, List.getElem?_cons_zero]; rfl) (by kernel_rfl) (by kernel_rfl) (by kernel_rfl) (fun _ _ _ h => h) (Or.inl ⟨by rfl, ?_⟩) (by assumption) ?_
        rotate_left
        · intro W hSW
          go_simp
          try with_reducible rfl
        try simp only [Act.put, List.setIfInBounds_toArray, List.set_cons_zero, List.set_cons_succ]
        refine wpAnyH_take (i := 29) (v := ?_) (by simp only [List.getElem?_toArray, List.getElem?_cons_succ, List.getElem?_cons_zero]; rfl) (by kernel_rfl) (by kernel_rfl) (by kernel_rfl) (fun _ _ _ h => h) (Or.inl ⟨by rfl, ?_⟩) (by assumption) ?_
        rotate_left
        · intro W hSW
          go_simp
          try with_reducible rfl
        try simp only [Act.put, List.setIfInBounds_toArray, List.set_cons_zero, List.set_cons_succ]
        refine wpAnyH_done (by kernel_rfl) ?_ _
        refine NoPanic.normal ?_
        clear hHeld
        go_wp2_with fail
        go_ret
        exact ⟨rfl, HB9.out.trans (HV0.out.mono HB9.out.size)⟩
    | false =>
      have HWG := Lib.hid hwg
      have hpe : personE L = (wzero, 4) := by rw [HPG.out, if_neg (fun h => by rw [hwg] at h; cases h.1)]
      have HPE : Hid (∀ W, EnvC W → Calls Tryz.prog 29 #[.string (txt L)] W fun e w' => e = .returned (.tuple #[.agg (whoA wzero), .int .i64 4]) ∧ Below W.heap.size W w') := fun W hW => by
        have := person_any L W hW (by have := HLL.out; omega)
        rw [hpe] at this; exact this
      clear hpe hwg
      refine (HPE.out w5 (HE.out.below HB5.out)).mono ?_
      rintro e w6 ⟨rfl, hb⟩
      have HB6 := Lib.hid (HB5.out.trans (hb.mono HB5.out.size))
      clear hb
      have HZ6 : Hid ((w6.alloc (.cells #[.string ⟨#[]⟩, .string ⟨#[]⟩, .int .i64 0, .string ⟨#[]⟩] 31)).heap[w6.heap.size]? = some (.cells #[.string ⟨#[]⟩, .string ⟨#[]⟩, .int .i64 0, .string ⟨#[]⟩] 31 (0, 0))) := heap_alloc_new _ _
      have HS6 : Hid (Below w6.heap.size w6 ((w6.alloc (.cells #[.string ⟨#[]⟩, .string ⟨#[]⟩, .int .i64 0, .string ⟨#[]⟩] 31)).setRow w6.heap.size (whoA wzero))) := below_setRow ((Below.refl _ _).alloc (Nat.le_refl _) _) (Nat.le_refl _) _
      have HR6 : Hid (((w6.alloc (.cells #[.string ⟨#[]⟩, .string ⟨#[]⟩, .int .i64 0, .string ⟨#[]⟩] 31)).setRow w6.heap.size (whoA wzero)).heap[w6.heap.size]? = some (.cells (whoA wzero) 31 (0, 0))) := setRow_heap _ _ _ _ _ _ HZ6.out
      go_wp2_with (first
        | refine wpList_store_row rfl 31 _ _ rfl w6.heap.size (whoA wzero) rfl rfl 31 #[.string ⟨#[]⟩, .string ⟨#[]⟩, .int .i64 0, .string ⟨#[]⟩] HZ6.out (info_who _) rfl (who_one _) ?_)
      obtain ⟨w7, hw6⟩ : ∃ X, (w6.alloc (.cells #[.string ⟨#[]⟩, .string ⟨#[]⟩, .int .i64 0, .string ⟨#[]⟩] 31)).setRow w6.heap.size (whoA wzero) = X := ⟨_, rfl⟩
      rw [hw6] at HS6 HR6 ⊢
      obtain ⟨zb, hb6⟩ : ∃ x, w6.heap.size = x := ⟨_, rfl⟩
      rw [hb6] at HR6 ⊢
      clear hw6 hb6 HZ6
      have HB7 := Lib.hid (HB6.out.trans (HS6.out.mono HB6.out.size))
      refine (HGE.out w7).mono ?_
      rintro e w8 ⟨rfl, hb⟩
      have HB8 := Lib.hid (HB7.out.trans (hb.mono HB7.out.size))
      have HR68 := Lib.hid ((hb.block zb (Array.getElem?_eq_some_iff.1 HR6.out).1).trans HR6.out)
      clear hb HR6
      have HZ8 : Hid ((w8.alloc (.cells #[.string ⟨#[]⟩, .string ⟨#[]⟩, .int .i64 0, .string ⟨#[]⟩] 25)).heap[w8.heap.size]? = some (.cells #[.string ⟨#[]⟩, .string ⟨#[]⟩, .int .i64 0, .string ⟨#[]⟩] 25 (0, 0))) := heap_alloc_new _ _
      have HS8 : Hid (Below w8.heap.size w8 ((w8.alloc (.cells #[.string ⟨#[]⟩, .string ⟨#[]⟩, .int .i64 0, .string ⟨#[]⟩] 25)).setRow w8.heap.size (whoA g))) := below_setRow ((Below.refl _ _).alloc (Nat.le_refl _) _) (Nat.le_refl _) _
      have HR8 : Hid (((w8.alloc (.cells #[.string ⟨#[]⟩, .string ⟨#[]⟩, .int .i64 0, .string ⟨#[]⟩] 25)).setRow w8.heap.size (whoA g)).heap[w8.heap.size]? = some (.cells (whoA g) 25 (0, 0))) := setRow_heap _ _ _ _ _ _ HZ8.out
      go_wp2_with (first
        | refine wpList_store_row rfl 25 _ _ rfl w8.heap.size (whoA g) rfl rfl 25 #[.string ⟨#[]⟩, .string ⟨#[]⟩, .int .i64 0, .string ⟨#[]⟩] HZ8.out (info_rwho _) rfl (who_one _) ?_
        | refine wpList_load_row rfl 25 _ rfl w8.heap.size rfl 25 (whoA g) (0, 0) _ HR8.out Tryz.underlying25 rfl (info_rwho g) ?_)
      obtain ⟨w0, hw8⟩ : ∃ X, (w8.alloc (.cells #[.string ⟨#[]⟩, .string ⟨#[]⟩, .int .i64 0, .string ⟨#[]⟩] 25)).setRow w8.heap.size (whoA g) = X := ⟨_, rfl⟩
      rw [hw8] at HS8 HR8 ⊢
      obtain ⟨gb, hb8⟩ : ∃ x, w8.heap.size = x := ⟨_, rfl⟩
      rw [hb8] at HR8 ⊢
      clear hw8 hb8 HZ8
      have HB0' := Lib.hid (HB8.out.trans (HS8.out.mono HB8.out.size))
      have HR60 := Lib.hid ((HS8.out.block zb (Array.getElem?_eq_some_iff.1 HR68.out).1).trans HR68.out)
      refine (rperson_any g w0 HGS.out).mono ?_
      rintro e w1' ⟨rfl, hb⟩
      rw [HWG.out]
      have HB1' := Lib.hid (HB0'.out.trans (hb.mono HB0'.out.size))
      have HR61 := Lib.hid ((hb.block zb (Array.getElem?_eq_some_iff.1 HR60.out).1).trans HR60.out)
      have HR81 := Lib.hid ((hb.block gb (Array.getElem?_eq_some_iff.1 HR8.out).1).trans HR8.out)
      clear hb HR60 HR8 HR68
      obtain ⟨w9, hw9⟩ : ∃ X, w1' = X := ⟨_, rfl⟩
      rw [hw9] at HB1' HR61 HR81 ⊢
      have HB9 := HB1'
      have HR62 := HR61
      have HR82 := HR81
      clear hw9
      have HLZ : Hid (∀ W, Below w9.heap.size w9 W → W.rangeAt zb 0 (whoL wzero)) := fun W hW => who_range ((hW.block zb (Array.getElem?_eq_some_iff.1 HR62.out).1).trans HR62.out)
      have HLG : Hid (∀ W, Below w9.heap.size w9 W → W.rangeAt gb 0 (whoL g)) := fun W hW => who_range ((hW.block gb (Array.getElem?_eq_some_iff.1 HR82.out).1).trans HR82.out)
      clear HR62 HR82 HR61 HR81
      go_wp2_with fail
      refine wp_region_noPanic ?_
      refine wp_region_held_drew (S := fun W => Below w9.heap.size w9 W) (by kernel_rfl) ?_ (fun hHeld => ?_)
      · exact (Below.refl _ _).drew
      refine wpAnyH_ready (rs := [0]) (by kernel_rfl) (by simp) ?_
      refine AllReadyH.cons (by simp only [List.getElem?_toArray, List.getElem?_cons_zero]; rfl) (fun K hK => ?_) AllReadyH.nil
      go_simp
      refine (known_any _ (HE.out.below (HB9.out.trans ((Below.refl w9.heap.size w9).drew.mono HB9.out.size)))).mono ?_
      rintro e v0 ⟨rfl, hb⟩
      have hv0 : Below w9.heap.size w9 v0 := (Below.refl _ _).drew.trans hb
      have HV0 := Lib.hid hv0
      clear hb hv0
      go_wp2_with fail
      refine hK.out _ _ (HV0.out) (fun hHeld2 => ?_)
      clear hK K hHeld
      have hHeld := hHeld2
      clear hHeld2
      try simp only [Act.put, List.setIfInBounds_toArray, List.set_cons_zero, List.set_cons_succ]
      refine wpAnyH_take (i := 1) (v := ?_) (by simp only [List.getElem?_toArray, List.getElem?_cons_succ, List.getElem?_cons_zero]; rfl) (by kernel_rfl) (by kernel_rfl) (by kernel_rfl) (fun _ _ _ h => h) (Or.inl ⟨by rfl, ?_⟩) (by assumption) ?_
      rotate_left
      · intro W hSW
        go_simp
        try with_reducible rfl
      try simp only [Act.put, List.setIfInBounds_toArray, List.set_cons_zero, List.set_cons_succ]
      refine wpAnyH_take (i := 2) (v := ?_) (by simp only [List.getElem?_toArray, List.getElem?_cons_succ, List.getElem?_cons_zero]; rfl) (by kernel_rfl) (by kernel_rfl) (by kernel_rfl) (fun _ _ _ h => h) (Or.inl ⟨by rfl, ?_⟩) (by assumption) ?_
      rotate_left
      · intro W hSW
        go_simp
        try with_reducible rfl
      try simp only [Act.put, List.setIfInBounds_toArray, List.set_cons_zero, List.set_cons_succ]
      refine wpAnyH_take (i := 3) (v := ?_) (by simp only [List.getElem?_toArray, List.getElem?_cons_succ, List.getElem?_cons_zero]; rfl) (by kernel_rfl) (by kernel_rfl) (by kernel_rfl) (fun _ _ _ h => h) (Or.inl ⟨by rfl, ?_⟩) (by assumption) ?_
      rotate_left
      · intro W hSW
        go_simp
        try with_reducible rfl
      try simp only [Act.put, List.setIfInBounds_toArray, List.set_cons_zero, List.set_cons_succ]
      refine wpAnyH_take (i := 4) (v := ?_) (by simp only [List.getElem?_toArray, List.getElem?_cons_succ, List.getElem?_cons_zero]; rfl) (by kernel_rfl) (by kernel_rfl) (by kernel_rfl) (fun _ _ _ h => h) (Or.inl ⟨by rfl, ?_⟩) (by assumption) ?_
      rotate_left
      · intro W hSW
        go_simp
        try with_reducible rfl
      try simp only [Act.put, List.setIfInBounds_toArray, List.set_cons_zero, List.set_cons_succ]
      refine wpAnyH_take (i := 5) (v := ?_) (by simp only [List.getElem?_toArray, List.getElem?_cons_succ, List.getElem?_cons_zero]; rfl) (by kernel_rfl) (by kernel_rfl) (by kernel_rfl) (fun _ _ _ h => h) (Or.inl ⟨by rfl, ?_⟩) (by assumption) ?_
      rotate_left
      · intro W hSW
        go_simp
        try with_reducible rfl
      try simp only [Act.put, List.setIfInBounds_toArray, List.set_cons_zero, List.set_cons_succ]
      refine wpAnyH_take (i := 6) (v := ?_) (by simp only [List.getElem?_toArray, List.getElem?_cons_succ, List.getElem?_cons_zero]; rfl) (by kernel_rfl) (by kernel_rfl) (by kernel_rfl) (fun _ _ _ h => h) (Or.inl ⟨by rfl, ?_⟩) (by assumption) ?_
      rotate_left
      · intro W hSW
        go_simp
        try with_reducible rfl
      try simp only [Act.put, List.setIfInBounds_toArray, List.set_cons_zero, List.set_cons_succ]
      refine wpAnyH_take (i := 7) (v := ?_) (by simp only [List.getElem?_toArray, List.getElem?_cons_succ, List.getElem?_cons_zero]; rfl) (by kernel_rfl) (by kernel_rfl) (by kernel_rfl) (fun _ _ _ h => h) (Or.inl ⟨by rfl, ?_⟩) (by assumption) ?_
      rotate_left
      · intro W hSW
        go_simp
        try with_reducible rfl
      try simp only [Act.put, List.setIfInBounds_toArray, List.set_cons_zero, List.set_cons_succ]
      refine wpAnyH_take (i := 8) (v := ?_) (by simp only [List.getElem?_toArray, List.getElem?_cons_succ, List.getElem?_cons_zero]; rfl) (by kernel_rfl) (by kernel_rfl) (by kernel_rfl) (fun _ _ _ h => h) (Or.inl ⟨by rfl, ?_⟩) (by assumption) ?_
      rotate_left
      · intro W hSW
        go_simp
        try with_reducible rfl
      try simp only [Act.put, List.setIfInBounds_toArray, List.set_cons_zero, List.set_cons_succ]
      refine wpAnyH_take (i := 9) (v := ?_) (by simp only [List.getElem?_toArray, List.getElem?_cons_succ, List.getElem?_cons_zero]; rfl) (by kernel_rfl) (by kernel_rfl) (by kernel_rfl) (fun _ _ _ h => h) (Or.inl ⟨by rfl, ?_⟩) (by assumption) ?_
      rotate_left
      · intro W hSW
        go_simp
        try with_reducible rfl
      try simp only [Act.put, List.setIfInBounds_toArray, List.set_cons_zero, List.set_cons_succ]
      refine wpAnyH_take (i := 10) (v := ?_) (by simp only [List.getElem?_toArray, List.getElem?_cons_succ, List.getElem?_cons_zero]; rfl) (by kernel_rfl) (by kernel_rfl) (by kernel_rfl) (fun _ _ _ h => h) (Or.inl ⟨by rfl, ?_⟩) (by assumption) ?_
      rotate_left
      · intro W hSW
        go_simp
        try with_reducible rfl
      try simp only [Act.put, List.setIfInBounds_toArray, List.set_cons_zero, List.set_cons_succ]
      refine wpAnyH_take (i := 11) (v := undef) (by simp only [List.getElem?_toArray, List.getElem?_cons_succ, List.getElem?_cons_zero]; rfl) (by kernel_rfl) (by kernel_rfl) (by kernel_rfl) (fun _ _ _ h => h) (Or.inr ⟨by rfl, rfl⟩) (by assumption) ?_
      try simp only [Act.put, List.setIfInBounds_toArray, List.set_cons_zero, List.set_cons_succ]
      refine wpAnyH_take (i := 12) (v := undef) (by simp only [List.getElem?_toArray, List.getElem?_cons_succ, List.getElem?_cons_zero]; rfl) (by kernel_rfl) (by kernel_rfl) (by kernel_rfl) (fun _ _ _ h => h) (Or.inr ⟨by rfl, rfl⟩) (by assumption) ?_
      try simp only [Act.put, List.setIfInBounds_toArray, List.set_cons_zero, List.set_cons_succ]
      refine wpAnyH_take (i := 13) (v := undef) (by simp only [List.getElem?_toArray, List.getElem?_cons_succ, List.getElem?_cons_zero]; rfl) (by kernel_rfl) (by kernel_rfl) (by kernel_rfl) (fun _ _ _ h => h) (Or.inr ⟨by rfl, rfl⟩) (by assumption) ?_
      try simp only [Act.put, List.setIfInBounds_toArray, List.set_cons_zero, List.set_cons_succ]
      refine wpAnyH_take (i := 14) (v := undef) (by simp only [List.getElem?_toArray, List.getElem?_cons_succ, List.getElem?_cons_zero]; rfl) (by kernel_rfl) (by kernel_rfl) (by kernel_rfl) (fun _ _ _ h => h) (Or.inr ⟨by rfl, rfl⟩) (by assumption) ?_
      try simp only [Act.put, List.setIfInBounds_toArray, List.set_cons_zero, List.set_cons_succ]
      refine wpAnyH_take (i := 15) (v := ?_) (by simp only [List.getElem?_toArray, List.getElem?_cons_succ, List.getElem?_cons_zero]; rfl) (by kernel_rfl) (by kernel_rfl) (by kernel_rfl) (fun _ _ _ h => h) (Or.inl ⟨by rfl, ?_⟩) (by assumption) ?_
      rotate_left
      · intro W hSW
        go_simp
        try with_reducible rfl
      try simp only [Act.put, List.setIfInBounds_toArray, List.set_cons_zero, List.set_cons_succ]
      refine wpAnyH_take (i := 16) (v := ?_) (by simp only [List.getElem?_toArray, List.getElem?_cons_succ, List.getElem?_cons_zero]; rfl) (by kernel_rfl) (by kernel_rfl) (by kernel_rfl) (fun _ _ _ h => h) (Or.inl ⟨by rfl, ?_⟩) (by assumption) ?_
      rotate_left
      · intro W hSW
        go_simp
        try with_reducible rfl
      try simp only [Act.put, List.setIfInBounds_toArray, List.set_cons_zero, List.set_cons_succ]
      refine wpAnyH_take (i := 17) (v := ?_) (by simp only [List.getElem?_toArray, List.getElem?_cons_succ, List.getElem?_cons_zero]; rfl) (by kernel_rfl) (by kernel_rfl) (by kernel_rfl) (fun _ _ _ h => h) (Or.inl ⟨by rfl, ?_⟩) (by assumption) ?_
      rotate_left
      · intro W hSW
        go_simp
        try with_reducible rfl
      try simp only [Act.put, List.setIfInBounds_toArray, List.set_cons_zero, List.set_cons_succ]
      refine wpAnyH_take (i := 18) (v := ?_) (by simp only [List.getElem?_toArray, List.getElem?_cons_succ, List.getElem?_cons_zero]; rfl) (by kernel_rfl) (by kernel_rfl) (by kernel_rfl) (fun _ _ _ h => h) (Or.inl ⟨by rfl, ?_⟩) (by assumption) ?_
      rotate_left
      · intro W hSW
        go_simp
        try with_reducible rfl
      try simp only [Act.put, List.setIfInBounds_toArray, List.set_cons_zero, List.set_cons_succ]
      refine wpAnyH_take (i := 19) (v := ?_) (by simp only [List.getElem?_toArray, List.getElem?_cons_succ, List.getElem?_cons_zero]; rfl) (by kernel_rfl) (by kernel_rfl) (by kernel_rfl) (fun _ _ _ h => h) (Or.inl ⟨by rfl, ?_⟩) (by assumption) ?_
      rotate_left
      · intro W hSW
        go_simp
        try with_reducible rfl
      try simp only [Act.put, List.setIfInBounds_toArray, List.set_cons_zero, List.set_cons_succ]
      refine wpAnyH_take (i := 20) (v := ?_) (by simp only [List.getElem?_toArray, List.getElem?_cons_succ, List.getElem?_cons_zero]; rfl) (by kernel_rfl) (by kernel_rfl) (by kernel_rfl) (fun _ _ _ h => h) (Or.inl ⟨by rfl, ?_⟩) (by assumption) ?_
      rotate_left
      · intro W hSW
        go_simp
        try with_reducible rfl
      try simp only [Act.put, List.setIfInBounds_toArray, List.set_cons_zero, List.set_cons_succ]
      refine wpAnyH_take (i := 21) (v := ?_) (by simp only [List.getElem?_toArray, List.getElem?_cons_succ, List.getElem?_cons_zero]; rfl) (by kernel_rfl) (by kernel_rfl) (by kernel_rfl) (fun _ _ _ h => h) (Or.inl ⟨by rfl, ?_⟩) (by assumption) ?_
      rotate_left
      · intro W hSW
        go_simp
        try with_reducible rfl
      try simp only [Act.put, List.setIfInBounds_toArray, List.set_cons_zero, List.set_cons_succ]
      refine wpAnyH_take (i := 22) (v := ?_) (by simp only [List.getElem?_toArray, List.getElem?_cons_succ, List.getElem?_cons_zero]; rfl) (by kernel_rfl) (by kernel_rfl) (by kernel_rfl) (fun _ _ _ h => h) (Or.inl ⟨by rfl, ?_⟩) (by assumption) ?_
      rotate_left
      · intro W hSW
        go_simp
        try with_reducible rfl
      try simp only [Act.put, List.setIfInBounds_toArray, List.set_cons_zero, List.set_cons_succ]
      refine wpAnyH_take (i := 23) (by simp only [List.getElem?_toArray, List.getElem?_cons_succ, List.getElem?_cons_zero]; rfl) (by kernel_rfl) (by kernel_rfl) (by kernel_rfl) (fun _ _ _ h => h) (yieldsIf_load_mid (by rfl) 31 _ rfl zb 0 rfl (whoL wzero) _ (fun W hSW => HLZ.out W hSW) Tryz.underlying31 rfl (info_whoL wzero)) (by assumption) ?_
      try simp only [Act.put, List.setIfInBounds_toArray, List.set_cons_zero, List.set_cons_succ]
      try rw [show (whoL wzero).toArray = whoA wzero from rfl]
      refine wpAnyH_take (i := 24) (by simp only [List.getElem?_toArray, List.getElem?_cons_succ, List.getElem?_cons_zero]; rfl) (by kernel_rfl) (by kernel_rfl) (by kernel_rfl) (fun _ _ _ h => h) (yieldsIf_build (by rfl) _ _ rfl #[] (by simp) (.agg (whoA wzero)) build_who0) (by assumption) ?_
      try simp only [Act.put, List.setIfInBounds_toArray, List.set_cons_zero, List.set_cons_succ]
      refine wpAnyH_take (i := 25) (by simp only [List.getElem?_toArray, List.getElem?_cons_succ, List.getElem?_cons_zero]; rfl) (by kernel_rfl) (by kernel_rfl) (by kernel_rfl) (fun _ _ _ h => h) (yieldsIf_eql (by rfl) .eql 31 _ _ _ rfl (.agg (whoA wzero)) (.agg (whoA wzero)) rfl rfl (.bool true) (guarde_who _ _ _ _) (eql_who wzero)) (by assumption) ?_
      try simp only [Act.put, List.setIfInBounds_toArray, List.set_cons_zero, List.set_cons_succ]
      refine wpAnyH_take (i := 26) (v := ?_) (by simp only [List.getElem?_toArray, List.getElem?_cons_succ, List.getElem?_cons_zero]; rfl) (by kernel_rfl) (by kernel_rfl) (by kernel_rfl) (fun _ _ _ h => h) (Or.inl ⟨by rfl, ?_⟩) (by assumption) ?_
      rotate_left
      · intro W hSW
        go_simp
        try with_reducible rfl
      try simp only [Act.put, List.setIfInBounds_toArray, List.set_cons_zero, List.set_cons_succ]
      refine wpAnyH_take (i := 27) (v := ?_) (by simp only [List.getElem?_toArray, List.getElem?_cons_succ, List.getElem?_cons_zero]; rfl) (by kernel_rfl) (by kernel_rfl) (by kernel_rfl) (fun _ _ _ h => h) (Or.inl ⟨by rfl, ?_⟩) (by assumption) ?_
      rotate_left
      · intro W hSW
        go_simp
        try with_reducible rfl
      try simp only [Act.put, List.setIfInBounds_toArray, List.set_cons_zero, List.set_cons_succ]
      refine wpAnyH_take (i := 28) (v := ?_) (by simp only [List.getElem?_toArray, List.getElem?_cons_succ, List.getElem?_cons_zero]; rfl) (by kernel_rfl) (by kernel_rfl) (by kernel_rfl) (fun _ _ _ h => h) (Or.inl ⟨by rfl, ?_⟩) (by assumption) ?_
      rotate_left
      · intro W hSW
        go_simp
        try with_reducible rfl
      try simp only [Act.put, List.setIfInBounds_toArray, List.set_cons_zero, List.set_cons_succ]
      refine wpAnyH_take (i := 29) (v := ?_) (by simp only [List.getElem?_toArray, List.getElem?_cons_succ, List.getElem?_cons_zero]; rfl) (by kernel_rfl) (by kernel_rfl) (by kernel_rfl) (fun _ _ _ h => h) (Or.inl ⟨by rfl, ?_⟩) (by assumption) ?_
      rotate_left
      · intro W hSW
        go_simp
        try with_reducible rfl
      try simp only [Act.put, List.setIfInBounds_toArray, List.set_cons_zero, List.set_cons_succ]
      refine wpAnyH_done (by kernel_rfl) ?_ _
      refine NoPanic.normal ?_
      clear hHeld
      go_wp2_with fail
      go_ret
      exact ⟨rfl, HB9.out.trans (HV0.out.mono HB9.out.size)⟩
end Go.Proofs.YtindmggmblmmcaaGreatDoor
