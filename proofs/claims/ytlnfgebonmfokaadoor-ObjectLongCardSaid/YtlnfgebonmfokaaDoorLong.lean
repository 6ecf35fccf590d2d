/- Bodies that are too long: the walk. -/
import Derived.Test.YtlnfgebonmfokaaDoorPath
namespace Go.Proofs.YtlnfgebonmfokaaDoor
open Go.RowKit Plain
set_option linter.unusedVariables false
theorem blob_word : wordAt 3 ≠ wNone := by decide
set_option maxRecDepth 100000 in
theorem loose_long (a : Option Addr) (m cap : Nat) (hm : m ≤ 9223372036854775807) (hl : 16777216 < m) (w : World) (htab : Lib.TabIs Tryd.prog w "internal/strconv.uint64pow10" .u64 Lib.pow10Tab) :
    Calls Tryd.prog 14 #[.int .i64 3, .slice a m cap] w fun e w' => e = .returned (.tuple #[.slice none 0 0, .int .i64 2]) ∧ Below w.heap.size w w' := by
  go_enter Tryd.func14, Tryd.ntmps14
  go_wp2_with fail
  refine (front_any 3 a m cap hm w htab).mono ?_
  rintro e w1 ⟨hp, hb1⟩
  have HW1 : Hid (Below w.heap.size w w1) := hb1
  clear hb1
  rcases hp with ⟨hw, -⟩ | ⟨-, -, rfl⟩ | ⟨-, hm1, -⟩
  · exact absurd hw blob_word
  · go_wp2_with fail
    go_ret2
    exact ⟨rfl, HW1.out⟩
  · omega
theorem idPost_ok {m : Nat} {xs : List Int} {e : Ending} (hm : m ≤ 16777216) (h : IdPost 3 m xs e) : e = .returned (.tuple #[.agg (idTo (idSum 3 m xs) 20), .int .i64 0]) := by
  rcases h with ⟨h, -⟩ | ⟨-, h, -⟩ | ⟨-, -, h⟩
  · exact absurd h blob_word
  · omega
  · exact h
theorem idPost_long {m : Nat} {xs : List Int} {e : Ending} (hm : 16777216 < m) (h : IdPost 3 m xs e) : e = .returned (.tuple #[.agg zeroId, .int .i64 2]) := by
  rcases h with ⟨h, -⟩ | ⟨-, -, h⟩ | ⟨-, h, -⟩
  · exact absurd h blob_word
  · exact h
  · omega
set_option maxRecDepth 100000 in
set_option maxHeartbeats 4000000 in
theorem long_any (a0 : Int) (w : World) (htab : Lib.TabIs Tryd.prog w "internal/strconv.uint64pow10" .u64 Lib.pow10Tab) :
    Calls Tryd.prog 4 #[.int .i64 a0] w fun e w' => e = .returned (.bool true) ∧ Below w.heap.size w w' := by
  have HT : Hid (Lib.TabIs Tryd.prog w "internal/strconv.uint64pow10" .u64 Lib.pow10Tab) := htab
  clear htab
  have hz := zeroId_run
  go_enter Tryd.func4, Tryd.ntmps4
  obtain ⟨n, hn, hn2⟩ : ∃ n : Nat, wrap64 (16777215 + wrap64 ((IntKind.u64.wrap a0).tmod 3)) = (n : Int) ∧ n ≤ 16777217 := by
    have h := IntKind.wrap_u64 a0
    have h0 : 0 ≤ IntKind.u64.wrap a0 := by rw [h]; omega
    rw [Int.tmod_eq_emod_of_nonneg h0]
    generalize IntKind.u64.wrap a0 = u at *
    have h1 : wrap64 (u % 3) = u % 3 := by unfold wrap64; omega
    have h2 : wrap64 (16777215 + u % 3) = 16777215 + u % 3 := by unfold wrap64; omega
    exact ⟨(16777215 + u % 3).toNat, by rw [h1, h2]; omega, by omega⟩
  have hmk := fun W => make_zs n (by omega) W
  go_wp2_with fail
  rw [hn]
  have HB0 : Hid (Below w.heap.size w (w.alloc (.cells (Zs n) 5))) := (Below.refl _ _).alloc (Nat.le_refl _) _
  have HBY : Hid (Bytes (w.alloc (.cells (Zs n) 5)) (some ⟨w.heap.size, 0, none⟩) n (List.replicate n 0)) := Bytes.zeros w _ rfl n (by omega) (0, 0)
  clear hn
  go_wp2_with fail
  generalize w.alloc (.cells (Zs n) 5) = w0 at *
  generalize (List.replicate n (0 : Int)) = xs at *
  refine (id_any 3 (some ⟨w.heap.size, 0, none⟩) n n xs (by omega) (Nat.le_refl _) w0 HBY.out (tab_below HT.out HB0.out)).mono ?_
  rintro e w1 ⟨hp, hb1⟩
  have HW1 : Hid (Below w.heap.size w w1) := HB0.out.trans (hb1.mono HB0.out.size)
  clear hb1 hmk
  have HS1 : Hid (w.heap.size ≤ w1.heap.size) := HW1.out.size
  have HN1 : Hid ((w1.alloc (.cells zeroId 25)).heap[w1.heap.size]? = some (.cells zeroId 25 (0, 0))) := heap_alloc_new w1 _
  have HB1 : Hid (Below w.heap.size w (w1.alloc (.cells zeroId 25))) := HW1.out.alloc HW1.out.size _
  by_cases hl : n ≤ 16777216
  · have he := idPost_ok hl hp
    clear hp
    have HI : Hid ((Tryd.prog.info? 25).map (·.size) = some (idTo (idSum 3 n xs) 20).size) := infoId _ (idTo_size _ _)
    have HL : Hid (zeroId.size = (idTo (idSum 3 n xs) 20).size) := zeroId_size.trans (idTo_size _ _).symm
    have HO : Hid ((idTo (idSum 3 n xs) 20).all (·.oneCell') = true) := oneId _ _
    generalize idTo (idSum 3 n xs) 20 = row at *
    subst he
    have hli : (n : Int) ≤ 16777216 := by omega
    have tok : True := trivial
    go_wp2_with (have _t := tok; refine wpList_store_row rfl 25 (.tmp 5) (.tmp 19) rfl w1.heap.size row rfl rfl 25 zeroId HN1.out HI.out HL.out HO.out ?_; clear tok; refine Hid.out ?_)
    have HB2 : Hid (Below w.heap.size w ((w1.alloc (.cells zeroId 25)).setRow w1.heap.size row)) := below_setRow HB1.out HS1.out _
    generalize (w1.alloc (.cells zeroId 25)).setRow w1.heap.size row = w2 at *
    refine unhid ?_
    go_wp2_with fail
    refine (known_any w2 (tab_below HT.out HB2.out)).mono ?_
    rintro e w3 ⟨rfl, hb3⟩
    have HB3 : Hid (Below w.heap.size w w3) := HB2.out.trans (hb3.mono HB2.out.size)
    clear hb3
    go_wp2_with fail
    go_ret
    exact ⟨rfl, HB3.out⟩
  · have he := idPost_long (by omega) hp
    clear hp
    have HI : Hid ((Tryd.prog.info? 25).map (·.size) = some zeroId.size) := infoId _ zeroId_size
    have HO : Hid (zeroId.all (·.oneCell') = true) := oneId _ _
    subst he
    have hli : ¬ (n : Int) ≤ 16777216 := by omega
    have tok : True := trivial
    go_wp2_with (have _t := tok; refine wpList_store_row rfl 25 (.tmp 5) (.tmp 19) rfl w1.heap.size zeroId rfl rfl 25 zeroId HN1.out HI.out rfl HO.out ?_; clear tok; refine Hid.out ?_)
    have HB2 : Hid (Below w.heap.size w ((w1.alloc (.cells zeroId 25)).setRow w1.heap.size zeroId)) := below_setRow HB1.out HS1.out _
    generalize (w1.alloc (.cells zeroId 25)).setRow w1.heap.size zeroId = w2 at *
    refine unhid ?_
    go_wp2_with fail
    refine (loose_long (some ⟨w.heap.size, 0, none⟩) n n (by omega) (by omega) w2 (tab_below HT.out HB2.out)).mono ?_
    rintro e w3 ⟨rfl, hb3⟩
    have HB3 : Hid (Below w.heap.size w w3) := HB2.out.trans (hb3.mono HB2.out.size)
    clear hb3
    go_wp2_with fail
    refine (known_any w3 (tab_below HT.out HB3.out)).mono ?_
    rintro e w4 ⟨rfl, hb4⟩
    have HB4 : Hid (Below w.heap.size w w4) := HB3.out.trans (hb4.mono HB3.out.size)
    clear hb4
    go_wp2_with fail
    go_ret
    exact ⟨rfl, HB4.out⟩
end Go.Proofs.YtlnfgebonmfokaaDoor
