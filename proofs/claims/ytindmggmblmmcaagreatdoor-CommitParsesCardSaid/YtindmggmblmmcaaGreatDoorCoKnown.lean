/- The chapter's example of a commit, plainly. -/
import Derived.Test.YtindmggmblmmcaaGreatDoorCoParse
/-! The chapter's example of a commit, plainly. -/
namespace Go.Proofs.YtindmggmblmmcaaGreatDoor
open Go.RowKit Plain Go.ChangeShapes Go.WideShapes Go.ChangeAt Go.Great
set_option linter.unusedVariables false
def kw : WX := ⟨⟨#[65]⟩, ⟨#[97, 64, 98]⟩, 12, ⟨#[43, 48, 48, 48, 48]⟩⟩
def kp : List UInt8 := [65, 32, 60, 97, 64, 98, 62, 32, 49, 50, 32, 43, 48, 48, 48, 48]
def kc : CC := ⟨zeros20, [], kw, kw, [(⟨#[107]⟩, ⟨#[120, 10, 121]⟩)], ⟨#[109]⟩⟩
theorem known_person : personE kp = (kw, 0) := by kernel_rfl
theorem known_right : coR kc = true := by decide +kernel
theorem known_len : 40 < (printC kc).length ∧ (printC kc).length ≤ 1000 := by decide +kernel
theorem known_parse : ∃ c, parseC (printC kc) = some c ∧ c.m = ⟨#[109]⟩ ∧ c.xs.length = 1 := by
  have h : (parseC (printC kc)).map (fun c => (c.m.data.toList, c.xs.length)) = some ([109], 1) := by decide +kernel
  obtain ⟨c, h1, h2⟩ := Option.map_eq_some_iff.1 h
  simp only [Prod.mk.injEq] at h2
  exact ⟨c, h1, bytes_ext h2.1, h2.2⟩
end Go.Proofs.YtindmggmblmmcaaGreatDoor
/-! The chapter's example of a commit: the walk. -/
namespace Go.Proofs.YtindmggmblmmcaaGreatDoor
open Go.RowKit Plain Go.ChangeShapes Go.WideShapes Go.ChangeAt Go.Great
set_option linter.unusedVariables false
set_option linter.unusedSimpArgs false
def kx : ByteArray × ByteArray := (⟨#[107]⟩, ⟨#[120, 10, 121]⟩)
theorem build_k (g : Nat) (W : World) : (Instr.build 34 #[(2, .agg (whoA kw)), (3, .agg (whoA kw)), (4, .slice (some ⟨g, 0, none⟩) 1 1), (5, .string ⟨#[109]⟩)]).run Tryz.prog W = .ok (.agg (coV kc none 0 (some ⟨g, 0, none⟩) 1)) W := run_build W _ _ _ (by kernel_rfl)
theorem build_kw (W : World) : (Instr.build 31 #[(0, .string ⟨#[65]⟩), (1, .string ⟨#[97, 64, 98]⟩), (2, .int .i64 12), (3, .string ⟨#[43, 48, 48, 48, 48]⟩)]).run Tryz.prog W = .ok (.agg (whoA kw)) W := run_build W _ _ _ (by kernel_rfl)
theorem eq_kw (W : World) : (binOp .eql 31 (.agg (whoA kw)) (.agg (whoA kw))).run Tryz.prog W = .ok (.bool true) W := by kernel_rfl
theorem guard_kw (x y : Operand) (W : World) : (eqGuard .eql 31 x y (.agg (whoA kw)) (.agg (whoA kw))).run Tryz.prog W = .ok () W := by kernel_rfl
theorem kw_small : WhoSmall kw := by show _ ∧ _ ∧ _ ∧ _ ∧ _; decide
theorem kc_small : CoSmall kc := ⟨kw_small, kw_small, by decide, by decide, fun x hx => by
  simp only [kc, List.mem_singleton] at hx
  subst hx
  exact ⟨by decide, by decide⟩, by decide⟩
set_option maxRecDepth 100000 in
set_option maxHeartbeats 8000000 in
theorem known_any (w : World) (hE : EnvC w) : Calls Tryz.prog 12 #[] w fun e w' => e = .returned (.bool true) ∧ Below w.heap.size w w' := by
  have HE := Lib.hid hE
  have hpe := person_any kp w hE (by decide)
  rw [known_person] at hpe
  have hpe : Calls Tryz.prog 29 #[.string (txt kp)] w fun e w' => e = .returned (.tuple #[.agg (whoA kw), .int .i64 0]) ∧ Below w.heap.size w w' := hpe
  have HPE := Lib.hid hpe
  clear hE hpe
  go_enter Tryz.func12, Tryz.ntmps12
  go_wp2_with fail
  refine HPE.out.mono ?_
  rintro e w1 ⟨rfl, hb⟩
  have HB1 := Lib.hid hb
  clear hb HPE
  have HZ2 : Hid ((w1.alloc (.cells #[.string ⟨#[]⟩, .string ⟨#[]⟩, .int .i64 0, .string ⟨#[]⟩] 31)).heap[w1.heap.size]? = some (.cells #[.string ⟨#[]⟩, .string ⟨#[]⟩, .int .i64 0, .string ⟨#[]⟩] 31 (0, 0))) := heap_alloc_new _ _
  have HR2 : Hid (((w1.alloc (.cells #[.string ⟨#[]⟩, .string ⟨#[]⟩, .int .i64 0, .string ⟨#[]⟩] 31)).setRow w1.heap.size (whoA kw)).heap[w1.heap.size]? = some (.cells (whoA kw) 31 (0, 0))) := setRow_heap _ _ _ _ _ _ HZ2.out
  have HB2 : Hid (Below w.heap.size w ((w1.alloc (.cells #[.string ⟨#[]⟩, .string ⟨#[]⟩, .int .i64 0, .string ⟨#[]⟩] 31)).setRow w1.heap.size (whoA kw))) := below_setRow (HB1.out.alloc HB1.out.size _) HB1.out.size _
  obtain ⟨w2, hw2⟩ : ∃ W, (w1.alloc (.cells #[.string ⟨#[]⟩, .string ⟨#[]⟩, .int .i64 0, .string ⟨#[]⟩] 31)).setRow w1.heap.size (whoA kw) = W := ⟨_, rfl⟩
  rw [hw2] at HR2 HB2
  have hsl1 := slice_G1 elem_ext (by decide) (by decide) (by decide) extE_len kx (.agg (extE kx).toArray) rfl w2
  go_wp2_with (first
    | (refine wpList_store_row rfl 31 _ _ rfl w1.heap.size (whoA kw) rfl rfl 31 #[.string ⟨#[]⟩, .string ⟨#[]⟩, .int .i64 0, .string ⟨#[]⟩] HZ2.out (info_who _) rfl (who_one _) ?_
       rw [hw2])
    | refine wpList_load_row rfl 31 _ rfl w1.heap.size rfl 31 (whoA kw) (0, 0) _ HR2.out Tryz.underlying31 rfl (info_who kw) ?_
    | refine wpList_buildQ rfl 76 _ rfl #[(0, .string ⟨#[107]⟩), (1, .string ⟨#[120, 10, 121]⟩)] (map_two _ _ _ _ _ rfl rfl) _ (build_ext _ _) ?_
    | refine wpList_slice rfl 32 1 #[(0, _)] rfl #[(0, .agg (extE kx).toArray)] (map_one _ _ _ rfl) _ _ hsl1 ?_
    | refine wpList_buildQ rfl 34 _ rfl #[(2, .agg (whoA kw)), (3, .agg (whoA kw)), (4, .slice (some ⟨w2.heap.size, 0, none⟩) 1 1), (5, .string ⟨#[109]⟩)] (by rfl) _ (build_k _) ?_)
  clear hsl1 HZ2 hw2
  have HBA : Hid (Below w2.heap.size w2 (w2.alloc (.cells (extE kx).toArray 76))) := (Below.refl _ _).alloc (Nat.le_refl _) _
  have HAT : Hid (CoAt (w2.alloc (.cells (extE kx).toArray 76)) kc none (some ⟨w2.heap.size, 0, none⟩)) := ⟨cz_20, by show ∀ x ∈ zeros20, _; decide, fun p hp => by simp [kc] at hp, RowAt.nil _ _, .inr ⟨w2.heap.size, 0, rfl, by simp, one_G w2 76 kx⟩⟩
  have HR3 : Hid ((w2.alloc (.cells (extE kx).toArray 76)).heap[w1.heap.size]? = some (.cells (whoA kw) 31 (0, 0))) := (HBA.out.block _ (Array.getElem?_eq_some_iff.1 HR2.out).1).trans HR2.out
  have HB3 := Lib.hid (HB2.out.trans (HBA.out.mono HB2.out.size))
  refine (coprint_any kc none 0 (some ⟨w2.heap.size, 0, none⟩) 1 (w2.alloc (.cells (extE kx).toArray 76)) HAT.out kc_small (HE.out.below HB3.out)).mono ?_
  generalize w2.alloc (.cells (extE kx).toArray 76) = w3 at *
  rintro e w4 ⟨hpr, hb⟩
  rcases hpr with ⟨-, pa, pc, rfl, hcap, hby⟩ | ⟨hno, -⟩
  rotate_left
  · rw [known_right] at hno; cases hno
  have HB4 := Lib.hid (HB3.out.trans (hb.mono HB3.out.size))
  have HR4 := Lib.hid ((hb.block _ (Array.getElem?_eq_some_iff.1 HR3.out).1).trans HR3.out)
  obtain ⟨c, hpc, hcm, hcx⟩ := known_parse
  have hkl := known_len
  have hpp := coparse_any pa (printC kc).length pc (printC kc) w4 hby (by omega) (HE.out.below HB4.out)
  rw [hpc] at hpp
  obtain ⟨pn, hpn⟩ : ∃ n, (printC kc).length = n := ⟨_, rfl⟩
  rw [hpn] at hpp hkl ⊢
  have hgt : (40 : Int) < (pn : Int) := by omega
  have HPP := Lib.hid hpp
  have HCM := Lib.hid hcm
  have HCX := Lib.hid hcx
  clear hb hcap hby hpc hcm hcx hkl hpp hpn HAT HBA HB3 HR3
  go_wp2_with fail
  refine HPP.out.mono ?_
  rintro e w5 ⟨⟨qa, qc, xa, xc, rfl, hat, -, -⟩, hb⟩
  have HB5 := Lib.hid (HB4.out.trans (hb.mono HB4.out.size))
  have HR5 := Lib.hid ((hb.block _ (Array.getElem?_eq_some_iff.1 HR4.out).1).trans HR4.out)
  have HAT := Lib.hid hat
  clear hb hat HPP HR4
  have hzc := zero_co
  have HZ6 : Hid ((w5.alloc (.cells (coA cz (.slice none 0 0) (.slice none 0 0)) 34)).heap[w5.heap.size]? = some (.cells (coA cz (.slice none 0 0) (.slice none 0 0)) 34 (0, 0))) := heap_alloc_new _ _
  have HI6 := Lib.hid (info_coA c (.slice qa c.ps.length qc) (.slice xa c.xs.length xc) HAT.out.n20)
  have HS6 : Hid ((coA cz (.slice none 0 0) (.slice none 0 0)).size = (coV c qa qc xa xc).size) := by show _ = _; unfold coV; rw [coA_size _ _ _ cz_20, coA_size _ _ _ HAT.out.n20]
  have HO6 : Hid ((coV c qa qc xa xc).all (·.oneCell') = true) := coA_one c _ _ rfl rfl
  have HR6 : Hid (((w5.alloc (.cells (coA cz (.slice none 0 0) (.slice none 0 0)) 34)).setRow w5.heap.size (coV c qa qc xa xc)).heap[w5.heap.size]? = some (.cells (coV c qa qc xa xc) 34 (0, 0))) := setRow_heap _ _ _ _ _ _ HZ6.out
  have HB6 : Hid (Below w5.heap.size w5 ((w5.alloc (.cells (coA cz (.slice none 0 0) (.slice none 0 0)) 34)).setRow w5.heap.size (coV c qa qc xa xc))) := below_setRow ((Below.refl _ _).alloc (Nat.le_refl _) _) (Nat.le_refl _) _
  obtain ⟨w6, hw6⟩ : ∃ W, (w5.alloc (.cells (coA cz (.slice none 0 0) (.slice none 0 0)) 34)).setRow w5.heap.size (coV c qa qc xa xc) = W := ⟨_, rfl⟩
  rw [hw6] at HR6 HB6
  have HR7 := Lib.hid ((HB6.out.block _ (Array.getElem?_eq_some_iff.1 HR5.out).1).trans HR5.out)
  have hm : w6.cell? ⟨w5.heap.size, 30, none⟩ = some (.string ⟨#[109]⟩) := by rw [← HCM.out]; exact (CoRow.of HR6.out HAT.out.n20).msg
  have hx : w6.cell? ⟨w5.heap.size, 29, none⟩ = some (.slice xa 1 xc) := by rw [← HCX.out]; exact (CoRow.of HR6.out HAT.out.n20).exts
  go_wp2_with (first
    | (refine wpList_store_row rfl 34 _ _ rfl w5.heap.size (coV c qa qc xa xc) rfl rfl 34 (coA cz (.slice none 0 0) (.slice none 0 0)) HZ6.out HI6.out HS6.out HO6.out ?_
       rw [hw6])
    | refine wpList_load_row_g rfl 31 _ rfl w1.heap.size rfl 31 (whoA kw) (0, 0) _ HR7.out Tryz.underlying31 rfl (info_who kw) ?_
    | refine wpList_buildQ rfl 31 _ rfl #[(0, .string ⟨#[65]⟩), (1, .string ⟨#[97, 64, 98]⟩), (2, .int .i64 12), (3, .string ⟨#[43, 48, 48, 48, 48]⟩)] (by rfl) _ build_kw ?_
    | refine wpList_eql (by rfl) .eql 31 _ _ _ rfl (.agg (whoA kw)) (.agg (whoA kw)) rfl rfl (.bool true) (guard_kw _ _) eq_kw ?_)
  go_ret
  exact ⟨rfl, HB5.out.trans (HB6.out.mono HB5.out.size)⟩
end Go.Proofs.YtindmggmblmmcaaGreatDoor
