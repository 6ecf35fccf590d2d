/- The program's statement PatchFolds holds: for every input it returns true and leaves its arguments as they were. No further condition. -/
import Derived.Test.YtbkifjmfmiipnaaRows
import Derived.WalkKit
import Derived.ProofKit
import Derived.OpenShut
import Derived.ShutString
import Derived.ChangeOld
import Derived.Below
import Derived.StillTailTactics
import Derived.Deep.RegionHeld3
import Derived.Deep.AppendLies
import Derived.StillTactics
import Derived.Deep.RegionWith
import Derived.WalkSpells
import Derived.Outline
import Derived.Test.YtbkifjmfmiipnaaCut
import Derived.Test.YtbkifjmfmiipnaaFold
namespace Go.Proofs.Ytbkifjmfmiipnaa.patchFolds
open Go.ChangeShapes Go.WideShapes Go.ChangeAt Go.RowKit
open Go.ChangeMaps (open_string shut_string)
set_option linter.unusedVariables false

theorem own : ownKnob Try.prog.godebug = none := by kernel_rfl
theorem laidOut : laidOutB Try.prog = true := by kernel_rfl

/-- A slice of integers that came in: nil, or a row of cells. -/
def IsRow (k : IntKind) (w : World) (a : Option Addr) (len cap : Nat) (zs : List Int) : Prop :=
  (a = none ∧ len = 0 ∧ cap = 0 ∧ zs = []) ∨
  ∃ x, a = some x ∧ len ≤ cap ∧ cap ≤ maxLen ∧ zs.length = cap ∧ (∀ i, i < zs.length → w.cell? (x.add i) = some (.int k (zs.getD i 0))) ∧ ∀ n ∈ zs, (Lit.int k n).wf = true
open Plain
theorem nil_row {k : IntKind} {w : World} {a : Option Addr} {len cap : Nat} {zs : List Int} (h : IsRow k w a len cap zs) : a = none → cap = 0 := by
  rcases h with ⟨-, -, h, -⟩ | ⟨x, rfl, -⟩
  · exact fun _ => h
  · exact fun e => by cases e
theorem own_len {w : World} {base : Nat} {a : Option Addr} {n c : Nat} {xs : List Int} (h : Own w base (.slice a n c) n xs) : xs.length = n := by
  have := h.1
  rw [List.length_map] at this
  omega
theorem makeHk_ys (base target : List Int) : ∀ x ∈ (makeHk base target).ys, x ∈ target := fun x hx => List.mem_of_mem_drop (List.mem_of_mem_take hx)
theorem makeOf_range (base target : List Int) (h : ∀ x ∈ target, 0 ≤ x ∧ x ≤ 255) : ∀ x ∈ makeOf base target, 0 ≤ x ∧ x ≤ 255 := by
  intro x hx
  unfold makeOf at hx
  split at hx
  · simp at hx
  · unfold hkBytes at hx
    simp only [List.mem_append] at hx
    rcases hx with ((hx | hx) | hx) | hx
    · exact be4_bytes _ x hx
    · exact be4_bytes _ x hx
    · exact be4_bytes _ x hx
    · exact h x (makeHk_ys base target x hx)
theorem hin_below {w W : World} {a2 : Option Addr} {len2 : Nat} (hb : Below w.heap.size w W) (h : len2 = 0 ∨ ∃ b o, a2 = some ⟨b, o, none⟩ ∧ b < w.heap.size ∧ ∀ j, j < len2 → ∃ hk : HkM, HunkIn w b o j hk) :
    len2 = 0 ∨ ∃ b o, a2 = some ⟨b, o, none⟩ ∧ b < W.heap.size ∧ ∀ j, j < len2 → ∃ hk : HkM, HunkIn W b o j hk := by
  rcases h with h | ⟨b, o, e, hlt, h⟩
  · exact .inl h
  · refine .inr ⟨b, o, e, Nat.lt_of_lt_of_le hlt hb.size, fun j hj => ?_⟩
    obtain ⟨hk, q1, q2, q3, q4, q5, q6, q7, q8, q9⟩ := h j hj
    exact ⟨hk, (hb.cell (p := ⟨b, _, none⟩) hlt).trans q1, (hb.cell (p := ⟨b, _, none⟩) hlt).trans q2, (hb.cell (p := ⟨b, _, none⟩) hlt).trans q3, q4, q5, q6, q7, q8, q9.below hb⟩
theorem print_range' (hs : List Hk) (h : ∀ h ∈ hs, ∀ x ∈ h.ys, 0 ≤ x ∧ x ≤ 255) : ∀ x ∈ printOf hs, 0 ≤ x ∧ x ≤ 255 := by
  intro x hx
  obtain ⟨j, hj, rfl⟩ := List.mem_iff_getElem.1 hx
  have := print_range hs h j
  rwa [List.getElem?_eq_getElem hj] at this
theorem hunksF_range : ∀ (f : Nat) (xs : List Int), (∀ x ∈ xs, 0 ≤ x ∧ x ≤ 255) → ∀ h, some h ∈ hunksF f xs → ∀ x ∈ h.ys, 0 ≤ x ∧ x ≤ 255
  | 0, xs, hx, h, hh, x, hm => by simp [hunksF] at hh
  | f + 1, xs, hx, h, hh, x, hm => by
    simp only [hunksF] at hh
    split at hh
    · simp at hh
    · split at hh
      · simp at hh
      · split at hh
        · simp at hh
        · rcases List.mem_cons.1 hh with e | hh
          · cases e
            exact hx x (sub_mem hm)
          · exact hunksF_range f _ (fun z hz => hx z (List.mem_of_mem_drop hz)) h hh x hm
theorem go_len (base : List Int) (hs : List Hk) (hl : ∀ h ∈ hs, h.ys.length ≤ 100) : (applyGo base (hunksOf (printOf hs)) 0 []).2.length ≤ base.length + 100 * hs.length := by
  rw [hunksOf_print hs (fun h hh => by have := hl h hh; omega)]
  have := applyGo_len base (hs.map fun h => some (low h)) 0 [] (Nat.zero_le _) (fun h hh => by
    obtain ⟨k, hk, e⟩ := List.mem_map.1 hh
    cases e
    exact hl k hk)
  simpa using this
theorem of_most (base : List Int) (hs : List Hk) (most : Int) (hl : ∀ h ∈ hs, h.ys.length ≤ 100) (hm : ((base.length + 100 * hs.length : Nat) : Int) ≤ most) : applyOf base (printOf hs) most = applyGo base (hunksOf (printOf hs)) 0 [] := by
  have := go_len base hs hl
  unfold applyOf
  split
  · rw [if_neg (by omega)]
  · rfl
theorem go_err (base : List Int) : ∀ (l : List (Option Hk)) (p : Nat) (out : List Int), (applyGo base l p out).1 ≤ 4
  | [], p, out => by simp [applyGo]
  | none :: t, p, out => by simp [applyGo]
  | some k :: t, p, out => by
    rw [applyGo]
    split
    · simp
    · exact go_err base t _ _
/-! ### The walk -/
set_option maxRecDepth 100000 in
set_option maxHeartbeats 16000000 in
theorem walk {H : Type} {enc : TypeId × Value → H} (base : Nat) (a0 : Option Addr) (len0 cap0 : Nat) (z0 : List Int) (v1 : Value) (d1 : DataW H) (p1 : List MemPlace) (v2 : Value) (d2 : DataW H) (p2 : List MemPlace) (w : World) (w0 : IsRow .u8 w a0 len0 cap0 z0) (ok1 : Value.okWide Try.prog w .any base 23 v1) (rd1 : DataW.Trod enc Try.prog w 0 (fun _ => true) true 23 v1 d1 p1) (ok2 : Value.okWide Try.prog w .any base 23 v2) (rd2 : DataW.Trod enc Try.prog w 0 (fun _ => true) true 23 v2 d2 p2) :
    Calls Try.prog 5 #[.slice a0 len0 cap0, v1, v2] w fun e w' => e = .returned (.bool true) ∧ Below w.heap.size w w' := by
  have HN0 : Hid (a0 = none → cap0 = 0) := nil_row w0
  obtain ⟨hb0, hlc0, hcm0⟩ := bytes_of w0
  have HB0 : Hid (Bytes w a0 (min len0 1000) ((z0.take len0).take 1000)) := hb0.first 1000
  obtain ⟨a1, len1, cap1, rfl, hl1, hin1⟩ := open_hunks ok1 rd1
  obtain ⟨a2, len2, cap2, rfl, hl2, hin2⟩ := open_hunks ok2 rd2
  have HI1 : Hid (len1 = 0 ∨ ∃ b o, a1 = some ⟨b, o, none⟩ ∧ b < w.heap.size ∧ ∀ j, j < len1 → ∃ hk : HkM, HunkIn w b o j hk) := hin1
  have HI2 : Hid (len2 = 0 ∨ ∃ b o, a2 = some ⟨b, o, none⟩ ∧ b < w.heap.size ∧ ∀ j, j < len2 → ∃ hk : HkM, HunkIn w b o j hk) := hin2
  clear w0 ok1 ok2 rd1 rd2 hb0 hin1 hin2
  generalize (z0.take len0).take 1000 = bas at *
  obtain ⟨m, hm⟩ : ∃ m, min len0 1000 = m := ⟨_, rfl⟩
  have hm5 : m ≤ 1000 := by omega
  have hmc : m ≤ cap0 := by omega
  rw [hm] at HB0
  have HF : Hid (∀ W, Calls Try.prog 8 #[.slice a0 len0 cap0] W fun e w' => e = .returned (.slice a0 m cap0) ∧ w' = W) := fun W => by
    rw [← hm]; exact few_any a0 len0 cap0 [] W hlc0 hcm0
  clear hm
  go_enter Try.func5, Try.ntmps5
  go_wp2_with fail
  refine (HF.out w).mono ?_
  rintro e wq ⟨rfl, hwq⟩
  have hwq2 := hwq.symm
  subst hwq2
  clear hwq HF
  go_wp2_with fail
  refine (Cut.cut_any a1 len1 cap1 w hl1 HI1.out).mono ?_
  rintro e w1 ⟨⟨ps, pa, pk, pc, hpl, hpy, hpr, rfl, ho1⟩, hb1⟩
  have HW1 : Hid (Below w.heap.size w w1) := hb1
  have HP1 : Hid (Bytes w1 pa pk (printOf ps)) := ho1.bytes (print_range _ hpr)
  have hpc : pk ≤ pc := own_cap ho1
  have HNP : Hid (pa = none → pc = 0) := nil_of_own ho1
  have hpk : pk ≤ 2240 := by have h5 := own_len ho1; have h6 := print_len ps hpy; omega
  have HPL : Hid (ps.length ≤ 20) := hpl
  have HPY : Hid (∀ h ∈ ps, h.ys.length ≤ 100) := hpy
  have HPR : Hid (∀ h ∈ ps, ∀ x ∈ h.ys, 0 ≤ x ∧ x ≤ 255) := hpr
  clear ho1 hb1 hpl hpy hpr
  go_wp2_with fail
  refine (Cut.cut_any a2 len2 cap2 w1 hl2 (hin_below HW1.out HI2.out)).mono ?_
  rintro e w2 ⟨⟨qs, qa, qk, qc, hql, hqy, hqr, rfl, ho2⟩, hb2⟩
  have HW2 : Hid (Below w.heap.size w w2) := HW1.out.trans (hb2.mono HW1.out.size)
  have HP2 : Hid (Bytes w2 pa pk (printOf ps)) := HP1.out.below hb2
  have HQ2 : Hid (Bytes w2 qa qk (printOf qs)) := ho2.bytes (print_range _ hqr)
  have hqc : qk ≤ qc := own_cap ho2
  have HNQ : Hid (qa = none → qc = 0) := nil_of_own ho2
  have hqk : qk ≤ 2240 := by have h5 := own_len ho2; have h6 := print_len qs hqy; omega
  have hbl : bas.length = m := HB0.out.1
  obtain ⟨e1, x, hr1⟩ : ∃ e1 x, applyGo bas (hunksOf (printOf ps)) 0 [] = (e1, x) := ⟨_, _, rfl⟩
  obtain ⟨e2, y, hr2⟩ : ∃ e2 y, applyGo x (hunksOf (printOf qs)) 0 [] = (e2, y) := ⟨_, _, rfl⟩
  have hx0 : x.length ≤ 3000 := by
    have := go_len bas ps HPY.out
    rw [hr1] at this
    have h3 := HPL.out
    show x.length ≤ 3000
    have h4 : x.length ≤ bas.length + 100 * ps.length := this
    omega
  have hy0 : y.length ≤ 5000 := by
    have := go_len x qs hqy
    rw [hr2] at this
    have h4 : y.length ≤ x.length + 100 * qs.length := this
    omega
  have R1 : Hid (applyOf bas (printOf ps) 1099511627776 = (e1, x)) := by
    have h3 := HPL.out
    rw [← hr1]; exact of_most _ _ _ HPY.out (by omega)
  have R1' : Hid (applyOf bas (printOf ps) 9223372036854775807 = (e1, x)) := by
    have h3 := HPL.out
    rw [← hr1]; exact of_most _ _ _ HPY.out (by omega)
  have R2 : Hid (applyOf x (printOf qs) 1099511627776 = (e2, y)) := by
    rw [← hr2]; exact of_most _ _ _ hqy (by omega)
  have R2' : Hid (applyOf x (printOf qs) 9223372036854775807 = (e2, y)) := by
    rw [← hr2]; exact of_most _ _ _ hqy (by omega)
  have rb : ∀ z ∈ bas, 0 ≤ z ∧ z ≤ 255 := getD_bytes4 HB0.out
  have RX : Hid (∀ z ∈ x, 0 ≤ z ∧ z ≤ 255) := by
    have := applyGo_range bas rb (hunksOf (printOf ps)) 0 [] (hunksF_range _ _ (print_range' ps HPR.out)) (by simp)
    rwa [hr1] at this
  have RY : Hid (∀ z ∈ y, 0 ≤ z ∧ z ≤ 255) := by
    have := applyGo_range x RX.out (hunksOf (printOf qs)) 0 [] (hunksF_range _ _ (print_range' qs hqr)) (by simp)
    rwa [hr2] at this
  have HXL : Hid (x.length ≤ 10000) := by show _ ≤ _; omega
  have HYL : Hid (y.length ≤ 10000) := by show _ ≤ _; omega
  have he1 : e1 ≤ 4 := by have := go_err bas (hunksOf (printOf ps)) 0 []; rw [hr1] at this; exact this
  have he2 : e2 ≤ 4 := by have := go_err x (hunksOf (printOf qs)) 0 []; rw [hr2] at this; exact this
  obtain ⟨nx, hnx⟩ : ∃ n, x.length = n := ⟨_, rfl⟩
  obtain ⟨ny, hny⟩ : ∃ n, y.length = n := ⟨_, rfl⟩
  have hnx5 : nx ≤ 3000 := by omega
  have hny5 : ny ≤ 5000 := by omega
  have HNX : Hid (x.length = nx) := hnx
  have HNY : Hid (y.length = ny) := hny
  have HMA : Hid (applyOf bas (makeOf bas y) (ny : Int) = (0, y)) := by
    have := make_apply bas y (by omega) (by omega)
    rwa [hny] at this
  have HML : Hid ((makeOf bas y).length ≤ 12 + ny) := by have := make_len bas y; rwa [hny] at this
  clear ho2 hb2 hql hqy hqr hr1 hr2 hx0 hy0 rb hnx hny hbl HI1 HI2 HP1 HPR HPY HPL
  go_wp2_with fail
  refine (apply_any a0 m cap0 bas pa pk pc _ 1099511627776 w2 hmc HN0.out (by omega) (HB0.out.below HW2.out) hpc HNP.out (by omega) HP2.out).mono ?_
  rw [R1.out]
  rintro e w3 ⟨⟨v1, rfl, hv1⟩, hb3⟩
  dsimp only at hv1 ⊢
  rw [HNX.out] at hv1
  obtain ⟨va1, vc1, rfl, hvc, hvn, -⟩ := hv1.shape
  have HW3 : Hid (Below w.heap.size w w3) := HW2.out.trans (hb3.mono HW2.out.size)
  have HP3 : Hid (Bytes w3 pa pk (printOf ps)) := HP2.out.below hb3
  have HQ3 : Hid (Bytes w3 qa qk (printOf qs)) := HQ2.out.below hb3
  have HX3 : Hid (Bytes w3 va1 nx x) := hv1.bytes (range_of_mem RX.out)
  have HNV : Hid (va1 = none → vc1 = 0) := hvn
  clear hv1 hb3 hvn
  go_wp2_with fail
  refine (fold_any pa pk pc (printOf ps) qa qk qc (printOf qs) a0 m cap0 bas e1 e2 x y w3 hpc HNP.out (by omega) HP3.out hqc HNQ.out (by omega) HQ3.out hmc HN0.out (by omega) (HB0.out.below HW3.out) R1'.out R2'.out HXL.out HYL.out RX.out RY.out).mono ?_
  rintro e w4 ⟨hend, hb4⟩
  have HW4 : Hid (Below w.heap.size w w4) := HW3.out.trans (hb4.mono HW3.out.size)
  have HX4 : Hid (Bytes w4 va1 nx x) := HX3.out.below hb4
  have HQ4 : Hid (Bytes w4 qa qk (printOf qs)) := HQ3.out.below hb4
  have hb4' : Hid (Below w3.heap.size w3 w4) := hb4
  clear hb4
  rcases hend with ⟨h1, rfl⟩ | ⟨rfl, h2, rfl⟩ | ⟨rfl, rfl, ra, rn, rc, rfl, hor⟩
  · have i1 : ¬ (e1 : Int) = 0 := by omega
    go_wp2_with fail
    refine (known_any w4).mono ?_
    rintro e w5 ⟨rfl, hb5⟩
    have HW5 : Hid (Below w.heap.size w w5) := HW4.out.trans (hb5.mono HW4.out.size)
    clear hb5
    go_wp2_with fail
    go_ret
    exact ⟨rfl, HW5.out⟩
  · have i2 : ¬ (e2 : Int) = 0 := by omega
    go_wp2_with fail
    refine (apply_any va1 nx vc1 x qa qk qc _ 1099511627776 w4 hvc HNV.out (by omega) HX4.out hqc HNQ.out (by omega) HQ4.out).mono ?_
    rw [R2.out]
    rintro e w5 ⟨⟨v2, rfl, hv2⟩, hb5⟩
    dsimp only at hv2 ⊢
    rw [HNY.out] at hv2
    obtain ⟨va2, vc2, rfl, -, -, -⟩ := hv2.shape
    have HW5 : Hid (Below w.heap.size w w5) := HW4.out.trans (hb5.mono HW4.out.size)
    clear hv2 hb5
    go_wp2_with fail
    refine (known_any w5).mono ?_
    rintro e w6 ⟨rfl, hb6⟩
    have HW6 : Hid (Below w.heap.size w w6) := HW5.out.trans (hb6.mono HW5.out.size)
    clear hb6
    go_wp2_with fail
    go_ret
    exact ⟨rfl, HW6.out⟩
  · have HR4 : Hid (Bytes w4 ra rn (makeOf bas y)) := hor.bytes (range_of_mem (makeOf_range bas y RY.out))
    have hrc : rn ≤ rc := own_cap hor
    have HNR : Hid (ra = none → rc = 0) := nil_of_own hor
    have hrn : rn ≤ 12 + ny := by have h5 := own_len hor; have h6 := HML.out; omega
    clear hor
    go_wp2_with fail
    refine (apply_any va1 nx vc1 x qa qk qc _ 1099511627776 w4 hvc HNV.out (by omega) HX4.out hqc HNQ.out (by omega) HQ4.out).mono ?_
    rw [R2.out]
    rintro e w5 ⟨⟨v2, rfl, hv2⟩, hb5⟩
    dsimp only at hv2 ⊢
    rw [HNY.out] at hv2
    obtain ⟨va2, vc2, rfl, -, -, -⟩ := hv2.shape
    have HW5 : Hid (Below w.heap.size w w5) := HW4.out.trans (hb5.mono HW4.out.size)
    have HY5 : Hid (Bytes w5 va2 ny y) := hv2.bytes (range_of_mem RY.out)
    have HR5 : Hid (Bytes w5 ra rn (makeOf bas y)) := HR4.out.below hb5
    clear hv2 hb5
    go_wp2_with fail
    refine (apply_any a0 m cap0 bas ra rn rc _ (ny : Int) w5 hmc HN0.out (by omega) (HB0.out.below HW5.out) hrc HNR.out (by omega) HR5.out).mono ?_
    rw [HMA.out]
    rintro e w6 ⟨⟨v3, rfl, hv3⟩, hb6⟩
    dsimp only at hv3 ⊢
    rw [HNY.out] at hv3
    obtain ⟨va3, vc3, rfl, -, -, -⟩ := hv3.shape
    have HW6 : Hid (Below w.heap.size w w6) := HW5.out.trans (hb6.mono HW5.out.size)
    have HY6 : Hid (Bytes w6 va2 ny y) := HY5.out.below hb6
    have HZ6 : Hid (Bytes w6 va3 ny y) := hv3.bytes (range_of_mem RY.out)
    clear hv3 hb6
    go_wp2_with fail
    refine (known_any w6).mono ?_
    rintro e w7 ⟨rfl, hb7⟩
    have HW7 : Hid (Below w.heap.size w w7) := HW6.out.trans (hb7.mono HW6.out.size)
    have t1 := text_run w7 va2 ny vc2 y (HY6.out.below hb7)
    have t2 := text_run w7 va3 ny vc3 y (HZ6.out.below hb7)
    clear hb7
    generalize strOfNums y = S1 at *
    have hri : (rn : Int) ≤ 12 + (ny : Int) := by omega
    have kq : IntKind.i64.wrap (12 + (ny : Int)) = 12 + (ny : Int) := by rw [IntKind.wrap_i64]; omega
    go_wp2_with fail
    go_ret
    exact ⟨rfl, HW7.out⟩

/-! ### The row's step -/
set_option maxRecDepth 100000 in
theorem lifted (os : Os) (started : os.Started) (H : Type) (enc : TypeId × Value → H) :
    ReturnsInHanded {} Try.checked os 5 .any (Rows.patchFoldsSpec.pre6 enc Try.prog Try.f5 Rows.patchFoldsRow.domain false) (Rows.patchFoldsSpec.post enc Try.prog Try.f5 false true false false) := by
  refine returnsInHanded_of_change (C := Try.checked) own started (by kernel_rfl) Try.func5
    (ChangeSpec.witness6 (enc := enc) (C := Try.checked) false ⟨#[], #[.slice none 0 0, .slice none 0 0, .slice none 0 0], []⟩ 8 (by kernel_rfl) (by kernel_rfl) (by kernel_rfl) (by kernel_rfl)) ?_
  intro W base args ds gs before hval0 hW hcnd _
  have hval : ∀ (j : Nat) t v, Try.f5.params[j]? = some t → args[j]? = some v → Value.okWide Try.prog W .any base t v := hval0
  have hW' := hW
  obtain ⟨p, q, hA0, hV, rfl, hfz, hnd⟩ := hW
  have hA : DataW.TrodAll enc Try.prog W 0 (fun _ => true) true Try.f5.params.toList args.toList ds p := hA0
  rw [Try.params5] at hA hval
  obtain ⟨v0, vs0, d0, ds0, p0, q0, hargs, rfl, rfl, h0, r0⟩ := trodAll_cons hA
  obtain ⟨v1, vs1, d1, ds1, p1, q1, rfl, rfl, rfl, h1, r1⟩ := trodAll_cons r0
  obtain ⟨v2, vs2, d2, ds2, p2, q2, rfl, rfl, rfl, h2, r2⟩ := trodAll_cons r1
  obtain ⟨rfl, rfl, rfl⟩ := trodAll_nil r2
  obtain rfl : args = #[v0, v1, v2] := by cases args; simp_all
  obtain ⟨rfl, rfl⟩ := trodVars_none hV
  obtain ⟨a0, len0, cap0, rfl⟩ := okWide_slice Try.underlying22 (hval 0 22 v0 rfl rfl)
  have k0 := h0
  have lt0 : ∀ x ∈ p0, x.block < W.heap.size := by obtain ⟨m, hm⟩ := k0; exact DataW.trod_lt m _ _ _ hm
  obtain ⟨z0, w0⟩ : ∃ zs, IsRow .u8 W a0 len0 cap0 zs := by
    obtain ⟨fuel, hf⟩ := h0
    rcases open_ints Try.underlying22 Try.underlying5 (by kernel_rfl) hf with ⟨hcs, _⟩ | ⟨x, l, c, zs, hcs, _, hl, hm, hz, _, hcell, hwz⟩
    · simp [Value.cells] at hcs
      obtain ⟨rfl, rfl, rfl⟩ := hcs
      exact ⟨[], .inl ⟨rfl, rfl, rfl, rfl⟩⟩
    · simp [Value.cells] at hcs
      obtain ⟨rfl, rfl, rfl⟩ := hcs
      exact ⟨zs, .inr ⟨_, rfl, hl, hm, by simpa using hz, hcell, hwz⟩⟩
  have lt1 : ∀ x ∈ p1, x.block < W.heap.size := by obtain ⟨m, hm⟩ := h1; exact DataW.trod_lt m _ _ _ hm
  have lt2 : ∀ x ∈ p2, x.block < W.heap.size := by obtain ⟨m, hm⟩ := h2; exact DataW.trod_lt m _ _ _ hm
  refine (walk base a0 len0 cap0 z0 v1 d1 p1 v2 d2 p2 W w0 (hval 1 23 v1 rfl rfl) h1 (hval 2 23 v2 rfl rfl) h2).mono fun e W' ⟨he, bel⟩ => ?_
  subst he
  exact ⟨_, rfl, _, _, _, [], _, [], hW', trodAll_mk1 (shut_bool Try.underlying4 _), (trodAll_cons_mk (Below.trod laidOut (by kernel_rfl) (of_decide_eq_true (by kernel_rfl)) k0 bel lt0) (trodAll_cons_mk (Below.trod laidOut (by kernel_rfl) (of_decide_eq_true (by kernel_rfl)) h1 bel lt1) (trodAll_cons_mk (Below.trod laidOut (by kernel_rfl) (of_decide_eq_true (by kernel_rfl)) h2 bel lt2) trodAll_mk0))), rfl, bel.frame _, fun h => by cases h⟩

theorem over : Rows.patchFoldsRow.holds Try.pinned (OpenSpec.ofChange Rows.patchFoldsSpec) :=
  OpenClaim.holds_of_wide 5 Try.f5 rfl rfl rfl rfl rfl rfl rfl ⟨rfl, rfl, rfl, rfl, rfl⟩ rfl rfl rfl rfl rfl (by kernel_rfl) Try.func5 (by kernel_rfl)
    (of_decide_eq_true (by kernel_rfl)) (by unfold Func.isWrapper; first | (rw [if_pos (by decide +kernel)]; kernel_rfl) | (rw [if_neg (by decide +kernel)]; exact ⟨rfl, rfl⟩))
    (fun os started H enc _ => lifted os started H enc)

/-- The statement. -/
theorem proved : Rows.PatchFoldsSaid := over
#print axioms proved
end Go.Proofs.Ytbkifjmfmiipnaa.patchFolds
