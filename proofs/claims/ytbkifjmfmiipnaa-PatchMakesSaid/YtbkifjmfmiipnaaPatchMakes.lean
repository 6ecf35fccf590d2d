/- The program's statement PatchMakes holds: for every input it returns true and leaves its arguments as they were. No further condition. -/
import Derived.Test.YtbkifjmfmiipnaaRows
import Derived.WalkKit
import Derived.ProofKit
import Derived.OpenShut
import Derived.ShutString
import Derived.ChangeOld
import Derived.Below
import Derived.StillTailTactics
import Derived.Deep.RegionHeld3
import Derived.Deep.AppendLies
import Derived.StillTactics
import Derived.Deep.RegionWith
import Derived.WalkSpells
import Derived.Outline
import Derived.Test.YtbkifjmfmiipnaaMake
import Derived.Test.YtbkifjmfmiipnaaRefApply
namespace Go.Proofs.Ytbkifjmfmiipnaa.patchMakes
open Go.ChangeShapes Go.WideShapes Go.ChangeAt Go.RowKit
open Go.ChangeMaps (open_string shut_string)
set_option linter.unusedVariables false

theorem own : ownKnob Try.prog.godebug = none := by kernel_rfl
theorem laidOut : laidOutB Try.prog = true := by kernel_rfl

/-- A slice of integers that came in: nil, or a row of cells. -/
def IsRow (k : IntKind) (w : World) (a : Option Addr) (len cap : Nat) (zs : List Int) : Prop :=
  (a = none ∧ len = 0 ∧ cap = 0 ∧ zs = []) ∨
  ∃ x, a = some x ∧ len ≤ cap ∧ cap ≤ maxLen ∧ zs.length = cap ∧ (∀ i, i < zs.length → w.cell? (x.add i) = some (.int k (zs.getD i 0))) ∧ ∀ n ∈ zs, (Lit.int k n).wf = true
open Plain
theorem str_append (xs ys : List Int) : strOfNums xs ++ strOfNums ys = strOfNums (xs ++ ys) := by
  apply ByteArray.ext
  rw [ByteArray.data_append]
  apply Array.toList_inj.1
  rw [Array.toList_append, strOfNums_data, strOfNums_data, strOfNums_data, List.map_append]
theorem nil_row {k : IntKind} {w : World} {a : Option Addr} {len cap : Nat} {zs : List Int} (h : IsRow k w a len cap zs) : a = none → cap = 0 := by
  rcases h with ⟨-, -, h, -⟩ | ⟨x, rfl, -⟩
  · exact fun _ => h
  · exact fun e => by cases e
theorem run_min2 {P : Program} (ts : Array TypeId) (t : TypeId) (k k1 : IntKind) (x y : Int) (w : World) : (Builtin.min_ ts t #[.int k x, .int k1 y]).run P w = .ok (.int k (min x y)) w := by
  have e : ∀ p q : Int, (if q < p then q else p) = min p q := fun p q => by split <;> omega
  simp [Builtin.min_, Builtin.min2, e]
theorem wp_via {P : Program} {c : Code} {Q : Exit → Act → World → Prop} {a : Act} {w : World} (A : Act) (W : World) (h1 : c.wp P (fun e a' w' => e = .normal ∧ a' = A ∧ w' = W) a w) (h2 : Q .normal A W) : c.wp P Q a w := by
  refine wp_mono h1 fun e a' w' ⟨he, ha, hw⟩ => ?_
  subst he ha hw
  exact h2
theorem below_drewN {b : Nat} {w W : World} (h : Below b w W) (n : Nat) : Below b w (W.drewN n) := ⟨h.os, h.tape, h.output, h.size, h.block⟩
theorem makeHk_ys (base target : List Int) : ∀ x ∈ (makeHk base target).ys, x ∈ target := fun x hx => List.mem_of_mem_drop (List.mem_of_mem_take hx)
theorem makeOf_range (base target : List Int) (h : ∀ x ∈ target, 0 ≤ x ∧ x ≤ 255) : ∀ x ∈ makeOf base target, 0 ≤ x ∧ x ≤ 255 := by
  intro x hx
  unfold makeOf at hx
  split at hx
  · simp at hx
  · unfold hkBytes at hx
    simp only [List.mem_append] at hx
    rcases hx with ((hx | hx) | hx) | hx
    · exact be4_bytes _ x hx
    · exact be4_bytes _ x hx
    · exact be4_bytes _ x hx
    · exact h x (makeHk_ys base target x hx)
theorem own_len {w : World} {base : Nat} {a : Option Addr} {n c : Nat} {xs : List Int} (h : Own w base (.slice a n c) n xs) : xs.length = n := by
  have := h.1
  rw [List.length_map] at this
  omega
theorem strOfNums_inj' (xs ys : List Int) (hx : ∀ x ∈ xs, 0 ≤ x ∧ x ≤ 255) (hy : ∀ x ∈ ys, 0 ≤ x ∧ x ≤ 255) (h : strOfNums xs = strOfNums ys) : xs = ys := by
  have e := congrArg (fun s : ByteArray => s.data.toList) h
  simp only [strOfNums_data] at e
  have key : ∀ (xs ys : List Int), (∀ x ∈ xs, 0 ≤ x ∧ x ≤ 255) → (∀ x ∈ ys, 0 ≤ x ∧ x ≤ 255) → xs.map (fun n => UInt8.ofNat n.toNat) = ys.map (fun n => UInt8.ofNat n.toNat) → xs = ys := by
    intro xs
    induction xs with
    | nil => intro ys _ _ h; cases ys with
      | nil => rfl
      | cons y t => simp at h
    | cons x t ih =>
      intro ys h1 h2 h
      cases ys with
      | nil => simp at h
      | cons y u =>
        simp only [List.map_cons, List.cons.injEq] at h
        have g1 := h1 x (by simp)
        have g2 := h2 y (by simp)
        have g3 := congrArg UInt8.toNat h.1
        simp only [UInt8.toNat_ofNat'] at g3
        rw [ih u (fun z hz => h1 z (by simp [hz])) (fun z hz => h2 z (by simp [hz])) h.2, show x = y by omega]
  exact key xs ys hx hy e
theorem wpList_append_bytes_g {w : World} {ops : Array Oper} {rest : List Oper} {o : Oper} {ac : Act} {Q : Exit → Act → World → Prop} (s x : Operand)
    (ho : o.op = .call { callee := .builtin .append, args := #[s, x], argTypes := #[22, 22] }) (hw : Region.wanted o (yielded ops ac.tmps) = true)
    (base : Nat) (v : Value) (n : Nat) (xs : List Int) (hs : ac.eval s = v) (hown : Own w base v n xs) (a : Option Addr) (m c : Nat) (ys : List Int) (hx : ac.eval x = .slice a m c) (HB : Bytes w a m ys) (hnil : a = none → c = 0)
    (hsum : n + m ≤ 70368744177664) (hbase : base ≤ w.heap.size)
    (h : ∀ v' w', Own w' base v' (n + m) (xs ++ ys) → w.grownBy w' v.ownBlock → wpList Try.prog ops Q rest (ac.put o.dst v') w') : wpList Try.prog ops Q (o :: rest) ac w := by
  refine wpList_step fun K hK => ?_
  rw [if_pos hw]
  obtain ⟨v', w', hrun, r1, r2⟩ := append_run w o.type base v n xs hown a m c ys HB hnil hsum hbase
  unfold Oper.wp
  simp [execOp, ho, resolve, invoke, builtin, hs, hx, hrun, Result.andThen]
  exact hK _ _ (h v' w' r1 r2)
theorem loopN (bs : ByteArray) : ∀ (n i : Nat) (r : List UInt8), bs.size - i = n → ByteArray.toList.loop bs i r = r.reverse ++ bs.data.toList.drop i
  | 0, i, r, h => by
    rw [ByteArray.toList.loop, if_neg (by omega)]
    have : bs.data.toList.length ≤ i := by show bs.size ≤ i; omega
    rw [List.drop_of_length_le this, List.append_nil]
  | n + 1, i, r, h => by
    have hi : i < bs.data.toList.length := by show i < bs.size; omega
    rw [ByteArray.toList.loop, if_pos (by omega), loopN bs n (i + 1) _ (by omega), List.drop_eq_getElem_cons hi]
    have hg : bs.get! i = bs.data.toList[i] := by
      show bs.data[i]! = _
      have : i < bs.data.size := by simpa using hi
      rw [getElem!_pos bs.data i this]
      simp
    rw [hg]
    simp
theorem toList_inj' (a b : ByteArray) (h : a.toList = b.toList) : a = b := by
  unfold ByteArray.toList at h
  rw [loopN a _ 0 [] rfl, loopN b _ 0 [] rfl] at h
  apply ByteArray.ext
  apply Array.toList_inj.1
  simpa using h
/-! ### The walk -/
set_option maxRecDepth 100000 in
set_option maxHeartbeats 16000000 in
theorem walk (a0 : Option Addr) (len0 cap0 : Nat) (z0 : List Int) (a1 : Option Addr) (len1 cap1 : Nat) (z1 : List Int) (w : World) (w0 : IsRow .u8 w a0 len0 cap0 z0) (w1 : IsRow .u8 w a1 len1 cap1 z1) :
    Calls Try.prog 4 #[.slice a0 len0 cap0, .slice a1 len1 cap1] w fun e w' => e = .returned (.bool true) ∧ Below w.heap.size w w' := by
  have HN0 : Hid (a0 = none → cap0 = 0) := nil_row w0
  have HN1 : Hid (a1 = none → cap1 = 0) := nil_row w1
  obtain ⟨hb0, hlc0, hcm0⟩ := bytes_of w0
  obtain ⟨hb1, hlc1, hcm1⟩ := bytes_of w1
  have HB0 : Hid (Bytes w a0 (min len0 1000) ((z0.take len0).take 1000)) := hb0.first 1000
  have HB1 : Hid (Bytes w a1 (min len1 1000) ((z1.take len1).take 1000)) := hb1.first 1000
  clear w0 w1 hb0 hb1
  generalize (z0.take len0).take 1000 = bas at *
  generalize (z1.take len1).take 1000 = tgt at *
  obtain ⟨m, hm⟩ : ∃ m, min len0 1000 = m := ⟨_, rfl⟩
  obtain ⟨q, hq⟩ : ∃ q, min len1 1000 = q := ⟨_, rfl⟩
  have hm5 : m ≤ 1000 := by omega
  have hmc : m ≤ cap0 := by omega
  have hq5 : q ≤ 1000 := by omega
  have hqc : q ≤ cap1 := by omega
  rw [hm] at HB0
  rw [hq] at HB1
  have HF : Hid (∀ W, Calls Try.prog 8 #[.slice a0 len0 cap0] W fun e w' => e = .returned (.slice a0 m cap0) ∧ w' = W) := fun W => by
    rw [← hm]; exact few_any a0 len0 cap0 [] W hlc0 hcm0
  have HG : Hid (∀ W, Calls Try.prog 8 #[.slice a1 len1 cap1] W fun e w' => e = .returned (.slice a1 q cap1) ∧ w' = W) := fun W => by
    rw [← hq]; exact few_any a1 len1 cap1 [] W hlc1 hcm1
  clear hm hq
  have HMR : Hid (∀ j : Nat, 0 ≤ (makeOf bas tgt)[j]?.getD 0 ∧ (makeOf bas tgt)[j]?.getD 0 ≤ 255) := range_of_mem (makeOf_range bas tgt (getD_bytes4 HB1.out))
  have HML : Hid ((makeOf bas tgt).length ≤ 12 + q) := by have := make_len bas tgt; rwa [HB1.out.1] at this
  have HAP : Hid (applyOf bas (makeOf bas tgt) (q : Int) = (0, tgt)) := by
    have := make_apply bas tgt (by rw [HB0.out.1]; omega) (by rw [HB1.out.1]; omega)
    rwa [HB1.out.1] at this
  have HTL : Hid (tgt.length = q) := HB1.out.1
  go_enter Try.func4, Try.ntmps4
  go_wp2_with fail
  refine (HF.out w).mono ?_
  rintro e wq ⟨rfl, hwq⟩
  have hwq2 := hwq.symm
  subst hwq2
  clear hwq
  go_wp2_with fail
  refine (HG.out w).mono ?_
  rintro e wq ⟨rfl, hwq⟩
  have hwq2 := hwq.symm
  subst hwq2
  clear hwq HF HG
  go_wp2_with fail
  refine (make_any a0 m cap0 bas a1 q cap1 tgt w hmc HN0.out (by omega) HB0.out hqc HN1.out (by omega) HB1.out).mono ?_
  rintro e w1 ⟨⟨pa, pk, pc, rfl, ho1⟩, hb1⟩
  have HW1 : Hid (Below w.heap.size w w1) := hb1
  have HP1 : Hid (Bytes w1 pa pk (makeOf bas tgt)) := ho1.bytes HMR.out
  have hpc : pk ≤ pc := own_cap ho1
  have HNP : Hid (pa = none → pc = 0) := nil_of_own ho1
  have HPK : Hid ((makeOf bas tgt).length = pk) := own_len ho1
  have hpk : pk ≤ 12 + q := by have h5 := HPK.out; have h6 := HML.out; omega
  clear ho1 hb1
  go_wp2_with fail
  refine (apply_any a0 m cap0 bas pa pk pc _ (q : Int) w1 hmc HN0.out (by omega) (HB0.out.below HW1.out) hpc HNP.out (by omega) HP1.out).mono ?_
  rw [HAP.out]
  rintro e w2 ⟨⟨v1, rfl, hv1⟩, hb2⟩
  dsimp only at hv1 ⊢
  rw [HTL.out] at hv1
  obtain ⟨va1, vc1, rfl, -, -, -⟩ := hv1.shape
  have HW2 : Hid (Below w.heap.size w w2) := HW1.out.trans (hb2.mono HW1.out.size)
  have HP2 : Hid (Bytes w2 pa pk (makeOf bas tgt)) := HP1.out.below hb2
  have HA2 : Hid (Bytes w2 va1 q tgt) := hv1.bytes HB1.out.2.2.1
  clear hv1 hb2
  go_wp2_with fail
  refine (ref_apply a0 m cap0 bas pa pk pc _ (q : Int) w2 hmc HN0.out (by omega) (HB0.out.below HW2.out) hpc HNP.out (by omega) HP2.out).mono ?_
  rw [HAP.out]
  rintro e w3 ⟨⟨v2, rfl, hv2⟩, hb3⟩
  dsimp only at hv2 ⊢
  rw [HTL.out] at hv2
  obtain ⟨va2, vc2, rfl, -, -, -⟩ := hv2.shape
  have HW3 : Hid (Below w.heap.size w w3) := HW2.out.trans (hb3.mono HW2.out.size)
  have HA3 : Hid (Bytes w3 va1 q tgt) := HA2.out.below hb3
  have HC3 : Hid (Bytes w3 va2 q tgt) := hv2.bytes HB1.out.2.2.1
  clear hv2 hb3
  go_wp2_with fail
  refine (known_any w3).mono ?_
  rintro e w4 ⟨rfl, hb4⟩
  have HW4 : Hid (Below w.heap.size w w4) := HW3.out.trans (hb4.mono HW3.out.size)
  have t1 := text_run w4 a0 m cap0 bas (HB0.out.below HW4.out)
  have t2 := text_run w4 a1 q cap1 tgt (HB1.out.below HW4.out)
  have t3 := text_run w4 va1 q vc1 tgt (HA3.out.below hb4)
  have t4 := text_run w4 va2 q vc2 tgt (HC3.out.below hb4)
  have HS : Hid (strOfNums bas = strOfNums tgt → pk = 0) := fun h => by
    have e := strOfNums_inj' bas tgt (getD_bytes4 HB0.out) (getD_bytes4 HB1.out) h
    subst e
    have := HPK.out
    rw [make_same] at this
    exact this.symm
  clear hb4
  generalize strOfNums bas = S1 at *
  generalize strOfNums tgt = S2 at *
  have hpi : (pk : Int) ≤ 12 + (q : Int) := by omega
  have kq : IntKind.i64.wrap (12 + (q : Int)) = 12 + (q : Int) := by rw [IntKind.wrap_i64]; omega
  by_cases hs : S1 = S2
  · have hpk0 := HS.out hs
    subst hs hpk0
    have tok : True := trivial
    go_wp2_with (
      have _t := tok
      at_builtin
      refine wpList_append_bytes_g _ _ rfl (by rfl) w4.heap.size _ 0 [] rfl (Own.empty w4) a0 m cap0 bas rfl ((HB0.out.below HW4.out).below ((Below.refl _ _).alloc (Nat.le_refl _) _)) HN0.out (by omega) (by simp) ?_
      intro u1 w5 hu1 hg1
      clear tok
      rw [Nat.zero_add, List.nil_append] at hu1
      have HB5 : Hid (Below w4.heap.size w4 w5) := ((Below.refl _ _).alloc (Nat.le_refl _) _).trans ((Own.empty w4).kept (by simp) hg1)
      have HU5 : Hid (Own w5 w4.heap.size u1 m bas) := hu1
      obtain ⟨ua, uc, eu1, hcu, hnu, -⟩ := hu1.shape
      subst eu1
      have HNU : Hid (ua = none → uc = 0) := hnu
      clear hu1 hg1 hnu)
    have HW5 : Hid (Below w.heap.size w w5) := HW4.out.trans (HB5.out.mono HW4.out.size)
    refine (make_any a0 m cap0 bas ua m uc bas w5 hmc HN0.out (by omega) (HB0.out.below HW5.out) hcu HNU.out (by omega) (HU5.out.bytes HB0.out.2.2.1)).mono ?_
    rw [make_same]
    rintro e w6 ⟨⟨xa, xn, xc, rfl, hx⟩, hb6⟩
    have hx0 : 0 = xn := own_len hx
    subst hx0
    have HW6 : Hid (Below w.heap.size w w6) := HW5.out.trans (hb6.mono HW5.out.size)
    clear hx hb6
    go_wp2_with fail
    go_ret
    exact ⟨rfl, HW6.out⟩
  · have hne : ¬ S1.toList = S2.toList := fun h => hs (toList_inj' S1 S2 h)
    have tok : True := trivial
    go_wp2_with (
      have _t := tok
      at_builtin
      refine wpList_append_bytes_g _ _ rfl (by rfl) w4.heap.size _ 0 [] rfl (Own.empty w4) a0 m cap0 bas rfl ((HB0.out.below HW4.out).below ((Below.refl _ _).alloc (Nat.le_refl _) _)) HN0.out (by omega) (by simp) ?_
      intro u1 w5 hu1 hg1
      clear tok
      rw [Nat.zero_add, List.nil_append] at hu1
      have HB5 : Hid (Below w4.heap.size w4 w5) := ((Below.refl _ _).alloc (Nat.le_refl _) _).trans ((Own.empty w4).kept (by simp) hg1)
      have HU5 : Hid (Own w5 w4.heap.size u1 m bas) := hu1
      obtain ⟨ua, uc, eu1, hcu, hnu, -⟩ := hu1.shape
      subst eu1
      have HNU : Hid (ua = none → uc = 0) := hnu
      clear hu1 hg1 hnu)
    have HW5 : Hid (Below w.heap.size w w5) := HW4.out.trans (HB5.out.mono HW4.out.size)
    refine (make_any a0 m cap0 bas ua m uc bas w5 hmc HN0.out (by omega) (HB0.out.below HW5.out) hcu HNU.out (by omega) (HU5.out.bytes HB0.out.2.2.1)).mono ?_
    rw [make_same]
    rintro e w6 ⟨⟨xa, xn, xc, rfl, hx⟩, hb6⟩
    have hx0 : 0 = xn := own_len hx
    subst hx0
    have HW6 : Hid (Below w.heap.size w w6) := HW5.out.trans (hb6.mono HW5.out.size)
    clear hx hb6
    go_wp2_with fail
    go_ret
    exact ⟨rfl, HW6.out⟩

/-! ### The row's step -/
set_option maxRecDepth 100000 in
theorem lifted (os : Os) (started : os.Started) (H : Type) (enc : TypeId × Value → H) :
    ReturnsInHanded {} Try.checked os 4 .any (Rows.patchMakesSpec.pre6 enc Try.prog Try.f4 Rows.patchMakesRow.domain false) (Rows.patchMakesSpec.post enc Try.prog Try.f4 false true false false) := by
  refine returnsInHanded_of_change (C := Try.checked) own started (by kernel_rfl) Try.func4
    (ChangeSpec.witness6 (enc := enc) (C := Try.checked) false ⟨#[], #[.slice none 0 0, .slice none 0 0], []⟩ 8 (by kernel_rfl) (by kernel_rfl) (by kernel_rfl) (by kernel_rfl)) ?_
  intro W base args ds gs before hval0 hW hcnd _
  have hval : ∀ (j : Nat) t v, Try.f4.params[j]? = some t → args[j]? = some v → Value.okWide Try.prog W .any base t v := hval0
  have hW' := hW
  obtain ⟨p, q, hA0, hV, rfl, hfz, hnd⟩ := hW
  have hA : DataW.TrodAll enc Try.prog W 0 (fun _ => true) true Try.f4.params.toList args.toList ds p := hA0
  rw [Try.params4] at hA hval
  obtain ⟨v0, vs0, d0, ds0, p0, q0, hargs, rfl, rfl, h0, r0⟩ := trodAll_cons hA
  obtain ⟨v1, vs1, d1, ds1, p1, q1, rfl, rfl, rfl, h1, r1⟩ := trodAll_cons r0
  obtain ⟨rfl, rfl, rfl⟩ := trodAll_nil r1
  obtain rfl : args = #[v0, v1] := by cases args; simp_all
  obtain ⟨rfl, rfl⟩ := trodVars_none hV
  obtain ⟨a0, len0, cap0, rfl⟩ := okWide_slice Try.underlying22 (hval 0 22 v0 rfl rfl)
  have k0 := h0
  have lt0 : ∀ x ∈ p0, x.block < W.heap.size := by obtain ⟨m, hm⟩ := k0; exact DataW.trod_lt m _ _ _ hm
  obtain ⟨z0, w0⟩ : ∃ zs, IsRow .u8 W a0 len0 cap0 zs := by
    obtain ⟨fuel, hf⟩ := h0
    rcases open_ints Try.underlying22 Try.underlying5 (by kernel_rfl) hf with ⟨hcs, _⟩ | ⟨x, l, c, zs, hcs, _, hl, hm, hz, _, hcell, hwz⟩
    · simp [Value.cells] at hcs
      obtain ⟨rfl, rfl, rfl⟩ := hcs
      exact ⟨[], .inl ⟨rfl, rfl, rfl, rfl⟩⟩
    · simp [Value.cells] at hcs
      obtain ⟨rfl, rfl, rfl⟩ := hcs
      exact ⟨zs, .inr ⟨_, rfl, hl, hm, by simpa using hz, hcell, hwz⟩⟩
  obtain ⟨a1, len1, cap1, rfl⟩ := okWide_slice Try.underlying22 (hval 1 22 v1 rfl rfl)
  have k1 := h1
  have lt1 : ∀ x ∈ p1, x.block < W.heap.size := by obtain ⟨m, hm⟩ := k1; exact DataW.trod_lt m _ _ _ hm
  obtain ⟨z1, w1⟩ : ∃ zs, IsRow .u8 W a1 len1 cap1 zs := by
    obtain ⟨fuel, hf⟩ := h1
    rcases open_ints Try.underlying22 Try.underlying5 (by kernel_rfl) hf with ⟨hcs, _⟩ | ⟨x, l, c, zs, hcs, _, hl, hm, hz, _, hcell, hwz⟩
    · simp [Value.cells] at hcs
      obtain ⟨rfl, rfl, rfl⟩ := hcs
      exact ⟨[], .inl ⟨rfl, rfl, rfl, rfl⟩⟩
    · simp [Value.cells] at hcs
      obtain ⟨rfl, rfl, rfl⟩ := hcs
      exact ⟨zs, .inr ⟨_, rfl, hl, hm, by simpa using hz, hcell, hwz⟩⟩
  refine (walk a0 len0 cap0 z0 a1 len1 cap1 z1 W w0 w1).mono fun e W' ⟨he, bel⟩ => ?_
  subst he
  exact ⟨_, rfl, _, _, _, [], _, [], hW', trodAll_mk1 (shut_bool Try.underlying4 _), (trodAll_cons_mk (Below.trod laidOut (by kernel_rfl) (of_decide_eq_true (by kernel_rfl)) k0 bel lt0) (trodAll_cons_mk (Below.trod laidOut (by kernel_rfl) (of_decide_eq_true (by kernel_rfl)) k1 bel lt1) trodAll_mk0)), rfl, bel.frame _, fun h => by cases h⟩

theorem over : Rows.patchMakesRow.holds Try.pinned (OpenSpec.ofChange Rows.patchMakesSpec) :=
  OpenClaim.holds_of_wide 4 Try.f4 rfl rfl rfl rfl rfl rfl rfl ⟨rfl, rfl, rfl, rfl, rfl⟩ rfl rfl rfl rfl rfl (by kernel_rfl) Try.func4 (by kernel_rfl)
    (of_decide_eq_true (by kernel_rfl)) (by unfold Func.isWrapper; first | (rw [if_pos (by decide +kernel)]; kernel_rfl) | (rw [if_neg (by decide +kernel)]; exact ⟨rfl, rfl⟩))
    (fun os started H enc _ => lifted os started H enc)

/-- The statement. -/
theorem proved : Rows.PatchMakesSaid := over
#print axioms proved
end Go.Proofs.Ytbkifjmfmiipnaa.patchMakes
