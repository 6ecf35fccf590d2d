/- change.Parse: the walk. -/
import Derived.Test.YthokcdjmhhlcdaaGreatDoorChRead3
namespace Go.Proofs.YthokcdjmhhlcdaaGreatDoor
open Go.RowKit Go.Shelf Plain
set_option linter.unusedVariables false
set_option linter.unusedSimpArgs false
theorem unval_len : ∀ l : List UInt8, (unval l).length ≤ l.length
  | [] => Nat.le_refl _
  | [c] => by rw [unval]
              exact Nat.le_refl _
  | c :: d :: l => by
    rw [unval]
    split
    · have := unval_len l
      simp only [List.length_cons]; omega
    · have := unval_len (d :: l)
      simp only [List.length_cons] at this ⊢; omega
theorem filesP_len : ∀ (k : Nat) (l : List UInt8), (filesP k l).1.length ≤ l.length ∧ (∀ p ∈ (filesP k l).1, p.size ≤ l.length) ∧ (filesP k l).2.length ≤ l.length
  | 0, l => by
    rw [filesP]
    exact ⟨Nat.zero_le _, fun p hp => absurd hp (by simp), (cut_len l 10).2⟩
  | k + 1, l => by
    rw [filesP]
    split
    · exact ⟨Nat.zero_le _, fun p hp => absurd hp (by simp), (cut_len l 10).2⟩
    · rename_i h
      have h1 := cut_rest_lt h
      obtain ⟨i1, i2, i3⟩ := filesP_len k (Lib.cut l [10]).2.1
      refine ⟨by simp only [List.length_cons]; omega, fun p hp => ?_, by simp only; omega⟩
      rcases List.mem_cons.1 hp with rfl | hp
      · rw [txt_size]; exact (cut_len l 10).1
      · have := i2 p hp; omega
theorem count_le (l : List UInt8) : Lib.count l [0] ≤ l.length := by
  rw [Lib.count_one]
  exact List.count_le_length
theorem splitK_len : ∀ (k : Nat) (l : List UInt8), (Lib.splitK [0] 0 k l).length ≤ k + 1 ∧ ∀ p ∈ Lib.splitK [0] 0 k l, p.length ≤ l.length
  | 0, l => by
    rw [Lib.splitK]
    exact ⟨by simp, fun p hp => by rw [List.mem_singleton.1 hp]; exact Nat.le_refl _⟩
  | k + 1, l => by
    rw [Lib.splitK]
    split
    · exact ⟨by simp, fun p hp => by rw [List.mem_singleton.1 hp]; exact Nat.le_refl _⟩
    · obtain ⟨i1, i2⟩ := splitK_len k (l.drop ((Lib.index l [0]).toNat + ([0] : List UInt8).length))
      refine ⟨by rw [List.length_cons]; omega, fun p hp => ?_⟩
      rcases List.mem_cons.1 hp with rfl | hp
      · rw [List.length_take]; omega
      · have := i2 p hp
        rw [List.length_drop] at this
        omega
theorem extsP_len (l : List UInt8) : (extsP l).length ≤ l.length + 1 ∧ ∀ x ∈ extsP l, x.1.size ≤ l.length ∧ x.2.size ≤ l.length := by
  unfold extsP
  split
  · have h1 := (cut_len l 32).2
    have h2 := (cut_len (Lib.cut l [32]).2.1 32).2
    have h3 := count_le (Lib.cut (Lib.cut l [32]).2.1 [32]).2.1
    obtain ⟨i1, i2⟩ := splitK_len (Lib.count (Lib.cut (Lib.cut l [32]).2.1 [32]).2.1 [0]) (Lib.cut (Lib.cut l [32]).2.1 [32]).2.1
    refine ⟨?_, fun x hx => ?_⟩
    · rw [List.length_map]
      show (Lib.splitK [0] 0 _ _).length ≤ _
      omega
    · obtain ⟨p, hp, rfl⟩ := List.mem_map.1 hx
      have h4 := i2 p hp
      unfold wordP
      have h5 := cut_len p 58
      have h6 := unval_len (Lib.cut p [58]).2.1
      simp only [txt_size]
      omega
  · exact ⟨Nat.zero_le _, fun x hx => absurd hx (by simp)⟩
theorem numP_le (l : List UInt8) : -4611686018427387903 ≤ numP l ∧ numP l ≤ 4611686018427387903 := by
  unfold numP
  split
  · rename_i r
    have := decF_le r
    omega
  · have := decF_le l
    omega
theorem raw_tiny {L : List UInt8} (h : L.length ≤ 18000) : ChTiny (rawP L) := by
  have h1 := cut_len L 10
  have h2 := cut_len (rest1 L) 10
  have h3 := cut_len (rest2 L) 10
  have r1 : (rest1 L).length ≤ L.length := h1.2
  have r2 : (rest2 L).length ≤ (rest1 L).length := h2.2
  have r3 : (rest3 L).length ≤ (rest2 L).length := h3.2
  have rd : (dateP L).length ≤ (rest2 L).length := h3.1
  obtain ⟨f1, f2, f3⟩ := filesP_len (rest3 L).length (rest3 L)
  obtain ⟨e1, e2⟩ := extsP_len (dateP L)
  have nt := numP_le (timeP (dateP L))
  have nz := numP_le (zoneP (dateP L))
  refine ⟨?_, ?_, ?_, ?_, fun x hx => ?_, fun p hp => ?_, ?_, ?_⟩
  · show (txt _).size ≤ _; rw [txt_size]; omega
  · show (txt _).size ≤ _; rw [txt_size]; omega
  · show (extsP _).length ≤ _; omega
  · show (filesP _ _).1.length ≤ _; omega
  · have := e2 x hx; omega
  · have := f2 p hp; omega
  · show -9223372036854775808 ≤ numP _ ∧ numP _ ≤ _; omega
  · show -9223372036854775808 ≤ numP _ ∧ numP _ ≤ _; omega
/-! ### Cells stored one behind the other -/
def setAll (cur : Array Value) : Nat → List Value → Array Value
  | _, [] => cur
  | o, v :: r => setAll (cur.setIfInBounds o v) (o + 1) r
theorem heap_setCells (b : Nat) (t : TypeId) : ∀ (vs : List Value) (o : Nat) (w : World) (cur : Array Value), w.heap[b]? = some (.cells cur t (0, 0)) → (w.setCells b o vs).heap[b]? = some (.cells (setAll cur o vs) t (0, 0))
  | [], o, w, cur, h => h
  | v :: r, o, w, cur, h => heap_setCells b t r (o + 1) _ _ (heap_setCell_same w b o _ _ _ h)
theorem heap_setCells_ne (b k : Nat) (hn : k ≠ b) : ∀ (vs : List Value) (o : Nat) (w : World), (w.setCells b o vs).heap[k]? = w.heap[k]?
  | [], o, w => rfl
  | v :: r, o, w => (heap_setCells_ne b k hn r (o + 1) _).trans (heap_setCell_ne w ⟨b, o, none⟩ v k hn)
theorem below_setCells {B : Nat} {a : World} (b : Nat) (hb : B ≤ b) : ∀ (vs : List Value) (o : Nat) (w : World), Below B a w → Below B a (w.setCells b o vs)
  | [], o, w, h => h
  | v :: r, o, w, h => below_setCells b hb r (o + 1) _ (h.setCell (p := ⟨b, o, none⟩) hb v)
theorem setAll_list : ∀ (vs : List Value) (o : Nat) (cur : Array Value), o + vs.length ≤ cur.size → (setAll cur o vs).toList = cur.toList.take o ++ vs ++ cur.toList.drop (o + vs.length)
  | [], o, cur, h => by simp [setAll]
  | v :: r, o, cur, h => by
    rw [List.length_cons] at h
    have ih := setAll_list r (o + 1) (cur.setIfInBounds o v) (by rw [Array.size_setIfInBounds]; omega)
    rw [setAll, ih, Array.toList_setIfInBounds]
    have hl : o < cur.toList.length := by rw [Array.length_toList]; omega
    rw [List.take_set, List.drop_set_of_lt (by omega), List.length_cons, show o + 1 + r.length = o + (r.length + 1) by omega, List.take_add_one, List.getElem?_eq_getElem hl]
    have h1 : (cur.toList.take o).length = o := by rw [List.length_take]; omega
    rw [List.set_append_right _ _ (by omega), h1, Nat.sub_self]
    simp
theorem chA_id (c : CX) (xv fv : Value) (h20 : c.n.length = 20) (n : List Int) (hn : n.length = 20) : setAll (chA c xv fv) 0 (U8 n) = chA { c with n := n } xv fv := by
  apply Array.toList_inj.1
  rw [setAll_list _ _ _ (by rw [chA_size _ _ _ h20, U8_length, hn]; omega)]
  unfold chA chL
  rw [U8_length, hn]
  show [] ++ U8 n ++ (U8 c.n ++ _).drop (0 + 20) = _
  rw [Nat.zero_add, show (20 : Nat) = (U8 c.n).length by rw [U8_length, h20], List.drop_left]
  rfl
theorem chA_set (c : CX) (xv fv : Value) (h20 : c.n.length = 20) (i : Nat) (v : Value) (l' : List Value) (hl : ([.string c.u, .int .i64 c.t, .int .i64 c.z, xv, fv, .string c.d] : List Value).set i v = l') : (chA c xv fv).setIfInBounds (20 + i) v = (U8 c.n ++ l').toArray := by
  unfold chA chL
  rw [List.setIfInBounds_toArray, List.set_append_right _ _ (by rw [U8_length, h20]; omega), U8_length, h20, show 20 + i - 20 = i by omega, hl]
def czero : CX := ⟨zeros20, ⟨#[]⟩, 0, 0, [], [], ⟨#[]⟩⟩
theorem OwnG.move {α : Type} {k : Nat} {enc : α → List Value} {e : TypeId} {w w' : World} {base : Nat} {v : Value} {xs : List α} (h : OwnG k enc e w base v xs) (hk : ∀ g, base ≤ g → g < w.heap.size → w'.heap[g]? = w.heap[g]?) : OwnG k enc e w' base v xs := by
  obtain ⟨h1, h2 | ⟨g, cap, cur, h3, h4, h5, h6⟩⟩ := h
  · exact ⟨h1, .inl h2⟩
  · exact ⟨h1, .inr ⟨g, cap, cur, h3, h4, (hk g h4 (Array.getElem?_eq_some_iff.1 h5).1).trans h5, h6⟩⟩
theorem czero_20 : czero.n.length = 20 := by show zeros20.length = 20; decide +kernel
theorem zero_ch (W : World) : (zeroValue 30).run Tryz.prog W = .ok (.agg (chA czero (.slice none 0 0) (.slice none 0 0))) W := by kernel_rfl
theorem build_ch0 (W : World) : (Instr.build 30 #[]).run Tryz.prog W = .ok (.agg (chA czero (.slice none 0 0) (.slice none 0 0))) W := run_build W _ _ _ (by kernel_rfl)
theorem zero_rd (W : World) : (zeroValue 59).run Tryz.prog W = .ok (.agg #[.string ⟨#[]⟩]) W := by kernel_rfl
theorem chA_one (c : CX) (xv fv : Value) (hx : xv.oneCell' = true) (hf : fv.oneCell' = true) : (chA c xv fv).all (·.oneCell') = true := by
  rw [Array.all_eq_true_iff_forall_mem]
  intro u hu
  exact chL_one c xv fv hx hf u (by simpa [chA] using hu)
theorem rowat_setRow {α : Type} {k : Nat} {enc : α → List Value} {w : World} {a : Option Addr} {xs : List α} (h : RowAt k enc w a xs) {b : Nat} {cs : Array Value} (hb : ∀ b' off, a = some ⟨b', off, none⟩ → xs.length ≠ 0 → b' ≠ b) : RowAt k enc (w.setRow b cs) a xs := by
  by_cases h0 : xs.length = 0
  · exact .inl h0
  · rcases h with h1 | ⟨b', off, rfl, hl, hc⟩
    · exact absurd h1 h0
    · have hn := hb b' off rfl h0
      have hh : (w.setRow b cs).heap[b']? = w.heap[b']? := setRow_other w b b' cs hn
      refine .inr ⟨b', off, rfl, (by simpa [World.setRow] using hl), fun j x hj i v hv => ?_⟩
      rw [← hc j x hj i v hv]
      unfold World.cell?
      rw [hh]
theorem OwnG.base {α : Type} {k : Nat} {enc : α → List Value} {e : TypeId} {w : World} {base n c : Nat} {a : Option Addr} {xs : List α} (h : OwnG k enc e w base (.slice a n c) xs) {b' off : Nat} (ha : a = some ⟨b', off, none⟩) : base ≤ b' := by
  obtain ⟨h1, ⟨h2, -⟩ | ⟨g, cap, cur, h3, h4, -⟩⟩ := h
  · simp only [Value.slice.injEq] at h2
    rw [h2.1] at ha
    cases ha
  · simp only [Value.slice.injEq] at h3
    rw [h3.1] at ha
    simp only [Option.some.injEq, Addr.mk.injEq] at ha
    rw [← ha.1]
    exact h4
/-- What is parsed. -/
def ChParse (e : Ending) (w' : World) : Option CX → Prop
  | none => e = .returned (.tuple #[.agg (chV czero none 0 none 0), .int .i64 4])
  | some c => ∃ xa xc fa fc, e = .returned (.tuple #[.agg (chV c xa xc fa fc), .int .i64 0]) ∧ ChAt w' c xa xc fa fc
/-- What is parsed lies in new blocks. -/
def ChParseF (B : Nat) (e : Ending) (w' : World) : Option CX → Prop
  | none => e = .returned (.tuple #[.agg (chV czero none 0 none 0), .int .i64 4])
  | some c => ∃ xa xc fa fc, e = .returned (.tuple #[.agg (chV c xa xc fa fc), .int .i64 0]) ∧ ChAt w' c xa xc fa fc ∧ (∀ b' off, xa = some ⟨b', off, none⟩ → B ≤ b') ∧ ∀ b' off, fa = some ⟨b', off, none⟩ → B ≤ b'
theorem ChParseF.parse {B : Nat} {e : Ending} {w' : World} {o : Option CX} (h : ChParseF B e w' o) : ChParse e w' o := by
  cases o with
  | none => exact h
  | some c =>
    obtain ⟨xa, xc, fa, fc, h1, h2, -⟩ := h
    exact ⟨xa, xc, fa, fc, h1, h2⟩
set_option maxRecDepth 100000 in
set_option maxHeartbeats 32000000 in
theorem chparse_fresh (a : Option Addr) (m cap : Nat) (L : List UInt8) (w : World) (R : Bytes w a m (numsOf (txt L))) (hm : m ≤ 18000) (hE : EnvC w) :
    Calls Tryz.prog 12 #[.slice a m cap] w fun e w' => ChParseF w.heap.size e w' (parseC L) ∧ Below w.heap.size w w' := by
  have HR := Lib.hid R
  have HE := Lib.hid hE
  have HL : Hid (L.length ≤ 18000) := by
    show _ ≤ _
    have h1 := R.1
    rw [numsOf_length, txt_size] at h1
    omega
  have HTY := Lib.hid (raw_tiny HL.out)
  have HTX : Hid (∀ W, Below w.heap.size w W → (convert 33 9 (.slice a m cap)).run Tryz.prog W = .ok (.string (txt L)) W) := fun W hW => by
    have := text_run W a m cap _ (R.below hW)
    rwa [str_nums] at this
  have hzc := zero_ch
  have hzr := zero_rd
  have HB1 : Hid (Below w.heap.size w (w.alloc (.cells (chA czero (.slice none 0 0) (.slice none 0 0)) 30))) := (Below.refl _ _).alloc (Nat.le_refl _) _
  have htx := HTX.out _ HB1.out
  have HZ1 : Hid ((w.alloc (.cells (chA czero (.slice none 0 0) (.slice none 0 0)) 30)).heap[w.heap.size]? = some (.cells (chA czero (.slice none 0 0) (.slice none 0 0)) 30 (0, 0))) := heap_alloc_new _ _
  have HS1 : Hid ((w.alloc (.cells (chA czero (.slice none 0 0) (.slice none 0 0)) 30)).heap.size = w.heap.size + 1) := by show _ = _; simp
  clear R hE hm
  go_enter Tryz.func12, Tryz.ntmps12
  go_wp2_with fail
  clear htx hzc hzr HZ1 HS1 HB1
  obtain ⟨w3, hw3⟩ : ∃ W, ((w.alloc (.cells (chA czero (.slice none 0 0) (.slice none 0 0)) 30)).alloc (.cells #[.string (txt L)] 59)).alloc (.cells (chA czero (.slice none 0 0) (.slice none 0 0)) 30) = W := ⟨_, rfl⟩
  have HB3 : Hid (Below w.heap.size w w3) := by rw [← hw3]; exact (((Below.refl _ _).alloc (Nat.le_refl _) _).alloc (by simp) _).alloc (by simp; omega) _
  have hz2 : w3.heap[w.heap.size]? = some (.cells (chA czero (.slice none 0 0) (.slice none 0 0)) 30 (0, 0)) := by
    rw [← hw3]
    exact (Below.heap_alloc _ _ _ (by simp; omega)).trans ((Below.heap_alloc _ _ _ (by simp)).trans (heap_alloc_new _ _))
  have hrd : RdAt w3 (w.heap.size + 1) L := by
    rw [← hw3]
    have h1 := heap_alloc_new (w.alloc (.cells (chA czero (.slice none 0 0) (.slice none 0 0)) 30)) (.cells #[.string (txt L)] 59)
    rw [show (w.alloc (.cells (chA czero (.slice none 0 0) (.slice none 0 0)) 30)).heap.size = w.heap.size + 1 by simp] at h1
    exact (Below.heap_alloc _ _ _ (by simp)).trans h1
  have hcb : w3.heap[w.heap.size + 1 + 1]? = some (.cells (chA czero (.slice none 0 0) (.slice none 0 0)) 30 (0, 0)) := by
    rw [← hw3]
    have h1 := heap_alloc_new ((w.alloc (.cells (chA czero (.slice none 0 0) (.slice none 0 0)) 30)).alloc (.cells #[.string (txt L)] 59)) (.cells (chA czero (.slice none 0 0) (.slice none 0 0)) 30)
    rw [show ((w.alloc (.cells (chA czero (.slice none 0 0) (.slice none 0 0)) 30)).alloc (.cells #[.string (txt L)] 59)).heap.size = w.heap.size + 1 + 1 by simp] at h1
    exact h1
  rw [hw3]
  clear hw3
  obtain ⟨b2, hb2⟩ : ∃ b, w.heap.size = b := ⟨_, rfl⟩
  have HBE : Hid (w.heap.size = b2) := hb2
  rw [hb2] at hz2 hrd hcb
  simp only [hb2]
  obtain ⟨r, hr⟩ : ∃ b, b2 + 1 = b := ⟨_, rfl⟩
  rw [hr] at hrd hcb
  simp only [hr]
  obtain ⟨cb, hcbe⟩ : ∃ b, r + 1 = b := ⟨_, rfl⟩
  rw [hcbe] at hcb
  simp only [hcbe]
  have HN1 : Hid (r ≠ b2 ∧ cb ≠ b2 ∧ cb ≠ r ∧ w.heap.size ≤ b2 ∧ w.heap.size ≤ r ∧ w.heap.size ≤ cb ∧ b2 < cb ∧ r < cb) := by show _ ∧ _; omega
  have H2 := Lib.hid hz2
  have HRD := Lib.hid hrd
  have HC := Lib.hid hcb
  clear hz2 hrd hcb hb2 hr hcbe
  -- the id
  refine (rdid_any r L w3 HRD.out (by have := HL.out; omega) (HE.out.below HB3.out).env).mono ?_
  rintro e w4 ⟨rfl, hr4, hf4⟩
  have HR4 : Hid (RdAt w4 r (rest1 L)) := hr4
  have H24 := Lib.hid ((hf4.block b2 (Array.getElem?_eq_some_iff.1 H2.out).1 HN1.out.1.symm).trans H2.out)
  have HC4 := Lib.hid ((hf4.block cb (Array.getElem?_eq_some_iff.1 HC.out).1 HN1.out.2.2.1).trans HC.out)
  have HB4 := Lib.hid (HB3.out.trans (hf4.below HN1.out.2.2.2.2.1 HB3.out.size))
  obtain ⟨pid, hpid⟩ : ∃ p, parsed (txt (Lib.cut L [10]).1) = p := ⟨_, rfl⟩
  have HP20 : Hid (pid.length = 20) := by rw [← hpid]; exact parsed_length _
  have HPID := Lib.hid hpid
  rw [hpid]
  clear hr4 hf4 hpid H2 HC HRD HB3
  have HTH : Hid (w4.there cb 0 (V8 pid).size) := fun j hj => by
    rw [V8_size, HP20.out] at hj
    rw [Nat.zero_add]
    refine ⟨?_, frozen_of_row w4 cb j _ _ HC4.out⟩
    rw [cell_of_row _ _ _ _ _ _ HC4.out, Array.getElem?_eq_getElem (by rw [chA_size _ _ _ czero_20]; omega)]
    rfl
  have HIF := Lib.hid (id_info pid HP20.out)
  have HW5 : Hid (w4.setCells cb 0 (V8 pid).toList = w4.setCells cb 0 (U8 pid)) := by show _ = _; rw [V8_list]
  have HC5 : Hid ((w4.setCells cb 0 (U8 pid)).heap[cb]? = some (.cells (chA { czero with n := pid } (.slice none 0 0) (.slice none 0 0)) 30 (0, 0))) := by
    show _ = _
    rw [heap_setCells cb _ _ _ _ _ HC4.out, chA_id czero _ _ czero_20 pid HP20.out]
  have H25 : Hid ((w4.setCells cb 0 (U8 pid)).heap[b2]? = some (.cells (chA czero (.slice none 0 0) (.slice none 0 0)) 30 (0, 0))) := (heap_setCells_ne cb b2 HN1.out.2.1.symm _ _ _).trans H24.out
  have HR5 : Hid (RdAt (w4.setCells cb 0 (U8 pid)) r (rest1 L)) := (heap_setCells_ne cb r HN1.out.2.2.1.symm _ _ _).trans HR4.out
  have HB5 : Hid (Below w.heap.size w (w4.setCells cb 0 (U8 pid))) := below_setCells cb HN1.out.2.2.2.2.2.1 _ _ _ HB4.out
  go_wp2_with (first
    | refine wpList_store_mid rfl 27 _ _ rfl cb 0 (V8 pid) rfl rfl HTH.out HIF.out (V8_one _) ?_)
  rw [HW5.out]
  clear HW5 HC4 H24 HR4 HB4 HTH
  generalize w4.setCells cb 0 (U8 pid) = w5 at *
  -- the user
  refine (line_any r (rest1 L) w5 HR5.out (by have h1 := (cut_len L 10).2; have := HL.out; show (Lib.cut L [10]).2.1.length ≤ _; omega) (HE.out.below HB5.out).env).mono ?_
  rintro e w6 ⟨rfl, hr6, hf6⟩
  have HR6 : Hid (RdAt w6 r (rest2 L)) := hr6
  have H26 := Lib.hid ((hf6.block b2 (Array.getElem?_eq_some_iff.1 H25.out).1 HN1.out.1.symm).trans H25.out)
  have HC6 := Lib.hid ((hf6.block cb (Array.getElem?_eq_some_iff.1 HC5.out).1 HN1.out.2.2.1).trans HC5.out)
  have HB6 := Lib.hid (HB5.out.trans (hf6.below HN1.out.2.2.2.2.1 HB5.out.size))
  obtain ⟨U, hU⟩ : ∃ p, txt (Lib.cut (rest1 L) [10]).1 = p := ⟨_, rfl⟩
  have HU := Lib.hid hU
  rw [hU]
  clear hr6 hf6 hU H25 HC5 HR5 HB5
  have hco := (ChRow.of HC6.out HP20.out).user
  have hfo := frozen_of_row w6 cb 20 _ _ HC6.out
  have HC7 : Hid ((w6.setCell ⟨cb, 20, none⟩ (.string U)).heap[cb]? = some (.cells (chA { czero with n := pid, u := U } (.slice none 0 0) (.slice none 0 0)) 30 (0, 0))) := by
    show _ = _
    rw [heap_setCell_same w6 cb 20 _ _ _ HC6.out, chA_set { czero with n := pid } _ _ HP20.out 0 _ _ rfl]
    rfl
  have H27 : Hid ((w6.setCell ⟨cb, 20, none⟩ (.string U)).heap[b2]? = some (.cells (chA czero (.slice none 0 0) (.slice none 0 0)) 30 (0, 0))) := (heap_setCell_ne w6 ⟨cb, 20, none⟩ _ b2 HN1.out.2.1.symm).trans H26.out
  have HR7 : Hid (RdAt (w6.setCell ⟨cb, 20, none⟩ (.string U)) r (rest2 L)) := (heap_setCell_ne w6 ⟨cb, 20, none⟩ _ r HN1.out.2.2.1.symm).trans HR6.out
  have HB7 : Hid (Below w.heap.size w (w6.setCell ⟨cb, 20, none⟩ (.string U))) := HB6.out.setCell HN1.out.2.2.2.2.2.1 _
  go_wp2_with fail
  clear hco hfo H26 HC6 HR6 HB6
  generalize w6.setCell ⟨cb, 20, none⟩ (.string U) = w7 at *
  -- the date
  have hrl2 : (rest2 L).length ≤ 18000 := by
    have h1 := (cut_len L 10).2
    have h2 := (cut_len (rest1 L) 10).2
    have := HL.out
    show (Lib.cut (rest1 L) [10]).2.1.length ≤ _
    have : (rest1 L).length ≤ L.length := h1
    omega
  have HRL2 := Lib.hid hrl2
  clear hrl2
  refine (rddate_any r (rest2 L) w7 w HR7.out (by have := HRL2.out; omega) HE.out HB7.out HN1.out.2.2.2.2.1).mono ?_
  rintro e w8 ⟨⟨xv, rfl, hox⟩, hr8, hf8⟩
  obtain ⟨xa, xc, rfl⟩ := hox.shape
  have HR8 : Hid (RdAt w8 r (rest3 L)) := hr8
  have HOX := Lib.hid hox
  have H28 := Lib.hid ((hf8.block b2 (Array.getElem?_eq_some_iff.1 H27.out).1 HN1.out.1.symm).trans H27.out)
  have HL7 := Lib.hid (Array.getElem?_eq_some_iff.1 HC7.out).1
  have HC8 := Lib.hid ((hf8.block cb HL7.out HN1.out.2.2.1).trans HC7.out)
  have HB8 := Lib.hid (HB7.out.trans (hf8.below HN1.out.2.2.2.2.1 HB7.out.size))
  have HT : Hid ((rawP L).t = numP (timeP (Lib.cut (rest2 L) [10]).1)) := rfl
  have HZ : Hid ((rawP L).z = numP (zoneP (Lib.cut (rest2 L) [10]).1)) := rfl
  have HX : Hid ((rawP L).xs = extsP (Lib.cut (rest2 L) [10]).1) := rfl
  rw [← HX.out] at HOX ⊢
  rw [← HT.out, ← HZ.out]
  clear hr8 hf8 hox H27 HC7 HR7 HB7 HT HZ HX
  obtain ⟨C, hC⟩ : ∃ C, rawP L = C := ⟨_, rfl⟩
  rw [hC] at HOX HTY ⊢
  have HCC := Lib.hid hC
  obtain ⟨xn, hxn⟩ : ∃ n, C.xs.length = n := ⟨_, rfl⟩
  have HXN := Lib.hid hxn
  rw [hxn] at HOX ⊢
  clear hC hxn
  have hc1 := (ChRow.of HC8.out HP20.out).time
  have hc2 := (ChRow.of HC8.out HP20.out).zone
  have hc3 := (ChRow.of HC8.out HP20.out).exts
  have hf1 := frozen_of_row w8 cb 21 _ _ HC8.out
  have hf2 := frozen_of_row w8 cb 22 _ _ HC8.out
  have hf3 := frozen_of_row w8 cb 23 _ _ HC8.out
  obtain ⟨w9, hw9⟩ : ∃ W, ((w8.setCell ⟨cb, 21, none⟩ (.int .i64 C.t)).setCell ⟨cb, 22, none⟩ (.int .i64 C.z)).setCell ⟨cb, 23, none⟩ (.slice xa xn xc) = W := ⟨_, rfl⟩
  have HK9 : Hid (∀ k, k ≠ cb → w9.heap[k]? = w8.heap[k]?) := fun k hk => by
    rw [← hw9]
    exact (heap_setCell_ne _ ⟨cb, 23, none⟩ _ k hk).trans ((heap_setCell_ne _ ⟨cb, 22, none⟩ _ k hk).trans (heap_setCell_ne _ ⟨cb, 21, none⟩ _ k hk))
  have HC9 : Hid (w9.heap[cb]? = some (.cells (chA { czero with n := pid, u := U, t := C.t, z := C.z } (.slice xa xn xc) (.slice none 0 0)) 30 (0, 0))) := by
    show _ = _
    rw [← hw9]
    have s1 := heap_setCell_same w8 cb 21 _ _ (.int .i64 C.t) HC8.out
    rw [chA_set { czero with n := pid, u := U } _ _ HP20.out 1 _ _ rfl] at s1
    have s2 := heap_setCell_same _ cb 22 (chA { czero with n := pid, u := U, t := C.t } (.slice none 0 0) (.slice none 0 0)) _ (.int .i64 C.z) s1
    rw [chA_set { czero with n := pid, u := U, t := C.t } _ _ HP20.out 2 _ _ rfl] at s2
    have s3 := heap_setCell_same _ cb 23 (chA { czero with n := pid, u := U, t := C.t, z := C.z } (.slice none 0 0) (.slice none 0 0)) _ (.slice xa xn xc) s2
    rw [chA_set { czero with n := pid, u := U, t := C.t, z := C.z } _ _ HP20.out 3 _ _ rfl] at s3
    exact s3
  have HB9 : Hid (Below w.heap.size w w9) := by rw [← hw9]; exact ((HB8.out.setCell (p := ⟨cb, 21, none⟩) HN1.out.2.2.2.2.2.1 _).setCell (p := ⟨cb, 22, none⟩) HN1.out.2.2.2.2.2.1 _).setCell (p := ⟨cb, 23, none⟩) HN1.out.2.2.2.2.2.1 _
  have H29 : Hid (w9.heap[b2]? = some (.cells (chA czero (.slice none 0 0) (.slice none 0 0)) 30 (0, 0))) := (HK9.out b2 HN1.out.2.1.symm).trans H28.out
  have HR9 : Hid (RdAt w9 r (rest3 L)) := (HK9.out r HN1.out.2.2.1.symm).trans HR8.out
  have HS9 : Hid (w9.heap.size = w8.heap.size) := by show _ = _; rw [← hw9]; simp [World.setCell]
  have HO9 : Hid (OwnG 2 extE 48 w9 w7.heap.size (.slice xa xn xc) C.xs) := HOX.out.move fun g hg _ => HK9.out g (by have := HL7.out; omega)
  have HW9 := Lib.hid hw9
  clear hw9
  go_wp2_with fail
  rw [HW9.out]
  clear HW9 hc1 hc2 hc3 hf1 hf2 hf3 H28 HC8 HR8 HB8 HOX HK9
  -- the files
  have hrl3 : (rest3 L).length ≤ 18000 := by
    have h2 := (cut_len (rest2 L) 10).2
    have := HRL2.out
    show (Lib.cut (rest2 L) [10]).2.1.length ≤ _
    omega
  have HRL3 := Lib.hid hrl3
  clear hrl3
  refine (rdfiles_any r (rest3 L) w9 w HR9.out (by have := HRL3.out; omega) HE.out HB9.out HN1.out.2.2.2.2.1).mono ?_
  rintro e w10 ⟨⟨fv, rfl, hof, hfn⟩, hr10, hf10⟩
  have HR10 : Hid (RdAt w10 r (filesP (rest3 L).length (rest3 L)).2) := hr10
  have HOF := Lib.hid hof
  have HFN := Lib.hid hfn
  have HL9 := Lib.hid (Array.getElem?_eq_some_iff.1 HC9.out).1
  have H210 := Lib.hid ((hf10.block b2 (Array.getElem?_eq_some_iff.1 H29.out).1 HN1.out.1.symm).trans H29.out)
  have HC10 := Lib.hid ((hf10.block cb HL9.out HN1.out.2.2.1).trans HC9.out)
  have HO10 : Hid (OwnG 2 extE 48 w10 w7.heap.size (.slice xa xn xc) C.xs) := HO9.out.move fun g hg hgl => hf10.block g hgl (by have := HL7.out; have := HN1.out; omega)
  have HB10 := Lib.hid (HB9.out.trans (hf10.below HN1.out.2.2.2.2.1 HB9.out.size))
  clear hof hfn hr10 hf10 H29 HC9 HR9 HO9 HB9
  have hF : (filesP (rest3 L).length (rest3 L)).1 = C.fs := by rw [← HCC.out]; rfl
  have hD : txt (filesP (rest3 L).length (rest3 L)).2 = C.d := by rw [← HCC.out]; rfl
  rw [hF] at HOF HFN
  have HD := Lib.hid hD
  clear hF hD
  obtain ⟨fa, fc, rfl⟩ := HOF.out.shape
  obtain ⟨fm, hfm⟩ : ∃ n, C.fs.length = n := ⟨_, rfl⟩
  have HFM := Lib.hid hfm
  rw [hfm] at HOF HFN ⊢
  clear hfm
  have hco := (ChRow.of HC10.out HP20.out).files
  have hfo := frozen_of_row w10 cb 24 _ _ HC10.out
  have hc11 : (w10.setCell ⟨cb, 24, none⟩ (.slice fa fm fc)).heap[cb]? = some (.cells (chA { czero with n := pid, u := U, t := C.t, z := C.z } (.slice xa xn xc) (.slice fa fm fc)) 30 (0, 0)) := by
    rw [heap_setCell_same w10 cb 24 _ _ _ HC10.out, chA_set { czero with n := pid, u := U, t := C.t, z := C.z } _ _ HP20.out 4 _ _ rfl]
    rfl
  have HC11 := Lib.hid hc11
  clear hc11
  have hcd := (ChRow.of HC11.out HP20.out).desc
  have hfd := frozen_of_row _ cb 25 _ _ HC11.out
  have HR11 : Hid (RdAt (w10.setCell ⟨cb, 24, none⟩ (.slice fa fm fc)) r (filesP (rest3 L).length (rest3 L)).2) := (heap_setCell_ne _ ⟨cb, 24, none⟩ _ r HN1.out.2.2.1.symm).trans HR10.out
  have hrl := HR11.out.cell
  rw [HD.out] at hrl
  obtain ⟨w12, hw12⟩ : ∃ W, (w10.setCell ⟨cb, 24, none⟩ (.slice fa fm fc)).setCell ⟨cb, 25, none⟩ (.string C.d) = W := ⟨_, rfl⟩
  have HK12 : Hid (∀ k, k ≠ cb → w12.heap[k]? = w10.heap[k]?) := fun k hk => by
    rw [← hw12]
    exact (heap_setCell_ne _ ⟨cb, 25, none⟩ _ k hk).trans (heap_setCell_ne _ ⟨cb, 24, none⟩ _ k hk)
  have HC12 : Hid (w12.heap[cb]? = some (.cells (chA { czero with n := pid, u := U, t := C.t, z := C.z, d := C.d } (.slice xa xn xc) (.slice fa fm fc)) 30 (0, 0))) := by
    show _ = _
    rw [← hw12, heap_setCell_same _ cb 25 _ _ _ HC11.out, chA_set { czero with n := pid, u := U, t := C.t, z := C.z } _ _ HP20.out 5 _ _ rfl]
    rfl
  have HB12 : Hid (Below w.heap.size w w12) := by rw [← hw12]; exact (HB10.out.setCell (p := ⟨cb, 24, none⟩) HN1.out.2.2.2.2.2.1 _).setCell (p := ⟨cb, 25, none⟩) HN1.out.2.2.2.2.2.1 _
  have H212 : Hid (w12.heap[b2]? = some (.cells (chA czero (.slice none 0 0) (.slice none 0 0)) 30 (0, 0))) := (HK12.out b2 HN1.out.2.1.symm).trans H210.out
  have HO12 : Hid (OwnG 2 extE 48 w12 w7.heap.size (.slice xa xn xc) C.xs) := HO10.out.move fun g hg _ => HK12.out g (by have := HL7.out; omega)
  have HF12 : Hid (OwnG 1 strE 9 w12 w9.heap.size (.slice fa fm fc) C.fs) := HOF.out.move fun g hg _ => HK12.out g (by have := HL9.out; omega)
  have HW12 := Lib.hid hw12
  clear hw12
  -- the whole record
  have HCA : Hid (chA { czero with n := pid, u := U, t := C.t, z := C.z, d := C.d } (.slice xa xn xc) (.slice fa fm fc) = chV C xa xc fa fc) := by
    show _ = _
    unfold chV
    rw [HXN.out, HFM.out]
    have e1 : C.n = pid := by rw [← HCC.out, ← HPID.out]; rfl
    have e2 : C.u = U := by rw [← HCC.out, ← HU.out]; rfl
    unfold chA chL
    rw [e1, e2]
  rw [HCA.out] at HC12
  have HC20 : Hid (C.n.length = 20 ∧ ∀ x ∈ C.n, 0 ≤ x ∧ x ≤ 255) := by show _ ∧ _; rw [← HCC.out]; exact raw_good L
  have HAT : Hid (ChAt w12 C xa xc fa fc) := by
    refine ⟨HC20.out.1, HC20.out.2, (HO12.out.fs extE_len).1, (HF12.out.fs strE_len).1, fun h0 => ?_⟩
    have := HFN.out (List.length_eq_zero_iff.1 h0)
    simp only [Value.slice.injEq] at this
    exact ⟨this.1, this.2.2⟩
  have HICH := Lib.hid (info_ch C (.slice xa xn xc) (.slice fa fm fc) HC20.out.1)
  have HRW : Hid (ChRow w12 cb C (.slice xa xn xc) (.slice fa fm fc)) := by
    have h1 := HC12.out
    unfold chV at h1
    rw [HXN.out, HFM.out] at h1
    exact ChRow.of h1 HC20.out.1
  have HCV : Hid ((chL C (.slice xa xn xc) (.slice fa fm fc)).toArray = chV C xa xc fa fc) := by show _ = _; unfold chV; rw [HXN.out, HFM.out]; rfl
  have HNX : Hid (∀ b' off, xa = some ⟨b', off, none⟩ → C.xs.length ≠ 0 → b' ≠ b2) := fun b' off he h0 => by
    have := HO12.out.base he
    have := HL7.out; have := HN1.out
    omega
  have HNF : Hid (∀ b' off, fa = some ⟨b', off, none⟩ → C.fs.length ≠ 0 → b' ≠ b2) := fun b' off he h0 => by
    have := HF12.out.base he
    have := HL9.out; have := HN1.out
    omega
  have HFRX : Hid (∀ b' off, xa = some ⟨b', off, none⟩ → w.heap.size ≤ b') := fun b' off he => by
    have := HO12.out.base he
    have := HL7.out; have := HN1.out
    omega
  have HFRF : Hid (∀ b' off, fa = some ⟨b', off, none⟩ → w.heap.size ≤ b') := fun b' off he => by
    have := HF12.out.base he
    have := HL9.out; have := HN1.out
    omega
  clear HCA HF12 HO12
  go_wp2_with (first
    | (rw [HW12.out]
       refine wpList_load_mid rfl 30 _ rfl cb 0 rfl (chL C (.slice xa xn xc) (.slice fa fm fc)) _ HRW.out.cells Tryz.underlying30 rfl HICH.out ?_
       clear HW12 hco hfo hcd hfd hrl HC11 HR10 HR11 HB10 H210 HO10 HOF HK12
       rw [HCV.out]))
  refine (chprint_any C xa xc fa fc w12 HAT.out HTY.out (HE.out.below HB12.out)).mono ?_
  rintro e w13 ⟨hpr, hb⟩
  have HB13 := Lib.hid (HB12.out.trans (hb.mono HB12.out.size))
  have H213 : Hid (w13.heap[b2]? = some (.cells (chA czero (.slice none 0 0) (.slice none 0 0)) 30 (0, 0))) := (hb.block b2 (Array.getElem?_eq_some_iff.1 H212.out).1).trans H212.out
  have HC13 := Lib.hid ((hb.block cb (Array.getElem?_eq_some_iff.1 HC12.out).1).trans HC12.out)
  have HAT13 := Lib.hid (HAT.out.below hb)
  have HRW13 : Hid (ChRow w13 cb C (.slice xa xn xc) (.slice fa fm fc)) := HRW.out.below (Array.getElem?_eq_some_iff.1 HC12.out).1 hb
  have hbz := build_ch0
  have HI0 := Lib.hid (info_ch czero (.slice none 0 0) (.slice none 0 0) czero_20)
  have HI0A : Hid ((Tryz.prog.info? 30).map (·.size) = some (chA czero (.slice none 0 0) (.slice none 0 0)).size) := by
    show _ = _
    rw [chA_size _ _ _ czero_20, HI0.out, chL_len _ _ _ czero_20]
  have HZ1 := Lib.hid (chA_one czero (.slice none 0 0) (.slice none 0 0) rfl rfl)
  clear hb H212 HC12 HAT HRW HB12
  rcases hpr with ⟨hrt, pa, pc, rfl, hcap, hby⟩ | ⟨hrt, rfl⟩
  · obtain ⟨pn, hpn⟩ : ∃ n, (printL C).length = n := ⟨_, rfl⟩
    have hst := text_run w13 pa pn pc (numsOf (txt (printL C))) (by rw [← hpn]; exact hby)
    rw [str_nums] at hst
    have htl := HTX.out w13 HB13.out
    rw [hpn]
    cases heq : (txt (printL C)).toList == (txt L).toList
    · have HNE := Lib.hid (ne_str _ _ _ heq)
      have HPC : Hid (parseC L = none) := by
        show _ = _
        unfold parseC
        rw [HCC.out, if_neg]
        rintro ⟨-, h⟩
        rw [h] at heq
        simp at heq
      clear heq hcap hby
      go_wp2_with (first
        | refine wpList_eql (by rfl) .neq 9 _ _ _ rfl (.string (txt (printL C))) (.string (txt L)) rfl rfl (.bool true) (guard_ne _ _ _ _) (fun W => HNE.out W) ?_
        | refine wpList_store_row rfl 30 _ _ rfl b2 (chA czero (.slice none 0 0) (.slice none 0 0)) rfl rfl 30 (chA czero (.slice none 0 0) (.slice none 0 0)) H213.out HI0A.out rfl HZ1.out ?_)
      refine bodyPost_ret (results_row_tmp Tryz.results12 _ _ b2 30 (chA czero (.slice none 0 0) (.slice none 0 0)) (0, 0) _ rfl (setRow_heap _ _ _ _ _ _ H213.out) Tryz.underlying30 rfl HI0A.out) rfl ⟨?_, ?_⟩
      · rw [HPC.out]; exact rfl
      · exact below_setRow HB13.out HN1.out.2.2.2.1 _
    · have HNE := Lib.hid (ne_str _ _ _ heq)
      have HPC : Hid (parseC L = some C) := by
        show _ = _
        have e : printL C = L := by
          have h1 := toList_inj' _ _ (eq_of_beq heq)
          rw [← txt_list (printL C), h1, txt_list]
        unfold parseC
        rw [HCC.out, if_pos ⟨hrt, e⟩]
      have HCL : Hid ((chL C (.slice xa xn xc) (.slice fa fm fc)).toArray.size = 26) := by
        have := chL_len C (.slice xa xn xc) (.slice fa fm fc) HC20.out.1
        show _ = _
        rw [List.size_toArray]; exact this
      have HONE : Hid ((chV C xa xc fa fc).all (·.oneCell') = true) := chA_one C _ _ rfl rfl
      have HSZ : Hid ((chV C xa xc fa fc).size = 26) := by show _ = _; rw [← HCV.out]; exact HCL.out
      have HICA : Hid ((Tryz.prog.info? 30).map (·.size) = some (chV C xa xc fa fc).size) := by
        show _ = _
        rw [HSZ.out, HICH.out, chL_len _ _ _ HC20.out.1]
      have HSO : Hid ((chA czero (.slice none 0 0) (.slice none 0 0)).size = (chV C xa xc fa fc).size) := by show _ = _; rw [HSZ.out, chA_size _ _ _ czero_20]
      clear heq hcap hby hbz
      go_wp2_with (first
        | refine wpList_eql (by rfl) .neq 9 _ _ _ rfl (.string (txt (printL C))) (.string (txt L)) rfl rfl (.bool false) (guard_ne _ _ _ _) (fun W => HNE.out W) ?_
        | (refine wpList_load_mid rfl 30 _ rfl cb 0 rfl (chL C (.slice xa xn xc) (.slice fa fm fc)) _ HRW13.out.cells Tryz.underlying30 rfl HICH.out ?_
           rw [HCV.out])
        | refine wpList_store_row rfl 30 _ _ rfl b2 (chV C xa xc fa fc) rfl rfl 30 (chA czero (.slice none 0 0) (.slice none 0 0)) H213.out HICA.out HSO.out HONE.out ?_)
      refine bodyPost_ret (results_row_tmp Tryz.results12 _ _ b2 30 (chV C xa xc fa fc) (0, 0) _ rfl (setRow_heap _ _ _ _ _ _ H213.out) Tryz.underlying30 rfl HICA.out) rfl ⟨?_, ?_⟩
      · rw [HPC.out]
        refine ⟨xa, xc, fa, fc, rfl, ⟨HC20.out.1, HC20.out.2, ?_, ?_, HAT13.out.fnil⟩, HFRX.out, HFRF.out⟩
        · exact rowat_setRow HAT13.out.exts HNX.out
        · exact rowat_setRow HAT13.out.files HNF.out
      · exact below_setRow HB13.out HN1.out.2.2.2.1 _
  · have HPC : Hid (parseC L = none) := by
      show _ = _
      unfold parseC
      rw [HCC.out, if_neg]
      rintro ⟨h, -⟩
      rw [hrt] at h
      cases h
    go_wp2_with (first
      | refine wpList_store_row rfl 30 _ _ rfl b2 (chA czero (.slice none 0 0) (.slice none 0 0)) rfl rfl 30 (chA czero (.slice none 0 0) (.slice none 0 0)) H213.out HI0A.out rfl HZ1.out ?_)
    refine bodyPost_ret (results_row_tmp Tryz.results12 _ _ b2 30 (chA czero (.slice none 0 0) (.slice none 0 0)) (0, 0) _ rfl (setRow_heap _ _ _ _ _ _ H213.out) Tryz.underlying30 rfl HI0A.out) rfl ⟨?_, ?_⟩
    · rw [HPC.out]; exact rfl
    · exact below_setRow HB13.out HN1.out.2.2.2.1 _
theorem chparse_any (a : Option Addr) (m cap : Nat) (L : List UInt8) (w : World) (R : Bytes w a m (numsOf (txt L))) (hm : m ≤ 18000) (hE : EnvC w) :
    Calls Tryz.prog 12 #[.slice a m cap] w fun e w' => ChParse e w' (parseC L) ∧ Below w.heap.size w w' :=
  (chparse_fresh a m cap L w R hm hE).mono fun e w' ⟨h, hb⟩ => ⟨h.parse, hb⟩
end Go.Proofs.YthokcdjmhhlcdaaGreatDoor
