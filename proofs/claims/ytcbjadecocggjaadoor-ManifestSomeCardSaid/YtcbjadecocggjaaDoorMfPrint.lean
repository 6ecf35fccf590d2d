/- Files as text: the walks of both Prints. -/
import Derived.Test.YtcbjadecocggjaaDoorMfRefRight
namespace Go.Proofs.YtcbjadecocggjaaDoor
open Go.RowKit Plain
set_option linter.unusedVariables false
set_option linter.unusedSimpArgs false
def txt (l : List UInt8) : ByteArray := ⟨l.toArray⟩
theorem txt_list (l : List UInt8) : (txt l).data.toList = l := by simp [txt]
theorem txt_size (l : List UInt8) : (txt l).size = l.length := by rw [Lib.size_eq, txt_list]
theorem txt_of (s : ByteArray) : txt s.data.toList = s := by cases s; simp [txt]
def lineF (x : MF) : List UInt8 := x.p.data.toList ++ 0 :: (hexOf x.n ++ (x.f.data.toList ++ [10]))
def textF (xs : List MF) : List UInt8 := xs.flatMap lineF
theorem textF_app (xs ys : List MF) : textF (xs ++ ys) = textF xs ++ textF ys := by unfold textF; rw [List.flatMap_append]
theorem textF_snoc {xs : List MF} {k : Nat} {x : MF} (h : xs[k]? = some x) : textF (xs.take (k + 1)) = textF (xs.take k) ++ lineF x := by
  rw [take_snoc h, textF_app]
  congr 1
  unfold textF; simp
/-- Short, as right files are. -/
def SmallF (x : MF) : Prop := x.p.size ≤ 255 ∧ x.f.size ≤ 1
theorem small_of {xs : List MF} (h : rightM xs = true) : ∀ x ∈ xs, SmallF x := fun x hx => by
  obtain ⟨k, hk⟩ := List.mem_iff_getElem?.1 hx
  have := ((rightM_iff xs).1 h).1 k x hk
  exact ⟨by rw [Lib.size_eq]; exact rightL_len (okAt_path this), flagOk_len (okAt_flag this)⟩
theorem lineF_len (x : MF) (h : SmallF x) (h20 : x.n.length = 20) : (lineF x).length ≤ 298 := by
  have h1 := Lib.size_eq x.p
  have h2 := Lib.size_eq x.f
  obtain ⟨h3, h4⟩ := h
  unfold lineF
  rw [List.length_append, List.length_cons, List.length_append, List.length_append, hexOf_length, List.length_singleton]
  omega
theorem textF_len : ∀ (xs : List MF), (∀ x ∈ xs, SmallF x) → (∀ x ∈ xs, x.n.length = 20) → (textF xs).length ≤ 298 * xs.length
  | [], _, _ => by simp [textF]
  | x :: xs, h, h20 => by
    have h1 := lineF_len x (h x (by simp)) (h20 x (by simp))
    have h2 := textF_len xs (fun y hy => h y (by simp [hy])) (fun y hy => h20 y (by simp [hy]))
    have e : textF (x :: xs) = lineF x ++ textF xs := by unfold textF; rw [List.flatMap_cons]
    rw [e, List.length_append, List.length_cons]
    omega
theorem byte_one {l : List UInt8} {v : Value} (h : v ∈ Lib.byteCells l) : v.oneCell' = true := by
  obtain ⟨x, -, rfl⟩ := List.mem_map.1 h; rfl
theorem _root_.Go.Lib.IsBuffer.belowB {T e : TypeId} {B b : Nat} {bs : List Value} {w w' : World} (h : Lib.IsBuffer T e B b bs w) (hb : Below w.heap.size w w') : Lib.IsBuffer T e B b bs w' := by
  obtain ⟨h1, v, lr, h2, ⟨h3, h4⟩, h5⟩ := h
  refine ⟨h1, v, lr, (hb.block b (Array.getElem?_eq_some_iff.1 h2).1).trans h2, ⟨h3, ?_⟩, h5⟩
  rcases h4 with h4 | ⟨g, cap, cur, e1, e2, e3, e4⟩
  · exact .inl h4
  · exact .inr ⟨g, cap, cur, e1, e2, (hb.block g (Array.getElem?_eq_some_iff.1 e3).1).trans e3, e4⟩
theorem add_str (a b : ByteArray) (h : a.size + b.size ≤ 1000000000) (W : World) : (Op.stringOp .add a b).run Tryd.prog W = .ok (.string (a ++ b)) W := run_string_add_sum W a b (by omega)
theorem hexB_size (id : List Int) (h : id.length = 20) : (⟨(hexOf id).toArray⟩ : ByteArray).size = 40 := by
  show (hexOf id).toArray.size = 40
  rw [List.size_toArray, hexOf_length, h]
theorem line_of (x : MF) : ((((x.p ++ (⟨#[0]⟩ : ByteArray)) ++ (⟨(hexOf x.n).toArray⟩ : ByteArray)) ++ x.f) ++ (⟨#[10]⟩ : ByteArray)).data.toList = lineF x := by
  unfold lineF
  simp
theorem text_line (T : ByteArray) (x : MF) : (((((T ++ x.p) ++ (⟨#[0]⟩ : ByteArray)) ++ (⟨(hexOf x.n).toArray⟩ : ByteArray)) ++ x.f) ++ (⟨#[10]⟩ : ByteArray)) = txt (T.data.toList ++ lineF x) := by
  apply bytes_ext
  rw [txt_list]
  unfold lineF
  simp
theorem zero_buf (W : World) : (zeroValue 60).run Tryd.prog W = .ok (.agg #[.slice none 0 0, .int .i64 0, .int .i8 0]) W := by kernel_rfl
theorem cells_nums (l : List UInt8) : Lib.byteCells l = (numsOf (txt l)).map (Value.int .u8) := by
  unfold Lib.byteCells numsOf
  rw [txt_list, List.map_map]
  rfl
/-- What Print answers. -/
def MfPrint (e : Ending) (w' : World) (xs : List MF) : Prop :=
  if rightM xs = true then ∃ a c, e = .returned (.tuple #[.slice a (textF xs).length c, .int .i64 0]) ∧ Bytes w' a (textF xs).length (numsOf (txt (textF xs)))
  else e = .returned (.tuple #[.slice none 0 0, .int .i64 4])
set_option maxRecDepth 100000 in
set_option maxHeartbeats 32000000 in
theorem mfprint_any (a : Option Addr) (c : Nat) (xs : List MF) (w : World) (h : FsAt w a xs) (hn : xs.length ≤ 100000) (hgf : ∀ x ∈ xs, GoodF x) (hE : Env w) :
    Calls Tryd.prog 11 #[.slice a xs.length c] w fun e w' => MfPrint e w' xs ∧ Below w.heap.size w w' := by
  have H := Lib.hid h
  have HALL := Lib.hid hgf
  have hzp := zero_file
  have hzb := zero_buf
  have HRT := Lib.hid (fright_any a c xs w h (by omega) hE)
  obtain ⟨n, hnl⟩ : ∃ n, xs.length = n := ⟨_, rfl⟩
  have HN := Lib.hid hnl
  have HNB : Hid (n ≤ 100000) := by show _ ≤ _; omega
  rw [hnl] at HRT ⊢
  clear h hn hgf hnl hE
  go_enter Tryd.func11, Tryd.ntmps11
  go_wp2_with fail
  refine HRT.out.mono ?_
  rintro e w1 ⟨rfl, hb⟩
  have HB1 := Lib.hid hb
  clear hb HRT
  cases hrp : rightM xs
  · have HP : Hid (MfPrint (.returned (.tuple #[.slice none 0 0, .int .i64 4])) w1 xs) := by
      show MfPrint _ _ _
      unfold MfPrint
      rw [hrp, if_neg (by decide)]
    clear hrp
    go_wp2_with fail
    go_ret2
    exact ⟨HP.out, HB1.out⟩
  · have HRP := Lib.hid hrp
    have HSM := Lib.hid (small_of hrp)
    have HTLA : Hid (∀ k, (textF (xs.take k)).length ≤ 298 * n) := fun k => by
      have := textF_len (xs.take k) (fun x hx => HSM.out x (List.mem_of_mem_take hx)) (fun x hx => (HALL.out x (List.mem_of_mem_take hx)).1)
      have h2 : (xs.take k).length ≤ n := by rw [List.length_take, HN.out]; omega
      omega
    have HBU0 : Hid (Lib.IsBuffer 60 5 w1.heap.size w1.heap.size (Lib.byteCells (textF (xs.take 0))) (w1.alloc (.cells #[.slice none 0 0, .int .i64 0, .int .i8 0] 60))) := Lib.fresh_isBuffer _ _ _
    have HB2 : Hid (Below w1.heap.size w1 (w1.alloc (.cells #[.slice none 0 0, .int .i64 0, .int .i8 0] 60))) := (Below.refl _ _).alloc (Nat.le_refl _) _
    have HSZ : Hid (w1.heap.size < (w1.alloc (.cells #[.slice none 0 0, .int .i64 0, .int .i8 0] 60)).heap.size) := by show _ < _; simp
    clear hrp
    go_wp2_with fail
    generalize w1.alloc (.cells #[.slice none 0 0, .int .i64 0, .int .i8 0] 60) = w2 at *
    obtain ⟨B0, hB0⟩ : ∃ B, w1.heap.size = B := ⟨_, rfl⟩
    have HB0S : Hid (w.heap.size ≤ B0) := by show _ ≤ _; rw [← hB0]; exact HB1.out.size
    rw [hB0] at HBU0 HB2 HSZ ⊢
    have HW2 := Lib.hid (HB1.out.trans (HB2.out.mono HB0S.out))
    clear hB0
    go_loopw [12] (fun i wr => ∃ k : Nat, k ≤ n ∧ i = .int .i64 (k : Int) ∧ Lib.IsBuffer 60 5 B0 B0 (Lib.byteCells (textF (xs.take k))) wr ∧ Below B0 w2 wr ∧ B0 < wr.heap.size) (fun i _ => n - (intOf i).toNat)
    case atStart => exact ⟨0, by omega, rfl, HBU0.out, Below.refl _ _, HSZ.out⟩
    case round =>
      obtain ⟨k, hk, rfl, hbu, hb, hsz⟩ := hrel
      have HBUW := Lib.hid hbu
      have HBWR := Lib.hid hb
      have HSW := Lib.hid hsz
      have HWW := Lib.hid (HW2.out.trans (hb.mono HB0S.out))
      have WK := Lib.hid (next_int k (by have := HNB.out; omega))
      clear hbu hb hsz HBU0
      by_cases hkn : k = n
      · subst hkn
        have hki : ¬ (k : Int) < (k : Int) := by omega
        have hall : xs.take k = xs := List.take_of_length_le (by rw [HN.out]; omega)
        rw [hall] at HBUW
        have HTL := HTLA.out k
        rw [hall] at HTL
        have HTL2 : Hid ((textF xs).length ≤ 29800000) := by show _ ≤ _; have := HNB.out; omega
        clear hall HTL
        go_wp2_with fail
        refine (Tryd.Buffer_Bytes B0 B0 (Lib.byteCells (textF xs)) wr HBUW.out).mono ?_
        rintro e w3 ⟨v, rfl, hown, q, rfl⟩
        rw [Lib.byteCells_length, cells_nums] at hown
        have hown2 : Own (wr.drewN q) B0 v (textF xs).length (numsOf (txt (textF xs))) := hown
        obtain ⟨ao, co, rfl, -⟩ := hown2.shape
        have HP : Hid (MfPrint (.returned (.tuple #[.slice ao (textF xs).length co, .int .i64 0])) (wr.drewN q) xs) := by
          show MfPrint _ _ _
          unfold MfPrint
          rw [HRP.out, if_pos rfl]
          exact ⟨_, _, rfl, hown2.bytes (range_of_mem (numsOf_bytes _))⟩
        have HBB : Hid (Below w.heap.size w (wr.drewN q)) := HWW.out.trans (drewN_below wr q |>.mono HWW.out.size)
        clear hown hown2
        generalize wr.drewN q = w4 at *
        generalize (textF xs).length = tl at *
        go_wp2_with fail
        go_ret2
        exact ⟨HP.out, HBB.out⟩
      · have hkl : k < n := by omega
        have hki : (k : Int) < (n : Int) := by omega
        obtain ⟨b, off, x, rfl, hp, h20, hbl, hr⟩ := H.out.at (k := k) (by rw [HN.out]; exact hkl)
        have HR := Lib.hid (range_below hr HWW.out hbl)
        have H20 := Lib.hid h20
        have hgx := HALL.out x (List.mem_of_getElem? hp)
        have hsm := HSM.out x (List.mem_of_getElem? hp)
        have HHX := Lib.hid (fun W => hex_any x.n W h20 hgx.2)
        have hs1 := hexB_size x.n h20
        have hlp := line_of x
        have htt := textF_snoc hp
        rw [← hlp] at htt
        obtain ⟨g1, eg1⟩ : ∃ b : ByteArray, (⟨(hexOf x.n).toArray⟩ : ByteArray) = b := ⟨_, rfl⟩
        obtain ⟨b0, e0⟩ : ∃ b, x.p ++ (⟨#[0]⟩ : ByteArray) = b := ⟨_, rfl⟩
        obtain ⟨b1, e1⟩ : ∃ b, b0 ++ g1 = b := ⟨_, rfl⟩
        obtain ⟨b2, e2⟩ : ∃ b, b1 ++ x.f = b := ⟨_, rfl⟩
        obtain ⟨b3, e3⟩ : ∃ b, b2 ++ (⟨#[10]⟩ : ByteArray) = b := ⟨_, rfl⟩
        rw [eg1] at hs1
        rw [eg1, e0, e1, e2, e3] at htt
        have z0 : b0.size = x.p.size + 1 := by rw [← e0, ByteArray.size_append]; rfl
        have z1 : b1.size = x.p.size + 41 := by rw [← e1, ByteArray.size_append, z0, hs1]
        have z2 : b2.size = x.p.size + 41 + x.f.size := by rw [← e2, ByteArray.size_append, z1]
        have z3 : b3.size = x.p.size + 41 + x.f.size + 1 := by rw [← e3, ByteArray.size_append, z2]; rfl
        obtain ⟨hsp, hsf⟩ := hsm
        have ha0 := add_str x.p ⟨#[0]⟩ (by show _ + 1 ≤ _; omega)
        have ha1 := add_str b0 g1 (by rw [z0, hs1]; omega)
        have ha2 := add_str b1 x.f (by rw [z1]; omega)
        have ha3 := add_str b2 ⟨#[10]⟩ (by rw [z2]; show _ + 1 ≤ _; omega)
        rw [e0] at ha0
        rw [e1] at ha1
        rw [e2] at ha2
        rw [e3] at ha3
        simp only [eg1] at HHX
        have HTX : Hid (Lib.byteCells (textF (xs.take (k + 1))) = Lib.byteCells (textF (xs.take k)) ++ Lib.byteCells b3.data.toList) := by
          show _ = _
          rw [htt]; unfold Lib.byteCells; rw [List.map_append]
        have HB3S : Hid (b3.size ≤ 300) := by show _ ≤ _; omega
        have HTL : Hid ((textF (xs.take k)).length ≤ 29800000) := by show _ ≤ _; have := HTLA.out k; have := HNB.out; omega
        have HI := Lib.hid (file_info x h20)
        have HL := Lib.hid (file_infoL x h20)
        have HS : Hid ((fileA noFile).size = (fileA x).size) := by show _ = _; rw [fileA_size _ h20, fileA_size _ zeros20_len]
        have HZN : Hid ((wr.alloc (.cells (fileA noFile) 32)).heap[wr.heap.size]? = some (.cells (fileA noFile) 32 (0, 0))) := heap_alloc_new _ _
        have hb2 : Below wr.heap.size wr ((wr.alloc (.cells (fileA noFile) 32)).setRow wr.heap.size (fileA x)) := below_setRow ((Below.refl _ _).alloc (Nat.le_refl _) _) (Nat.le_refl _) _
        have HBW := Lib.hid (HBWR.out.trans (hb2.mono (Nat.le_of_lt HSW.out)))
        have HBX := Lib.hid (setRow_heap _ _ _ (fileA x) _ _ HZN.out)
        have HBL : Hid (wr.heap.size < ((wr.alloc (.cells (fileA noFile) 32)).setRow wr.heap.size (fileA x)).heap.size) := (Array.getElem?_eq_some_iff.1 HBX.out).1
        have HBU := Lib.hid (HBUW.out.belowB hb2)
        have HBN : Hid (B0 ≤ ((wr.alloc (.cells (fileA noFile) 32)).setRow wr.heap.size (fileA x)).heap.size) := Nat.le_trans (Nat.le_of_lt HSW.out) hb2.size
        have HNE : Hid (wr.heap.size ≠ B0) := Nat.ne_of_gt HSW.out
        have HKL := Lib.hid hkl
        clear hr hbl h20 hp hgx hb2 hkl hlp htt eg1 e0 e1 e2 e3 z0 z1 z2 z3 hs1 hsp hsf
        go_wp2_with (first
          | refine wpList_file rfl 32 _ rfl b (off + k * 22) rfl x _ HR.out Tryd.underlying32 rfl HL.out ?_
          | refine wpList_store_row rfl 32 _ _ rfl wr.heap.size (fileA x) rfl rfl 32 (fileA noFile) HZN.out HI.out HS.out (fileA_one _) ?_)
        clear HZN HR HBUW HBWR HWW
        generalize (wr.alloc (.cells (fileA noFile) 32)).setRow wr.heap.size (fileA x) = wb at *
        generalize wr.heap.size = bx at *
        clear HSW
        refine wp_region_noPanic ?_
        refine wp_region_held_drew (S := fun W => W.heap[bx]? = some (.cells (fileA x) 32 (0, 0))) (by kernel_rfl) ?_ (fun hHeld => ?_)
        · exact HBX.out
        refine wpAnyH_take (i := 0) (v := ?_) (by simp only [List.getElem?_toArray, List.getElem?_cons_zero]; rfl) (by kernel_rfl) (by kernel_rfl) (by kernel_rfl) (fun _ _ _ h => h) (Or.inl ⟨by rfl, ?_⟩) (by assumption) ?_
        rotate_left
        · intro W hSW
          go_simp
          try with_reducible rfl
        try simp only [Act.put, List.setIfInBounds_toArray, List.set_cons_zero, List.set_cons_succ]
        refine wpAnyH_take (i := 1) (by simp only [List.getElem?_toArray, List.getElem?_cons_succ, List.getElem?_cons_zero]; rfl) (by kernel_rfl) (by kernel_rfl) (by kernel_rfl) (fun _ _ _ h => h) (yieldsIf_load_str (by rfl) 9 _ rfl bx (0) rfl x.p (fun W hSW => range_path (row_file hSW)) Tryd.underlying9) (by assumption) ?_
        try simp only [Act.put, List.setIfInBounds_toArray, List.set_cons_zero, List.set_cons_succ]
        refine wpAnyH_take (i := 2) (v := ?_) (by simp only [List.getElem?_toArray, List.getElem?_cons_succ, List.getElem?_cons_zero]; rfl) (by kernel_rfl) (by kernel_rfl) (by kernel_rfl) (fun _ _ _ h => h) (Or.inl ⟨by rfl, ?_⟩) (by assumption) ?_
        rotate_left
        · intro W hSW
          go_simp
          try with_reducible rfl
        try simp only [Act.put, List.setIfInBounds_toArray, List.set_cons_zero, List.set_cons_succ]
        refine wpAnyH_take (i := 3) (v := ?_) (by simp only [List.getElem?_toArray, List.getElem?_cons_succ, List.getElem?_cons_zero]; rfl) (by kernel_rfl) (by kernel_rfl) (by kernel_rfl) (fun _ _ _ h => h) (Or.inl ⟨by rfl, ?_⟩) (by assumption) ?_
        rotate_left
        · intro W hSW
          go_simp
          try with_reducible rfl
        try simp only [Act.put, List.setIfInBounds_toArray, List.set_cons_zero, List.set_cons_succ]
        refine wpAnyH_take (i := 4) (by simp only [List.getElem?_toArray, List.getElem?_cons_succ, List.getElem?_cons_zero]; rfl) (by kernel_rfl) (by kernel_rfl) (by kernel_rfl) (fun _ _ _ h => h) (yieldsIf_load_mid (by rfl) 30 _ rfl bx (1) rfl (U8 x.n) (.array 20 5) (fun W hSW => by have := range_node (row_file hSW); rwa [Nat.zero_add] at this) Tryd.underlying30 rfl (id_infoL _ H20.out)) (by assumption) ?_
        try simp only [Act.put, List.setIfInBounds_toArray, List.set_cons_zero, List.set_cons_succ]
        refine wpAnyH_take (i := 7) (v := ?_) (by simp only [List.getElem?_toArray, List.getElem?_cons_succ, List.getElem?_cons_zero]; rfl) (by kernel_rfl) (by kernel_rfl) (by kernel_rfl) (fun _ _ _ h => h) (Or.inl ⟨by rfl, ?_⟩) (by assumption) ?_
        rotate_left
        · intro W hSW
          go_simp
          try with_reducible rfl
        try simp only [Act.put, List.setIfInBounds_toArray, List.set_cons_zero, List.set_cons_succ]
        refine wpAnyH_take (i := 8) (by simp only [List.getElem?_toArray, List.getElem?_cons_succ, List.getElem?_cons_zero]; rfl) (by kernel_rfl) (by kernel_rfl) (by kernel_rfl) (fun _ _ _ h => h) (yieldsIf_load_str (by rfl) 9 _ rfl bx (21) rfl x.f (fun W hSW => by have := range_flag (row_file hSW) H20.out; rwa [Nat.zero_add] at this) Tryd.underlying9) (by assumption) ?_
        try simp only [Act.put, List.setIfInBounds_toArray, List.set_cons_zero, List.set_cons_succ]
        refine wpAnyH_ready (rs := [5]) (by kernel_rfl) (by simp) ?_
        refine AllReadyH.cons (by simp only [List.getElem?_toArray, List.getElem?_cons_succ, List.getElem?_cons_zero]; rfl) (fun K hK => ?_) AllReadyH.nil
        go_simp
        refine (HHX.out _).mono ?_
        rintro e v1 ⟨rfl, hb⟩
        have hb1 : Below wb.heap.size wb v1 := (Below.refl _ _).drew.trans hb
        have HB1 := Lib.hid hb1
        have HBX1 := Lib.hid ((hb1.block bx HBL.out).trans HBX.out)
        have HBU1 := Lib.hid (HBU.out.belowB hb1)
        clear hb hb1
        go_wp2_with fail
        refine hK.out _ _ (HBX1.out) (fun hHeld2 => ?_)
        clear hK K hHeld
        have hHeld := hHeld2
        clear hHeld2
        try simp only [Act.put, List.setIfInBounds_toArray, List.set_cons_zero, List.set_cons_succ]
        refine wpAnyH_take (i := 6) (v := ?_) (by simp only [List.getElem?_toArray, List.getElem?_cons_succ, List.getElem?_cons_zero]; rfl) (by kernel_rfl) (by kernel_rfl) (by kernel_rfl) (fun _ _ _ h => h) (Or.inl ⟨by rfl, ?_⟩) (by assumption) ?_
        rotate_left
        · intro W hSW
          go_simp
          try with_reducible rfl
        try simp only [Act.put, List.setIfInBounds_toArray, List.set_cons_zero, List.set_cons_succ]
        refine wpAnyH_take (i := 9) (v := ?_) (by simp only [List.getElem?_toArray, List.getElem?_cons_succ, List.getElem?_cons_zero]; rfl) (by kernel_rfl) (by kernel_rfl) (by kernel_rfl) (fun _ _ _ h => h) (Or.inl ⟨by rfl, ?_⟩) (by assumption) ?_
        rotate_left
        · intro W hSW
          go_simp
          try with_reducible rfl
        try simp only [Act.put, List.setIfInBounds_toArray, List.set_cons_zero, List.set_cons_succ]
        refine wpAnyH_take (i := 10) (v := ?_) (by simp only [List.getElem?_toArray, List.getElem?_cons_succ, List.getElem?_cons_zero]; rfl) (by kernel_rfl) (by kernel_rfl) (by kernel_rfl) (fun _ _ _ h => h) (Or.inl ⟨by rfl, ?_⟩) (by assumption) ?_
        rotate_left
        · intro W hSW
          go_simp
          try with_reducible rfl
        try simp only [Act.put, List.setIfInBounds_toArray, List.set_cons_zero, List.set_cons_succ]
        refine wpAnyH_ready (rs := [11]) (by kernel_rfl) (by simp) ?_
        refine AllReadyH.cons (by simp only [List.getElem?_toArray, List.getElem?_cons_succ, List.getElem?_cons_zero]; rfl) (fun K hK => ?_) AllReadyH.nil
        go_simp
        refine (Tryd.Buffer_WriteString_kept B0 B0 (Lib.byteCells (textF (xs.take k))) b3 v1 HBU1.out (Nat.le_trans HBN.out HB1.out.size) (fun v hv => byte_one hv) (by rw [Lib.byteCells_length]; have := HTL.out; have := HB3S.out; omega)).mono ?_
        rintro e v2 ⟨rfl, hbu, hb, hk⟩
        have HBU2 : Hid (Lib.IsBuffer 60 5 B0 B0 (Lib.byteCells (textF (xs.take (k + 1)))) v2) := by
            show Lib.IsBuffer _ _ _ _ _ _
            rw [HTX.out]; exact hbu
        have HB2 := Lib.hid (HBW.out.trans ((HB1.out.mono HBN.out).trans hb))
        have HBX2 := Lib.hid (hk bx _ HBX1.out (fun e => by injection e with e; exact HNE.out e) (fun c fz e => by injection e with _ e _; exact absurd e (by decide)))
        clear hbu hb hk
        go_wp2_with fail
        refine hK.out _ _ (HBX2.out) (fun hHeld2 => ?_)
        clear hK K hHeld
        have hHeld := hHeld2
        clear hHeld2
        try simp only [Act.put, List.setIfInBounds_toArray, List.set_cons_zero, List.set_cons_succ]
        refine wpAnyH_done (by kernel_rfl) ?_ _
        refine NoPanic.normal ?_
        clear hHeld ha0 ha1 ha2 ha3
        go_wp2_with fail
        exact ⟨⟨k + 1, by have := HKL.out; omega, by rw [WK.out _ rfl], HBU2.out, HB2.out, HBU2.out.lt⟩, by have := HKL.out; rw [WK.out _ rfl]; simp [intOf]; omega⟩
end Go.Proofs.YtcbjadecocggjaaDoor
