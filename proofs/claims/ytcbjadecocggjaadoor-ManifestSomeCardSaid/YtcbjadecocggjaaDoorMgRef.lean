/- The document's paths of which two lists have other files. -/
import Derived.Test.YtcbjadecocggjaaDoorMgFs
import Derived.Test.YtcbjadecocggjaaDoorMgOf
import Derived.Sort.Walk0
namespace Go.Proofs.YtcbjadecocggjaaDoor
open Go.Sort Go.RowKit Go.WideMaps Go.Maps Plain Go.ChangeShapes Go.WideShapes Go.ChangeAt Go.Great
set_option linter.unusedVariables false
set_option linter.unusedSimpArgs false
def InT (A B l : List MF) (a : List UInt8) : Prop := (∃ x ∈ l, pL x = a) ∧ sameM (ofL a A) (ofL a B) = false
theorem int_all {A B : List MF} {a : List UInt8} : InT A B (A ++ B) a ↔ InD A B a := by
  unfold InT InD
  rw [ofL_mem, ofL_mem]
  constructor
  · rintro ⟨⟨x, hx, h⟩, h2⟩
    exact ⟨(List.mem_append.1 hx).imp (fun h1 => ⟨x, h1, h⟩) (fun h1 => ⟨x, h1, h⟩), h2⟩
  · rintro ⟨⟨x, hx, h⟩ | ⟨x, hx, h⟩, h2⟩
    · exact ⟨⟨x, List.mem_append.2 (.inl hx), h⟩, h2⟩
    · exact ⟨⟨x, List.mem_append.2 (.inr hx), h⟩, h2⟩
theorem int_same {A B l : List MF} {i : Nat} {x : MF} (h : l[i]? = some x) (hs : sameM (ofL (pL x) A) (ofL (pL x) B) = true) (a : List UInt8) : InT A B (l.take (i + 1)) a ↔ InT A B (l.take i) a := by
  have e : l.take (i + 1) = l.take i ++ [x] := by rw [List.take_add_one, h]; rfl
  unfold InT
  rw [e]
  constructor
  · rintro ⟨⟨y, hy, rfl⟩, h2⟩
    rcases List.mem_append.1 hy with hy | hy
    · exact ⟨⟨y, hy, rfl⟩, h2⟩
    · rw [List.mem_singleton.1 hy, hs] at h2; cases h2
  · rintro ⟨⟨y, hy, rfl⟩, h2⟩
    exact ⟨⟨y, List.mem_append.2 (.inl hy), rfl⟩, h2⟩
theorem int_new {A B l : List MF} {i : Nat} {x : MF} (h : l[i]? = some x) (hs : sameM (ofL (pL x) A) (ofL (pL x) B) = false) (a : List UInt8) : InT A B (l.take (i + 1)) a ↔ a = pL x ∨ InT A B (l.take i) a := by
  have e : l.take (i + 1) = l.take i ++ [x] := by rw [List.take_add_one, h]; rfl
  unfold InT
  rw [e]
  constructor
  · rintro ⟨⟨y, hy, rfl⟩, h2⟩
    rcases List.mem_append.1 hy with hy | hy
    · exact .inr ⟨⟨y, hy, rfl⟩, h2⟩
    · rw [List.mem_singleton.1 hy]; exact .inl rfl
  · rintro (rfl | ⟨⟨y, hy, rfl⟩, h2⟩)
    · exact ⟨⟨x, List.mem_append.2 (.inr (List.mem_singleton.2 rfl)), rfl⟩, hs⟩
    · exact ⟨⟨y, List.mem_append.2 (.inl hy), rfl⟩, h2⟩
theorem lss_strM (y : List UInt8) (p : ByteArray) (b : Bool) (h : decide (y < p.data.toList) = b) (W : World) : (binOp .lss 9 (.string ⟨y.toArray⟩) (.string p)).run Tryd.prog W = .ok (.bool b) W := by
  rw [binOp_string_lss, bytesLess_eq, Lib.toList_data, Lib.toList_data, ← h]; rfl
theorem eql_strM (y : List UInt8) (p : ByteArray) (b : Bool) (h : decide (y = p.data.toList) = b) (W : World) : (binOp .eql 9 (.string ⟨y.toArray⟩) (.string p)).run Tryd.prog W = .ok (.bool b) W := by
  rw [eq_strM, path_eq, ← h]
  show Result.ok (Value.bool (y == p.data.toList)) W = _
  by_cases e : y = p.data.toList <;> simp [e]
theorem guard_lssM (x y : Operand) (s t : ByteArray) (W : World) : (eqGuard .lss 9 x y (.string s) (.string t)).run Tryd.prog W = .ok () W := by simp [eqGuard]
/-- What is told so far. -/
structure Told (A B l : List MF) (os : List (List UInt8)) : Prop where
  ord : Ord os
  nd : os.Nodup
  mem : ∀ a, a ∈ os ↔ InT A B l a
theorem Told.none (A B : List MF) : Told A B [] [] := ⟨List.Pairwise.nil, List.nodup_nil, fun a => by unfold InT; simp⟩
theorem Told.same {A B l : List MF} {os : List (List UInt8)} {i : Nat} {x : MF} (h : Told A B (l.take i) os) (hx : l[i]? = some x) (hs : sameM (ofL (pL x) A) (ofL (pL x) B) = true) : Told A B (l.take (i + 1)) os :=
  ⟨h.ord, h.nd, fun a => (h.mem a).trans (int_same hx hs a).symm⟩
theorem Told.has {A B l : List MF} {os : List (List UInt8)} {i : Nat} {x : MF} (h : Told A B (l.take i) os) (hx : l[i]? = some x) (hs : sameM (ofL (pL x) A) (ofL (pL x) B) = false) {k : Nat} (hk : os[k]? = some (pL x)) : Told A B (l.take (i + 1)) os :=
  ⟨h.ord, h.nd, fun a => by
    rw [int_new hx hs, ← h.mem a]
    exact ⟨.inr, fun h => h.elim (fun e => e ▸ List.mem_of_getElem? hk) id⟩⟩
theorem Told.put {A B l : List MF} {os : List (List UInt8)} {i : Nat} {x : MF} (h : Told A B (l.take i) os) (hx : l[i]? = some x) (hs : sameM (ofL (pL x) A) (ofL (pL x) B) = false) {k : Nat}
    (h1 : ∀ j y, j < k → os[j]? = some y → y < pL x) (h2 : ∀ y, os[k]? = some y → ¬ y < pL x ∧ y ≠ pL x) : Told A B (l.take (i + 1)) (os.take k ++ pL x :: os.drop k) := by
  obtain ⟨e1, e2, e3⟩ := put_ord h.ord h.nd h1 h2
  exact ⟨e1, e2, fun a => by rw [e3, int_new hx hs, h.mem a]⟩
theorem strsAt_get {w : World} {a : Option Addr} {ys : List (List UInt8)} (h : StrsAtM w a ys) {k : Nat} (hk : k < ys.length) : ∃ b off y, a = some ⟨b, off, none⟩ ∧ ys[k]? = some y ∧ b < w.heap.size ∧ w.cell? ⟨b, off + k, none⟩ = some (.string ⟨y.toArray⟩) := by
  rcases h with h0 | ⟨b, off, rfl, hl, hc⟩
  · omega
  · exact ⟨b, off, _, rfl, List.getElem?_eq_getElem hk, hl, hc k _ (List.getElem?_eq_getElem hk)⟩
/-- A test of two parts. -/
def TFM (t : Bool) (P : Prop) : Prop := t = true ↔ P
set_option maxRecDepth 100000 in
set_option maxHeartbeats 16000000 in
theorem refdiff_any (a b : Option Addr) (ca cb : Nat) (A B : List MF) (w : World) (hA : FsAt w a A) (hB : FsAt w b B) (hn : A.length ≤ 1000) (hm : B.length ≤ 1000) :
    Calls Tryd.prog 7 #[.slice a A.length ca, .slice b B.length cb] w fun e w' => (∃ v os, e = .returned v ∧ OwnS w' w.heap.size v os ∧ Ord os ∧ os.Nodup ∧ os.length ≤ 2000 ∧ ∀ p, p ∈ os ↔ InD A B p) ∧ Below w.heap.size w w' := by
  have HA := Lib.hid hA
  have HB := Lib.hid hB
  obtain ⟨n, hnl⟩ : ∃ n, A.length = n := ⟨_, rfl⟩
  obtain ⟨m, hml⟩ : ∃ m, B.length = m := ⟨_, rfl⟩
  have HNL := Lib.hid hnl
  have HML := Lib.hid hml
  have HNB : Hid (n ≤ 1000) := by rw [← hnl]; exact hn
  have HMB : Hid (m ≤ 1000) := by rw [← hml]; exact hm
  rw [hnl, hml]
  clear hA hB hn hm hnl hml
  have HZB : Hid (Below w.heap.size w (w.alloc (.cells #[] 45))) := (Below.refl _ _).alloc (Nat.le_refl _) _
  have HZ : Hid (OwnF 45 (w.alloc (.cells #[] 45)) w.heap.size (.slice (some ⟨w.heap.size, 0, none⟩) 0 0) []) := OwnF.emptyR w
  have tok : True := trivial
  go_enter Tryd.func7, Tryd.ntmps7
  go_wp2_with (first
    | refine wpList_slice (by rfl) _ _ _ rfl #[] (by simp) _ _ (slice_noRF w) ?_
    | (have _t := tok; at_builtin; clear tok; refine Hid.out ?_))
  refine unhidM ?_
  refine wpList_append_filesM rfl _ _ rfl w.heap.size _ [] 0 rfl rfl HZ.out a n ca A HNL.out rfl (HA.out.below HZB.out) n A (Nat.zero_add _) rfl (by have := HNB.out; omega) (by simp) (fun va w1 ho hg => ?_)
  have HO1 : Hid (OwnF 45 w1 w.heap.size va A) := ho
  have HB1 : Hid (Below w.heap.size w w1) := HZB.out.trans (own_off HZ.out (by simp) hg)
  clear ho hg HZ HZB
  have tok : True := trivial
  go_wp2_with (have _t := tok; at_builtin; clear tok; refine Hid.out ?_)
  refine unhidM ?_
  refine wpList_append_filesM rfl _ _ rfl w.heap.size va A n HNL.out rfl HO1.out b m cb B HML.out rfl (HB.out.below HB1.out) (n + m) (A ++ B) rfl rfl (by have := HNB.out; have := HMB.out; omega) HB1.out.size (fun vb w2 ho hg => ?_)
  have HO2 : Hid (OwnF 45 w2 w.heap.size vb (A ++ B)) := ho
  have HB2 : Hid (Below w.heap.size w w2) := HB1.out.trans (own_off HO1.out HB1.out.size hg)
  clear ho hg HO1 HB1
  obtain ⟨la, lc, rfl, hla, -, -⟩ := HO2.out.at
  obtain ⟨L, hL⟩ : ∃ L, A ++ B = L := ⟨_, rfl⟩
  obtain ⟨N, hN⟩ : ∃ N, L.length = N := ⟨_, rfl⟩
  have HLE := Lib.hid hL
  have HNN := Lib.hid hN
  have HNX : Hid (N ≤ 2000) := by
    rw [← hN, ← hL, List.length_append, HNL.out, HML.out]
    have := HNB.out; have := HMB.out
    show _ ≤ _; omega
  rw [hL] at hla
  have HLA := Lib.hid hla
  rw [hL, hN]
  clear hL hN hla HO2
  go_wp2_with fail
  go_loopw [5, 7, 8, 9, 10] (fun ov iv _ _ _ wr => ∃ i : Nat, ∃ os : List (List UInt8), iv = .int .i64 (i : Int) ∧ i ≤ N ∧ OwnS wr w2.heap.size ov os ∧ Told A B (L.take i) os ∧ os.length ≤ i ∧ Below w2.heap.size w2 wr) (fun _ iv _ _ _ _ => N - (intOf iv).toNat)
  case atStart => exact ⟨0, [], rfl, Nat.zero_le _, OwnS.nil _ _, by rw [List.take_zero]; exact Told.none _ _, Nat.le_refl _, Below.refl _ _⟩
  case round =>
    obtain ⟨i, os, rfl, hin, ho, htd, hos, hbl⟩ := hrel
    have HBL := Lib.hid hbl
    have HTD := Lib.hid htd
    by_cases hi : i < N
    · have hii : (i : Int) < (N : Int) := by omega
      have hi0 : (0 : Int) ≤ (i : Int) := Int.natCast_nonneg i
      obtain ⟨q, hq⟩ : ∃ q, os.length = q := ⟨_, rfl⟩
      obtain ⟨oa, oc, rfl, hat, hoc, -⟩ := ho.at
      rw [hq] at ho hos hoc ⊢
      have HQ := Lib.hid hq
      have HAT := Lib.hid hat
      have HO : Hid (OwnS wr w2.heap.size (.slice oa q oc) os) := ho
      have HOC := Lib.hid hoc
      have HNI : Hid (i < N ∧ i ≤ 2000 ∧ q ≤ i) := ⟨hi, by have := HNX.out; omega, hos⟩
      obtain ⟨bx, off, x, rfl, hx, hx20, hbx, hrx⟩ := (HLA.out.below HBL.out).at (show i < L.length by rw [HNN.out]; exact hi)
      have HX := Lib.hid hx
      have HIN := Lib.hid (next_int i (by have := HNI.out; omega))
      have q1 : wr.cell? ⟨bx, off + i * 22, none⟩ = some (.string x.p) := range_path hrx
      have HOA : Hid (Calls Tryd.prog 16 #[.slice a n ca, .string x.p] wr fun e w' => (∃ v, e = .returned v ∧ OwnF 45 w' wr.heap.size v (ofL x.p.data.toList A)) ∧ Below wr.heap.size wr w') := by
        have h := of_any a ca A x.p wr (HA.out.below (HB2.out.trans (HBL.out.mono HB2.out.size))) (by rw [HNL.out]; have := HNB.out; omega)
        rw [HNL.out] at h
        exact h
      clear ho hat hq hoc hi hin hbl hx hx20 hbx hrx hos htd
      go_wp2_with fail
      refine HOA.out.mono ?_
      rintro e w3 ⟨⟨v3, rfl, ho3⟩, hb3⟩
      have HO3 := Lib.hid ho3
      have HB3 := Lib.hid hb3
      have HOB : Hid (Calls Tryd.prog 16 #[.slice b m cb, .string x.p] w3 fun e w' => (∃ v, e = .returned v ∧ OwnF 45 w' w3.heap.size v (ofL x.p.data.toList B)) ∧ Below w3.heap.size w3 w') := by
        have h := of_any b cb B x.p w3 (HB.out.below (HB2.out.trans ((HBL.out.trans (HB3.out.mono HBL.out.size)).mono HB2.out.size))) (by rw [HML.out]; have := HMB.out; omega)
        rw [HML.out] at h
        exact h
      clear ho3 hb3 HOA q1
      go_wp2_with fail
      refine HOB.out.mono ?_
      rintro e w4 ⟨⟨v4, rfl, ho4⟩, hb4⟩
      have HB4 : Hid (Below wr.heap.size wr w4) := HB3.out.trans (hb4.mono HB3.out.size)
      have HO4 := Lib.hid ho4
      have HO3 := Lib.hid (HO3.out.below hb4)
      obtain ⟨a3, c3, rfl, hf3, -, -⟩ := HO3.out.at
      obtain ⟨a4, c4, rfl, hf4, -, -⟩ := HO4.out.at
      have HSM := Lib.hid (rsame_any a3 a4 c3 c4 _ _ w4 hf3 hf4 (by have := ofL_len x.p.data.toList A; have := HNL.out; have := HNB.out; omega) (by have := ofL_len x.p.data.toList B; have := HML.out; have := HMB.out; omega))
      obtain ⟨sm, hsm⟩ : ∃ sm, sameM (ofL x.p.data.toList A) (ofL x.p.data.toList B) = sm := ⟨_, rfl⟩
      have HSE : Hid (sameM (ofL (pL x) A) (ofL (pL x) B) = sm) := hsm
      rw [hsm] at HSM
      generalize (ofL x.p.data.toList A).length = n3 at *
      generalize (ofL x.p.data.toList B).length = n4 at *
      clear ho4 hb4 HOB hf3 hf4 hsm HB3
      go_wp2_with fail
      refine HSM.out.mono ?_
      rintro e w5 ⟨rfl, hb5⟩
      have HB5 : Hid (Below wr.heap.size wr w5) := HB4.out.trans (hb5.mono HB4.out.size)
      clear hb5 HSM HO3 HO4
      cases sm
      rotate_left
      · have HT2 := Lib.hid (HTD.out.same HX.out HSE.out)
        go_wp2_with fail
        first
          | (go_roundw
             case measure => have := HNI.out; (first | rw [HIN.out _ rfl] | skip); simp [intOf]; omega
             case rel => exact ⟨i + 1, os, by first | rw [HIN.out _ rfl] | rfl, by have := HNI.out; omega, HO.out.below (HB5.out), HT2.out, by rw [HQ.out]; have := HNI.out; omega, HBL.out.trans (HB5.out.mono HBL.out.size)⟩)
          | exact ⟨⟨i + 1, os, by first | rw [HIN.out _ rfl] | rfl, by have := HNI.out; omega, HO.out.below (HB5.out), HT2.out, by rw [HQ.out]; have := HNI.out; omega, HBL.out.trans (HB5.out.mono HBL.out.size)⟩, by have := HNI.out; (first | rw [HIN.out _ rfl] | skip); simp [intOf]; omega⟩
          | (go_roundw
             case measure => have := HNI.out; (first | rw [HIN.out _ rfl] | skip); simp [intOf]; omega
             case rel =>
               (repeat apply Exists.intro)
               exact ⟨⟨i + 1, os, by first | rw [HIN.out _ rfl] | rfl, by have := HNI.out; omega, HO.out.below (HB5.out), HT2.out, by rw [HQ.out]; have := HNI.out; omega, HBL.out.trans (HB5.out.mono HBL.out.size)⟩, rfl⟩)
          | (trace_state; sorry)
      · have HAT5 := Lib.hid (HAT.out.below HB5.out)
        clear HAT
        go_upto_block 2 with fail
        go_cut [9] from 16 to 73 (fun kv wx => ∃ k : Nat, kv = .int .i64 (k : Int) ∧ k ≤ q ∧ (∀ j y, j < k → os[j]? = some y → y < pL x) ∧ (∀ y, os[k]? = some y → ¬ y < pL x) ∧ Below w5.heap.size w5 wx)
        case first =>
          go_wp2_with fail
          go_loopw [9] (fun kv wq => ∃ k : Nat, kv = .int .i64 (k : Int) ∧ k ≤ q ∧ (∀ j y, j < k → os[j]? = some y → y < pL x) ∧ Below w5.heap.size w5 wq) (fun kv _ => q - (intOf kv).toNat)
          case atStart => exact ⟨0, rfl, Nat.zero_le _, fun j y hj => absurd hj (by omega), Below.refl _ _⟩
          case round =>
            rename World => wq
            obtain ⟨k, rfl, hkq, hseen, hbq⟩ := hrel
            have HSEEN := Lib.hid hseen
            have HBQ := Lib.hid hbq
            have HKQ : Hid (k ≤ q ∧ q ≤ 2000) := ⟨hkq, by have := HNI.out; omega⟩
            have HKN := Lib.hid (next_int k (by have := HKQ.out; omega))
            have hk0 : (0 : Int) ≤ (k : Int) := Int.natCast_nonneg k
            clear hseen hbq
            by_cases hk : k < q
            · have hki : (k : Int) < (q : Int) := by omega
              obtain ⟨bo, oo, y, rfl, hy, hbo, hcy⟩ := strsAt_get (HAT5.out.below HBQ.out) (show k < os.length by rw [HQ.out]; exact hk)
              have HY := Lib.hid hy
              obtain ⟨bl, hbl⟩ : ∃ bl, decide (y < x.p.data.toList) = bl := ⟨_, rfl⟩
              have HLS := Lib.hid (lss_strM y x.p bl hbl)
              have HKB : Hid (k < q) := hk
              clear hk hkq hy
              cases bl
              · have HE : Hid (∀ z, os[k]? = some z → ¬ z < pL x) := fun z hz => by
                  rw [HY.out] at hz; cases hz
                  exact of_decide_eq_false hbl
                clear hbl
                go_wp2_with (first
                  | refine wpList_eql (by rfl) .lss 9 _ _ _ rfl (.string ⟨y.toArray⟩) (.string x.p) rfl rfl (.bool false) (guard_lssM _ _ _ _) (fun W => HLS.out W) ?_)
                go_meet
                exact ⟨k, rfl, HKQ.out.1, HSEEN.out, HE.out, HBQ.out⟩
              · have HS2 : Hid (∀ j z, j < k + 1 → os[j]? = some z → z < pL x) := fun j z hj hz => by
                  rcases Nat.lt_succ_iff_lt_or_eq.1 hj with hj | rfl
                  · exact HSEEN.out j z hj hz
                  · rw [HY.out] at hz; cases hz
                    exact of_decide_eq_true hbl
                clear hbl
                go_wp2_with (first
                  | refine wpList_eql (by rfl) .lss 9 _ _ _ rfl (.string ⟨y.toArray⟩) (.string x.p) rfl rfl (.bool true) (guard_lssM _ _ _ _) (fun W => HLS.out W) ?_)
                exact ⟨⟨k + 1, by first | rw [HKN.out _ rfl] | rfl, HKB.out, HS2.out, HBQ.out⟩, by have := HKB.out; (first | rw [HKN.out _ rfl] | skip); simp [intOf]; omega⟩
            · have hki : ¬ (k : Int) < (q : Int) := by omega
              have HE : Hid (∀ z, os[k]? = some z → ¬ z < pL x) := fun z hz => by
                have := (List.getElem?_eq_some_iff.1 hz).1
                rw [HQ.out] at this
                omega
              clear hk hkq
              go_wp2_with fail
              go_meet
              exact ⟨k, rfl, HKQ.out.1, HSEEN.out, HE.out, HBQ.out⟩
        case rest =>
        obtain ⟨k, rfl, hkq, hse, hge, hbw⟩ := hcut
        generalize wc = w6 at *
        have HSE2 := Lib.hid hse
        have HGE := Lib.hid hge
        have HBW : Hid (Below wr.heap.size wr w6) := HB5.out.trans (hbw.mono HB5.out.size)
        have HAT6 := Lib.hid (HAT5.out.below hbw)
        have HKQ : Hid (k ≤ q ∧ q ≤ 2000) := ⟨hkq, by have := HNI.out; omega⟩
        have hk0 : (0 : Int) ≤ (k : Int) := Int.natCast_nonneg k
        clear hkq hse hge hbw HAT5
        go_upto_region 11 with fail
        go_cut [59] from 16 to 73 (fun tv wx => ∃ t : Bool, tv = .bool t ∧ TFM t (os[k]? = some (pL x)) ∧ w6 = wx)
        case first =>
          by_cases hk : k < q
          · have hki : (k : Int) < (q : Int) := by omega
            obtain ⟨bo, oo, y, rfl, hy, hbo, hcy⟩ := strsAt_get HAT6.out (show k < os.length by rw [HQ.out]; exact hk)
            obtain ⟨bl, hbl⟩ : ∃ bl, decide (y = x.p.data.toList) = bl := ⟨_, rfl⟩
            have HES := Lib.hid (eql_strM y x.p bl hbl)
            have HTF : Hid (TFM bl (os[k]? = some (pL x))) := by
              unfold TFM
              rw [hy, ← hbl, decide_eq_true_eq]
              exact ⟨fun e => by rw [e]; rfl, fun e => by injection e⟩
            clear hk hy hbl
            go_wp2_with (first
              | refine wpList_eql (by rfl) .eql 9 _ _ _ rfl (.string ⟨y.toArray⟩) (.string x.p) rfl rfl (.bool bl) (guard_eq _ _ _ _) (fun W => HES.out W) ?_)
            go_meet
            exact ⟨bl, rfl, HTF.out, rfl⟩
          · have hki : ¬ (k : Int) < (q : Int) := by omega
            have HTF : Hid (TFM false (os[k]? = some (pL x))) := by
              unfold TFM
              rw [List.getElem?_eq_none (by rw [HQ.out]; omega)]
              exact ⟨fun e => (by cases e), fun e => (by cases e)⟩
            clear hk
            go_wp2_with fail
            go_meet
            exact ⟨false, rfl, HTF.out, rfl⟩
        case rest =>
        obtain ⟨tt, rfl, htf, rfl⟩ := hcut
        have HTF := Lib.hid htf
        clear htf
        cases tt
        rotate_left
        · have HT2 := Lib.hid (HTD.out.has HX.out HSE.out (HTF.out.1 rfl))
          go_wp2_with fail
          go_roundw
          case measure =>
            have := HNI.out
            (first | rw [HIN.out _ rfl] | skip)
            simp [intOf]
            omega
          case rel =>
            refine ⟨i + 1, os, ?_, ?_, HO.out.below HBW.out, HT2.out, ?_, HBL.out.trans (HBW.out.mono HBL.out.size)⟩
            · first | rw [HIN.out _ rfl] | rfl
            · have := HNI.out; omega
            · rw [HQ.out]; have := HNI.out; omega
        · have HT2 := Lib.hid (HTD.out.put HX.out HSE.out HSE2.out (fun y hy => ⟨HGE.out y hy, fun e => by rw [e] at hy; have := HTF.out.2 hy; cases this⟩))
          have HTL : Hid ((os.take k).length = k) := by show _ = _; rw [List.length_take, HQ.out]; have := HKQ.out; omega
          have HZB : Hid (Below w6.heap.size w6 (w6.alloc (.cells #[] 9))) := (Below.refl _ _).alloc (Nat.le_refl _) _
          have HZ : Hid (OwnS (w6.alloc (.cells #[] 9)) w6.heap.size (.slice (some ⟨w6.heap.size, 0, none⟩) 0 0) []) := OwnS.empty w6
          have hs1 := fun W => slice_toS oa q oc k (by have := HOC.out; have := HKQ.out; omega) W
          have tok : True := trivial
          go_wp2_with (first
            | refine wpList_slice (by rfl) _ _ _ rfl #[] (by simp) _ _ (slice_noS w6) ?_
            | (have _t := tok; at_builtin; clear tok; refine Hid.out ?_))
          refine unhidM ?_
          refine wpList_append_strs rfl _ _ rfl w6.heap.size _ [] rfl HZ.out oa k oc (os.take k) HTL.out rfl ((HAT6.out.below HZB.out).take k) (os.take k) rfl (by have := HKQ.out; simp; omega) (by simp) (fun v7 w7 ho hg => ?_)
          have HO7 : Hid (OwnS w7 w6.heap.size v7 (os.take k)) := ho
          have HB7 : Hid (Below w6.heap.size w6 w7) := HZB.out.trans (HZ.out.off (by simp) hg)
          clear ho hg hs1 HZ HZB
          have HBX : Hid (Below w7.heap.size w7 (w7.alloc (.cells #[.string x.p] 9))) := (Below.refl _ _).alloc (Nat.le_refl _) _
          have HO7b : Hid (OwnS (w7.alloc (.cells #[.string x.p] 9)) w6.heap.size v7 (os.take k)) := HO7.out.below HBX.out
          have HSX : Hid (StrsAtM (w7.alloc (.cells #[.string x.p] 9)) (some ⟨w7.heap.size, 0, none⟩) [pL x]) := .inr ⟨w7.heap.size, 0, rfl, by simp, fun j s hj => by
            cases j with
            | zero => cases hj; exact cell_one_new w7 (.string x.p) _ 0 _ rfl
            | succ j => simp at hj⟩
          have tok : True := trivial
          go_wp2_with (have _t := tok; at_builtin; clear tok; refine Hid.out ?_)
          refine unhidM ?_
          refine wpList_append_strs rfl _ _ rfl w6.heap.size v7 (os.take k) rfl HO7b.out _ 1 1 [pL x] rfl rfl HSX.out (os.take k ++ [pL x]) rfl (by rw [HTL.out]; have := HKQ.out; omega) (Nat.le_trans HB7.out.size HBX.out.size) (fun v8 w8 ho hg => ?_)
          have HO8 : Hid (OwnS w8 w6.heap.size v8 (os.take k ++ [pL x])) := ho
          have HB8 : Hid (Below w6.heap.size w6 w8) := (HB7.out.trans (HBX.out.mono HB7.out.size)).trans (HO7b.out.off (Nat.le_trans HB7.out.size HBX.out.size) hg)
          clear ho hg HBX HO7b HSX HO7 HB7
          have tok : True := trivial
          have hs2 := fun W => slice_fromS oa q oc k HKQ.out.1 HOC.out W
          go_wp2_with (have _t := tok; at_builtin; clear tok; refine Hid.out ?_)
          refine unhidM ?_
          refine wpList_append_strs rfl _ _ rfl w6.heap.size v8 (os.take k ++ [pL x]) rfl HO8.out (subS oa oc k) (q - k) (oc - k) (os.drop k) (by rw [List.length_drop, HQ.out]) rfl ((HAT6.out.below HB8.out).drop oc k (by rw [HQ.out]; exact HOC.out) (by rw [HQ.out]; exact HKQ.out.1)) (os.take k ++ pL x :: os.drop k) (by simp) (by rw [List.length_append, HTL.out]; have := HKQ.out; simp; omega) HB8.out.size (fun v9 w9 ho hg => ?_)
          have HO9 : Hid (OwnS w9 w6.heap.size v9 (os.take k ++ pL x :: os.drop k)) := ho
          have HB9 : Hid (Below wr.heap.size wr w9) := HBW.out.trans ((HB8.out.trans (HO8.out.off HB8.out.size hg)).mono HBW.out.size)
          have HLN : Hid ((os.take k ++ pL x :: os.drop k).length ≤ i + 1) := by
            rw [List.length_append, HTL.out, List.length_cons, List.length_drop, HQ.out]
            have := HKQ.out; have := HNI.out
            show _ ≤ _; omega
          clear ho hg hs2
          go_wp2_with fail
          go_roundw
          case measure =>
            have := HNI.out
            (first | rw [HIN.out _ rfl] | skip)
            simp [intOf]
            omega
          case rel =>
            refine ⟨i + 1, _, ?_, ?_, HO9.out.lower (Nat.le_trans HBL.out.size HBW.out.size), HT2.out, ?_, HBL.out.trans (HB9.out.mono HBL.out.size)⟩
            · first | rw [HIN.out _ rfl] | rfl
            · have := HNI.out; omega
            · exact HLN.out
    · have hii : ¬ (i : Int) < (N : Int) := by omega
      obtain rfl : i = N := by omega
      have HT : Hid (Told A B (A ++ B) os) := by
        rw [List.take_of_length_le (by rw [HNN.out]; omega), ← HLE.out] at htd
        exact htd
      have HO : Hid (OwnS wr w2.heap.size u5 os) := ho
      have HOL : Hid (os.length ≤ i) := hos
      clear ho hbl hin hi htd hos HTD
      go_wp2_with fail
      go_ret
      exact ⟨⟨_, rfl, os, HO.out.lower HB2.out.size, HT.out.ord, HT.out.nd, Nat.le_trans HOL.out HNX.out, fun p => (HT.out.mem p).trans int_all⟩, HB2.out.trans (HBL.out.mono HB2.out.size)⟩
end Go.Proofs.YtcbjadecocggjaaDoor
