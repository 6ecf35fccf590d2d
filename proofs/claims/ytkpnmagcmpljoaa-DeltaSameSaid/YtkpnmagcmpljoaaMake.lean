/- A delta is made: the walk. -/
import Derived.Test.YtkpnmagcmpljoaaCopy
import Derived.Test.YtkpnmagcmpljoaaBlocks
import Derived.Test.YtkpnmagcmpljoaaMakeMath
import Derived.Test.YtkpnmagcmpljoaaSizes
import Derived.IntWalk
namespace Go.Proofs.Ytkpnmagcmpljoaa
open Go.RowKit Plain
set_option linter.unusedVariables false
theorem Own.mid {w : World} {base : Nat} {v : Value} {n : Nat} {xs : List Int} (h : Own w base v n xs) : Mid w base v n xs := by
  have hl : xs.length = n := by have := h.1; simpa using this
  rcases Nat.eq_zero_or_pos n with h0 | h0
  · subst h0
    obtain rfl : xs = [] := List.eq_nil_of_length_eq_zero hl
    obtain ⟨h1, ⟨rfl, -⟩ | ⟨g, cap, cur, rfl, h3, h4, h5, h6, h7, h8⟩⟩ := h
    · exact Mid.nil w base
    · refine ⟨rfl, .inr ⟨g, 0, cap, rfl, h3, ?_, h5, by unfold maxLen at h6; omega, fun j v hv => (by cases hv), fun j hj => ?_⟩⟩
      · rcases Nat.lt_or_ge g w.heap.size with h | h
        · exact h
        · simp [Array.getElem?_eq_none h] at h4
      · simp [World.cell?, World.frozen?, h4, show j < cur.size by omega]
  · obtain ⟨h1, ⟨rfl, rfl⟩ | ⟨g, cap, cur, rfl, h3, h4, h5, h6, h7, h8⟩⟩ := h
    · omega
    · have hh : Own w base (.slice (some ⟨g, 0, none⟩) n cap) n xs := ⟨h1, .inr ⟨g, cap, cur, rfl, h3, h4, h5, h6, h7, h8⟩⟩
      refine ⟨hl, .inr ⟨g, 0, cap, rfl, h3, ?_, h5, by unfold maxLen at h6; omega, fun j v hv => ?_, fun j hj => ?_⟩⟩
      · rcases Nat.lt_or_ge g w.heap.size with h | h
        · exact h
        · simp [Array.getElem?_eq_none h] at h4
      · have hj : j < xs.length := by
          rcases Nat.lt_or_ge j xs.length with h | h
          · exact h
          · unfold U8 at hv; rw [List.getElem?_map, List.getElem?_eq_none h] at hv; cases hv
        rw [Nat.zero_add, hh.cell j (by omega)]
        unfold U8 at hv
        rw [List.getElem?_map, List.getElem?_eq_getElem hj] at hv
        rw [List.getElem?_eq_getElem hj]
        exact hv
      · simp [World.cell?, World.frozen?, h4, show j < cur.size by omega]
theorem lebBytes_range (n : Nat) (j : Nat) : 0 ≤ (lebBytes n)[j]?.getD 0 ∧ (lebBytes n)[j]?.getD 0 ≤ 255 := range_of_mem0 (lebF_bytes 10 n) j
/-- What alike tells. -/
def Alk (B1 B2 : List Int) (m1 m2 j : Nat) : Prop := j ≤ m1 ∧ j ≤ m2 ∧ B1.take j = B2.take j ∧ (j = m1 ∨ j = m2 ∨ B1[j]?.getD 0 ≠ B2[j]?.getD 0)
def ViaN (A : Nat → Act) (R : Nat → World → Prop) : Exit → Act → World → Prop
  | .normal, a, w => ∃ j, a = A j ∧ R j w
  | _, _, _ => False
theorem wp_via_n {P : Program} {c : Code} {Q : Exit → Act → World → Prop} {a : Act} {w : World} {R : Nat → World → Prop} (A : Nat → Act) (h1 : c.wp P (ViaN A R) a w) (h2 : ∀ j W, R j W → Q .normal (A j) W) : c.wp P Q a w := by
  refine wp_mono h1 fun e a' w' h => ?_
  cases e with
  | normal =>
    obtain ⟨j, ha, hr⟩ := h
    subst ha
    exact h2 j w' hr
  | _ => exact h.elim
set_option maxRecDepth 100000 in
set_option maxHeartbeats 8000000 in
theorem make_any (a0 : Option Addr) (m0 c0 : Nat) (bs : List Int) (h0 : m0 ≤ c0) (hc0 : c0 ≤ 9223372036854775807) (hl0 : m0 ≤ 1000000) (a1 : Option Addr) (m1 c1 : Nat) (ts : List Int) (h1 : m1 ≤ c1) (hc1 : c1 ≤ 9223372036854775807) (hl1 : m1 ≤ 1000000)
    (w : World) (HB : Bytes w a0 m0 bs) (HT : Bytes w a1 m1 ts) :
    Calls Try.prog 14 #[.slice a0 m0 c0, .slice a1 m1 c1] w fun e w' => (∃ v D S, e = .returned v ∧ Mid w' w.heap.size v D.length D ∧ Made bs ts D S ∧ ∀ x ∈ D, 0 ≤ x ∧ x ≤ 255) ∧ Below w.heap.size w w' := by
  have hbl : bs.length = m0 := HB.1
  have htl : ts.length = m1 := HT.1
  have HBL := Lib.hid hbl
  have HTL := Lib.hid htl
  have HBB := Lib.hid HB
  have HTT := Lib.hid HT
  clear HB HT hbl htl
  go_enter Try.func14, Try.ntmps14
  go_wp2_with fail
  refine (leb_any m0 (by omega) w).mono ?_
  rintro e w1 ⟨⟨a2, k2, c2, rfl, ho2⟩, hb1⟩
  have HO2 := Lib.hid ho2
  have HB1 := Lib.hid hb1
  clear ho2 hb1
  go_wp2_with fail
  refine (leb_any m1 (by omega) w1).mono ?_
  rintro e w2 ⟨⟨a3, k3, c3, rfl, ho3⟩, hb2⟩
  have HO3 := Lib.hid ho3
  have HB2 := Lib.hid hb2
  have hk2 : (lebBytes m0).length = k2 := HO2.out.mid.1
  have hk3 : (lebBytes m1).length = k3 := HO3.out.mid.1
  have hl2 := lebBytes_len m0
  have hl3 := lebBytes_len m1
  have HK2 := Lib.hid hk2
  have HK3 := Lib.hid hk3
  have hk2' : k2 ≤ 10 := by omega
  have hk3' : k3 ≤ 10 := by omega
  have HM2 : Hid (Mid w2 w.heap.size (.slice a2 k2 c2) k2 (lebBytes m0)) := HO2.out.mid.below HB2.out
  have HY3 : Hid (Bytes w2 a3 k3 (lebBytes m1)) := HO3.out.bytes (lebBytes_range m1)
  have hsz : w.heap.size ≤ w2.heap.size := Nat.le_trans HB1.out.size HB2.out.size
  clear ho3 hb2 hk2 hk3 hl2 hl3
  have tok : True := trivial
  go_wp2_with (
    have _t := tok
    at_builtin
    refine wpList_append_mid rfl _ _ 22 rfl w.heap.size (.slice a2 k2 c2) k2 (lebBytes m0) rfl HM2.out _ k3 (lebBytes m1) rfl (src_bytes HY3.out) (by omega) (by omega) ?_
    intro v4 w4 hm4 hg4 ho4
    obtain ⟨d4, c4, e4, -⟩ := hm4.shape
    subst e4
    have HM4 := Lib.hid hm4
    have HG4 := Lib.hid hg4
    have HO4 := Lib.hid ho4
    clear tok hm4 hg4 ho4
    refine Hid.out ?_)
  refine unhid ?_
  go_wp2_with fail
  have HD0 : Hid ((lebBytes m0 ++ lebBytes m1).length = k2 + k3) := by
    show _ = _
    rw [List.length_append, HK2.out, HK3.out]
  have HR0 : Hid (∀ x ∈ lebBytes m0 ++ lebBytes m1, 0 ≤ x ∧ x ≤ 255) := range_app (lebF_bytes 10 m0) (lebF_bytes 10 m1)
  have HDE : Hid (lebBytes m0 ++ lebBytes m1 = lebBytes bs.length ++ lebBytes ts.length) := by show _ = _; rw [HBL.out, HTL.out]
  obtain ⟨D0, hD0⟩ : ∃ D0, lebBytes m0 ++ lebBytes m1 = D0 := ⟨_, rfl⟩
  rw [hD0] at HD0 HR0 HM4 HDE
  have HB4 : Hid (Below w.heap.size w w4) := (HB1.out.trans (HB2.out.mono HB1.out.size)).grown HG4.out (by omega) (fun i hi => (HM2.out.block_ge i hi).1)
  have HB5 : Hid (Below w.heap.size w (w4.alloc (.cells #[.slice d4 (k2 + k3) c4, .slice none 0 0] 48))) := HB4.out.alloc HB4.out.size _
  have HN5 : Hid ((w4.alloc (.cells #[.slice d4 (k2 + k3) c4, .slice none 0 0] 48)).heap[w4.heap.size]? = some (.cells #[.slice d4 (k2 + k3) c4, .slice none 0 0] 48 (0, 0))) := heap_alloc_new w4 _
  have HM5 : Hid (Mid (w4.alloc (.cells #[.slice d4 (k2 + k3) c4, .slice none 0 0] 48)) w.heap.size (.slice d4 (k2 + k3) c4) (k2 + k3) D0) := HM4.out.below ((Below.refl _ _).alloc (Nat.le_refl _) _)
  have HZ5 : Hid ((w4.alloc (.cells #[.slice d4 (k2 + k3) c4, .slice none 0 0] 48)).heap.size = w4.heap.size + 1) := by show _ = _; simp
  have HDB : Hid (∀ k, (Value.slice d4 (k2 + k3) c4).ownBlock = some k → k < w4.heap.size) := fun k hk => (HM4.out.block_ge k hk).2
  have hs4 : w.heap.size ≤ w4.heap.size := HB4.out.size
  clear HM2 HY3 HG4 HO4 HM4 hD0 HB1 HB2 HO2 HO3
  generalize w4.alloc (.cells #[.slice d4 (k2 + k3) c4, .slice none 0 0] 48) = w5 at *
  refine (blocks_any a0 m0 c0 bs h0 hc0 (by omega) w5 (HBB.out.below HB5.out)).mono ?_
  rintro e w6 ⟨rfl, ⟨n, hmap, hn⟩, hb6⟩
  have HMP := Lib.hid hmap
  have HNP := Lib.hid hn
  have HB6 : Hid (Below w.heap.size w w6) := HB5.out.trans (hb6.mono HB5.out.size)
  obtain ⟨Wb, hWb⟩ : ∃ Wb, w4.heap.size = Wb := ⟨_, rfl⟩
  obtain ⟨Mb, hMb⟩ : ∃ Mb, w5.heap.size = Mb := ⟨_, rfl⟩
  have HW6 : Hid (Wr w6 w.heap.size Wb Mb D0 []) := by
    have hlt := HMP.out.lt
    have hz := HZ5.out
    refine ⟨_, _, _, 0, (hb6.block Wb (by omega)).trans (by rw [← hWb]; exact HN5.out), HM5.out.below hb6, Mid.nil _ _, by omega, by omega, by omega, ?_, ?_, by simp [Value.ownBlock], by simp [Value.ownBlock], ?_⟩
    · intro e; have := HDB.out _ e; omega
    · intro e; have := HDB.out _ e; omega
    · cases hd : (Value.slice d4 (k2 + k3) c4).ownBlock with
      | none => exact .inl rfl
      | some k => exact .inr (by simp [Value.ownBlock])
  rw [hMb] at HMP
  clear hmap hn hb6 HZ5 HDB HN5 HM5 HB5 HB4
  rw [hWb, hMb]
  clear hWb hMb
  go_wp2_with fail
  go_loopw [7] (fun v wr => ∃ (p : Nat) (P S W : List Int), v = .int .i64 (p : Int) ∧ p ≤ m1 ∧ Wr wr w.heap.size Wb Mb (D0 ++ S) P ∧ St bs ts S W P p ∧ SameSt bs ts S P p ∧ (∀ x ∈ P, 0 ≤ x ∧ x ≤ 255) ∧ (∀ x ∈ S, 0 ≤ x ∧ x ≤ 255) ∧ Fr w.heap.size Mb w6 wr) (fun v _ => m1 - (intOf v).toNat)
  case atStart => exact ⟨0, [], [], [], rfl, Nat.zero_le _, by rw [List.append_nil]; exact HW6.out, St.start bs ts, SameSt.start bs ts, (fun x hx => by cases hx), (fun x hx => by cases hx), Fr.refl _ _ _⟩
  case round =>
    obtain ⟨p, P, S, W, rfl, hp, hw, hst, hsame, hpr, hsr, hf⟩ := hrel
    have HW := Lib.hid hw
    have HST := Lib.hid hst
    have HSM := Lib.hid hsame
    have HPR := Lib.hid hpr
    have HSR := Lib.hid hsr
    have HF := Lib.hid hf
    have HWW : Hid (Below w.heap.size w wr) := HB6.out.trans hf.below
    have hswr : w.heap.size ≤ wr.heap.size := HWW.out.size
    have hlen := hst.len (by rw [HTL.out]; exact hp)
    have hsh := hst.short
    have HDS : Hid ((D0 ++ S).length = k2 + k3 + S.length) := by show _ = _; rw [List.length_append, HD0.out]
    have hPl : P.length ≤ 1000000 := by omega
    have hSl : S.length ≤ 1100000 := by omega
    have HLEN := Lib.hid hlen
    clear hw hst hsame hpr hsr hf hlen hsh HW6
    by_cases hlt : p < m1
    · have hlti : (p : Int) < (m1 : Int) := by omega
      have hlook := lookUp_any Mb n bs a1 m1 c1 ts h1 hc1 (by omega) p hlt wr (HTT.out.below HWW.out) (HMP.out.block HF.out.keeps)
      go_wp2_with fail
      refine hlook.mono ?_
      rintro e w7 ⟨⟨rfl, hmiss⟩ | ⟨q, q1, q2, q3, q4, q5, rfl⟩, hb7⟩
      · have HMI := Lib.hid hmiss
        have HB7 := Lib.hid hb7
        have HW7 : Hid (Below w.heap.size w w7) := HWW.out.trans (hb7.mono hswr)
        clear hlook hmiss hb7
        obtain ⟨-, -, hr, h0' | ⟨b1, o1, ha1, hbc1⟩⟩ := HTT.out.below HW7.out
        · omega
        subst ha1
        have q1 := hbc1 p hlt
        have hrp := hr p
        have HONE := Lib.hid (HST.out.one (by rw [HTL.out]; exact hlt))
        clear hr hbc1
        obtain ⟨x, hx⟩ : ∃ x : Nat, ts[p]?.getD 0 = (x : Int) := Int.eq_ofNat_of_zero_le hrp.1
        rw [hx] at q1 HONE
        have hx5 : x ≤ 255 := by omega
        clear hx hrp
        have hins := insert_any w.heap.size Wb Mb (D0 ++ S) P x hx5 (by omega) w7 HW7.out.size (HW.out.below HB7.out)
        go_wp2_with fail
        refine hins.mono ?_
        rintro e w8 ⟨rfl, hw8, hf8⟩
        have HW8 := Lib.hid hw8
        have HF8 : Hid (Fr w.heap.size Mb w6 w8) := HF.out.trans ((Fr.mk (HB7.out.mono hswr) (HB7.out.block Mb (HMP.out.block HF.out.keeps).lt)).trans hf8)
        clear hins hw8 hf8 q1
        have HRN : Hid (∀ y ∈ P ++ [(x : Int)], 0 ≤ y ∧ y ≤ 255) := range_app HPR.out (by simp; omega)
        go_wp2_with fail
        exact ⟨⟨p + 1, P ++ [(x : Int)], S, W, by go_num, by omega, HW8.out, HONE.out, HSM.out.one (by rw [HTL.out]; exact hlt) (by rw [HBL.out]; exact HNP.out) (by rw [HTL.out]; exact HMI.out) _, HRN.out, HSR.out, HF8.out⟩, by simp [intOf]; omega⟩
      · have Q1 := Lib.hid q1
        have Q4 := Lib.hid q4
        have Q5 := Lib.hid q5
        have hq16 : q + 16 ≤ m0 := by rw [← HBL.out]; exact q1
        have HB7 := Lib.hid hb7
        have HW7 : Hid (Below w.heap.size w w7) := HWW.out.trans (hb7.mono hswr)
        clear hlook q1 q4 q5 hb7
        have s1 := fun W => slice_to a0 m0 c0 q (by omega) W
        have HBQ : Hid (Bytes w7 a0 q (bs.take q)) := by
          have := (HBB.out.below HW7.out).first q
          rwa [Nat.min_eq_right (by omega)] at this
        have hback := back_any w.heap.size Wb Mb (D0 ++ S) P a0 q c0 (bs.take q) (by omega) hc0 (by omega) w7 HW7.out.size (HW.out.below HB7.out) HBQ.out
        go_wp2_with fail
        refine hback.mono ?_
        rintro e w8 ⟨⟨j, rfl, hj1, hj2, hj3, hw8⟩, hf8⟩
        have HJ3 := Lib.hid hj3
        have HW8 := Lib.hid hw8
        have HF8 : Hid (Fr w.heap.size Mb w6 w8) := HF.out.trans ((Fr.mk (HB7.out.mono hswr) (HB7.out.block Mb (HMP.out.block HF.out.keeps).lt)).trans hf8)
        have HZ8 : Hid (Below w.heap.size w w8) := HW7.out.trans hf8.below
        clear hback hj3 hw8 hf8 s1
        have s2 := fun W => slice_from a0 m0 c0 (q + 16) hq16 h0 W
        have s3 := fun W => slice_from a1 m1 c1 (p + 16) q3 h1 W
        go_wp2_with fail
        have HAL : Hid (∀ W, Below w.heap.size w W → Calls Try.prog 24 #[.slice (subA a0 c0 (q + 16)) (m0 - (q + 16)) (c0 - (q + 16)), .slice (subA a1 c1 (p + 16)) (m1 - (p + 16)) (c1 - (p + 16))] W fun e w' => (∃ j : Nat, e = .returned (.int .i64 (j : Int)) ∧ Alk (bs.drop (q + 16)) (ts.drop (p + 16)) (m0 - (q + 16)) (m1 - (p + 16)) j) ∧ Below W.heap.size W w') :=
          fun W hW => alike_any _ _ _ _ (by omega) _ _ _ _ (by omega) W (Bytes.from (HBB.out.below hW) h0 (q + 16) hq16) (Bytes.from (HTT.out.below hW) h1 (p + 16) q3)
        have hwq : IntKind.i64.wrap ((q : Int) + 16) = (q : Int) + 16 := IntWalk.i64_in _ (by omega)
        have hwp : IntKind.i64.wrap ((p : Int) + 16) = (p : Int) + 16 := IntWalk.i64_in _ (by omega)
        rw [show ((q + 16 : Nat) : Int) = (q : Int) + 16 by omega] at s2
        rw [show ((p + 16 : Nat) : Int) = (p : Int) + 16 by omega] at s3
        apply wp_via_n (R := fun k W => Alk (bs.drop (q + 16)) (ts.drop (p + 16)) (m0 - (q + 16)) (m1 - (p + 16)) k ∧ Below w8.heap.size w8 W)
        · go_region_with (go_at_call 24; refine (HAL.out _ HZ8.out.drew).mono ?_; rintro e w9 ⟨⟨k, rfl, hk⟩, hb9⟩; have HK := Lib.hid hk; have hb9' : Below w8.heap.size w8 w9 := (Below.refl _ _).drew.trans hb9; have hwk : IntKind.i64.wrap (16 + (k : Int)) = 16 + (k : Int) := IntWalk.i64_in _ (by have := HK.out.1; omega); clear hk hb9)
          exact ⟨k, rfl, HK.out, hb9'⟩
        rintro k w9 ⟨hk, hb9⟩
        have hk1 : q + 16 + k ≤ m0 := by have := hk.1; omega
        have hk2 : p + 16 + k ≤ m1 := by have := hk.2.1; omega
        have HK := Lib.hid hk
        have HW9 : Hid (Wr w9 w.heap.size Wb Mb (D0 ++ S) (P.take (P.length - j))) := HW8.out.below hb9
        have hM8 : Mb < w8.heap.size := by
          obtain ⟨-, -, -, -, -, -, -, -, -, h, -⟩ := HW8.out
          exact h
        have hs8 : w.heap.size ≤ w8.heap.size := HZ8.out.size
        have HF9 : Hid (Fr w.heap.size Mb w6 w9) := HF8.out.trans ⟨hb9.mono hs8, hb9.block Mb hM8⟩
        have hs9 : w.heap.size ≤ w9.heap.size := Nat.le_trans hs8 hb9.size
        have HPT : Hid (∀ x ∈ P.take (P.length - j), 0 ≤ x ∧ x ≤ 255) := fun x hx => HPR.out x (List.mem_of_mem_take hx)
        have htl : (P.take (P.length - j)).length ≤ P.length := by rw [List.length_take]; omega
        have hcopy := copy_any w.heap.size Wb Mb (D0 ++ S) (P.take (P.length - j)) (q - j) (j + (16 + k)) (by omega) (by omega) (by have := HLEN.out; omega) HPT.out (by have := HDS.out; omega) w9 hs9 HW9.out
        rw [show ((q - j : Nat) : Int) = (q : Int) - (j : Int) by omega, show ((j + (16 + k) : Nat) : Int) = (j : Int) + (16 + (k : Int)) by omega, ← Nat.add_assoc j 16 k] at hcopy
        have HSC : Hid (St bs ts (S ++ flushOf (P.take (P.length - j)) ++ toldOf ((q - j) + (j + 16 + k) * 4294967296)) (W ++ P.take (P.length - j) ++ sub bs (q - j) (j + 16 + k)) [] (p + 16 + k)) :=
          HST.out.copied (by rw [HBL.out]; omega) q2 (by rw [HTL.out]; omega) Q4.out hj1 hj2 HJ3.out HK.out.2.2.1 (by rw [HTL.out]; omega)
        have HSS : Hid (SameSt bs ts (S ++ flushOf (P.take (P.length - j)) ++ toldOf ((q - j) + (j + 16 + k) * 4294967296)) [] (p + 16 + k)) :=
          HSM.out.copied (by rw [HBL.out]; omega) (by rw [HTL.out]; omega) Q5.out hj1 hj2 (by
            rw [HBL.out, HTL.out]; exact HK.out.2.2.2)
        have HSRN : Hid (∀ x ∈ S ++ flushOf (P.take (P.length - j)) ++ toldOf ((q - j) + (j + 16 + k) * 4294967296), 0 ≤ x ∧ x ≤ 255) := range_app (range_app HSR.out (flushOf_range _ _ (Nat.le_refl _) HPT.out)) (toldOf_range _)
        clear hk hb9 s2 s3 hwq hwp hM8
        go_wp2_with fail
        refine hcopy.mono ?_
        rintro e w10 ⟨rfl, hw10, hf10⟩
        have HW10 : Hid (Wr w10 w.heap.size Wb Mb (D0 ++ (S ++ flushOf (P.take (P.length - j)) ++ toldOf ((q - j) + (j + 16 + k) * 4294967296))) []) := by
          have := hw10
          rw [List.append_assoc, List.append_assoc] at this
          rw [List.append_assoc]
          exact this
        have HF10 := Lib.hid (HF9.out.trans hf10)
        clear hcopy hw10 hf10
        go_wp2_with fail
        exact ⟨⟨p + 16 + k, [], _, _, by go_num, by omega, HW10.out, HSC.out, HSS.out, (fun x hx => by cases hx), HSRN.out, HF10.out⟩, by simp [intOf]; omega⟩
    · obtain rfl : p = m1 := by omega
      have hflush := flush_any w.heap.size Wb Mb (D0 ++ S) P HPR.out (by have := HDS.out; omega) wr hswr HW.out
      go_wp2_with fail
      refine hflush.mono ?_
      rintro e w7 ⟨rfl, ⟨dv, pv, dn, pn, hw7⟩, hf7⟩
      obtain ⟨hc0', -, -, -⟩ := raw_cells hw7.1
      have HM7 := Lib.hid hw7.2.1
      have HF7 : Hid (Below w.heap.size w w7) := HWW.out.trans hf7.below
      have hdl := hw7.2.1.1
      have HDL := Lib.hid hdl
      clear hflush hw7 hf7 hdl
      go_wp2_with fail
      go_ret
      have hT := HTL.out
      have hmade : Made bs ts (D0 ++ S ++ flushOf P) (S ++ flushOf P) := by
        have h2 := HST.out
        have h3 := HSM.out
        rw [← hT] at h2 h3
        obtain ⟨e1, e2⟩ := h2.done
        exact ⟨by rw [HDE.out, List.append_assoc], e1, e2, fun e => h3.done h2 e⟩
      refine ⟨⟨dv, D0 ++ S ++ flushOf P, S ++ flushOf P, rfl, ?_, hmade, range_app (range_app HR0.out HSR.out) (flushOf_range _ _ (Nat.le_refl _) HPR.out)⟩, HF7.out⟩
      have := HM7.out
      rw [HDL.out]
      exact this
end Go.Proofs.Ytkpnmagcmpljoaa
