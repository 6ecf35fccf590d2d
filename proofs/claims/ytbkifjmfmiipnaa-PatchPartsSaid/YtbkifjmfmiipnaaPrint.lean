/- The document's print of hunks: the walk. -/
import Derived.Test.YtbkifjmfmiipnaaBe
namespace Go.Proofs.Ytbkifjmfmiipnaa
open Go.RowKit Plain
set_option linter.unusedVariables false
/-- A hunk as it lies in memory. -/
structure HkM where
  fr : Int
  to : Int
  a : Option Addr
  c : Nat
  ys : List Int
def u64n (x : Int) : Nat := (IntKind.u64.wrap x).toNat
def hkM (h : HkM) : Hk := ⟨u64n h.fr, u64n h.to, h.ys⟩
theorem u64n_lt (x : Int) : u64n x < 18446744073709551616 := by unfold u64n; rw [IntKind.wrap_u64]; omega
theorem u64n_eq (x : Int) : IntKind.u64.wrap x = (u64n x : Int) := by unfold u64n; rw [IntKind.wrap_u64]; omega
def HunksAt (w : World) (b o : Nat) (hs : List HkM) : Prop := ∀ (j : Nat) (h : HkM), hs[j]? = some h →
  w.cell? ⟨b, o + j * 3, none⟩ = some (.int .i64 h.fr) ∧ w.cell? ⟨b, o + j * 3 + 1, none⟩ = some (.int .i64 h.to) ∧ w.cell? ⟨b, o + j * 3 + 2, none⟩ = some (.slice h.a h.ys.length h.c) ∧ h.ys.length ≤ h.c ∧ (h.a = none → h.c = 0) ∧ h.ys.length ≤ 1000000 ∧ Bytes w h.a h.ys.length h.ys
theorem printOf_snoc (l : List Hk) (h : Hk) : printOf (l ++ [h]) = printOf l ++ be4 h.fr ++ be4 h.to ++ be4 h.ys.length ++ h.ys := by
  simp [printOf, hkBytes]
theorem be4_range (n : Nat) (j : Nat) : 0 ≤ (be4 n)[j]?.getD 0 ∧ (be4 n)[j]?.getD 0 ≤ 255 := range_of_mem (be4_bytes n) j
theorem nil_of_own {w : World} {base : Nat} {a : Option Addr} {n c : Nat} {xs : List Int} (h : Own w base (.slice a n c) n xs) : a = none → c = 0 := by
  obtain ⟨a', c', e, h1, h2, -⟩ := h.shape
  simp only [Value.slice.injEq, true_and] at e
  obtain ⟨rfl, rfl⟩ := e
  exact h2
set_option maxRecDepth 100000 in
set_option maxHeartbeats 4000000 in
theorem print_any (b o cap : Nat) (hs : List HkM) (w : World) (hl : hs.length ≤ 1000) (H : HunksAt w b o hs) (hb : b < w.heap.size) :
    Calls Try.prog 9 #[.slice (some ⟨b, o, none⟩) hs.length cap] w fun e w' => (∃ a n c, e = .returned (.slice a n c) ∧ Own w' w.heap.size (.slice a n c) n (printOf (hs.map hkM))) ∧ Below w.heap.size w w' := by
  have HH : Hid (HunksAt w b o hs) := H
  obtain ⟨len, hlen⟩ : ∃ len, hs.length = len := ⟨_, rfl⟩
  have HLEN : Hid (hs.length = len) := hlen
  rw [hlen] at hl ⊢
  clear H hlen
  go_enter Try.func9, Try.ntmps9
  go_wp2
  go_loopw [3, 4] (fun v i wr => ∃ (k n c : Nat) (a : Option Addr), k ≤ len ∧ i = .int .i64 (k : Int) ∧ v = .slice a n c ∧ n ≤ k * 1000012 ∧ Own wr w.heap.size (.slice a n c) n (printOf ((hs.take k).map hkM)) ∧ Below w.heap.size w wr) (fun _ i _ => len - (intOf i).toNat)
  case atStart => exact ⟨0, 0, 0, none, by omega, rfl, rfl, by omega, ⟨by simp [printOf], .inl ⟨rfl, rfl⟩⟩, Below.refl _ _⟩
  case round =>
    obtain ⟨k, n, c, a, hk, rfl, rfl, hn, hown, hbel⟩ := hrel
    have HO : Hid (Own wr w.heap.size (.slice a n c) n (printOf ((hs.take k).map hkM))) := hown
    have HBE : Hid (Below w.heap.size w wr) := hbel
    clear hown hbel
    by_cases hlt : k < len
    · obtain ⟨h, hh⟩ : ∃ h, hs[k]? = some h := ⟨_, List.getElem?_eq_getElem (by rw [HLEN.out]; exact hlt)⟩
      obtain ⟨q1, q2, q3, q4, q5, q6, q7⟩ := HH.out k h hh
      have HT : Hid ((hs.take (k + 1)).map hkM = (hs.take k).map hkM ++ [hkM h]) := by
        show _ = _
        rw [List.take_add_one, hh]; simp
      obtain ⟨fr, to, ya, yc, ys⟩ := h
      dsimp only at q1 q2 q3 q4 q5 q6 q7
      have HC : Hid (∀ W, Below w.heap.size w W → W.cell? ⟨b, o + k * 3, none⟩ = some (.int .i64 fr) ∧ W.cell? ⟨b, o + k * 3 + 1, none⟩ = some (.int .i64 to) ∧ W.cell? ⟨b, o + k * 3 + 2, none⟩ = some (.slice ya ys.length yc)) := fun W hW => ⟨(hW.cell (p := ⟨b, _, none⟩) hb).trans q1, (hW.cell (p := ⟨b, _, none⟩) hb).trans q2, (hW.cell (p := ⟨b, _, none⟩) hb).trans q3⟩
      have HYB : Hid (Bytes w ya ys.length ys) := q7
      have HYN : Hid (ya = none → yc = 0) := q5
      have hfr := u64n_eq fr
      have hto := u64n_eq to
      have lfr := u64n_lt fr
      have lto := u64n_lt to
      have HPS : Hid (printOf ((hs.take (k + 1)).map hkM) = printOf ((hs.take k).map hkM) ++ be4 (u64n fr) ++ be4 (u64n to) ++ be4 ys.length ++ ys) := by
        show _ = _
        rw [HT.out, printOf_snoc]; rfl
      generalize u64n fr = nf at *
      generalize u64n to = nt at *
      obtain ⟨m, hm⟩ : ∃ m, ys.length = m := ⟨_, rfl⟩
      rw [hm] at q4 q6 HC HYB HPS
      have hwm : IntKind.u64.wrap (m : Int) = (m : Int) := by rw [IntKind.wrap_u64]; omega
      generalize printOf ((hs.take k).map hkM) = ps at *
      obtain ⟨c1, c2, c3⟩ := HC.out wr HBE.out
      clear q1 q2 q3 q7 hh hm
      go_wp2_with fail
      refine (be_any nf lfr wr).mono ?_
      rintro e w1 ⟨⟨ba1, bc1, rfl, ob1⟩, bb1⟩
      have HB1 : Hid (Bytes w1 ba1 4 (be4 nf)) := ob1.bytes (be4_range nf)
      have HN1 : Hid (ba1 = none → bc1 = 0) := nil_of_own ob1
      have HP1 : Hid (Own w1 w.heap.size _ (n) (ps)) := HO.out.below bb1
      have HE1 : Hid (Below w.heap.size w w1) := HBE.out.trans (bb1.mono HBE.out.size)
      clear ob1 bb1
      go_wp2_with (
        at_builtin
        refine wpList_append_bytes rfl _ _ rfl w.heap.size _ (n) (ps) rfl HP1.out ba1 4 bc1 (be4 nf) rfl HB1.out HN1.out (by omega) HE1.out.size ?_
        intro v1 w2 hown1 hg1
        have HF1 : Hid (Below w.heap.size w w2) := HE1.out.trans (HP1.out.kept HE1.out.size hg1)
        have HO1 : Hid (Own w2 w.heap.size v1 (n + 4) (ps ++ be4 nf)) := hown1
        obtain ⟨a1, k1, rfl, -, -, -⟩ := hown1.shape
        obtain ⟨x1, y1, z1⟩ := HC.out w2 HF1.out
        clear hown1 hg1)
      refine (be_any nt lto w2).mono ?_
      rintro e w3 ⟨⟨ba2, bc2, rfl, ob2⟩, bb2⟩
      have HB2 : Hid (Bytes w3 ba2 4 (be4 nt)) := ob2.bytes (be4_range nt)
      have HN2 : Hid (ba2 = none → bc2 = 0) := nil_of_own ob2
      have HP2 : Hid (Own w3 w.heap.size _ (n + 4) (ps ++ be4 nf)) := HO1.out.below bb2
      have HE2 : Hid (Below w.heap.size w w3) := HF1.out.trans (bb2.mono HF1.out.size)
      clear ob2 bb2
      go_wp2_with (
        at_builtin
        refine wpList_append_bytes rfl _ _ rfl w.heap.size _ (n + 4) (ps ++ be4 nf) rfl HP2.out ba2 4 bc2 (be4 nt) rfl HB2.out HN2.out (by omega) HE2.out.size ?_
        intro v2 w4 hown2 hg2
        have HF2 : Hid (Below w.heap.size w w4) := HE2.out.trans (HP2.out.kept HE2.out.size hg2)
        have HO2 : Hid (Own w4 w.heap.size v2 (n + 4 + 4) (ps ++ be4 nf ++ be4 nt)) := hown2
        obtain ⟨a2, k2, rfl, -, -, -⟩ := hown2.shape
        obtain ⟨x2, y2, z2⟩ := HC.out w4 HF2.out
        clear hown2 hg2)
      refine (be_any m (by omega) w4).mono ?_
      rintro e w5 ⟨⟨ba3, bc3, rfl, ob3⟩, bb3⟩
      have HB3 : Hid (Bytes w5 ba3 4 (be4 m)) := ob3.bytes (be4_range m)
      have HN3 : Hid (ba3 = none → bc3 = 0) := nil_of_own ob3
      have HP3 : Hid (Own w5 w.heap.size _ (n + 4 + 4) (ps ++ be4 nf ++ be4 nt)) := HO2.out.below bb3
      have HE3 : Hid (Below w.heap.size w w5) := HF2.out.trans (bb3.mono HF2.out.size)
      clear ob3 bb3
      have HYW : Hid (∀ W, Below w.heap.size w W → Bytes W ya m ys) := fun W hW => HYB.out.below hW
      have tok1 : True := trivial
      go_wp2_with (first
        | (have _t := tok1
           at_builtin
           refine wpList_append_bytes rfl _ _ rfl w.heap.size _ (n + 4 + 4) (ps ++ be4 nf ++ be4 nt) rfl HP3.out ba3 4 bc3 (be4 m) rfl HB3.out HN3.out (by omega) HE3.out.size ?_
           intro v3 w6 hown3 hg3
           have HF3 : Hid (Below w.heap.size w w6) := HE3.out.trans (HP3.out.kept HE3.out.size hg3)
           have HO3 : Hid (Own w6 w.heap.size v3 (n + 4 + 4 + 4) (ps ++ be4 nf ++ be4 nt ++ be4 m)) := hown3
           obtain ⟨a3, k3, rfl, -, -, -⟩ := hown3.shape
           obtain ⟨x3, y3, z3⟩ := HC.out w6 HF3.out
           clear hown3 hg3 tok1)
        | (at_builtin
           refine wpList_append_bytes rfl _ _ rfl w.heap.size _ (n + 4 + 4 + 4) (ps ++ be4 nf ++ be4 nt ++ be4 m) rfl HO3.out ya m yc ys rfl (HYW.out _ HF3.out) HYN.out (by omega) HF3.out.size ?_
           intro v4 w7 hown4 hg4
           have HF4 : Hid (Below w.heap.size w w7) := HF3.out.trans (HO3.out.kept HF3.out.size hg4)
           have HO4 : Hid (Own w7 w.heap.size v4 (n + 4 + 4 + 4 + m) (ps ++ be4 nf ++ be4 nt ++ be4 m ++ ys)) := hown4
           obtain ⟨a4, k4, rfl, -, -, -⟩ := hown4.shape
           clear hown4 hg4))
      exact ⟨⟨k + 1, n + 4 + 4 + 4 + m, k4, a4, by omega, by go_num, rfl, by omega, by rw [HPS.out]; exact HO4.out, HF4.out⟩, by simp [intOf]; omega⟩
    · obtain rfl : k = len := by omega
      go_wp2_with fail
      go_ret
      have e : hs.take k = hs := List.take_of_length_le (by rw [HLEN.out]; exact Nat.le_refl _)
      rw [e] at HO
      exact ⟨⟨a, n, c, rfl, HO.out⟩, HBE.out⟩
end Go.Proofs.Ytbkifjmfmiipnaa
