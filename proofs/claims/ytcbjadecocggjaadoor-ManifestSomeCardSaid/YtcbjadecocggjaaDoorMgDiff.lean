/- The paths of which two lists have other files: manifest.Diff. -/
import Derived.Test.YtcbjadecocggjaaDoorMgEq
import Derived.Sort.OwnSorted
import Derived.Sort.KeysCollected
import Derived.Laws.AppendOwn
import Derived.OwnWalk
namespace Go.Proofs.YtcbjadecocggjaaDoor
open Go.Sort Go.RowKit Go.WideMaps Go.Maps Plain Go.ChangeShapes Go.WideShapes Go.ChangeAt Go.Great
set_option linter.unusedVariables false
set_option linter.unusedSimpArgs false
/-- The paths that are told. -/
def InD (A B : List MF) (a : List UInt8) : Prop := (ofL a A ≠ [] ∨ ofL a B ≠ []) ∧ sameM (ofL a A) (ofL a B) = false
theorem ofL_path {a : List UInt8} {l : List MF} (h : ofL a l ≠ []) (hp : ∀ x ∈ l, x.p.size ≤ 100000) : a.length ≤ 100000 := by
  obtain ⟨x, hx, rfl⟩ := ofL_mem.1 h
  have := hp x hx
  rw [Lib.size_eq] at this
  exact this
theorem sameM_nil {l : List MF} (h : l ≠ []) : sameM [] l = false := by
  cases l with
  | nil => exact absurd rfl h
  | cons x l => rfl
/-- A row's slice, told by numbers. -/
def mkV : Option (Nat × Nat × Nat) → Value
  | none => .slice none 0 0
  | some (g, n, c) => .slice (some ⟨g, 0, none⟩) n c
theorem encR_shape (v : Value) (y : DataW Unit × List MemPlace) (h : encR v = some y) : ∃ c, v = mkV c := by
  rcases encR_cases h with ⟨rfl, -⟩ | ⟨g, n, c, rfl, -⟩
  · exact ⟨none, rfl⟩
  · exact ⟨some (g, n, c), rfl⟩
theorem key_shape (key : Value) (kl : Lit) (h : keyOf Tryd.prog 9 key = some kl) : ∃ x, key = encStr x := by
  obtain ⟨x, hx, _⟩ := Maps.keyOf_str Tryd.underlying9 h
  exact ⟨x, hx⟩
theorem info_str : ∃ i, Tryd.prog.info? 9 = some i ∧ i.zero = some (.string ⟨#[]⟩) ∧ i.size = 1 ∧ i.bytes = 16 := by
  obtain ⟨i, hi, h⟩ := Option.map_eq_some_iff.1 (show (Tryd.prog.info? 9).map (fun i => (i.zero, i.size, i.bytes)) = some (some (.string ⟨#[]⟩), 1, 16) from by kernel_rfl)
  simp only [Prod.mk.injEq] at h
  exact ⟨i, hi, h.1, h.2.1, h.2.2⟩
/-- Two lists in order, each without repeats, of the same texts are one. -/
theorem sorted_one {l m : List (List UInt8)} (hl : l.Nodup) (hm : m.Nodup) (h : ∀ a, a ∈ l ↔ a ∈ m) : l.mergeSort (fun x y => decide (x ≤ y)) = m.mergeSort (fun x y => decide (x ≤ y)) :=
  mergeSort_of_perm ((List.perm_ext_iff_of_nodup hl hm).2 h)
theorem same_str (a x : List UInt8) : (Lit.string a).sameKey (.string x) = decide (a = x) := by
  by_cases h : a = x
  · subst h; simp [Lit.sameKey]
  · rw [decide_eq_false h]; exact sameKey_ne (fun e => h (by injection e))
theorem unhidM {p : Prop} (h : p) : Hid p := h
theorem ownsRow_belowM {w w' : World} {base : Nat} {e : TypeId} {size : Nat} {v : Value} {n : Nat} {xs : List Value} (h : w.ownsRow base e size v n xs) (hb : Below w.heap.size w w') : w'.ownsRow base e size v n xs :=
  h.kept (row := none) ⟨hb.os, hb.tape, hb.output, hb.size, fun k hk _ => hb.block k hk⟩ ((Option.eq_none_or_eq_some _).imp id fun ⟨g, hg⟩ h => by rw [hg] at h; cases h)
theorem snoc_len {ss : List (List UInt8)} {x : List UInt8} : (ss ++ [x]).length = ss.length + 1 := by simp
set_option maxRecDepth 100000 in
set_option maxHeartbeats 16000000 in
theorem diff_any (a1 : Option Addr) (c1 : Nat) (A : List MF) (a2 : Option Addr) (c2 : Nat) (B : List MF) (w : World) (h1 : FsAt w a1 A) (h2 : FsAt w a2 B) (hn : A.length ≤ 1000) (hm : B.length ≤ 1000) (hp1 : ∀ x ∈ A, x.p.size ≤ 100000) (hp2 : ∀ x ∈ B, x.p.size ≤ 100000) :
    Calls Tryd.prog 6 #[.slice a1 A.length c1, .slice a2 B.length c2] w fun e w' => (∃ (v : Value) (ss : List (List UInt8)), e = .returned v ∧ w'.ownsRow w.heap.size 9 1 v (ss.mergeSort fun x y => decide (x ≤ y)).length ((ss.mergeSort fun x y => decide (x ≤ y)).map encStr) ∧ ss.Nodup ∧ ss.length ≤ 2000 ∧ (∀ a, a ∈ ss ↔ InD A B a)) ∧ Below w.heap.size w w' := by
  have H1 := Lib.hid h1
  have H2 := Lib.hid h2
  have HP1 := Lib.hid hp1
  have HP2 := Lib.hid hp2
  have HNM : Hid (A.length ≤ 1000 ∧ B.length ≤ 1000) := ⟨hn, hm⟩
  have HBY1 := Lib.hid (bypath_any a1 c1 A w h1 hn hp1)
  obtain ⟨i0, hi, hz0, hz1, hz2⟩ := info_str
  obtain ⟨n1, hn1⟩ : ∃ n, A.length = n := ⟨_, rfl⟩
  obtain ⟨n2, hn2⟩ : ∃ n, B.length = n := ⟨_, rfl⟩
  have HN1 := Lib.hid hn1
  have HN2 := Lib.hid hn2
  rw [hn1] at HBY1 ⊢
  rw [hn2]
  clear h1 h2 hn hm hp1 hp2 hn1 hn2
  go_enter Tryd.func6, Tryd.ntmps6
  go_wp2_with fail
  refine HBY1.out.mono ?_
  rintro e w1 ⟨⟨rfl, hg⟩, hb⟩
  have HG1 := Lib.hid hg
  have HB1 := Lib.hid hb
  clear hg hb HBY1
  obtain ⟨b1, hb1⟩ : ∃ b, w.heap.size = b := ⟨_, rfl⟩
  have HBE := Lib.hid hb1
  rw [hb1] at HG1 HB1 ⊢
  have HBY2 := Lib.hid (bypath_any a2 c2 B w1 (H2.out.below (by rw [hb1]; exact HB1.out)) HNM.out.2 HP2.out)
  rw [HN2.out] at HBY2
  clear hb1
  go_wp2_with fail
  refine HBY2.out.mono ?_
  rintro e w2 ⟨⟨rfl, hg⟩, hb⟩
  have HG2 := Lib.hid hg
  have HG1b := Lib.hid (HG1.out.below hb)
  have HB2 : Hid (Below b1 w w2) := HB1.out.trans (hb.mono (by rw [← HBE.out]; exact HB1.out.size))
  obtain ⟨b2, hb2⟩ : ∃ b, w1.heap.size = b := ⟨_, rfl⟩
  have HLT : Hid (b1 < b2 ∧ b2 < w2.heap.size) := ⟨by rw [← hb2]; exact HG1.out.lt.1, by rw [← hb2]; exact hg.lt.1⟩
  rw [hb2] at HG2 ⊢
  clear hg hb HBY2 HG1 HB1 hb2
  obtain ⟨D1, hm1, -, hd1⟩ := HG1b.out
  have HM1 := Lib.hid hm1
  have HD1 := Lib.hid hd1
  clear hm1 hd1
  obtain ⟨LB, hLB⟩ : ∃ b, w2.heap.size = b := ⟨_, rfl⟩
  have HLB := Lib.hid hLB
  have HLTB : Hid (b1 < b2 ∧ b2 < LB) := by have := HLT.out; show _ ∧ _; omega
  obtain ⟨D2, hm2, -, hd2⟩ := HG2.out
  have HM2 := Lib.hid hm2
  have HD2 := Lib.hid hd2
  have HB2L : Hid (Below b1 w w2) := HB2.out
  clear hm2 hd2
  go_wp2_with (first
    | (at_range; refine wpList_range_own _ rfl _ 46 rfl 9 23 key_law Tryd.underlying46 encR b1 n1 D1 rfl HM1.out ?_; intro w3 hrg0 hg0 hs0))
  rw [hLB] at hrg0 ⊢
  have HRG0 := Lib.hid hrg0
  have HG0 := Lib.hid hg0
  have HB30 : Hid (Below LB w2 w3) := by rw [← hLB]; exact (Below.refl _ _).grown hg0 (Nat.le_refl _) (fun j hj => by (cases hj))
  clear hrg0 hg0 hs0 hLB
  go_frame
  go_loopw [7, 8, 9] (fun lv pv fv wr => ∃ (left : Lit → Bool) (cnt : Nat) (ss : List (List UInt8)), wr.ranges Tryd.prog 9 encR b1 LB n1 D1 left cnt ∧ ss.length + cnt ≤ Maps.size D1 ∧ wr.ownsRow LB 9 1 lv (ss).length ((ss).map encStr) ∧ ss.Nodup ∧ (∀ a, a ∈ ss ↔ ofL a A ≠ [] ∧ left (.string a) = false ∧ sameM (ofL a A) (ofL a B) = false) ∧ Below LB w2 wr) (fun _ _ _ wr => wr.rangeLeft b1 LB)
  case atStart => exact ⟨_, _, [], HRG0.out, by simp, World.ownsRow_nil _ _ _ _, List.nodup_nil, fun a => ⟨fun h => (by cases h), fun h => by
    have h1 := (HD1.out.keys a).2 h.1
    rw [h1] at h
    exact absurd h.2.1 (by decide)⟩, HB30.out⟩
  case round =>
    obtain ⟨left, cnt, ss, hrg, hcs, hrow, hnd, hmem, hbl⟩ := hrel
    have HRG := Lib.hid hrg
    have HROW := Lib.hid hrow
    have HMEM := Lib.hid hmem
    have HBL := Lib.hid hbl
    have HND := Lib.hid hnd
    have HSL : Hid (ss.length + cnt ≤ 1000) := by have h1 := HM1.out.size_le; have h2 := HNM.out; have h3 := HN1.out; show _ ≤ _; omega
    have HCS := Lib.hid hcs
    clear hrg hcs hrow hnd hmem hbl HRG0 HB30
    go_wp2_with (first
      | (at_next; refine wpList_next_ranges _ rfl _ rfl 9 key_law encR encStr mkV key_shape encR_shape b1 LB n1 _ _ _ rfl HRG.out ?_ ?_))
    · intro hc0 hl0
      have HL0 := Lib.hid hl0
      clear hl0 hc0
      have HM2r : Hid (wr.ownsMap Tryd.prog 9 encR b2 n2 D2) := by
        have hl := HM2.out.lt
        obtain ⟨es, clock, e1, e2⟩ := HM2.out
        exact ⟨es, clock, (HBL.out.block b2 HLTB.out.2).trans e1, e2⟩
      go_wp2_with (first
        | (at_range; refine wpList_range_own _ rfl _ 46 rfl 9 23 key_law Tryd.underlying46 encR b2 n2 D2 rfl HM2r.out ?_; intro w7 hrg0 hg0 hs0))
      obtain ⟨R2, hR2⟩ : ∃ b, wr.heap.size = b := ⟨_, rfl⟩
      rw [hR2] at hrg0 ⊢
      have HR2 : Hid (LB ≤ R2) := by have := HBL.out.size; have := HLB.out; show _ ≤ _; omega
      have HRG0 := Lib.hid hrg0
      have HB70 : Hid (Below LB w2 w7) := HBL.out.grown hg0 (by rw [hR2]; exact HR2.out) (fun j hj => by (cases hj))
      have HROW7 : Hid (w7.ownsRow LB 9 1 u7 (ss).length ((ss).map encStr)) := HROW.out.kept hg0 ((Option.eq_none_or_eq_some _).imp id fun ⟨g, hg⟩ h => by rw [hg] at h; cases h)
      clear hrg0 hg0 hs0 hR2
      go_frame
      go_loopw [7, 10] (fun lv pv wq => ∃ (left : Lit → Bool) (cnt : Nat) (ss : List (List UInt8)), wq.ranges Tryd.prog 9 encR b2 R2 n2 D2 left cnt ∧ ss.length + cnt ≤ 2000 ∧ wq.ownsRow LB 9 1 lv (ss).length ((ss).map encStr) ∧ ss.Nodup ∧ (∀ a, a ∈ ss ↔ (ofL a A ≠ [] ∧ sameM (ofL a A) (ofL a B) = false) ∨ (ofL a A = [] ∧ ofL a B ≠ [] ∧ left (.string a) = false)) ∧ Below LB w2 wq) (fun _ _ wq => wq.rangeLeft b2 R2)
      case atStart => exact ⟨_, _, ss, HRG0.out, by have h1 := HM2.out.size_le; have h2 := HNM.out; have h3 := HN2.out; have := HSL.out; omega, HROW7.out, HND.out, fun a => by
        rw [HMEM.out a, HL0.out]
        constructor
        · rintro ⟨h1, -, h2⟩; exact .inl ⟨h1, h2⟩
        · rintro (⟨h1, h2⟩ | ⟨-, h1, h2⟩)
          · exact ⟨h1, rfl, h2⟩
          · rw [(HD2.out.keys a).2 h1] at h2; exact absurd h2 (by decide), HB70.out⟩
      case round =>
        rename World => wq
        obtain ⟨left, cnt, ss, hrg, hcs, hrow, hnd, hmem, hbl⟩ := hrel
        have HRG := Lib.hid hrg
        have HROW := Lib.hid hrow
        have HMEM := Lib.hid hmem
        have HBL := Lib.hid hbl
        have HND := Lib.hid hnd
        have HSL : Hid (ss.length + cnt ≤ 2000) := hcs
        clear hrg hcs hrow hnd hmem hbl HRG0 HB70 HROW7
        go_wp2_with (first
          | (at_next; refine wpList_next_ranges _ rfl _ rfl 9 key_law encR encStr mkV key_shape encR_shape b2 R2 n2 _ _ _ rfl HRG.out ?_ ?_))
        · intro hc0 hl0
          have HIN : Hid (∀ a, a ∈ ss ↔ InD A B a) := fun a => by
            rw [HMEM.out a, hl0]
            unfold InD
            constructor
            · rintro (⟨h1, h2⟩ | ⟨h1, h2, -⟩)
              · exact ⟨.inl h1, h2⟩
              · exact ⟨.inr h2, by rw [h1]; exact sameM_nil h2⟩
            · rintro ⟨h1, h2⟩
              by_cases h0 : ofL a A = []
              · exact .inr ⟨h0, h1.resolve_left (fun h => h h0), rfl⟩
              · exact .inl ⟨h0, h2⟩
          clear hc0 hl0
          have HBW : Hid (Below b1 w wq) := HB2L.out.trans (HBL.out.mono (by have := HLTB.out; omega))
          have hrow := HROW.out
          rcases id hrow.2 with ⟨hnil, h0⟩ | ⟨g, cap, cur, hsl, hbase, hb, h1, h2, h3, h4⟩
          · have hs0 : ss = [] := List.length_eq_zero_iff.1 h0
            rw [hnil]
            have HSS := Lib.hid hs0
            clear hrow hnil h0 hs0
            go_wp2_with fail
            refine (Tryd.slices_Sort_string_none none 0 wq).mono ?_
            rintro e w8 ⟨rfl, rfl⟩
            go_wp2_with fail
            go_ret
            exact ⟨⟨.slice none 0 0, ss, rfl, by rw [HSS.out, List.mergeSort_nil]; exact World.ownsRow_nil _ _ _ _, HND.out, by have := HSL.out; omega, HIN.out⟩, by rw [HBE.out]; exact HBW.out⟩
          · rw [hsl]
            have HH : Hid (Holds encStr wq g 0 ss.toArray) := holds_of_block hb (by simpa using h4)
            have HGL : Hid (g < wq.heap.size) := (Array.getElem?_eq_some_iff.1 hb).1
            have HQ : Hid (LB ≤ g ∧ wq.heap[g]? = some (.cells cur 9 (0, 0)) ∧ ss.length ≤ cap ∧ cap ≤ maxLen ∧ cur.size = cap * 1) := ⟨hbase, hb, h1, h2, h3⟩
            clear hrow hsl hbase hb h1 h2 h3 h4
            go_wp2_with fail
            refine (Tryd.slices_Sort_string g 0 cap ss wq HH.out HGL.out (by have := HSL.out; omega)).mono ?_
            rintro e w8 ⟨rfl, nn, os, hw8⟩
            have HO8 : Hid (w8.ownsRow w.heap.size 9 1 (.slice (some ⟨g, 0, none⟩) ss.length cap) (ss.mergeSort fun x y => decide (x ≤ y)).length ((ss.mergeSort fun x y => decide (x ≤ y)).map encStr)) := by
              rw [hw8, List.length_mergeSort]
              have h := ownsRow_sorted (n := nn) (os := os) (ts := ss.mergeSort fun x y => decide (x ≤ y)) (by simp) HQ.out.1 HQ.out.2.1 HQ.out.2.2.1 HQ.out.2.2.2.1 HQ.out.2.2.2.2
              exact ⟨h.1, h.2.imp id fun ⟨g', c', cu, q1, q2, q3⟩ => ⟨g', c', cu, q1, by have := HLTB.out; have := HBE.out; omega, q3⟩⟩
            have HB8 : Hid (Below b1 w w8) := by rw [hw8]; exact HBW.out.grown (grownBy_sorted _) (by have := HBW.out.size; have := HBE.out; omega) (fun j hj => by cases hj; have := HQ.out.1; have := HLTB.out; omega)
            clear hw8
            go_wp2_with fail
            go_ret
            exact ⟨⟨.slice (some ⟨g, 0, none⟩) ss.length cap, ss, rfl, HO8.out, HND.out, by have := HSL.out; omega, HIN.out⟩, by rw [HBE.out]; exact HB8.out⟩
        · intro x c kl yd yp w4 cnt2 hkey hlk hv hat hrg2 hlt hg2 hs2 hen
          obtain ⟨x', ex, rfl, hxl⟩ := Maps.keyOf_str Tryd.underlying9 hkey
          obtain rfl : x = x' := encStr_inj ex
          have hne : ofL x B ≠ [] := (HD2.out.keys x).1 (Maps.has_true_of_atKey hat)
          have hxs := ofL_path hne HP2.out
          obtain ⟨v1, hlook, ho1, -⟩ := HG1b.out.look ⟨x.toArray⟩ (by show x.toArray.size ≤ _; simpa using hxs) (by have := HNM.out; have := HN1.out; omega)
          rw [show (⟨x.toArray⟩ : ByteArray).data.toList = x by simp] at ho1
          obtain ⟨ga, gc, rfl, -, -, -⟩ := ho1.at
          have HB4 : Hid (Below LB w2 w4) := HBL.out.grown hg2 (by have := HBL.out.size; have := HLB.out; omega) (fun j hj => by cases hj; exact HR2.out)
          have hl1 := hlook w4 (by rw [HLB.out]; exact HB4.out)
          have HLB4 : Hid (LB ≤ w4.heap.size) := by have := HB4.out.size; have := HLB.out; show _ ≤ _; omega
          have HROW4 := Lib.hid (HROW.out.kept hg2 (Or.inr (row_ne_iter HROW.out HRG.out).symm))
          have HRG4 := Lib.hid hrg2
          have HLK := Lib.hid hlk
          have HNE := Lib.hid hne
          have HLT2 := Lib.hid hlt
          clear ho1 hlook hrg2 hlk hne hs2 hlt hkey hv hat hxl ex hg2 hxs
          obtain ⟨q, hq⟩ : ∃ q, (ofL x A).length = q := ⟨_, rfl⟩
          rw [hq] at hl1
          by_cases hq0 : q = 0
          · subst hq0
            have hA : ofL x A = [] := List.length_eq_zero_iff.1 hq
            have HNI : Hid (x ∉ ss) := fun h => by
              rcases (HMEM.out x).1 h with ⟨h1, h2⟩ | ⟨h1, h2, h3⟩
              · exact h1 hA
              · rw [HLK.out] at h3; cases h3
            have HMEM2 : Hid (∀ a, a ∈ ss ++ [x] ↔ (ofL a A ≠ [] ∧ sameM (ofL a A) (ofL a B) = false) ∨ (ofL a A = [] ∧ ofL a B ≠ [] ∧ (left (.string a) && !(Lit.string a).sameKey (.string x)) = false)) := fun a => by
              rw [List.mem_append, HMEM.out a, List.mem_singleton, same_str]
              by_cases e : a = x
              · subst e; simp [hA, HNE.out]
              · simp [e]
            have tok : True := trivial
            clear hq hA
            go_wp2_with (first | (have _t := tok; at_builtin; clear tok; refine Hid.out ?_))
            refine unhidM ?_
            refine wpList_append_own _ rfl _ _ 25 rfl LB 9 i0 (.string ⟨#[]⟩) 1 16 Tryd.underlying25 hi hz0 hz1 hz2 rfl (by decide) _ ss.length (ss.map encStr) rfl (HROW4.out.alloc _) ⟨w4.heap.size, 0, none⟩ 1 1 [encStr x] rfl rfl (cell_one_new _ _ _) (by simp [Value.oneCell', encStr]) (by unfold maxLen; have := HSL.out; omega) (by have := HSL.out; omega) (by have := HLB4.out; simp; omega) ?_
            intro v' w6 hown' hg6 hnil
            have HRG6 := Lib.hid ((HRG4.out.alloc _).kept hg6 (row_ne_low HROW4.out HLTB.out.2) (row_ne_iter HROW4.out HRG4.out))
            have HO6 : Hid (w6.ownsRow LB 9 1 v' (ss ++ [x]).length ((ss ++ [x]).map encStr)) := by
              have h := hown'
              rw [List.map_append, List.length_append]
              exact h
            have HB6 : Hid (Below LB w2 w6) := (HB4.out.alloc HLB4.out _).grown hg6 (by have := HLB4.out; simp; omega) (fun j hj => (HROW4.out.lt j hj).1)
            have HND2 : Hid (ss ++ [x]).Nodup := List.nodup_append.2 ⟨HND.out, List.nodup_cons.2 ⟨by simp, List.nodup_nil⟩, fun a ha b hb e => by
              rw [List.mem_singleton.1 hb] at e
              exact HNI.out (e ▸ ha)⟩
            clear hown' hg6 hnil
            go_wp2_with fail
            go_roundw
            case rel => exact ⟨_, cnt2, ss ++ [x], HRG6.out, by rw [snoc_len]; have := HSL.out; have := HLT2.out; omega, HO6.out, HND2.out, HMEM2.out, HB6.out⟩
            case measure => rw [HRG6.out.left_eq, HRG.out.left_eq]; exact HLT2.out
          · have hqi : ¬ (q : Int) = 0 := by omega
            have hqb : ((q : Int) == 0) = false := beq_eq_false_iff_ne.2 hqi
            have hA : ofL x A ≠ [] := fun h => by rw [h] at hq; exact hq0 hq.symm
            have HMEM2 : Hid (∀ a, a ∈ ss ↔ (ofL a A ≠ [] ∧ sameM (ofL a A) (ofL a B) = false) ∨ (ofL a A = [] ∧ ofL a B ≠ [] ∧ (left (.string a) && !(Lit.string a).sameKey (.string x)) = false)) := fun a => by
              rw [HMEM.out a, same_str]
              by_cases e : a = x
              · subst e; simp [hA]
              · simp [e]
            clear hq hq0 hA
            go_wp2_with fail
            go_roundw
            case rel => exact ⟨_, cnt2, ss, HRG4.out, by have := HSL.out; have := HLT2.out; omega, HROW4.out, HND.out, HMEM2.out, HB4.out⟩
            case measure => rw [HRG4.out.left_eq, HRG.out.left_eq]; exact HLT2.out
    · intro x c kl yd yp w4 cnt2 hkey hlk hv hat hrg2 hlt hg2 hs2 hen
      obtain ⟨x', ex, rfl, hxl⟩ := Maps.keyOf_str Tryd.underlying9 hkey
      obtain rfl : x = x' := encStr_inj ex
      have hne : ofL x A ≠ [] := (HD1.out.keys x).1 (Maps.has_true_of_atKey hat)
      have hxs := ofL_path hne HP1.out
      obtain ⟨v0, z0, e1, e2, ho0⟩ := HD1.out.vals x hne
      have hcv : mkV c = v0 := encR_inj hv e1 ((hat .nil).symm.trans (e2 .nil))
      obtain ⟨fa, fc, hv0, hfa, -, -⟩ := ho0.at
      rw [hcv, hv0] at hen ⊢
      obtain ⟨v1, hlook, ho1, -⟩ := HG2.out.look ⟨x.toArray⟩ (by show x.toArray.size ≤ _; simpa using hxs) (by have := HNM.out; have := HN2.out; omega)
      rw [show (⟨x.toArray⟩ : ByteArray).data.toList = x by simp] at ho1
      obtain ⟨ga, gc, rfl, hga, -, -⟩ := ho1.at
      have HB4 : Hid (Below LB w2 w4) := HBL.out.grown hg2 (by have := HBL.out.size; have := HLB.out; omega) (fun j hj => by cases hj; exact Nat.le_refl _)
      have HB4L : Hid (Below w2.heap.size w2 w4) := by rw [HLB.out]; exact HB4.out
      have hl1 := hlook w4 HB4L.out
      have HFA := Lib.hid (hfa.below HB4L.out)
      have HGA := Lib.hid (hga.below HB4L.out)
      have HLB4 : Hid (LB ≤ w4.heap.size) := by have := HB4.out.size; have := HLB.out; show _ ≤ _; omega
      have HROW4 := Lib.hid (HROW.out.kept hg2 (Or.inr (row_ne_iter HROW.out HRG.out).symm))
      have HRG4 := Lib.hid hrg2
      have HLK := Lib.hid hlk
      have HNE := Lib.hid hne
      have HLT2 := Lib.hid hlt
      have HEQ : Hid (Calls Tryd.prog 13 #[.slice fa (ofL x A).length fc, .slice ga (ofL x B).length gc] w4 fun e w' => e = .returned (.bool (sameM (ofL x A) (ofL x B))) ∧ Below w4.heap.size w4 w') := equal_any fa ga fc gc (ofL x A) (ofL x B) w4 HFA.out HGA.out (by have := ofL_len x A; have := HNM.out; omega) (by have := ofL_len x B; have := HNM.out; omega)
      have HNI : Hid (x ∉ ss) := fun h => by
        have h3 := ((HMEM.out x).1 h).2.1
        rw [HLK.out] at h3; cases h3
      clear ho1 hlook hrg2 hlk hne hs2 hlt hkey hv hat hxl ex hg2 hxs hcv hv0 e1 e2 ho0 hfa hga
      obtain ⟨na, hna⟩ : ∃ n, (ofL x A).length = n := ⟨_, rfl⟩
      obtain ⟨nb, hnb⟩ : ∃ n, (ofL x B).length = n := ⟨_, rfl⟩
      rw [hna, hnb] at HEQ
      rw [hna] at hen ⊢
      rw [hnb] at hl1
      clear hna hnb
      go_wp2_with fail
      refine HEQ.out.mono ?_
      rintro e w5 ⟨rfl, hb5⟩
      have HB5 : Hid (Below LB w2 w5) := HB4.out.trans (hb5.mono HLB4.out)
      have HROW5 : Hid (w5.ownsRow LB 9 1 u7 ss.length (ss.map encStr)) := ownsRow_belowM HROW4.out hb5
      have HRG5 : Hid (w5.ranges Tryd.prog 9 encR b1 LB n1 D1 (fun z => left z && !z.sameKey (Lit.string x)) cnt2) := HRG4.out.kept (row := none) ⟨hb5.os, hb5.tape, hb5.output, hb5.size, fun k hk _ => hb5.block k hk⟩ (by intro h; cases h) (by intro h; cases h)
      have HLB5 : Hid (LB ≤ w5.heap.size) := Nat.le_trans HLB4.out hb5.size
      clear hb5 hl1 hen HROW4 HRG4 HB4 HLB4 HEQ
      cases hsm : sameM (ofL x A) (ofL x B)
      · have HMEM2 : Hid (∀ a, a ∈ ss ++ [x] ↔ ofL a A ≠ [] ∧ (left (.string a) && !(Lit.string a).sameKey (.string x)) = false ∧ sameM (ofL a A) (ofL a B) = false) := fun a => by
          rw [List.mem_append, HMEM.out a, List.mem_singleton, same_str]
          by_cases e : a = x
          · subst e; simp [hsm, HNE.out]
          · simp [e]
        have tok : True := trivial
        clear hsm
        go_wp2_with (first | (have _t := tok; at_builtin; clear tok; refine Hid.out ?_))
        refine unhidM ?_
        refine wpList_append_own _ rfl _ _ 25 rfl LB 9 i0 (.string ⟨#[]⟩) 1 16 Tryd.underlying25 hi hz0 hz1 hz2 rfl (by decide) _ ss.length (ss.map encStr) rfl (HROW5.out.alloc _) ⟨w5.heap.size, 0, none⟩ 1 1 [encStr x] rfl rfl (cell_one_new _ _ _) (by simp [Value.oneCell', encStr]) (by unfold maxLen; have := HSL.out; omega) (by have := HSL.out; omega) (by have := HLB5.out; simp; omega) ?_
        intro v' w6 hown' hg6 hnil
        have HRG6 := Lib.hid ((HRG5.out.alloc _).kept hg6 (row_ne_low HROW5.out (Nat.lt_trans HLTB.out.1 HLTB.out.2)) (row_ne_iter HROW5.out HRG5.out))
        have HO6 : Hid (w6.ownsRow LB 9 1 v' (ss ++ [x]).length ((ss ++ [x]).map encStr)) := by
          have h := hown'
          rw [List.map_append, List.length_append]
          exact h
        have HB6 : Hid (Below LB w2 w6) := (HB5.out.alloc HLB5.out _).grown hg6 (by have := HLB5.out; simp; omega) (fun j hj => (HROW5.out.lt j hj).1)
        have HND2 : Hid (ss ++ [x]).Nodup := List.nodup_append.2 ⟨HND.out, List.nodup_cons.2 ⟨by simp, List.nodup_nil⟩, fun a ha b hb e => by
          rw [List.mem_singleton.1 hb] at e
          exact HNI.out (e ▸ ha)⟩
        clear hown' hg6 hnil
        go_wp2_with fail
        go_roundw
        case rel => exact ⟨_, cnt2, ss ++ [x], HRG6.out, by rw [snoc_len]; have := HCS.out; have := HLT2.out; omega, HO6.out, HND2.out, HMEM2.out, HB6.out⟩
        case measure => rw [HRG6.out.left_eq, HRG.out.left_eq]; exact HLT2.out
      · have HMEM2 : Hid (∀ a, a ∈ ss ↔ ofL a A ≠ [] ∧ (left (.string a) && !(Lit.string a).sameKey (.string x)) = false ∧ sameM (ofL a A) (ofL a B) = false) := fun a => by
          rw [HMEM.out a, same_str]
          by_cases e : a = x
          · subst e; simp [hsm]
          · simp [e]
        clear hsm
        go_wp2_with fail
        go_roundw
        case rel => exact ⟨_, cnt2, ss, HRG5.out, by have := HCS.out; have := HLT2.out; omega, HROW5.out, HND.out, HMEM2.out, HB5.out⟩
        case measure => rw [HRG5.out.left_eq, HRG.out.left_eq]; exact HLT2.out
end Go.Proofs.YtcbjadecocggjaaDoor
