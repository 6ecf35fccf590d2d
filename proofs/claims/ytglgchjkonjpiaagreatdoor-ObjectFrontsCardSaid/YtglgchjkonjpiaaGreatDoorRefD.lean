/- The document's unpacking: what other memory's changes leave; a block with its own codes, in steps that may end. -/
import Derived.Test.YtglgchjkonjpiaaGreatDoorRefSigns
import Derived.Test.YtglgchjkonjpiaaGreatDoorRefC
import Derived.Test.YtglgchjkonjpiaaGreatDoorOwn
/-! The document's unpacking: what other memory's changes leave; a block with its own codes, in steps that may end. -/
namespace Go.Proofs.YtglgchjkonjpiaaGreatDoor
open Go.RowKit Plain
set_option linter.unusedVariables false
theorem RL.grown {w0 w w' : World} {Sb : Nat} {ba : Option Addr} {bn bc : Nat} {M : Int} {p bad : Nat} {mv : Value} {made : List Int} (h : RL w0 Sb ba bn bc M w p bad mv made) {row : Option Nat} (hg : w.grownBy w' row) (h1 : row ≠ some Sb) (h2 : mv.ownBlock = none ∨ mv.ownBlock ≠ row) (h3 : ∀ k, row = some k → w0.heap.size ≤ k) :
    RL w0 Sb ba bn bc M w' p bad mv made := by
  have hlt := h.lt
  obtain ⟨hr, hp, hm, hO, hb, hge, h5⟩ := h
  exact ⟨(hg.block Sb hlt (fun e => h1 e.symm)).trans hr, hp, hm.kept hg h2, hO, hb.grown hg hb.size h3, hge, h5⟩
theorem RL.store {w0 w : World} {Sb : Nat} {ba : Option Addr} {bn bc : Nat} {M : Int} {p bad : Nat} {mv : Value} {made : List Int} (h : RL w0 Sb ba bn bc M w p bad mv made) (Lb i : Nat) (v : Value) (h1 : Lb ≠ Sb) (h2 : mv.ownBlock ≠ some Lb) (h3 : w0.heap.size ≤ Lb) :
    RL w0 Sb ba bn bc M (w.setCell ⟨Lb, i, none⟩ v) p bad mv made :=
  h.grown (grownBy_set1 w Lb i v) (fun e => h1 (by injection e)) (.inr h2) (fun k hk => by injection hk with hk; omega)
theorem RL.from {w0 w w' : World} {Sb : Nat} {ba : Option Addr} {bn bc : Nat} {M : Int} {p bad : Nat} {mv : Value} {made : List Int} (h : RL w0 Sb ba bn bc M w p bad mv made) {B : Nat} (hb : Below B w w') (h1 : Sb < B) (h2 : ∀ k, mv.ownBlock = some k → k < B) : RL w0 Sb ba bn bc M w' p bad mv made := by
  obtain ⟨hr, hp, hm, hO, hbl, hge, h5⟩ := h
  refine ⟨(hb.block Sb h1).trans hr, hp, ?_, hO, hbl.trans (hb.mono (by omega)), hge, h5⟩
  obtain ⟨e1, e2 | ⟨g, o, cap, rfl, e3, e4, e5, e6, e7, e8⟩⟩ := hm
  · exact ⟨e1, .inl e2⟩
  · have hbk := hb.block g (h2 g rfl)
    exact ⟨e1, .inr ⟨g, o, cap, rfl, e3, Nat.lt_of_lt_of_le e4 hb.size, e5, e6, rangeAt_block e7 hbk, there_block e8 hbk⟩⟩
/-- Where the reading of lengths stands: the lengths' row, the stream, the codes. -/
def TS (w0 : World) (Sb : Nat) (ba : Option Addr) (bn bc : Nat) (M : Int) (mv : Value) (made : List Int) (w : World) (B Cb : Nat) (cs : List (Nat × Nat)) (wr : World) (q b k : Nat) (xs : List Nat) (a : Option Addr) (cp : Nat) : Prop :=
  Row64 wr B (.slice a k cp) k xs ∧ RL w0 Sb ba bn bc M wr q b mv made ∧ Turn Sb mv mv w wr ∧ CodeRow wr Cb cs ∧ B ≤ wr.heap.size
/-- What of it stays put. -/
def TP (Sb : Nat) (mv : Value) (w : World) (B Cb : Nat) : Prop := Sb < B ∧ Cb < B ∧ Sb ≠ Cb ∧ w.heap.size ≤ B ∧ ∀ k, mv.ownBlock = some k → k < B ∧ k ≠ Cb
theorem TS.append {w0 : World} {Sb : Nat} {ba : Option Addr} {bn bc : Nat} {M : Int} {mv : Value} {made : List Int} {w : World} {B Cb : Nat} {cs : List (Nat × Nat)} {wr : World} {q b k : Nat} {xs : List Nat} {a : Option Addr} {cp : Nat}
    (h : TS w0 Sb ba bn bc M mv made w B Cb cs wr q b k xs a cp) (hp : TP Sb mv w B Cb) {o : Obj} {p2 : World} {k2 : Nat} {ys : List Nat} {pa : Option Addr} {pc : Nat} (hr : Row64 p2 B (.slice pa k2 pc) k2 ys) (hg : (wr.alloc o).grownBy p2 (Value.slice a k cp).ownBlock) :
    TS w0 Sb ba bn bc M mv made w B Cb cs p2 q b k2 ys pa pc := by
  obtain ⟨h1, h2, h3, h4, h5⟩ := h
  obtain ⟨p1, p3, p4, p5, p6⟩ := hp
  have hn : Below wr.heap.size wr (wr.alloc o) := (Below.refl _ _).alloc (Nat.le_refl _) _
  have hb : Below B wr p2 := (hn.mono h5).trans (ownsRow_kept (h1.below hn) (Nat.le_trans h5 hn.size) hg)
  exact ⟨hr, h2.from hb p1 (fun k hk => (p6 k hk).1), h3.later (hb.mono p5), (hb.block Cb p3).trans h4, Nat.le_trans h5 hb.size⟩
theorem TS.many {w0 : World} {Sb : Nat} {ba : Option Addr} {bn bc : Nat} {M : Int} {mv : Value} {made : List Int} {w : World} {B Cb : Nat} {cs : List (Nat × Nat)} {wr : World} {q b k : Nat} {xs : List Nat} {a : Option Addr} {cp : Nat}
    (h : TS w0 Sb ba bn bc M mv made w B Cb cs wr q b k xs a cp) (hp : TP Sb mv w B Cb) {p2 : World} {k2 : Nat} {ys : List Nat} {pa : Option Addr} {pc : Nat} (hr : Row64 p2 B (.slice pa k2 pc) k2 ys) (hb : Below B wr p2) :
    TS w0 Sb ba bn bc M mv made w B Cb cs p2 q b k2 ys pa pc := by
  obtain ⟨h1, h2, h3, h4, h5⟩ := h
  obtain ⟨p1, p3, p4, p5, p6⟩ := hp
  exact ⟨hr, h2.from hb p1 (fun k hk => (p6 k hk).1), h3.later (hb.mono p5), (hb.block Cb p3).trans h4, Nat.le_trans h5 hb.size⟩
theorem TS.turn {w0 : World} {Sb : Nat} {ba : Option Addr} {bn bc : Nat} {M : Int} {mv : Value} {made : List Int} {w : World} {B Cb : Nat} {cs : List (Nat × Nat)} {wr : World} {q b k : Nat} {xs : List Nat} {a : Option Addr} {cp : Nat}
    (h : TS w0 Sb ba bn bc M mv made w B Cb cs wr q b k xs a cp) (hp : TP Sb mv w B Cb) {p2 : World} {q2 b2 : Nat} (hr : RL w0 Sb ba bn bc M p2 q2 b2 mv made) (ht : Turn Sb mv mv wr p2) : TS w0 Sb ba bn bc M mv made w B Cb cs p2 q2 b2 k xs a cp := by
  obtain ⟨h1, h2, h3, h4, h5⟩ := h
  obtain ⟨p1, p3, p4, p5, p6⟩ := hp
  exact ⟨h1.turn ht p1 (fun k hk => (p6 k hk).1), hr, h3.trans ht, h4.turn ht (fun e => p4 e.symm) (fun e => (p6 _ e).2 rfl), Nat.le_trans h5 ht.size⟩
theorem TS.below {w0 : World} {Sb : Nat} {ba : Option Addr} {bn bc : Nat} {M : Int} {mv : Value} {made : List Int} {w : World} {B Cb : Nat} {cs : List (Nat × Nat)} {wr : World} {q b k : Nat} {xs : List Nat} {a : Option Addr} {cp : Nat}
    (h : TS w0 Sb ba bn bc M mv made w B Cb cs wr q b k xs a cp) (hp : TP Sb mv w B Cb) {p2 : World} (hb : Below wr.heap.size wr p2) : TS w0 Sb ba bn bc M mv made w B Cb cs p2 q b k xs a cp :=
  h.turn hp (h.2.1.below hb) (Turn.of_below hb)
theorem TS.bad {w0 : World} {Sb : Nat} {ba : Option Addr} {bn bc : Nat} {M : Int} {mv : Value} {made : List Int} {w : World} {B Cb : Nat} {cs : List (Nat × Nat)} {wr : World} {q b k : Nat} {xs : List Nat} {a : Option Addr} {cp : Nat}
    (h : TS w0 Sb ba bn bc M mv made w B Cb cs wr q b k xs a cp) : wr.cell? ⟨Sb, 4, none⟩ = some (.int .i64 (b : Int)) := (rs_cells h.2.1.1).2.2.2.2
def ViaRow (A : Option Addr → Nat → Act) (R : Option Addr → Nat → World → Prop) : Exit → Act → World → Prop
  | .normal, a, w => ∃ x y, a = A x y ∧ R x y w
  | _, _, _ => False
theorem wp_via_row {P : Program} {c : Code} {Q : Exit → Act → World → Prop} {a : Act} {w : World} {R : Option Addr → Nat → World → Prop} (A : Option Addr → Nat → Act) (h1 : c.wp P (ViaRow A R) a w) (h2 : ∀ x y W, R x y W → Q .normal (A x y) W) : c.wp P Q a w := by
  refine wp_mono h1 fun e a' w' h => ?_
  cases e with
  | normal =>
    obtain ⟨x, y, ha, hr⟩ := h
    subst ha
    exact h2 x y w' hr
  | _ => exact h.elim
def ViaRow3 (A : Nat → Option Addr → Nat → Act) (R : Nat → Option Addr → Nat → World → Prop) : Exit → Act → World → Prop
  | .normal, a, w => ∃ i x y, a = A i x y ∧ R i x y w
  | _, _, _ => False
theorem wp_via_row3 {P : Program} {c : Code} {Q : Exit → Act → World → Prop} {a : Act} {w : World} {R : Nat → Option Addr → Nat → World → Prop} (A : Nat → Option Addr → Nat → Act) (h1 : c.wp P (ViaRow3 A R) a w) (h2 : ∀ i x y W, R i x y W → Q .normal (A i x y) W) : c.wp P Q a w := by
  refine wp_mono h1 fun e a' w' h => ?_
  cases e with
  | normal =>
    obtain ⟨i, x, y, ha, hr⟩ := h
    subst ha
    exact h2 i x y w' hr
  | _ => exact h.elim
/-! ### A block with its own codes -/
def cl2 (x : Nat × List Nat) : Except Nat (Nat × CodeS) := if goodN (codeOfN x.2) then .ok (x.1, codeOfN x.2) else .error 4
def cl1 (N L : Nat) (x : Nat × Nat) : Except Nat (Nat × CodeS) := bindE (toldGo N L (orderN.take (x.1 + 4)) x.2 (List.replicate 19 0)) cl2
theorem cl_eq (N L p : Nat) : codeOfLengthsN N L p = bindE (num N L p 4) (cl1 N L) := by
  unfold codeOfLengthsN bindE cl1
  cases num N L p 4 with
  | error e => rfl
  | ok v =>
    obtain ⟨x, q⟩ := v
    simp only []
    unfold bindE
    cases toldGo N L (orderN.take (x + 4)) q (List.replicate 19 0) with
    | error e => rfl
    | ok v => rfl
section
variable (N L most : Nat) (made : List Int)
def tl5 (n m : Nat) (x : Nat × List Nat) : Except Nat (Nat × List Int) :=
  if x.2.getD 256 0 = 0 ∨ goodN (codeOfN (x.2.take n)) = false ∨ (goodN (codeOfN (x.2.drop n)) = false ∧ (codeOfN (x.2.drop n)).sg ≠ []) then .error 4
  else signsN N L most (signN N L (codeOfN (x.2.take n))) (signN N L (codeOfN (x.2.drop n))) x.1 made
def tl4 (n m : Nat) (x : Nat × CodeS) : Except Nat (Nat × List Int) := bindE (lensN N L x.2 (n + m) x.1) (tl5 N L most made n m)
def tl3 (n : Nat) (x : Nat × Nat) : Except Nat (Nat × List Int) := bindE (codeOfLengthsN N L x.2) (tl4 N L most made n x.1)
def tl2 (x : Nat × Nat) : Except Nat (Nat × List Int) := bindE (howManyN N L x.2 5 1 30) (tl3 N L most made x.1)
def tl1 (p : Nat) : Except Nat (Nat × List Int) := bindE (howManyN N L p 5 257 286) (tl2 N L most made)
theorem told_eq (bs : List Int) (p : Nat) : blockN bs N L most 2 p made = tl1 N L most made p := by
  unfold blockN tl1 ownCodesN
  rw [if_neg (by omega), if_neg (by omega), if_pos rfl]
  unfold bindE
  cases howManyN N L p 5 257 286 with
  | error e => rfl
  | ok v =>
    obtain ⟨n, q⟩ := v
    simp only []
    unfold tl2 bindE
    cases howManyN N L q 5 1 30 with
    | error e => rfl
    | ok v =>
      obtain ⟨m, r⟩ := v
      simp only []
      unfold tl3 bindE
      cases codeOfLengthsN N L r with
      | error e => rfl
      | ok v =>
        obtain ⟨s, c⟩ := v
        simp only []
        unfold tl4 bindE
        cases lensN N L c (n + m) s with
        | error e => rfl
        | ok v =>
          obtain ⟨t, ls⟩ := v
          simp only []
          unfold tl5
          by_cases h : ls.getD 256 0 = 0 ∨ goodN (codeOfN (ls.take n)) = false ∨ (goodN (codeOfN (ls.drop n)) = false ∧ (codeOfN (ls.drop n)).sg ≠ [])
          · rw [if_pos h, if_pos h]
          · rw [if_neg h, if_neg h]
end
theorem how_eq (N L p n least most : Nat) : howManyN N L p n least most = bindE (num N L p n) (fun v => if most < v.1 + least then .error 4 else .ok (v.1 + least, v.2)) := by
  unfold howManyN bindE
  cases num N L p n <;> rfl
theorem tr_how_ok {bad b1 N L p n least most x q : Nat} (h : Tr bad (num N L p n) b1 (x, q)) (hx : ¬ most < x + least) : Tr bad (howManyN N L p n least most) b1 (x + least, q) := by
  rw [how_eq]
  refine h.bind ?_
  show Tr b1 (if most < x + least then _ else _) _ _
  rw [if_neg hx]
  exact Tr.ok _ _
theorem tr_how_err {bad b1 N L p n least most x q : Nat} (h : Tr bad (num N L p n) b1 (x, q)) (hx : most < x + least) (y : Nat × Nat) : Tr bad (howManyN N L p n least most) (orFour b1) y := by
  rw [how_eq]
  refine h.bind ?_
  show Tr b1 (if most < x + least then _ else _) _ _
  rw [if_pos hx]
  exact Tr.err _ 4 (by omega) _
theorem lens_over {N L : Nat} {c : CodeS} {n q : Nat} {xs : List Nat} {b4 len t q4 : Nat} (hp : q ≤ L) (hn : ¬ n ≤ xs.length) (h : Tr 0 (oneLen N L c q xs) b4 (len, t, q4)) (ho : n - xs.length < t) (y : Nat × List Nat) : Tr 0 (lensAt N L c n q xs) (orFour b4) y := by
  by_cases hb : b4 = 0
  · subst hb
    rw [lensAt_many hp hn h.live.2 ho]
    exact Tr.err 0 4 (by omega) _
  · have h1 : oneLen N L c q xs = .error b4 := by
      rcases h.1 rfl with ⟨e, -⟩ | ⟨-, e⟩
      · exact absurd e hb
      · exact e
    rw [lensAt_err hp hn h1]
    unfold orFour
    rw [if_neg hb]
    exact Tr.err 0 b4 hb _
theorem lens_go {N L : Nat} {c : CodeS} {n q : Nat} {xs : List Nat} {b4 len t q4 b' : Nat} {y : Nat × List Nat} (hp : q ≤ L) (hn : ¬ n ≤ xs.length) (h : Tr 0 (oneLen N L c q xs) b4 (len, t, q4)) (ho : ¬ n - xs.length < t) (hr : Tr b4 (lensAt N L c n q4 (xs ++ List.replicate t len)) b' y) : Tr 0 (lensAt N L c n q xs) b' y := by
  by_cases hb : b4 = 0
  · subst hb
    rw [lensAt_on hp hn h.live.2 ho]
    exact hr
  · have h1 : oneLen N L c q xs = .error b4 := by
      rcases h.1 rfl with ⟨e, -⟩ | ⟨-, e⟩
      · exact absurd e hb
      · exact e
    rw [lensAt_err hp hn h1, hr.2 hb]
    exact Tr.err 0 b4 hb _
/-- The document's signs, by the program's codes. -/
theorem far_same {ls : List Nat} (h15 : ∀ i, ls.getD i 0 ≤ 15) (sm : Bool) (hsm : sm = ls.any (fun y => decide (0 < y))) (h : goodN (codeOfN ls) = true ∨ (codeOfN ls).sg = []) (N L p : Nat) : farR N L (codesT ls) sm p = signN N L (codeOfN ls) p := by
  by_cases hs : (codeOfN ls).sg = []
  · obtain ⟨hm, hz⟩ := none_zero h15 hs
    have hf : sm = false := by
      rw [hsm]
      cases hany : ls.any (fun y => decide (0 < y)) with
      | false => rfl
      | true =>
        exfalso
        rw [List.any_eq_true] at hany
        obtain ⟨y, hy, hy2⟩ := hany
        obtain ⟨i, hi, rfl⟩ := List.mem_iff_getElem.1 hy
        have := hz i hi
        rw [List.getD_eq_getElem?_getD, List.getElem?_eq_getElem hi] at this
        have h3 : ls[i] = 0 := this
        rw [h3] at hy2
        simp at hy2
    rw [hf]
    unfold signN
    have hl : (codeOfN ls).longest = 0 := hm
    rw [hl]
    rfl
  · have hg : goodN (codeOfN ls) = true := by
      rcases h with h | h
      · exact h
      · exact absurd h hs
    have hf : sm = true := by
      rw [hsm]
      cases hany : ls.any (fun y => decide (0 < y)) with
      | true => rfl
      | false =>
        exfalso
        apply hs
        have hg2 := gdI h15 ls.length (Nat.le_refl _)
        have hsl : (sgOf ls).length = startOf ls 16 := sg_len ls
        have hm := hg2.many
        rw [List.take_length] at hm
        have : (gdTo ls ls.length).many = 0 := by
          have hall : ∀ i, i ≤ ls.length → (gdTo ls i).many = 0 := by
            intro i
            induction i with
            | zero => intro _; rfl
            | succ i ih =>
              intro hi
              rw [gdTo, if_neg, ih (by omega)]
              intro h0
              rw [List.any_eq_false] at hany
              have h1 := hany (ls[i]'(by omega)) (List.getElem_mem _)
              rw [List.getD_eq_getElem?_getD, List.getElem?_eq_getElem (by omega)] at h0
              exact h1 (decide_eq_true h0)
          exact hall _ (Nat.le_refl _)
        show sgOf ls = []
        apply List.eq_nil_of_length_eq_zero
        omega
    rw [hf, ← sign_same h15 hg N L p]
    rfl
end Go.Proofs.YtglgchjkonjpiaaGreatDoor
/-! The document's unpacking, plainly: bytes as they are; one block and what follows, in steps that may end. -/
namespace Go.Proofs.YtglgchjkonjpiaaGreatDoor
open Go.RowKit Plain
set_option linter.unusedVariables false
/-- So many bytes, one by one. -/
def bgo (N L most : Nat) : Nat → Nat → List Int → Except Nat (Nat × List Int)
  | 0, r, made => .ok (r, made)
  | k + 1, r, made => bindE (num N L r 8) fun v => bindE (giveN most made (v.1 : Int)) fun m => bgo N L most k v.2 m
def stBody (bs : List Int) (most n r : Nat) (made : List Int) : Except Nat (Nat × List Int) :=
  if most - made.length < min n (bs.length - r / 8) then .error 2
  else if bs.length - r / 8 < n then .error 3
  else .ok (r + 8 * n, made ++ (bs.drop (r / 8)).take n)
theorem body_bgo (bs : List Int) (hb : ∀ x ∈ bs, 0 ≤ x ∧ x ≤ 255) (most : Nat) : ∀ (n r : Nat) (made : List Int), r % 8 = 0 → r ≤ 8 * bs.length → stBody bs most n r made = bgo (streamN bs) (8 * bs.length) most n r made
  | 0, r, made, h1, h2 => by
    unfold stBody bgo
    rw [if_neg (by omega), if_neg (by omega)]
    simp
  | n + 1, r, made, h1, h2 => by
    rw [bgo]
    by_cases hl : r + 8 ≤ 8 * bs.length
    · have hj : r / 8 < bs.length := by omega
      have hv : streamN bs / 2 ^ r % 2 ^ 8 = (bs[r / 8]?.getD 0).toNat := by
        have := stream_at bs hb (r / 8)
        rw [show 8 * (r / 8) = r by omega] at this
        exact this
      have hnum : num (streamN bs) (8 * bs.length) r 8 = .ok ((bs[r / 8]?.getD 0).toNat, r + 8) := by
        unfold num
        rw [if_pos hl, hv]
      have hx : 0 ≤ bs[r / 8]?.getD 0 := by
        rw [List.getElem?_eq_getElem hj]
        exact (hb _ (List.getElem_mem hj)).1
      rw [hnum]
      show _ = bindE (giveN most made _) _
      unfold giveN
      by_cases hm : most ≤ made.length
      · rw [if_pos hm]
        unfold stBody
        rw [if_pos (by omega)]
        rfl
      · rw [if_neg hm]
        show _ = bgo _ _ _ n (r + 8) (made ++ [(((bs[r / 8]?.getD 0).toNat : Nat) : Int)])
        rw [← body_bgo bs hb most n (r + 8) _ (by omega) hl, Int.toNat_of_nonneg hx]
        unfold stBody
        rw [List.length_append, List.length_singleton, show (r + 8) / 8 = r / 8 + 1 by omega]
        by_cases c1 : most - made.length < min (n + 1) (bs.length - r / 8)
        · rw [if_pos c1, if_pos (by omega)]
        · have c1' : ¬ most - (made.length + 1) < min n (bs.length - (r / 8 + 1)) := by omega
          rw [if_neg c1, if_neg c1']
          by_cases c2 : bs.length - r / 8 < n + 1
          · have c2' : bs.length - (r / 8 + 1) < n := by omega
            rw [if_pos c2, if_pos c2']
          · have c2' : ¬ bs.length - (r / 8 + 1) < n := by omega
            rw [if_neg c2, if_neg c2']
            rw [show r + 8 * (n + 1) = r + 8 + 8 * n by omega]
            congr 2
            rw [List.append_assoc]
            congr 1
            rw [List.drop_eq_getElem_cons hj, List.take_succ_cons, List.getElem?_eq_getElem hj]
            rfl
    · have hnum : num (streamN bs) (8 * bs.length) r 8 = .error 3 := by
        unfold num
        rw [if_neg hl]
      rw [hnum]
      unfold stBody
      rw [if_neg (by omega), if_pos (by omega)]
      rfl
def st2 (N L most : Nat) (made : List Int) (n : Nat) (x : Nat × Nat) : Except Nat (Nat × List Int) := if x.1 + n ≠ 65535 then .error 4 else bgo N L most n x.2 made
def st1 (N L most : Nat) (made : List Int) (x : Nat × Nat) : Except Nat (Nat × List Int) := bindE (num N L x.2 16) (st2 N L most made x.1)
theorem stored_eq (bs : List Int) (hb : ∀ x ∈ bs, 0 ≤ x ∧ x ≤ 255) (most p : Nat) (made : List Int) : storedN bs (streamN bs) (8 * bs.length) most p made = bindE (num (streamN bs) (8 * bs.length) (8 * ((p + 7) / 8)) 16) (st1 (streamN bs) (8 * bs.length) most made) := by
  unfold storedN bindE
  cases h1 : num (streamN bs) (8 * bs.length) (8 * ((p + 7) / 8)) 16 with
  | error e => rfl
  | ok v =>
    obtain ⟨n, q⟩ := v
    have a1 := num_ok h1
    simp only []
    unfold st1 bindE
    cases h2 : num (streamN bs) (8 * bs.length) q 16 with
    | error e => rfl
    | ok v =>
      obtain ⟨m, r⟩ := v
      have a2 := num_ok h2
      simp only []
      unfold st2
      by_cases h3 : m + n ≠ 65535
      · rw [if_pos h3, if_pos h3]
      · rw [if_neg h3, if_neg h3, ← body_bgo bs hb most n r made (by omega) a2.2.2]
        rfl
def rw3 (bs : List Int) (N most : Nat) (last : Nat) (x : Nat × List Int) : Except Nat (Nat × List Int) := if last = 0 then rawAt bs N most x.1 x.2 else .ok x
def rw2 (bs : List Int) (N most : Nat) (made : List Int) (last : Nat) (x : Nat × Nat) : Except Nat (Nat × List Int) := bindE (blockN bs N (8 * bs.length) most x.1 x.2 made) (rw3 bs N most last)
def rw1 (bs : List Int) (N most : Nat) (made : List Int) (x : Nat × Nat) : Except Nat (Nat × List Int) := bindE (num N (8 * bs.length) x.2 2) (rw2 bs N most made x.1)
theorem raw_eq {bs : List Int} {N most p : Nat} {made : List Int} (hp : p ≤ 8 * bs.length) : rawAt bs N most p made = bindE (num N (8 * bs.length) p 1) (rw1 bs N most made) := by
  rw [rawAt_step hp]
  unfold stepR bindE
  cases num N (8 * bs.length) p 1 with
  | error e => rfl
  | ok v =>
    obtain ⟨l, q⟩ := v
    simp only []
    unfold rw1 bindE
    cases num N (8 * bs.length) q 2 with
    | error e => rfl
    | ok v =>
      obtain ⟨k, r⟩ := v
      simp only []
      unfold rw2 bindE
      cases blockN bs N (8 * bs.length) most k r made with
      | error e => rfl
      | ok v => rfl
end Go.Proofs.YtglgchjkonjpiaaGreatDoor
