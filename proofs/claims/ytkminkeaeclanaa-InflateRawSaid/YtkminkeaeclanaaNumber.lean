/- A number of some bits: the walk. -/
import Derived.Test.YtkminkeaeclanaaState
import Derived.BigRegion
namespace Go.Proofs.Ytkminkeaeclanaa
open Go.RowKit Plain
set_option linter.unusedVariables false
/-- What a call that reads tells. -/
def Got (w0 : World) (Ob : Nat) (ba : Option Addr) (bn bc N most : Nat) (w : World) (mv : Value) (made : List Int) (r : Except Nat (Nat × Nat)) (e : Ending) (w' : World) : Prop :=
  Turn Ob mv mv w w' ∧ ((∃ x q, r = .ok (x, q) ∧ e = .returned (.int .i64 (x : Int)) ∧ OutL 8 w0 Ob ba bn bc N most w' q mv made) ∨ ∃ n, r = .error n ∧ e = thrown n)
theorem raw_cells {w : World} {Ob : Nat} {ba : Option Addr} {bn bc a h l most : Nat} {mv : Value} {t : TypeId} (hh : w.heap[Ob]? = some (.cells (cellsO ba bn bc a h l mv most) t (0, 0))) :
    w.cell? ⟨Ob, 0, none⟩ = some (.slice ba bn bc) ∧ w.cell? ⟨Ob, 1, none⟩ = some (.int .i64 (a : Int)) ∧ w.cell? ⟨Ob, 2, none⟩ = some (.int .u64 (h : Int)) ∧ w.cell? ⟨Ob, 3, none⟩ = some (.int .i64 (l : Int)) ∧ w.cell? ⟨Ob, 4, none⟩ = some mv ∧ w.cell? ⟨Ob, 5, none⟩ = some (.int .i64 (most : Int)) :=
  ⟨cell_row0 w Ob 0 _ _ _ hh, cell_row0 w Ob 1 _ _ _ hh, cell_row0 w Ob 2 _ _ _ hh, cell_row0 w Ob 3 _ _ _ hh, cell_row0 w Ob 4 _ _ _ hh, cell_row0 w Ob 5 _ _ _ hh⟩
theorem raw_free {w : World} {Ob : Nat} {ba : Option Addr} {bn bc a h l most : Nat} {mv : Value} {t : TypeId} (hh : w.heap[Ob]? = some (.cells (cellsO ba bn bc a h l mv most) t (0, 0))) (k : Nat) : w.frozen? ⟨Ob, k, none⟩ = false := free_row0 w Ob k _ _ hh
theorem or_held (h b l : Nat) (h1 : h < 2 ^ l) (hb : b < 256) (hl : l ≤ 24) : bits .or .u64 (h : Int) (IntKind.u64.wrap (IntKind.u64.wrap (b : Int) * 2 ^ l)) = ((h + b * 2 ^ l : Nat) : Int) := by
  have hp : 2 ^ l ≤ 16777216 := by have := Nat.pow_le_pow_right (n := 2) (by omega) hl; simpa using this
  have hm : b * 2 ^ l ≤ 255 * 16777216 := Nat.mul_le_mul (by omega) hp
  have e0 : IntKind.u64.wrap (b : Int) = (b : Int) := by rw [IntKind.wrap_u64]; omega
  have e1 : IntKind.u64.wrap ((b : Int) * 2 ^ l) = ((b * 2 ^ l : Nat) : Int) := by
    have : (b : Int) * 2 ^ l = ((b * 2 ^ l : Nat) : Int) := by simp
    rw [this, IntKind.wrap_u64]; omega
  rw [e0, e1]
  show IntKind.u64.wrap ((BitVec.ofInt 64 _ ||| BitVec.ofInt 64 _ : BitVec 64).toNat : Int) = _
  rw [BitVec.toNat_or, BitVec.toNat_ofInt, BitVec.toNat_ofInt]
  have e2 : (((h : Nat) : Int) % ((2 ^ 64 : Nat) : Int)).toNat = h := by omega
  have e3 : (((b * 2 ^ l : Nat) : Int) % ((2 ^ 64 : Nat) : Int)).toNat = b <<< l := by rw [Nat.shiftLeft_eq]; omega
  rw [e2, e3, Nat.or_comm, ← Nat.shiftLeft_add_eq_or_of_lt h1, Nat.shiftLeft_eq, IntKind.wrap_u64]
  generalize b * 2 ^ l = z at *
  omega
theorem and_held (h n : Nat) (hn : n ≤ 16) : bits .and .u64 (h : Int) (IntKind.u64.wrap (IntKind.u64.wrap (2 ^ n) - 1)) = ((h % 2 ^ n : Nat) : Int) := by
  have hp : 2 ^ n ≤ 65536 := by have := Nat.pow_le_pow_right (n := 2) (by omega) hn; simpa using this
  have hp0 : 0 < 2 ^ n := Nat.two_pow_pos n
  have e1 : (2 : Int) ^ n = ((2 ^ n : Nat) : Int) := by simp
  have e2 : IntKind.u64.wrap (IntKind.u64.wrap ((2 ^ n : Nat) : Int) - 1) = ((2 ^ n - 1 : Nat) : Int) := by
    rw [IntKind.wrap_u64, IntKind.wrap_u64]
    generalize 2 ^ n = q at *
    omega
  rw [e1, e2]
  have hlt : h % 2 ^ n < 65536 := Nat.lt_of_lt_of_le (Nat.mod_lt _ hp0) hp
  show IntKind.u64.wrap ((BitVec.ofInt 64 _ &&& BitVec.ofInt 64 _ : BitVec 64).toNat : Int) = _
  rw [BitVec.toNat_and, BitVec.toNat_ofInt, BitVec.toNat_ofInt]
  have e4 : (((2 ^ n - 1 : Nat) : Int) % ((2 ^ 64 : Nat) : Int)).toNat = 2 ^ n - 1 := by
    generalize 2 ^ n = q at *
    omega
  have e5 : (((h : Nat) : Int) % ((2 ^ 64 : Nat) : Int)).toNat = h % 2 ^ 64 := by omega
  rw [e4, e5, Nat.and_two_pow_sub_one_eq_mod, Nat.mod_mod_of_dvd _ (Nat.pow_dvd_pow 2 (by omega)), IntKind.wrap_u64]
  omega
theorem held_more (bs : List Int) (N p l a b : Nat) (hN : N = streamN bs) (hr : ∀ x ∈ bs, 0 ≤ x ∧ x ≤ 255) (hpl : p + l = 8 * a) (hb : bs[a]?.getD 0 = (b : Int)) : N / 2 ^ p % 2 ^ l + b * 2 ^ l = N / 2 ^ p % 2 ^ (l + 8) := by
  rw [bits_split, hpl, hN]
  have := stream_at bs hr a
  rw [hb, Int.toNat_natCast] at this
  rw [show (2 : Nat) ^ 8 = 256 from rfl, this, Nat.mul_comm]
/-- How many bytes were begun. -/
def posA (Ob : Nat) (w : World) : Nat := match w.cell? ⟨Ob, 1, none⟩ with
  | some (.int _ a) => a.toNat
  | _ => 0
theorem posA_of {w : World} {Ob : Nat} {ba : Option Addr} {bn bc a h l most : Nat} {mv : Value} {t : TypeId} (hh : w.heap[Ob]? = some (.cells (cellsO ba bn bc a h l mv most) t (0, 0))) : posA Ob w = a := by
  unfold posA
  rw [(raw_cells hh).2.1]
  exact Int.toNat_natCast a
set_option maxRecDepth 100000 in
set_option maxHeartbeats 8000000 in
theorem number_any {w0 : World} {Ob : Nat} {ba : Option Addr} {bn bc N most : Nat} {bs : List Int} (HS : SrcB w0 ba bn bc N most bs) (w : World) (p : Nat) (mv : Value) (made : List Int) (H : OutL 8 w0 Ob ba bn bc N most w p mv made) (n : Nat) (hn : n ≤ 16) :
    Calls Try.prog 18 #[.pointer (some ⟨Ob, 0, none⟩), .int .i64 (n : Int)] w (Got w0 Ob ba bn bc N most w mv made (num N (8 * bn) p n)) := by
  have HSS := Lib.hid HS
  have HO := Lib.hid H
  have hbn := HS.few
  have hbc := HS.le
  clear HS H
  go_enter Try.func18, Try.ntmps18
  go_wp2_with fail
  go_loopw [] (fun wr => OutL (n + 8) w0 Ob ba bn bc N most wr p mv made ∧ Turn Ob mv mv w wr) (fun wr => bn - posA Ob wr)
  case atStart =>
    obtain ⟨a, h, l, h1, h2, h3, h4⟩ := HO.out
    exact ⟨⟨a, h, l, h1, h2, by omega, h4⟩, Turn.refl _ _ _⟩
  case round =>
    obtain ⟨ho, ht⟩ := hrel
    have HR := Lib.hid ho
    obtain ⟨a, hd, l, hh, h1, h2, h3, h4, -⟩ := ho
    obtain ⟨c0, c1, c2, c3, c4, c5⟩ := raw_cells hh
    have HH := Lib.hid hh
    have HT := Lib.hid ht
    have H4 := Lib.hid h4
    clear hh ht h4 HO
    by_cases hlt : l < n
    · have hlti : (l : Int) < (n : Int) := by omega
      by_cases hend : a = bn
      · subst hend
        have herr : num N (8 * a) p n = .error 3 := by unfold num; rw [if_neg (by omega)]
        have HE := Lib.hid herr
        clear herr
        go_wp2_with fail
        go_quiet (fail)
        have HTd := Lib.hid (HT.out.drewN nq)
        generalize wr.drewN nq = wz at *
        clear c0 c1 c2 c3 c4 c5
        go_wp2_with fail
        refine (with_any 3 wz).mono ?_
        rintro e w2 ⟨rfl, rfl⟩
        dsimp only [thrown]
        go_wp2_with fail
        exact ⟨rfl, HTd.out, .inr ⟨3, HE.out, rfl⟩⟩
      · have hae : ((a : Int) == (bn : Int)) = false := by simp; omega
        have haj : ¬ (a : Int) = (bn : Int) := by omega
        obtain ⟨-, -, hr, h0' | ⟨b1, o1, hba, hcell⟩⟩ := HSS.out.bytes.below (show Below w0.heap.size w0 wr from by obtain ⟨-, -, -, -, -, -, -, -, -, -, hb, -⟩ := HR.out; exact hb)
        · omega
        subst hba
        have q1 := hcell a (by omega)
        have hra := hr a
        obtain ⟨b, hb⟩ : ∃ b : Nat, bs[a]?.getD 0 = (b : Int) := Int.eq_ofNat_of_zero_le hra.1
        rw [hb] at q1
        have hb8 : b < 256 := by omega
        have hai : (a : Int) < (bn : Int) := by omega
        have HBA := Lib.hid hb
        have HN2 : Hid (N / 2 ^ p % 2 ^ l + b * 2 ^ l = N / 2 ^ p % 2 ^ (l + 8)) := held_more bs N p l a b HSS.out.num (mem_of_getD hr) h1 hb
        have hor := or_held hd b l (by rw [H4.out]; exact bits_lt _ _ _) hb8 (by omega)
        obtain ⟨h2', hh2⟩ : ∃ h2', hd + b * 2 ^ l = h2' := ⟨_, rfl⟩
        rw [hh2] at hor
        have HH2 : Hid (h2' = N / 2 ^ p % 2 ^ (l + 8)) := by show _ = _; rw [← hh2, H4.out]; exact HN2.out
        clear hr hcell hra hb hh2
        go_wp2_with fail
        go_quiet (fail)
        have HOd : Hid (OnlyAt Ob wr (wr.drewN nq)) := (OnlyAt.refl Ob wr).drewN nq
        have HHd : Hid ((wr.drewN nq).heap[Ob]? = some (.cells (cellsO (some ⟨b1, o1, none⟩) bn bc a hd l mv most) 41 (0, 0))) := HH.out
        have q1' : (wr.drewN nq).cell? ⟨b1, o1 + a, none⟩ = some (.int .u8 (b : Int)) := q1
        clear q1 c0 c1 c2 c3 c4 c5
        generalize wr.drewN nq = wz at *
        obtain ⟨c0, c1, c2, c3, c4, c5⟩ := raw_cells HHd.out
        go_wp2_with fail
        go_still_tail 21, (by kernel_rfl)
        change wpList _ _ _ _ _ wz.drew
        try rw [hor]
        have HHe : Hid (wz.drew.heap[Ob]? = some (.cells (cellsO (some ⟨b1, o1, none⟩) bn bc a hd l mv most) 41 (0, 0))) := HHd.out
        have HOe := Lib.hid HOd.out.drew
        clear q1' hor c0 c1 c2 c3 c4 c5
        generalize wz.drew = wy at *
        obtain ⟨c0, c1, c2, c3, c4, c5⟩ := raw_cells HHe.out
        have f0 := raw_free HHe.out
        have hl8 : (l : Int) + 8 ≤ 100 := by omega
        go_wp2_with fail
        have hh3 : (((wy.setCell ⟨Ob, 2, none⟩ (.int .u64 (h2' : Int))).setCell ⟨Ob, 1, none⟩ (.int .i64 ((a : Int) + 1))).setCell ⟨Ob, 3, none⟩ (.int .i64 ((l : Int) + 8))).heap[Ob]? = some (.cells (cellsO (some ⟨b1, o1, none⟩) bn bc (a + 1) h2' (l + 8) mv most) 41 (0, 0)) :=
          heap_setCell_same _ Ob 3 _ _ _ (heap_setCell_same _ Ob 1 _ _ _ (heap_setCell_same _ Ob 2 _ _ _ HHe.out))
        have hput := HR.out.put (lim' := n + 8) (p' := p) (a + 1) h2' (l + 8) (((HOe.out.set 2 _).set 1 _).set 3 _) hh3 (by omega) (by omega) (by omega) HH2.out
        refine ⟨⟨hput.1, HT.out.trans hput.2⟩, ?_⟩
        rw [posA_of hh3, posA_of HH.out]
        omega
    · have hlti : ¬ (l : Int) < (n : Int) := by omega
      have hnl : n ≤ l := by omega
      have hand := and_held hd n hn
      obtain ⟨x, hx⟩ : ∃ x, hd % 2 ^ n = x := ⟨_, rfl⟩
      obtain ⟨y, hy⟩ : ∃ y, hd / 2 ^ n = y := ⟨_, rfl⟩
      have hdiv : (hd : Int) / 2 ^ n = (y : Int) := by rw [← hy]; simp
      have hx16 : x ≤ 65535 := by
        have h1 := Nat.mod_lt hd (Nat.two_pow_pos n)
        have h2 := Nat.pow_le_pow_right (n := 2) (by omega) hn
        have h3 : (2 : Nat) ^ 16 = 65536 := rfl
        omega
      rw [hx] at hand
      have HNUM : Hid (num N (8 * bn) p n = .ok (x, p + n)) := by
        show _ = _
        unfold num
        rw [if_pos (by omega), ← hx, H4.out, bits_mod _ _ _ _ hnl]
      have HY : Hid (y = N / 2 ^ (p + n) % 2 ^ (l - n)) := by show _ = _; rw [← hy, H4.out, bits_div _ _ _ _ hnl]
      clear hx hy
      go_wp2_with fail
      go_quiet (fail)
      have HOd : Hid (OnlyAt Ob wr (wr.drewN nq)) := (OnlyAt.refl Ob wr).drewN nq
      have HHd : Hid ((wr.drewN nq).heap[Ob]? = some (.cells (cellsO ba bn bc a hd l mv most) 41 (0, 0))) := HH.out
      clear c0 c1 c2 c3 c4 c5
      generalize wr.drewN nq = wz at *
      obtain ⟨c0, c1, c2, c3, c4, c5⟩ := raw_cells HHd.out
      have f2 := raw_free HHd.out 2
      have f3 := raw_free HHd.out 3
      try rw [hand]
      go_wp2_with fail
      go_ret
      have hll : (l : Int) - (n : Int) = ((l - n : Nat) : Int) := by omega
      have hh2 : ((wz.setCell ⟨Ob, 2, none⟩ (.int .u64 (y : Int))).setCell ⟨Ob, 3, none⟩ (.int .i64 ((l : Int) - (n : Int)))).heap[Ob]? = some (.cells (cellsO ba bn bc a y (l - n) mv most) 41 (0, 0)) := by
        rw [hll]
        exact heap_setCell_same _ Ob 3 _ _ _ (heap_setCell_same _ Ob 2 _ _ _ HHd.out)
      have hput := HR.out.put (lim' := 8) (p' := p + n) a y (l - n) ((HOd.out.set 2 _).set 3 _) hh2 (by omega) (by omega) h3 HY.out
      exact ⟨HT.out.trans hput.2, .inl ⟨x, p + n, HNUM.out, rfl, hput.1⟩⟩
end Go.Proofs.Ytkminkeaeclanaa
