/- The document's unpacking: where the stream stands, and what each of its calls does to that. -/
import Derived.Test.YtkminkeaeclanaaRefNumber
namespace Go.Proofs.Ytkminkeaeclanaa
open Go.RowKit Plain
set_option linter.unusedVariables false
/-! ### Errors that stay -/
def Is {α : Type} (r : Except Nat α) (bad : Nat) (x : α) : Prop := (bad = 0 ∧ r = .ok x) ∨ (bad ≠ 0 ∧ r = .error bad)
def Tr {α : Type} (bad : Nat) (r : Except Nat α) (b' : Nat) (x : α) : Prop := (bad = 0 → Is r b' x) ∧ (bad ≠ 0 → b' = bad)
def bindE {α β : Type} (r : Except Nat α) (f : α → Except Nat β) : Except Nat β := match r with
  | .error e => .error e
  | .ok x => f x
theorem Tr.bind {α β : Type} {b b1 b2 : Nat} {r : Except Nat α} {f : α → Except Nat β} {x : α} {y : β} (h1 : Tr b r b1 x) (h2 : Tr b1 (f x) b2 y) : Tr b (bindE r f) b2 y := by
  refine ⟨fun hb => ?_, fun hb => ?_⟩
  · rcases h1.1 hb with ⟨e1, rfl⟩ | ⟨e1, rfl⟩
    · exact h2.1 e1
    · rw [h2.2 e1]; exact .inr ⟨e1, rfl⟩
  · have := h1.2 hb
    rw [h2.2 (by omega), this]
theorem Tr.ok {α : Type} (b : Nat) (x : α) : Tr b (.ok x) b x := ⟨fun h => .inl ⟨h, rfl⟩, fun _ => rfl⟩
theorem Tr.err {α : Type} (b k : Nat) (hk : k ≠ 0) (x : α) : Tr b (.error k) (if b = 0 then k else b) x := by
  refine ⟨fun h => ?_, fun h => by rw [if_neg h]⟩
  rw [if_pos h]
  exact .inr ⟨hk, rfl⟩
theorem Tr.dead {α : Type} {b : Nat} (h : b ≠ 0) (r : Except Nat α) (x : α) : Tr b r b x := ⟨fun e => absurd e h, fun _ => rfl⟩
theorem Tr.live {α : Type} {b : Nat} {r : Except Nat α} {x : α} (h : Tr b r 0 x) : b = 0 ∧ r = .ok x := by
  have hb : b = 0 := by
    rcases Nat.eq_zero_or_pos b with e | e
    · exact e
    · have := h.2 (by omega); omega
  rcases h.1 hb with ⟨-, h⟩ | ⟨h, -⟩
  · exact ⟨hb, h⟩
  · exact absurd rfl h
theorem Tr.any {α : Type} {b b' : Nat} {r : Except Nat α} {x : α} (h : Tr b r b' x) (hb : b' ≠ 0) (y : α) : Tr b r b' y := by
  refine ⟨fun e => ?_, h.2⟩
  rcases h.1 e with ⟨e1, -⟩ | h1
  · exact absurd e1 hb
  · exact .inr h1
theorem Tr.of_eq {α : Type} {b b' : Nat} {r r' : Except Nat α} {x : α} (h : Tr b r b' x) (e : b = 0 → r = r') : Tr b r' b' x := ⟨fun hb => e hb ▸ h.1 hb, h.2⟩
theorem Tr.is {α : Type} {b' : Nat} {r : Except Nat α} {x : α} (h : Tr 0 r b' x) : Is r b' x := h.1 rfl
/-! ### The stream in memory -/
def RL (w0 : World) (Sb : Nat) (ba : Option Addr) (bn bc : Nat) (M : Int) (w : World) (p bad : Nat) (mv : Value) (made : List Int) : Prop :=
  RS w Sb ba bn bc p mv M bad ∧ p ≤ 8 * bn ∧ Mid w w0.heap.size mv made.length made ∧ mv.ownBlock ≠ some Sb ∧ Below w0.heap.size w0 w ∧ w0.heap.size ≤ Sb ∧ made.length ≤ M.toNat ∧ ∀ x ∈ made, 0 ≤ x ∧ x ≤ 255
/-- The bytes that are read. -/
structure SrcW (w0 : World) (ba : Option Addr) (bn : Nat) (M : Int) (N : Nat) (bs : List Int) : Prop where
  bytes : Bytes w0 ba bn bs
  few : bn ≤ 1000000000
  most : M ≤ 1000000000
  num : N = streamN bs
theorem RL.src {w0 w : World} {Sb : Nat} {ba : Option Addr} {bn bc : Nat} {M : Int} {N p bad : Nat} {mv : Value} {made bs : List Int} (h : RL w0 Sb ba bn bc M w p bad mv made) (hs : SrcW w0 ba bn M N bs) : SrcR w Sb ba bn bc bs := by
  refine ⟨hs.bytes.below h.2.2.2.2.1, hs.few, fun b off e => ?_⟩
  rcases hs.bytes.2.2.2 with h0 | ⟨b', off', e', hc⟩
  · exact .inl h0
  · by_cases h0 : bn = 0
    · exact .inl h0
    · right
      rw [e] at e'
      injection e' with e'
      injection e' with e1 e2
      have := World.block_lt_of_cell? w0 _ (hc 0 (by omega))
      have hlt : b' < w0.heap.size := this
      have hge := h.2.2.2.2.2.1
      omega
theorem RL.lt {w0 w : World} {Sb : Nat} {ba : Option Addr} {bn bc : Nat} {M : Int} {p bad : Nat} {mv : Value} {made : List Int} (h : RL w0 Sb ba bn bc M w p bad mv made) : Sb < w.heap.size := by
  have hh : w.heap[Sb]? = _ := h.1
  rcases Nat.lt_or_ge Sb w.heap.size with h | h
  · exact h
  · rw [Array.getElem?_eq_none h] at hh; cases hh
theorem RL.below {w0 w w' : World} {Sb : Nat} {ba : Option Addr} {bn bc : Nat} {M : Int} {p bad : Nat} {mv : Value} {made : List Int} (h : RL w0 Sb ba bn bc M w p bad mv made) (hb : Below w.heap.size w w') : RL w0 Sb ba bn bc M w' p bad mv made := by
  have hlt := h.lt
  obtain ⟨h1, h2, hm, hO, hbel, h5⟩ := h
  exact ⟨(hb.block Sb hlt).trans h1, h2, hm.below hb, hO, hbel.trans (hb.mono hbel.size), h5⟩
/-- Only the stream's own block is changed. -/
theorem RL.only {w0 w w' : World} {Sb : Nat} {ba : Option Addr} {bn bc : Nat} {M : Int} {p bad p' bad' : Nat} {mv : Value} {made : List Int} (h : RL w0 Sb ba bn bc M w p bad mv made) (ho : OnlyAt Sb w w') (hr : RS w' Sb ba bn bc p' mv M bad') (hp : p' ≤ 8 * bn) :
    RL w0 Sb ba bn bc M w' p' bad' mv made ∧ Turn Sb mv mv w w' := by
  obtain ⟨-, -, hm, hO, hb, hge, h5⟩ := h
  have hs := ho.size
  have hg : w.grownBy w' (some Sb) := ⟨ho.os, ho.tape, ho.output, by omega, fun k _ hk => ho.block k (fun e => hk (by rw [e]))⟩
  exact ⟨⟨hr, hp, hm.kept hg (.inr hO), hO, ⟨ho.os.trans hb.os, ho.tape.trans hb.tape, ho.output.trans hb.output, by rw [hs]; exact hb.size, fun k hk => (ho.block k (by omega)).trans (hb.block k hk)⟩, hge, h5⟩, ⟨ho.os, ho.tape, ho.output, by omega, fun k _ hk _ => ho.block k hk, fun k hk => .inl hk⟩⟩
/-- The row has grown, and is put down. -/
theorem RL.grow {w0 w wA w2 : World} {Sb : Nat} {ba : Option Addr} {bn bc : Nat} {M : Int} {p bad : Nat} {mv v2 : Value} {made m2 : List Int} (h : RL w0 Sb ba bn bc M w p bad mv made) (hb : Below w.heap.size w wA)
    (hg : wA.grownBy w2 mv.ownBlock) (hm : Mid w2 w0.heap.size v2 m2.length m2) (ho : v2.ownBlock = mv.ownBlock ∨ v2.ownBlock = some wA.heap.size) (hl : m2.length ≤ M.toNat) (hr : ∀ x ∈ m2, 0 ≤ x ∧ x ≤ 255) :
    w2.heap[Sb]? = w.heap[Sb]? ∧ RL w0 Sb ba bn bc M (w2.setCell ⟨Sb, 2, none⟩ v2) p bad v2 m2 ∧ Turn Sb mv v2 w (w2.setCell ⟨Sb, 2, none⟩ v2) := by
  have hOlt := h.lt
  obtain ⟨hh, hp, hmid, hO, hbel, hge, -, -⟩ := h
  have hsz := hb.size
  have e1 : w2.heap[Sb]? = w.heap[Sb]? := (hg.block Sb (by omega) (fun e => hO e.symm)).trans (hb.block Sb hOlt)
  have hvO : v2.ownBlock ≠ some Sb := by
    rcases ho with e | e
    · rw [e]; exact hO
    · rw [e]; intro e'; injection e' with e'; omega
  have hset := grownBy_set1 w2 Sb 2 v2
  have hs0 := hbel.size
  refine ⟨e1, ⟨heap_setCell_same w2 Sb 2 _ _ v2 (e1.trans hh), hp, hm.kept hset (.inr hvO), hvO, ?_, hge, hl, hr⟩, ?_⟩
  · have b1 : Below w0.heap.size w0 wA := hbel.trans (hb.mono hs0)
    have b2 := b1.grown hg (by omega) (fun k hk => (hmid.block_ge k hk).1)
    exact b2.setCell hge _
  · refine ⟨hg.os.trans hb.os, hg.tape.trans hb.tape, hg.output.trans hb.output, ?_, fun k hk hkO hkm => ?_, fun k hk => ?_⟩
    · rw [World.size_setCell]; exact Nat.le_trans hsz hg.size
    · exact (Below.heap_setCell w2 _ v2 k hkO).trans ((hg.block k (by omega) (fun e => hkm e.symm)).trans (hb.block k hk))
    · rcases ho with e | e
      · exact .inl (e ▸ hk)
      · rw [e] at hk; injection hk with hk; exact .inr (by omega)
/-! ### The calls -/
section
variable {w0 : World} {Sb : Nat} {ba : Option Addr} {bn bc : Nat} {M : Int} {N : Nat} {bs : List Int}
theorem rstop (w : World) (p bad : Nat) (mv : Value) (made : List Int) (k : Nat) (H : RL w0 Sb ba bn bc M w p bad mv made) :
    Calls Try.prog 21 #[.pointer (some ⟨Sb, 0, none⟩), .int .i64 (k : Int)] w fun e w' => e = .returned (.tuple #[]) ∧ RL w0 Sb ba bn bc M w' p (if bad = 0 then k else bad) mv made ∧ Turn Sb mv mv w w' := by
  refine (stop_any w Sb ba bn bc p mv M bad k H.1).mono ?_
  rintro e w' ⟨rfl, h1, h2⟩
  obtain ⟨h3, h4⟩ := H.only h2 h1 H.2.1
  exact ⟨rfl, h3, h4⟩
/-- What a reading does. -/
def NumR (w0 : World) (Sb : Nat) (ba : Option Addr) (bn bc : Nat) (M : Int) (N : Nat) (w : World) (p bad : Nat) (mv : Value) (made : List Int) (n : Nat) (e : Ending) (w' : World) : Prop :=
  ∃ x q b' : Nat, e = .returned (.int .i64 (x : Int)) ∧ x < 2 ^ n ∧ RL w0 Sb ba bn bc M w' q b' mv made ∧ Turn Sb mv mv w w' ∧ Tr bad (num N (8 * bn) p n) b' (x, q)
theorem rbit (HS : SrcW w0 ba bn M N bs) (w : World) (p bad : Nat) (mv : Value) (made : List Int) (H : RL w0 Sb ba bn bc M w p bad mv made) :
    Calls Try.prog 19 #[.pointer (some ⟨Sb, 0, none⟩)] w (NumR w0 Sb ba bn bc M N w p bad mv made 1) := by
  by_cases hb : bad = 0
  · subst hb
    by_cases hp : p < 8 * bn
    · refine (bit_good w Sb ba bn bc p mv M bs H.1 (H.src HS) hp).mono ?_
      rintro e w' ⟨rfl, h1, h2⟩
      obtain ⟨h3, h4⟩ := H.only h2 h1 (by omega)
      refine ⟨_, _, _, rfl, by omega, h3, h4, fun _ => .inl ⟨rfl, ?_⟩, fun h => absurd rfl h⟩
      unfold num
      rw [if_pos (by omega), HS.num]
    · refine (bit_end w Sb ba bn bc p mv M H.1 HS.few (by have := H.2.1; omega)).mono ?_
      rintro e w' ⟨rfl, h1, h2⟩
      obtain ⟨h3, h4⟩ := H.only h2 h1 H.2.1
      refine ⟨0, _, _, rfl, by omega, h3, h4, fun _ => .inr ⟨by omega, ?_⟩, fun h => absurd rfl h⟩
      unfold num
      rw [if_neg (by omega)]
  · refine (bit_bad w Sb ba bn bc p mv M bad H.1 hb HS.few H.2.1).mono ?_
    rintro e w' ⟨rfl, h1, h2⟩
    obtain ⟨h3, h4⟩ := H.only h2 h1 H.2.1
    exact ⟨0, _, _, rfl, by omega, h3, h4, fun h => absurd h hb, fun _ => rfl⟩
set_option maxRecDepth 100000 in
set_option maxHeartbeats 4000000 in
theorem rnumber_bad (w : World) (p n bad : Nat) (mv : Value) (h : RS w Sb ba bn bc p mv M bad) (hb : bad ≠ 0) (hbn : bn ≤ 1000000000) (hn : n ≤ 16) (hp : p ≤ 8 * bn) :
    Calls Try.prog 20 #[.pointer (some ⟨Sb, 0, none⟩), .int .i64 (n : Int)] w fun e w' => e = .returned (.int .i64 0) ∧ RS w' Sb ba bn bc p mv M bad ∧ OnlyAt Sb w w' := by
  have HR := Lib.hid h
  have HBAD := Lib.hid hb
  clear h hb
  go_enter Try.func20, Try.ntmps20
  go_wp2_with fail
  go_loopw [5, 6, 7] (fun vk vo vi wr => ∃ i : Nat, vi = .int .i64 (i : Int) ∧ i ≤ n ∧ vo = .int .i64 ((2 ^ i : Nat) : Int) ∧ vk = .int .i64 0 ∧ RS wr Sb ba bn bc p mv M bad ∧ OnlyAt Sb w wr) (fun _ _ vi _ => n - (intOf vi).toNat)
  case atStart => exact ⟨0, rfl, Nat.zero_le _, rfl, rfl, HR.out, OnlyAt.refl _ _⟩
  case round =>
    obtain ⟨i, rfl, hi, rfl, rfl, hrs, ho⟩ := hrel
    have HRS := Lib.hid hrs
    have HO := Lib.hid ho
    have hp2 : 2 ^ i ≤ 65536 := by have := Nat.pow_le_pow_right (n := 2) (by omega) (show i ≤ 16 by omega); simpa using this
    have HP2 : Hid (2 ^ (i + 1) = 2 * 2 ^ i) := by show _ = _; rw [Nat.pow_succ, Nat.mul_comm]
    obtain ⟨o, ho2⟩ : ∃ o, 2 ^ i = o := ⟨_, rfl⟩
    rw [ho2] at hp2 HP2
    rw [ho2]
    clear hrs ho ho2 HR
    by_cases hlt : i < n
    · have hli : (i : Int) < (n : Int) := by omega
      have hcall := bit_bad wr Sb ba bn bc p mv M bad HRS.out HBAD.out hbn hp
      go_wp2_with fail
      refine hcall.mono ?_
      rintro e w2 ⟨rfl, hr2, ho2⟩
      have HR2 := Lib.hid hr2
      have HO2 := Lib.hid (HO.out.trans ho2)
      clear hr2 ho2 hcall
      go_wp2_with fail
      go_roundw
      case rel => exact ⟨i + 1, by go_num, by omega, by rw [HP2.out]; go_num, by go_num, HR2.out, HO2.out⟩
      case measure => simp [intOf]; go_num
    · have hli : ¬ (i : Int) < (n : Int) := by omega
      go_wp2_with fail
      go_ret
      exact ⟨rfl, HRS.out, HO.out⟩
theorem rnum (HS : SrcW w0 ba bn M N bs) (w : World) (p bad : Nat) (mv : Value) (made : List Int) (n : Nat) (hn : n ≤ 16) (H : RL w0 Sb ba bn bc M w p bad mv made) :
    Calls Try.prog 20 #[.pointer (some ⟨Sb, 0, none⟩), .int .i64 (n : Int)] w (NumR w0 Sb ba bn bc M N w p bad mv made n) := by
  by_cases hb : bad = 0
  · subst hb
    refine (rnumber_any w Sb ba bn bc p n mv M bs H.1 (H.src HS) hn H.2.1).mono ?_
    rw [← HS.num]
    rintro e w' (⟨x, q, h1, rfl, h2, h3⟩ | ⟨h1, x, q, hx, hq, rfl, h2, h3⟩)
    · have hk := num_ok h1
      obtain ⟨h4, h5⟩ := H.only h3 h2 hk.2.2
      exact ⟨x, q, 0, rfl, hk.1, h4, h5, fun _ => .inl ⟨rfl, h1⟩, fun h => absurd rfl h⟩
    · obtain ⟨h4, h5⟩ := H.only h3 h2 hq
      exact ⟨x, q, 3, rfl, hx, h4, h5, fun _ => .inr ⟨by omega, h1⟩, fun h => absurd rfl h⟩
  · refine (rnumber_bad w p n bad mv H.1 hb HS.few hn H.2.1).mono ?_
    rintro e w' ⟨rfl, h1, h2⟩
    obtain ⟨h3, h4⟩ := H.only h2 h1 H.2.1
    exact ⟨0, _, _, rfl, Nat.two_pow_pos n, h3, h4, fun h => absurd h hb, fun _ => rfl⟩
end
end Go.Proofs.Ytkminkeaeclanaa
