/- Lengths and distances of copies: the walks. -/
import Derived.Test.YtkminkeaeclanaaGive
import Derived.Deep.RegionHeld3
namespace Go.Proofs.Ytkminkeaeclanaa
open Go.RowKit Plain
set_option linter.unusedVariables false
theorem number_ok {w0 : World} {Ob : Nat} {ba : Option Addr} {bn bc N most : Nat} {bs : List Int} (HS : SrcB w0 ba bn bc N most bs) (w : World) (p : Nat) (mv : Value) (made : List Int) (H : OutL 8 w0 Ob ba bn bc N most w p mv made) (n : Nat) (hn : n ≤ 16) (x q : Nat) (h : num N (8 * bn) p n = .ok (x, q)) :
    Calls Try.prog 18 #[.pointer (some ⟨Ob, 0, none⟩), .int .i64 (n : Int)] w fun e w' => e = .returned (.int .i64 (x : Int)) ∧ Turn Ob mv mv w w' ∧ OutL 8 w0 Ob ba bn bc N most w' q mv made :=
  (number_any HS w p mv made H n hn).mono fun e w' hg => by
    obtain ⟨x', q', hr, he, ht, ho⟩ | ⟨k, hr, -⟩ := hg.lift
    · rw [h] at hr; injection hr with hr; injection hr with e1 e2; subst e1 e2; exact ⟨he, ht, ho⟩
    · rw [h] at hr; cases hr
theorem number_err {w0 : World} {Ob : Nat} {ba : Option Addr} {bn bc N most : Nat} {bs : List Int} (HS : SrcB w0 ba bn bc N most bs) (w : World) (p : Nat) (mv : Value) (made : List Int) (H : OutL 8 w0 Ob ba bn bc N most w p mv made) (n : Nat) (hn : n ≤ 16) (k : Nat) (h : num N (8 * bn) p n = .error k) :
    Calls Try.prog 18 #[.pointer (some ⟨Ob, 0, none⟩), .int .i64 (n : Int)] w fun e w' => e = .panicked [{ v := .iface 55 (.agg #[.int .i64 (k : Int)]), recovered := false }] ∧ Turn Ob mv mv w w' :=
  (number_any HS w p mv made H n hn).mono fun e w' hg => by
    obtain ⟨x', q', hr, -⟩ | ⟨k', hr, he, ht⟩ := hg.lift
    · rw [h] at hr; cases hr
    · rw [h] at hr; injection hr with hr; subst hr; exact ⟨he, ht⟩
def ViaO (A : Act) (R : World → Prop) : Exit → Act → World → Prop
  | .normal, a, w => a = A ∧ R w
  | _, _, _ => False
theorem wp_via_o {P : Program} {c : Code} {Q : Exit → Act → World → Prop} {a : Act} {w : World} {Ob : Nat} {R : World → Prop} (A : Act) (h1 : c.wp P (ViaO A R) a w) (h2 : ∀ W, R W → Q .normal A W) : c.wp P Q a w := by
  refine wp_mono h1 fun e a' w' h => ?_
  cases e with
  | normal =>
    obtain ⟨ha, hr⟩ := h
    subst ha
    exact h2 w' hr
  | _ => exact h.elim
/-- A piece that panics so. -/
def PanicPost (chain : List PanicEntry) (R : World → Prop) : Exit → Act → World → Prop
  | .panic ch, a, w => ch = chain ∧ a.defers = [] ∧ R w
  | _, _, _ => False
theorem panicPost_put {chain ch : List PanicEntry} {R : World → Prop} {a : Act} {d : Option Tmp} {v : Value} {w : World} (h : PanicPost chain R (.panic ch) (a.put d v) w) : PanicPost chain R (.panic ch) a w := by
  obtain ⟨h1, h2, h3⟩ := h
  exact ⟨h1, by cases d <;> exact h2, h3⟩
theorem wp_panics {P : Program} {c : Code} {Q : Exit → Act → World → Prop} {a : Act} {w : World} (chain : List PanicEntry) (R : World → Prop) (h1 : c.wp P (PanicPost chain R) a w) (h2 : ∀ (a' : Act) (W : World), a'.defers = [] → R W → Q (.panic chain) a' W) : c.wp P Q a w := by
  refine wp_mono h1 fun e a' w' h => ?_
  cases e with
  | panic ch =>
    obtain ⟨rfl, hd, hr⟩ := h
    exact h2 a' w' hd hr
  | _ => exact h.elim
set_option maxRecDepth 100000 in
set_option maxHeartbeats 8000000 in
theorem length_any {w0 : World} {Ob : Nat} {ba : Option Addr} {bn bc N most : Nat} {bs : List Int} (HS : SrcB w0 ba bn bc N most bs) (w : World) (p : Nat) (mv : Value) (made : List Int) (H : OutL 8 w0 Ob ba bn bc N most w p mv made) (s : Nat) (hs1 : 257 ≤ s) (hs2 : s ≤ 285) :
    Calls Try.prog 42 #[.pointer (some ⟨Ob, 0, none⟩), .int .i64 (s : Int)] w (Got w0 Ob ba bn bc N most w mv made (lengthN N (8 * bn) p s)) := by
  have HSS := Lib.hid HS
  have HO := Lib.hid H
  clear HS H
  by_cases h1 : s ≤ 264
  · have h1i : (s : Int) ≤ 264 := by omega
    go_enter Try.func42, Try.ntmps42
    go_wp2_with fail
    go_ret
    refine ⟨Turn.refl _ _ _, .inl ⟨s - 254, p, by unfold lengthN; rw [if_pos h1], congrArg (fun z => Ending.returned (.int .i64 z)) (by omega), HO.out⟩⟩
  · by_cases h2 : s = 285
    · subst h2
      go_enter Try.func42, Try.ntmps42
      go_wp2_with fail
      go_ret
      exact ⟨Turn.refl _ _ _, .inl ⟨258, p, rfl, rfl, HO.out⟩⟩
    · obtain ⟨f, hf⟩ : ∃ f, (s - 261) / 4 = f := ⟨_, rfl⟩
      obtain ⟨g, hg⟩ : ∃ g, (4 + (s - 261) % 4) * 2 ^ f = g := ⟨_, rfl⟩
      have hf5 : f ≤ 5 := by omega
      have hg2 : g ≤ 224 := by
        have h3 := Nat.pow_le_pow_right (n := 2) (by omega) hf5
        have h4 := Nat.mul_le_mul (show 4 + (s - 261) % 4 ≤ 7 by omega) h3
        omega
      have h1i : ¬ (s : Int) ≤ 264 := by omega
      have h2i : ((s : Int) == 285) = false := by simp; omega
      have hsi : (s : Int) ≤ 284 := by omega
      have hsj : (265 : Int) ≤ s := by omega
      have HF := Lib.hid hf
      have HG := Lib.hid hg
      obtain ⟨k, hk, hs⟩ : ∃ k : Nat, s - 261 = k ∧ (s : Int) - 261 = (k : Int) := ⟨s - 261, rfl, by omega⟩
      obtain ⟨m, hm⟩ : ∃ m, k % 4 = m := ⟨_, rfl⟩
      have hmul : (4 + (m : Int)) * 2 ^ f = (g : Int) := by rw [← hg, hk, hm]; simp
      have hfi : (k : Int) / 4 = (f : Int) := by omega
      have hr0 : IntKind.i64.wrap (k : Int) = (k : Int) := IntWalk.i64_in _ (by omega)
      have hr1 : IntKind.i64.wrap ((s : Int) - 261) = (k : Int) := by rw [hs]; exact hr0
      have hr2 : (k : Int).tmod 4 = (m : Int) := by rw [Int.tmod_eq_emod_of_nonneg (by omega)]; omega
      have hr3 : IntKind.i64.wrap (4 + (m : Int)) = 4 + (m : Int) := IntWalk.i64_in _ (by omega)
      have hr4 : IntKind.i64.wrap (3 + (g : Int)) = 3 + (g : Int) := IntWalk.i64_in _ (by omega)
      have hr5 : IntKind.i64.wrap (g : Int) = (g : Int) := IntWalk.i64_in _ (by omega)
      clear hf hg hk hm
      cases hr : num N (8 * bn) p f with
      | ok v =>
        obtain ⟨x, q⟩ := v
        have hx5 : x ≤ 31 := by
          have := (num_ok hr).1
          have h3 := Nat.pow_le_pow_right (n := 2) (by omega) hf5
          omega
        have HR := Lib.hid hr
        have HCALL : Hid (∀ W, Below w.heap.size w W → Calls Try.prog 18 #[.pointer (some ⟨Ob, 0, none⟩), .int .i64 (f : Int)] W fun e w' => e = .returned (.int .i64 (x : Int)) ∧ Turn Ob mv mv W w' ∧ OutL 8 w0 Ob ba bn bc N most w' q mv made) :=
          fun W hW => number_ok HSS.out W p mv made (HO.out.below hW) f (by omega) x q hr
        have hr6 : IntKind.i64.wrap (3 + (g : Int) + (x : Int)) = 3 + (g : Int) + (x : Int) := IntWalk.i64_in _ (by omega)
        clear hr
        go_enter Try.func42, Try.ntmps42
        go_wp2_with fail
        apply wp_via_o (Ob := Ob) (R := fun W => Turn Ob mv mv w W ∧ OutL 8 w0 Ob ba bn bc N most W q mv made)
        · go_region_with (go_at_call 18; refine (HCALL.out _ ((Below.refl _ _).drew)).mono ?_; rintro e w9 ⟨rfl, ht, ho⟩; have HT := Lib.hid ht; have HO9 := Lib.hid ho; clear ht ho)
          exact ⟨rfl, HT.out.after ((Below.refl _ _).drew), HO9.out⟩
        rintro w9 ⟨ht, ho⟩
        have HT := Lib.hid ht
        have HO9 := Lib.hid ho
        clear ht ho
        go_wp2_with fail
        go_ret
        refine ⟨HT.out, .inl ⟨3 + g + x, q, by unfold lengthN; rw [if_neg h1, if_neg h2, HF.out, HG.out, HR.out], ?_, HO9.out⟩⟩
        exact congrArg (fun z => Ending.returned (.int .i64 z)) (by omega)
      | error er =>
        have HR := Lib.hid hr
        have HCALL : Hid (∀ W, Below w.heap.size w W → Calls Try.prog 18 #[.pointer (some ⟨Ob, 0, none⟩), .int .i64 (f : Int)] W fun e w' => e = .panicked [{ v := .iface 55 (.agg #[.int .i64 (er : Int)]), recovered := false }] ∧ Turn Ob mv mv W w') :=
          fun W hW => number_err HSS.out W p mv made (HO.out.below hW) f (by omega) er hr
        clear hr
        go_enter Try.func42, Try.ntmps42
        go_wp2_with fail
        refine wp_panics [{ v := .iface 55 (.agg #[.int .i64 (er : Int)]), recovered := false }] (fun W => Turn Ob mv mv w W) ?_ (fun a' W hdf ht => ⟨hdf, ht, .inr ⟨er, by unfold lengthN; rw [if_neg h1, if_neg h2, HF.out, HR.out], rfl⟩⟩)
        refine wp_region_held_drew (S := fun W => Below w.heap.size w W) (by kernel_rfl) ?_ (fun hHeld => ?_)
        · exact (Below.refl _ _).drew
        refine wpAnyH_take (i := 0) (v := ?_) (by simp only [List.getElem?_toArray, List.getElem?_cons_zero]; rfl) (by kernel_rfl) (by kernel_rfl) (by kernel_rfl) (fun _ _ _ h => panicPost_put h) (Or.inl ⟨by rfl, ?_⟩) (by assumption) ?_
        rotate_left
        · intro W hSW
          go_simp
          try with_reducible rfl
        try simp only [Act.put, List.setIfInBounds_toArray, List.set_cons_zero, List.set_cons_succ]
        refine wpAnyH_take (i := 1) (v := ?_) (by simp only [List.getElem?_toArray, List.getElem?_cons_succ, List.getElem?_cons_zero]; rfl) (by kernel_rfl) (by kernel_rfl) (by kernel_rfl) (fun _ _ _ h => panicPost_put h) (Or.inl ⟨by rfl, ?_⟩) (by assumption) ?_
        rotate_left
        · intro W hSW
          go_simp
          try with_reducible rfl
        try simp only [Act.put, List.setIfInBounds_toArray, List.set_cons_zero, List.set_cons_succ]
        refine wpAnyH_take (i := 2) (v := ?_) (by simp only [List.getElem?_toArray, List.getElem?_cons_succ, List.getElem?_cons_zero]; rfl) (by kernel_rfl) (by kernel_rfl) (by kernel_rfl) (fun _ _ _ h => panicPost_put h) (Or.inl ⟨by rfl, ?_⟩) (by assumption) ?_
        rotate_left
        · intro W hSW
          go_simp
          try with_reducible rfl
        try simp only [Act.put, List.setIfInBounds_toArray, List.set_cons_zero, List.set_cons_succ]
        refine wpAnyH_take (i := 3) (v := ?_) (by simp only [List.getElem?_toArray, List.getElem?_cons_succ, List.getElem?_cons_zero]; rfl) (by kernel_rfl) (by kernel_rfl) (by kernel_rfl) (fun _ _ _ h => panicPost_put h) (Or.inl ⟨by rfl, ?_⟩) (by assumption) ?_
        rotate_left
        · intro W hSW
          go_simp
          try with_reducible rfl
        try simp only [Act.put, List.setIfInBounds_toArray, List.set_cons_zero, List.set_cons_succ]
        refine wpAnyH_take (i := 4) (v := ?_) (by simp only [List.getElem?_toArray, List.getElem?_cons_succ, List.getElem?_cons_zero]; rfl) (by kernel_rfl) (by kernel_rfl) (by kernel_rfl) (fun _ _ _ h => panicPost_put h) (Or.inl ⟨by rfl, ?_⟩) (by assumption) ?_
        rotate_left
        · intro W hSW
          go_simp
          try with_reducible rfl
        try simp only [Act.put, List.setIfInBounds_toArray, List.set_cons_zero, List.set_cons_succ]
        refine wpAnyH_take (i := 5) (v := ?_) (by simp only [List.getElem?_toArray, List.getElem?_cons_succ, List.getElem?_cons_zero]; rfl) (by kernel_rfl) (by kernel_rfl) (by kernel_rfl) (fun _ _ _ h => panicPost_put h) (Or.inl ⟨by rfl, ?_⟩) (by assumption) ?_
        rotate_left
        · intro W hSW
          go_simp
          try with_reducible rfl
        try simp only [Act.put, List.setIfInBounds_toArray, List.set_cons_zero, List.set_cons_succ]
        refine wpAnyH_take (i := 6) (v := ?_) (by simp only [List.getElem?_toArray, List.getElem?_cons_succ, List.getElem?_cons_zero]; rfl) (by kernel_rfl) (by kernel_rfl) (by kernel_rfl) (fun _ _ _ h => panicPost_put h) (Or.inl ⟨by rfl, ?_⟩) (by assumption) ?_
        rotate_left
        · intro W hSW
          go_simp
          try with_reducible rfl
        try simp only [Act.put, List.setIfInBounds_toArray, List.set_cons_zero, List.set_cons_succ]
        refine wpAnyH_take (i := 7) (v := ?_) (by simp only [List.getElem?_toArray, List.getElem?_cons_succ, List.getElem?_cons_zero]; rfl) (by kernel_rfl) (by kernel_rfl) (by kernel_rfl) (fun _ _ _ h => panicPost_put h) (Or.inl ⟨by rfl, ?_⟩) (by assumption) ?_
        rotate_left
        · intro W hSW
          go_simp
          try with_reducible rfl
        try simp only [Act.put, List.setIfInBounds_toArray, List.set_cons_zero, List.set_cons_succ]
        refine wpAnyH_take (i := 8) (v := ?_) (by simp only [List.getElem?_toArray, List.getElem?_cons_succ, List.getElem?_cons_zero]; rfl) (by kernel_rfl) (by kernel_rfl) (by kernel_rfl) (fun _ _ _ h => panicPost_put h) (Or.inl ⟨by rfl, ?_⟩) (by assumption) ?_
        rotate_left
        · intro W hSW
          go_simp
          try with_reducible rfl
        try simp only [Act.put, List.setIfInBounds_toArray, List.set_cons_zero, List.set_cons_succ]
        refine wpAnyH_take (i := 9) (v := ?_) (by simp only [List.getElem?_toArray, List.getElem?_cons_succ, List.getElem?_cons_zero]; rfl) (by kernel_rfl) (by kernel_rfl) (by kernel_rfl) (fun _ _ _ h => panicPost_put h) (Or.inl ⟨by rfl, ?_⟩) (by assumption) ?_
        rotate_left
        · intro W hSW
          go_simp
          try with_reducible rfl
        try simp only [Act.put, List.setIfInBounds_toArray, List.set_cons_zero, List.set_cons_succ]
        refine wpAnyH_take (i := 10) (v := ?_) (by simp only [List.getElem?_toArray, List.getElem?_cons_succ, List.getElem?_cons_zero]; rfl) (by kernel_rfl) (by kernel_rfl) (by kernel_rfl) (fun _ _ _ h => panicPost_put h) (Or.inl ⟨by rfl, ?_⟩) (by assumption) ?_
        rotate_left
        · intro W hSW
          go_simp
          try with_reducible rfl
        try simp only [Act.put, List.setIfInBounds_toArray, List.set_cons_zero, List.set_cons_succ]
        refine wpAnyH_ready (rs := [11]) (by kernel_rfl) (by simp) ?_
        refine AllReadyH.cons (by simp only [List.getElem?_toArray, List.getElem?_cons_succ, List.getElem?_cons_zero]; rfl) (fun K hK => ?_) AllReadyH.nil
        go_simp
        refine (HCALL.out _ ((Below.refl _ _).drew)).mono ?_
        rintro e w9 ⟨rfl, ht⟩
        have HT := Lib.hid ht
        clear ht hK
        exact ⟨rfl, rfl, HT.out.after ((Below.refl _ _).drew)⟩
set_option maxRecDepth 100000 in
set_option maxHeartbeats 8000000 in
theorem distance_any {w0 : World} {Ob : Nat} {ba : Option Addr} {bn bc N most : Nat} {bs : List Int} (HS : SrcB w0 ba bn bc N most bs) (w : World) (p : Nat) (mv : Value) (made : List Int) (H : OutL 8 w0 Ob ba bn bc N most w p mv made) (s : Nat) (hs2 : s ≤ 100000) :
    Calls Try.prog 44 #[.pointer (some ⟨Ob, 0, none⟩), .int .i64 (s : Int)] w (Got w0 Ob ba bn bc N most w mv made (distN N (8 * bn) p s)) := by
  have HSS := Lib.hid HS
  have HO := Lib.hid H
  clear HS H
  by_cases h1 : 30 ≤ s
  · have h1i : (30 : Int) ≤ s := by omega
    go_enter Try.func44, Try.ntmps44
    go_wp2_with fail
    refine (with_any 4 w).mono ?_
    rintro e w2 ⟨rfl, rfl⟩
    dsimp only [thrown]
    go_wp2_with fail
    exact ⟨rfl, Turn.refl _ _ _, .inr ⟨4, by unfold distN; rw [if_pos h1], rfl⟩⟩
  · have h1i : ¬ (30 : Int) ≤ s := by omega
    by_cases h2 : s ≤ 3
    · have h2i : (s : Int) ≤ 3 := by omega
      go_enter Try.func44, Try.ntmps44
      go_wp2_with fail
      go_ret
      refine ⟨Turn.refl _ _ _, .inl ⟨s + 1, p, by unfold distN; rw [if_neg h1, if_pos h2], ?_, HO.out⟩⟩
      exact congrArg (fun z => Ending.returned (.int .i64 z)) (by omega)
    · obtain ⟨f, hf⟩ : ∃ f, (s - 2) / 2 = f := ⟨_, rfl⟩
      obtain ⟨g, hg⟩ : ∃ g, (2 + s % 2) * 2 ^ f = g := ⟨_, rfl⟩
      have hf5 : f ≤ 13 := by omega
      have hg2 : g ≤ 24576 := by
        have h3 := Nat.pow_le_pow_right (n := 2) (by omega) hf5
        have h4 := Nat.mul_le_mul (show 2 + s % 2 ≤ 3 by omega) h3
        omega
      have h2i : ¬ (s : Int) ≤ 3 := by omega
      have HF := Lib.hid hf
      have HG := Lib.hid hg
      obtain ⟨k, hk, hs⟩ : ∃ k : Nat, s - 2 = k ∧ (s : Int) - 2 = (k : Int) := ⟨s - 2, rfl, by omega⟩
      obtain ⟨m, hm⟩ : ∃ m, s % 2 = m := ⟨_, rfl⟩
      have hmul : (2 + (m : Int)) * 2 ^ f = (g : Int) := by rw [← hg, hm]; simp
      have hfi : (k : Int) / 2 = (f : Int) := by omega
      have hr2 : (s : Int).tmod 2 = (m : Int) := by rw [Int.tmod_eq_emod_of_nonneg (by omega)]; omega
      have hr3 : IntKind.i64.wrap (2 + (m : Int)) = 2 + (m : Int) := IntWalk.i64_in _ (by omega)
      have hr4 : IntKind.i64.wrap (1 + (g : Int)) = 1 + (g : Int) := IntWalk.i64_in _ (by omega)
      have hr5 : IntKind.i64.wrap (g : Int) = (g : Int) := IntWalk.i64_in _ (by omega)
      clear hf hg hk hm
      cases hr : num N (8 * bn) p f with
      | ok v =>
        obtain ⟨x, q⟩ := v
        have hx5 : x ≤ 8191 := by
          have := (num_ok hr).1
          have h3 := Nat.pow_le_pow_right (n := 2) (by omega) hf5
          omega
        have HR := Lib.hid hr
        have HCALL : Hid (∀ W, Below w.heap.size w W → Calls Try.prog 18 #[.pointer (some ⟨Ob, 0, none⟩), .int .i64 (f : Int)] W fun e w' => e = .returned (.int .i64 (x : Int)) ∧ Turn Ob mv mv W w' ∧ OutL 8 w0 Ob ba bn bc N most w' q mv made) :=
          fun W hW => number_ok HSS.out W p mv made (HO.out.below hW) f (by omega) x q hr
        have hr6 : IntKind.i64.wrap (1 + (g : Int) + (x : Int)) = 1 + (g : Int) + (x : Int) := IntWalk.i64_in _ (by omega)
        clear hr
        go_enter Try.func44, Try.ntmps44
        go_wp2_with fail
        apply wp_via_o (Ob := Ob) (R := fun W => Turn Ob mv mv w W ∧ OutL 8 w0 Ob ba bn bc N most W q mv made)
        · go_region_with (go_at_call 18; refine (HCALL.out _ ((Below.refl _ _).drew)).mono ?_; rintro e w9 ⟨rfl, ht, ho⟩; have HT := Lib.hid ht; have HO9 := Lib.hid ho; clear ht ho)
          exact ⟨rfl, HT.out.after ((Below.refl _ _).drew), HO9.out⟩
        rintro w9 ⟨ht, ho⟩
        have HT := Lib.hid ht
        have HO9 := Lib.hid ho
        clear ht ho
        go_wp2_with fail
        go_ret
        refine ⟨HT.out, .inl ⟨1 + g + x, q, by unfold distN; rw [if_neg h1, if_neg h2, HF.out, HG.out, HR.out], ?_, HO9.out⟩⟩
        exact congrArg (fun z => Ending.returned (.int .i64 z)) (by omega)
      | error er =>
        have HR := Lib.hid hr
        have HCALL : Hid (∀ W, Below w.heap.size w W → Calls Try.prog 18 #[.pointer (some ⟨Ob, 0, none⟩), .int .i64 (f : Int)] W fun e w' => e = .panicked [{ v := .iface 55 (.agg #[.int .i64 (er : Int)]), recovered := false }] ∧ Turn Ob mv mv W w') :=
          fun W hW => number_err HSS.out W p mv made (HO.out.below hW) f (by omega) er hr
        clear hr
        go_enter Try.func44, Try.ntmps44
        go_wp2_with fail
        refine wp_panics [{ v := .iface 55 (.agg #[.int .i64 (er : Int)]), recovered := false }] (fun W => Turn Ob mv mv w W) ?_ (fun a' W hdf ht => ⟨hdf, ht, .inr ⟨er, by unfold distN; rw [if_neg h1, if_neg h2, HF.out, HR.out], rfl⟩⟩)
        refine wp_region_held_drew (S := fun W => Below w.heap.size w W) (by kernel_rfl) ?_ (fun hHeld => ?_)
        · exact (Below.refl _ _).drew
        refine wpAnyH_take (i := 0) (v := ?_) (by simp only [List.getElem?_toArray, List.getElem?_cons_zero]; rfl) (by kernel_rfl) (by kernel_rfl) (by kernel_rfl) (fun _ _ _ h => panicPost_put h) (Or.inl ⟨by rfl, ?_⟩) (by assumption) ?_
        rotate_left
        · intro W hSW
          go_simp
          try with_reducible rfl
        try simp only [Act.put, List.setIfInBounds_toArray, List.set_cons_zero, List.set_cons_succ]
        refine wpAnyH_take (i := 1) (v := ?_) (by simp only [List.getElem?_toArray, List.getElem?_cons_succ, List.getElem?_cons_zero]; rfl) (by kernel_rfl) (by kernel_rfl) (by kernel_rfl) (fun _ _ _ h => panicPost_put h) (Or.inl ⟨by rfl, ?_⟩) (by assumption) ?_
        rotate_left
        · intro W hSW
          go_simp
          try with_reducible rfl
        try simp only [Act.put, List.setIfInBounds_toArray, List.set_cons_zero, List.set_cons_succ]
        refine wpAnyH_take (i := 2) (v := ?_) (by simp only [List.getElem?_toArray, List.getElem?_cons_succ, List.getElem?_cons_zero]; rfl) (by kernel_rfl) (by kernel_rfl) (by kernel_rfl) (fun _ _ _ h => panicPost_put h) (Or.inl ⟨by rfl, ?_⟩) (by assumption) ?_
        rotate_left
        · intro W hSW
          go_simp
          try with_reducible rfl
        try simp only [Act.put, List.setIfInBounds_toArray, List.set_cons_zero, List.set_cons_succ]
        refine wpAnyH_take (i := 3) (v := ?_) (by simp only [List.getElem?_toArray, List.getElem?_cons_succ, List.getElem?_cons_zero]; rfl) (by kernel_rfl) (by kernel_rfl) (by kernel_rfl) (fun _ _ _ h => panicPost_put h) (Or.inl ⟨by rfl, ?_⟩) (by assumption) ?_
        rotate_left
        · intro W hSW
          go_simp
          try with_reducible rfl
        try simp only [Act.put, List.setIfInBounds_toArray, List.set_cons_zero, List.set_cons_succ]
        refine wpAnyH_take (i := 4) (v := ?_) (by simp only [List.getElem?_toArray, List.getElem?_cons_succ, List.getElem?_cons_zero]; rfl) (by kernel_rfl) (by kernel_rfl) (by kernel_rfl) (fun _ _ _ h => panicPost_put h) (Or.inl ⟨by rfl, ?_⟩) (by assumption) ?_
        rotate_left
        · intro W hSW
          go_simp
          try with_reducible rfl
        try simp only [Act.put, List.setIfInBounds_toArray, List.set_cons_zero, List.set_cons_succ]
        refine wpAnyH_take (i := 5) (v := ?_) (by simp only [List.getElem?_toArray, List.getElem?_cons_succ, List.getElem?_cons_zero]; rfl) (by kernel_rfl) (by kernel_rfl) (by kernel_rfl) (fun _ _ _ h => panicPost_put h) (Or.inl ⟨by rfl, ?_⟩) (by assumption) ?_
        rotate_left
        · intro W hSW
          go_simp
          try with_reducible rfl
        try simp only [Act.put, List.setIfInBounds_toArray, List.set_cons_zero, List.set_cons_succ]
        refine wpAnyH_take (i := 6) (v := ?_) (by simp only [List.getElem?_toArray, List.getElem?_cons_succ, List.getElem?_cons_zero]; rfl) (by kernel_rfl) (by kernel_rfl) (by kernel_rfl) (fun _ _ _ h => panicPost_put h) (Or.inl ⟨by rfl, ?_⟩) (by assumption) ?_
        rotate_left
        · intro W hSW
          go_simp
          try with_reducible rfl
        try simp only [Act.put, List.setIfInBounds_toArray, List.set_cons_zero, List.set_cons_succ]
        refine wpAnyH_take (i := 7) (v := ?_) (by simp only [List.getElem?_toArray, List.getElem?_cons_succ, List.getElem?_cons_zero]; rfl) (by kernel_rfl) (by kernel_rfl) (by kernel_rfl) (fun _ _ _ h => panicPost_put h) (Or.inl ⟨by rfl, ?_⟩) (by assumption) ?_
        rotate_left
        · intro W hSW
          go_simp
          try with_reducible rfl
        try simp only [Act.put, List.setIfInBounds_toArray, List.set_cons_zero, List.set_cons_succ]
        refine wpAnyH_take (i := 8) (v := ?_) (by simp only [List.getElem?_toArray, List.getElem?_cons_succ, List.getElem?_cons_zero]; rfl) (by kernel_rfl) (by kernel_rfl) (by kernel_rfl) (fun _ _ _ h => panicPost_put h) (Or.inl ⟨by rfl, ?_⟩) (by assumption) ?_
        rotate_left
        · intro W hSW
          go_simp
          try with_reducible rfl
        try simp only [Act.put, List.setIfInBounds_toArray, List.set_cons_zero, List.set_cons_succ]
        refine wpAnyH_take (i := 9) (v := ?_) (by simp only [List.getElem?_toArray, List.getElem?_cons_succ, List.getElem?_cons_zero]; rfl) (by kernel_rfl) (by kernel_rfl) (by kernel_rfl) (fun _ _ _ h => panicPost_put h) (Or.inl ⟨by rfl, ?_⟩) (by assumption) ?_
        rotate_left
        · intro W hSW
          go_simp
          try with_reducible rfl
        try simp only [Act.put, List.setIfInBounds_toArray, List.set_cons_zero, List.set_cons_succ]
        refine wpAnyH_ready (rs := [10]) (by kernel_rfl) (by simp) ?_
        refine AllReadyH.cons (by simp only [List.getElem?_toArray, List.getElem?_cons_succ, List.getElem?_cons_zero]; rfl) (fun K hK => ?_) AllReadyH.nil
        go_simp
        refine (HCALL.out _ ((Below.refl _ _).drew)).mono ?_
        rintro e w9 ⟨rfl, ht⟩
        have HT := Lib.hid ht
        clear ht hK
        exact ⟨rfl, rfl, HT.out.after ((Below.refl _ _).drew)⟩
end Go.Proofs.Ytkminkeaeclanaa
