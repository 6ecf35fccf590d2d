/- How great what is told is; what the calls hand back. -/
import Derived.Test.YtkpiinjhcckhfaaGreatDoorTrOver
import Derived.Test.YtkpiinjhcckhfaaGreatDoorTrParse
namespace Go.Proofs.YtkpiinjhcckhfaaGreatDoor
open Go.RowKit Plain Go.ChangeShapes Go.WideShapes Go.ChangeAt Go.Great
set_option linter.unusedVariables false
set_option linter.unusedSimpArgs false
def TC (c : CC) : Prop := CoSmall (aloneC c) ∧ (∀ e ∈ c.xs, e.2.data.toList.length ≤ 15000) ∧ c.m.size ≤ 15000
def TX (x : CX) : Prop := ChTiny (ownX x) ∧ (∀ e ∈ x.xs, e.2.data.toList.length ≤ 15000) ∧ x.d.size ≤ 15000
theorem exs_mem {xs : List (ByteArray × ByteArray)} {e : ByteArray × ByteArray} (h : e ∈ xs) : (extT e).length ≤ (exsT xs).length := by
  induction xs with
  | nil => cases h
  | cons x xs ih =>
    have h2 := exsT_cons x xs []
    rw [List.append_nil, List.append_nil] at h2
    rw [h2, List.length_append, List.length_cons]
    rcases List.mem_cons.1 h with rfl | h
    · omega
    · have := ih h; omega
theorem ext_len (e : ByteArray × ByteArray) : e.1.data.toList.length + e.2.data.toList.length ≤ (extT e).length := by
  have := nlB_ge e.2.data.toList
  rw [extT_eq, List.length_append, List.length_cons]; omega
theorem spk_size {L : List UInt8} {x : CX} (h : spkC L = some x) (hl : L.length ≤ 15000) (d : ByteArray) (hd : d.size ≤ 15000) : TX { x with d := d } := by
  obtain ⟨h1, h2, xs, rfl⟩ := spk_back h
  have hx : (spkX L xs).xs = xs := rfl
  have e := congrArg List.length h1
  unfold wordsL at e
  rw [hx] at e
  simp only [List.length_append, List.length_cons] at e
  have hm := fun (y : ByteArray × ByteArray) (hy : y ∈ xs) => exs_mem hy
  have hk := exs_long xs
  have n1 := numW_le (wT L).1
  have n2 := numW_le (wZ L).1
  have key : ∀ y ∈ xs, y.1.size ≤ 15000 ∧ y.2.size ≤ 15000 := fun y hy => by
    have a1 := hm y hy
    have a2 := ext_len y
    rw [Lib.size_eq, Lib.size_eq]
    exact ⟨by omega, by omega⟩
  refine ⟨⟨?_, ?_, ?_, Nat.zero_le _, fun y hy => ?_, (fun p hp => by cases hp), ?_, ?_⟩, fun y hy => ?_, hd⟩
  · rw [Lib.size_eq]; show (spkX L xs).u.data.toList.length ≤ _; omega
  · show d.size ≤ _; omega
  · show xs.length ≤ _; omega
  · have := key y hy; exact ⟨by omega, by omega⟩
  · show _ ≤ (numW (wT L).1).1 ∧ (numW (wT L).1).1 ≤ _; omega
  · show _ ≤ (numW (wZ L).1).1 ∧ (numW (wZ L).1).1 ≤ _; omega
  · have := (key y hy).2; rwa [Lib.size_eq] at this
theorem who_size {x : WX} (h : whoB x = true) (hl : (whoT x).length ≤ 15000) : WhoSmall x := by
  unfold whoB at h
  simp only [Bool.and_eq_true, decide_eq_true_eq] at h
  unfold whoT at hl
  simp only [List.length_append, List.length_cons, List.length_nil] at hl
  refine ⟨?_, ?_, ?_, ?_⟩
  · rw [Lib.size_eq]; omega
  · rw [Lib.size_eq]; omega
  · rw [Lib.size_eq]; omega
  · have h1 := h.1.1.2; have h2 := h.1.2; omega
theorem par_size {L : List UInt8} {c : CC} (h : parseC L = some c) (hl : L.length ≤ 15000) (m : ByteArray) (hm : m.size ≤ 15000) : TC { c with m := m } := by
  obtain ⟨h1, h2, h3⟩ := parse_back h
  obtain ⟨r1, r2, r3⟩ := coR_parts h2
  have e := congrArg List.length h1
  unfold printC frontT autT comT at e
  simp only [List.length_append, List.length_cons, List.length_nil] at e
  have hk := exs_long c.xs
  have key : ∀ y ∈ c.xs, y.1.size ≤ 15000 ∧ y.2.size ≤ 15000 := fun y hy => by
    have a1 := exs_mem hy
    have a2 := ext_len y
    rw [Lib.size_eq, Lib.size_eq]
    exact ⟨by omega, by omega⟩
  have w1 : WhoSmall c.a := who_size r2 (by omega)
  have w2 : WhoSmall c.c := who_size r3 (by omega)
  refine ⟨⟨w1, w2, Nat.zero_le _, ?_, fun y hy => ?_, ?_⟩, fun y hy => ?_, hm⟩
  · show c.xs.length ≤ _; omega
  · have := key y hy; exact ⟨by omega, by omega⟩
  · show m.size ≤ _; omega
  · have := (key y hy).2; rwa [Lib.size_eq] at this
theorem neq_idX (xs : List Int) (hx : xs.length = 20) (w : World) : (binOp .neq 29 (.agg (V8 xs)) (.agg (V8 zeros20))).run Tryz.prog w = .ok (.bool (!(xs == zeros20))) w := by
  rw [run_neq_struct, run_equalIn_arr w 29 20 Tryz.underlying29 _ _ hx zeros_20]
  rfl
theorem build_id0 (W : World) : (Instr.build 29 #[]).run Tryz.prog W = .ok (.agg (V8 zeros20)) W := run_build W _ _ _ (by kernel_rfl)
theorem guardn_id (x y : Operand) (u v : Array Value) (W : World) : (eqGuard .neq 29 x y (.agg u) (.agg v)).run Tryz.prog W = .ok () W := by simp [eqGuard]
/-- What trans.Change hands back. -/
def XRes (B : Nat) (e : Ending) (w' : World) : Option CX → Prop
  | some y => ∃ ya yc, e = .returned (.tuple #[.agg (chA y (.slice ya y.xs.length yc) (.slice none 0 0)), .int .i64 0]) ∧ y.n = zeros20 ∧ y.fs = [] ∧ Rw B w' ya y.xs
  | none => e = .returned (.tuple #[.agg (chA czero (.slice none 0 0) (.slice none 0 0)), .int .i64 4])
/-- What trans.Commit hands back. -/
def CRes (B : Nat) (e : Ending) (w' : World) : Option CC → Prop
  | some y => ∃ pa pc ya yc, e = .returned (.tuple #[.agg (coA y (.slice pa 0 pc) (.slice ya y.xs.length yc)), .int .i64 0]) ∧ y.tr = zeros20 ∧ y.ps = [] ∧ Rw B w' ya y.xs
  | none => e = .returned (.tuple #[.agg (coA cz (.slice none 0 0) (.slice none 0 0)), .int .i64 4])
/-- trans.Commit, for changes that tell less than f. -/
def IHX (f : Nat) : Prop := ∀ (x : CX) (xa : Option Addr) (xc : Nat) (fv : Value) (w : World), x.n.length = 20 → fv.oneCell' = true → RowAt 2 extE w xa x.xs → TX x → szE x.xs < f → EnvC w →
  Calls Tryz.prog 19 #[.agg (chA x (.slice xa x.xs.length xc) fv)] w fun e w' => CRes w.heap.size e w' ((both f).2 x) ∧ Below w.heap.size w w'
def IHC (f : Nat) : Prop := ∀ (c : CC) (xa : Option Addr) (xc : Nat) (pv : Value) (w : World), c.tr.length = 20 → pv.oneCell' = true → RowAt 2 extE w xa c.xs → TC c → szE c.xs < f → EnvC w →
  Calls Tryz.prog 11 #[.agg (coA c pv (.slice xa c.xs.length xc))] w fun e w' => XRes w.heap.size e w' ((both f).1 c) ∧ Below w.heap.size w w'
/-- What changeIn hands back. -/
def InC (B : Nat) (e : Ending) (w' : World) (o : Option CX) : Prop :=
  (∃ y ya yc, o = some y ∧ e = .returned (.tuple #[.agg (chA y (.slice ya y.xs.length yc) (.slice none 0 0)), .bool true]) ∧ y.n = zeros20 ∧ y.fs = [] ∧ Rw B w' ya y.xs) ∨
  (o = none ∧ ∃ y xv, e = .returned (.tuple #[.agg (chA y xv (.slice none 0 0)), .bool false]) ∧ y.n.length = 20 ∧ xv.oneCell' = true)
def InX (B : Nat) (e : Ending) (w' : World) (o : Option CC) : Prop :=
  (∃ y pa pc ya yc, o = some y ∧ e = .returned (.tuple #[.agg (coA y (.slice pa 0 pc) (.slice ya y.xs.length yc)), .bool true]) ∧ y.tr = zeros20 ∧ y.ps = [] ∧ Rw B w' ya y.xs) ∨
  (o = none ∧ ∃ y pv xv, e = .returned (.tuple #[.agg (coA y pv xv), .bool false]) ∧ y.tr.length = 20 ∧ pv.oneCell' = true ∧ xv.oneCell' = true)
theorem neq_strs (a b : ByteArray) (W : World) : (binOp .neq 9 (.string a) (.string b)).run Tryz.prog W = .ok (.bool (!decide (a = b))) W := by
  rw [ne_str a b _ rfl, strq]
theorem same_alone {y c : CC} (h1 : y.tr = zeros20) (h2 : y.ps = []) : sameCB y (aloneC c) ↔ y = aloneC c := by
  obtain ⟨tr, ps, a, b, xs, m⟩ := y
  simp only at h1 h2
  subst h1 h2
  unfold sameCB aloneC
  constructor
  · rintro ⟨rfl, rfl, rfl, rfl⟩; rfl
  · intro h
    simp only [CC.mk.injEq] at h
    exact ⟨h.2.2.1, h.2.2.2.1, h.2.2.2.2.2, h.2.2.2.2.1⟩
theorem same_own {y x : CX} (h1 : y.n = zeros20) (h2 : y.fs = []) : sameXB y (ownX x) ↔ y = ownX x := by
  obtain ⟨n, u, t, z, xs, fs, d⟩ := y
  simp only at h1 h2
  subst h1 h2
  unfold sameXB ownX
  constructor
  · rintro ⟨rfl, rfl, rfl, rfl, rfl⟩; rfl
  · intro h
    simp only [CX.mk.injEq] at h
    exact ⟨h.2.1, h.2.2.1, h.2.2.2.1, h.2.2.2.2.2.2, h.2.2.2.2.1⟩
theorem both_lenX {f : Nat} {x : CX} {y : CC} (h : (both f).2 x = some y) (hs : ∀ e ∈ x.xs, e.2.data.toList.length ≤ 15000) : y.xs.length ≤ 15000 := by
  cases f with
  | zero => cases h
  | succ f =>
    have h : stepX (both f).1 x = some y := h
    unfold stepX at h
    split at h
    · have h := Option.some.inj h
      cases hi : inX (both f).1 x with
      | none =>
        rw [hi] at h
        rw [← h]
        show (1 : Nat) ≤ 15000
        decide
      | some c =>
        rw [hi] at h
        obtain rfl : c = y := h
        unfold inX at hi
        split at hi <;> try (cases hi; done)
        rename_i e he
        split at hi <;> try (cases hi; done)
        split at hi <;> try (cases hi; done)
        rename_i d hd
        split at hi <;> try (cases hi; done)
        split at hi <;> try (cases hi; done)
        rw [← Option.some.inj hi]
        have h1 := hs e (by rw [he]; simp)
        have h2 := congrArg List.length (parse_back hd).1
        have h3 := exs_long d.xs
        unfold printC at h2
        simp only [List.length_append] at h2
        show d.xs.length ≤ _
        omega
    · cases h
theorem both_lenC {f : Nat} {c : CC} {y : CX} (h : (both f).1 c = some y) (hs : ∀ e ∈ c.xs, e.2.data.toList.length ≤ 15000) : y.xs.length ≤ 15000 := by
  cases f with
  | zero => cases h
  | succ f =>
    have h : stepC (both f).2 c = some y := h
    unfold stepC at h
    split at h
    · have h := Option.some.inj h
      cases hi : inC (both f).2 c with
      | none =>
        rw [hi] at h
        rw [← h]
        show (1 : Nat) ≤ 15000
        decide
      | some x =>
        rw [hi] at h
        obtain rfl : x = y := h
        unfold inC at hi
        split at hi <;> try (cases hi; done)
        rename_i e he
        split at hi <;> try (cases hi; done)
        split at hi <;> try (cases hi; done)
        rename_i d hd
        split at hi <;> try (cases hi; done)
        rw [← Option.some.inj hi]
        have h1 := hs e (by rw [he]; simp)
        have h2 := congrArg List.length (spk_back hd).1
        have h3 := exs_long d.xs
        unfold wordsL at h2
        simp only [List.length_append, List.length_cons] at h2
        show d.xs.length ≤ _
        omega
    · cases h
end Go.Proofs.YtkpiinjhcckhfaaGreatDoor
