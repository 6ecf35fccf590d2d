/- Parts of a slice of bytes. -/
import Derived.Test.YthemolkmciofaaaDoorBytes
namespace Go.Proofs.YthemolkmciofaaaDoor
open Go.RowKit
set_option linter.unusedVariables false
/-- The address behind 'a[l:]'. -/
def subA (a : Option Addr) (cap l : Nat) : Option Addr := if cap = l then a else a.map (·.add l)
theorem slice_sub (a : Option Addr) (m cap lo hi : Nat) (h1 : lo ≤ hi) (h2 : hi ≤ cap) (w : World) :
    (Instr.sliceAt 39 (.slice a m cap) (some (.int .i64 (lo : Int))) (some (.int .i64 (hi : Int))) none).run Tryd.prog w = .ok (.slice (subA a cap lo) (hi - lo) (cap - lo)) w := by
  have hsz : ∀ W : World, (sizeOf (Tryd.prog.elem 39)).run Tryd.prog W = .ok 1 W := fun W => by kernel_rfl
  rw [run_sliceAt_slice w 39 _ _ _ _ (by kernel_rfl), run_slice_lh w 39 a m cap (by kernel_rfl) .i64 .i64 (lo : Int) (hi : Int) (by omega) (by omega) (by omega), hsz]
  simp [Result.andThen_ok, sliced, subA]
theorem slice_from (a : Option Addr) (m cap lo : Nat) (h1 : lo ≤ m) (h2 : m ≤ cap) (w : World) :
    (Instr.sliceAt 39 (.slice a m cap) (some (.int .i64 (lo : Int))) none none).run Tryd.prog w = .ok (.slice (subA a cap lo) (m - lo) (cap - lo)) w := by
  have hsz : ∀ W : World, (sizeOf (Tryd.prog.elem 39)).run Tryd.prog W = .ok 1 W := fun W => by kernel_rfl
  rw [run_sliceAt_slice w 39 _ _ _ _ (by kernel_rfl), run_slice_l w 39 a m cap (by kernel_rfl) .i64 (lo : Int) (by omega) (by omega), hsz]
  simp [Result.andThen_ok, sliced, subA]
theorem slice_to (a : Option Addr) (m cap hi : Nat) (h2 : hi ≤ cap) (w : World) :
    (Instr.sliceAt 39 (.slice a m cap) none (some (.int .i64 (hi : Int))) none).run Tryd.prog w = .ok (.slice a hi cap) w := by
  have hsz : ∀ W : World, (sizeOf (Tryd.prog.elem 39)).run Tryd.prog W = .ok 1 W := fun W => by kernel_rfl
  have h0 : ∀ x : Addr, x.add 0 = x := fun x => by unfold Addr.add; simp
  rw [run_sliceAt_slice w 39 _ _ _ _ (by kernel_rfl), run_slice_h w 39 a m cap (by kernel_rfl) .i64 (hi : Int) (by omega) (by omega), hsz]
  simp [Result.andThen_ok, sliced, h0]
def sizeV : Value → Nat
  | .slice _ n _ => n
  | _ => 0
theorem Bytes.part {w : World} {a : Option Addr} {m : Nat} {xs : List Int} (h : Bytes w a m xs) (cap lo hi : Nat) (h1 : lo ≤ hi) (h2 : hi ≤ m) (h3 : m ≤ cap) : Bytes w (subA a cap lo) (hi - lo) ((xs.drop lo).take (hi - lo)) := by
  by_cases h0 : hi = lo
  · subst h0
    rw [Nat.sub_self, List.take_zero]
    exact ⟨rfl, by omega, by simp, .inl rfl⟩
  · have hm : m ≠ 0 := by omega
    obtain ⟨b, off, rfl⟩ : ∃ b off, a = some ⟨b, off, none⟩ := by
      rcases h.2.2.2 with h | ⟨b, off, rfl, -⟩
      · exact absurd h hm
      · exact ⟨b, off, rfl⟩
    have e : subA (some ⟨b, off, none⟩) cap lo = some ⟨b, off + lo, none⟩ := by
      unfold subA
      rw [if_neg (by omega)]
      show some (Addr.add _ _) = _
      unfold Addr.add
      split <;> simp_all
    rw [e]
    exact h.sub lo (hi - lo) (by omega)
theorem ownsRow_below {w w' : World} {base : Nat} {e : TypeId} {size : Nat} {v : Value} {n : Nat} {xs : List Value} (h : w.ownsRow base e size v n xs) (hb : Below w.heap.size w w') : w'.ownsRow base e size v n xs := by
  obtain ⟨h1, h2 | ⟨g, cap, cur, h3, h4, h5, h6⟩⟩ := h
  · exact ⟨h1, .inl h2⟩
  · refine ⟨h1, .inr ⟨g, cap, cur, h3, h4, ?_, h6⟩⟩
    rw [hb.block g (by
      rcases Nat.lt_or_ge g w.heap.size with h | h
      · exact h
      · simp [Array.getElem?_eq_none h] at h5)]
    exact h5
theorem ownsRow_kept {w w' : World} {base : Nat} {e : TypeId} {size : Nat} {v : Value} {n : Nat} {xs : List Value} (h : w.ownsRow base e size v n xs) (hbase : base ≤ w.heap.size) (hg : w.grownBy w' v.ownBlock) : Below base w w' := by
  refine (Below.refl base w).grown hg hbase fun k hk => ?_
  obtain ⟨h1, ⟨rfl, rfl⟩ | ⟨g, cap, cur, rfl, h4, h5⟩⟩ := h
  · cases hk
  · simp only [Value.ownBlock, Option.some.injEq] at hk; omega
/-- A row of parts that the call owns, read. -/
theorem subA_nil {a : Option Addr} {cap l : Nat} (h : a = none → cap = 0) : subA a cap l = none → cap - l = 0 := by
  intro e
  unfold subA at e
  split at e
  · omega
  · cases a with
    | none => have := h rfl; omega
    | some x => cases e
end Go.Proofs.YthemolkmciofaaaDoor
