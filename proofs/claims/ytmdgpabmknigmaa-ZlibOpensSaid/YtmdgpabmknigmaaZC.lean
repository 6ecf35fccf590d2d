/- Frames that are opened, plainly. -/
import Derived.Test.YtmdgpabmknigmaaZB
import Derived.Test.YtmdgpabmknigmaaOpen
/-! Frames that are opened, plainly. -/
namespace Go.Proofs.Ytmdgpabmknigmaa
set_option linter.unusedVariables false
deriving instance DecidableEq for Except
namespace Plain
theorem more_keep {b more : List Int} {M q : Nat} {m : List Int} (hb : ∀ x ∈ b, 0 ≤ x ∧ x ≤ 255) (hmore : ∀ x ∈ more, 0 ≤ x ∧ x ≤ 255) (h : rawOf b M = .ok (q, m)) : rawOf (b.take ((q + 7) / 8) ++ more) M = .ok (q, m) := by
  have hq := rawGo_last _ _ _ _ _ h
  have hn : (q + 7) / 8 ≤ b.length := by omega
  have h1 : rawOf (b.take ((q + 7) / 8)) M = .ok (q, m) := by
    rcases cut_rawOf b hb ((q + 7) / 8) hn M with e | ⟨-, e⟩
    · rw [e]; exact h
    · have := e _ h
      simp only at this
      omega
  have hl : (b.take ((q + 7) / 8)).length = (q + 7) / 8 := by rw [List.length_take]; omega
  have ht : (b.take ((q + 7) / 8) ++ more).take ((q + 7) / 8) = b.take ((q + 7) / 8) := by
    rw [List.take_append_of_le_length (by omega), List.take_take, Nat.min_self]
  rcases cut_rawOf (b.take ((q + 7) / 8) ++ more) (fun x hx => (List.mem_append.1 hx).elim (fun h => hb x (List.mem_of_mem_take h)) (hmore x)) ((q + 7) / 8) (by rw [List.length_append]; omega) M with e | ⟨e, -⟩
  · rw [ht, h1] at e; exact e.symm
  · rw [ht, h1] at e; cases e
/-- A frame of packed bytes of any kind, with its sum. -/
theorem open_frame {x y : Int} {p m more : List Int} {M q : Nat} (hxy : frontN x y = true) (hq : (q + 7) / 8 = p.length) (h : rawOf (p ++ (tail4 m ++ more)) M = .ok (q, m)) :
    openN (x :: y :: p ++ tail4 m ++ more) M = .ok (2 + p.length + 4, m) := by
  have e : x :: y :: p ++ tail4 m ++ more = x :: y :: (p ++ (tail4 m ++ more)) := by simp
  have ht : (tail4 m).length = 4 := rfl
  rw [e, openN, if_neg (by simp)]
  have e0 : (x :: y :: (p ++ (tail4 m ++ more)))[0]?.getD 0 = x := rfl
  have e1 : (x :: y :: (p ++ (tail4 m ++ more)))[1]?.getD 0 = y := rfl
  have e2 : (x :: y :: (p ++ (tail4 m ++ more))).drop 2 = p ++ (tail4 m ++ more) := rfl
  have e3 : (x :: y :: (p ++ (tail4 m ++ more))).drop (2 + p.length) = tail4 m ++ more := by
    rw [← List.drop_drop, e2, List.drop_left]
  rw [e0, e1, hxy, if_neg (by simp), e2, h, openBehind, hq, if_neg (by simp [ht]; omega), e3, if_neg]
  rw [List.take_append_of_le_length (by rw [ht]; exact Nat.le_refl _), List.take_of_length_le (by rw [ht]; exact Nat.le_refl _)]
  simp
theorem known_o1 : openN [120, 156, 75, 4, 0, 0, 98, 0, 98] 9 = .ok (9, [97]) := by decide +kernel
theorem known_o2 : openN [120, 156, 75, 4, 0, 0, 98, 0, 99] 9 = .error 5 := by decide +kernel
end Plain
end Go.Proofs.Ytmdgpabmknigmaa
/-! The chapter's example: the walk. -/
namespace Go.Proofs.Ytmdgpabmknigmaa
open Go.RowKit Plain
set_option linter.unusedVariables false
theorem open_lit (w : World) (xs : List Int) (n : Nat) (M : Int) (most : Nat) (hn : xs.length = n) (hn1 : n ≤ 1000000000) (hx : ∀ x ∈ xs, 0 ≤ x ∧ x ≤ 255) (hM : most = M.toNat) (hm : most ≤ 1000000000) :
    Calls Try.prog 15 #[.slice (some ⟨w.heap.size, 0, none⟩) n n, .int .i64 M] (w.alloc (.cells (xs.map (Value.int .u8)).toArray 5)) fun e w' =>
      ((∃ q m va vc, openN xs most = .ok (q, m) ∧ e = .returned (.tuple #[.slice va m.length vc, .int .i64 (q : Int), .int .i64 0]) ∧ RowB w' va m.length vc m) ∨ ∃ k, openN xs most = .error k ∧ e = .returned (.tuple #[.slice none 0 0, .int .i64 0, .int .i64 (k : Int)])) ∧ Below w.heap.size w w' := by
  have hb : Below w.heap.size w (w.alloc (.cells (xs.map (Value.int .u8)).toArray 5)) := (Below.refl _ _).alloc (Nat.le_refl _) _
  refine (open_any _ n n xs M most _ (row_lit w xs n hn hn1 hx) hn1 hM hm).mono ?_
  rintro e w' (⟨q, m, va, vc, h1, rfl, h3, h4, h5, -⟩ | ⟨k, h1, h2, rfl, h3⟩)
  · exact ⟨.inl ⟨q, m, va, vc, h1, rfl, h3⟩, hb.trans (h5.mono hb.size)⟩
  · exact ⟨.inr ⟨k, h1, rfl⟩, hb.trans (h3.mono hb.size)⟩
set_option maxRecDepth 100000 in
set_option maxHeartbeats 4000000 in
theorem known_any (w : World) : Calls Try.prog 17 #[] w fun e w' => e = .returned (.bool true) ∧ Below w.heap.size w w' := by
  go_enter Try.func17, Try.ntmps17
  go_wp2_with fail
  refine (open_lit w [120, 156, 75, 4, 0, 0, 98, 0, 98] 9 9 9 rfl (by omega) (by decide) rfl (by omega)).mono ?_
  rintro e w2 ⟨⟨q, m, va, vc, hr, rfl, hv⟩ | ⟨k, hr, rfl⟩, hb2⟩
  rotate_left
  · rw [known_o1] at hr; cases hr
  rw [known_o1] at hr
  injection hr with hr
  injection hr with h1 h2
  subst h1 h2
  have HB2 : Hid (Below w.heap.size w w2) := hb2
  have HV2 : Hid (RowB w2 va 1 vc [97]) := hv
  clear hv hb2
  go_wp2_with fail
  refine (open_lit w2 [120, 156, 75, 4, 0, 0, 98, 0, 99] 9 9 9 rfl (by omega) (by decide) rfl (by omega)).mono ?_
  rintro e w3 ⟨⟨q, m, va3, vc3, hr, rfl, hv⟩ | ⟨k, hr, rfl⟩, hb3⟩
  · rw [known_o2] at hr; cases hr
  rw [known_o2] at hr
  injection hr with h1
  subst h1
  have HB3 : Hid (Below w.heap.size w w3) := HB2.out.trans (hb3.mono HB2.out.size)
  have ht := text_run w3 va 1 vc _ (HV2.out.below hb3).bytes
  have hs : strOfNums [97] = ⟨#[97]⟩ := by decide +kernel
  rw [hs] at ht
  clear hb3 HB2 HV2
  go_wp2_with fail
  go_ret
  exact ⟨rfl, HB3.out⟩
end Go.Proofs.Ytmdgpabmknigmaa
