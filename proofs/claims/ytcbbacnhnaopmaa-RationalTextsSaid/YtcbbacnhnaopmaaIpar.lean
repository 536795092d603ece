/- Parse of package integer and of its specification: both return the same. -/
import Derived.Test.YtcbbacnhnaopmaaIaid0
import Derived.Lib.IndexBytes
namespace Go.Proofs.Ytcbbacnhnaopmaa
open Go.RowKit

theorem numZ_len {b : Bool} {l : List UInt8} : (dg (pZ b l).natAbs).length ≤ 900 := by
  cases h : isT l
  · rw [pZ_no h, show (0 : Int).natAbs = 0 from rfl, dg_zero]; simp
  · have h1 := num_len2 h
    unfold pZ
    rw [h]
    cases b <;> simpa using h1
theorem txZ_nat (n : Nat) : txZ (n : Int) = tx n := by
  unfold txZ
  rw [if_neg (by unfold sgnZ; rw [if_neg (by omega)]; split <;> omega)]
  rfl
theorem txZ_neg {n : Nat} (h : n ≠ 0) : txZ (-(n : Int)) = 45 :: tx n := by
  unfold txZ
  rw [if_pos (by unfold sgnZ; rw [if_pos (by omega)]; omega), Int.natAbs_neg]
  rfl
/-- Both parsers return the same, and what they accept is the text. -/
theorem iparse_both (s : ByteArray) (hs : s.size ≤ 9223372036854775807) : ∃ z k : Int, (∀ W : World, Calls Try.prog 45 #[.string s] W (RetInt2 W z k)) ∧ (∀ W : World, Calls Try.prog 46 #[.string s] W (RetInt2 W z k)) ∧ (dg z.natAbs).length ≤ 900 ∧ ((k = 0 ∧ (⟨(txZ z).toArray⟩ : ByteArray) = s) ∨ k = 3) := by
  have pos : ((pE false s.data.toList = 0 ∧ (⟨(txZ (pZ false s.data.toList)).toArray⟩ : ByteArray) = s) ∨ pE false s.data.toList = 3) := by
    cases hT : isT s.data.toList
    · exact .inr (pE_no hT)
    · refine .inl ⟨by unfold pE; rw [hT]; rfl, ?_⟩
      rw [show pZ false s.data.toList = (numT s.data.toList : Int) from by unfold pZ; rw [hT]; rfl, txZ_nat, tx_numT hT]
  rcases Nat.eq_zero_or_pos s.size with h0 | h0
  · exact ⟨_, _, fun W => iparse_empty s W hs h0, fun W => riparse_empty s W hs h0, numZ_len, pos⟩
  · by_cases h45 : s[0] = 45
    · refine ⟨_, _, fun W => iparse_neg s W hs h0 h45, fun W => riparse_neg s W hs h0 h45, numZ_len, ?_⟩
      have hl : s.data.toList = 45 :: (s.extract 1 s.size).data.toList := by
        rw [Go.Lib.extract_to_end]
        obtain ⟨⟨l⟩⟩ := s
        cases l with
        | nil => simp [ByteArray.size] at h0
        | cons x l =>
          have : x = 45 := h45
          subst this
          rfl
      generalize hr : (s.extract 1 s.size).data.toList = r at hl ⊢
      cases hT : isT r
      · exact .inr (pE_no hT)
      · by_cases hz : numT r = 0
        · refine .inr ?_
          unfold pE
          rw [hT, hz]
          rfl
        · refine .inl ⟨by unfold pE; rw [hT, decide_eq_false hz]; rfl, ?_⟩
          rw [show pZ true r = -(numT r : Int) from by unfold pZ; rw [hT]; rfl, txZ_neg hz, tx_numT hT, ← hl]
    · exact ⟨_, _, fun W => iparse_pos s W hs h0 h45, fun W => riparse_pos s W hs h0 h45, numZ_len, pos⟩

end Go.Proofs.Ytcbbacnhnaopmaa
