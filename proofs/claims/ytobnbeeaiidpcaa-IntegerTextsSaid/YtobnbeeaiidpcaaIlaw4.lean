/- Laws of layer 2, walked by contracts. -/
import Derived.Test.YtobnbeeaiidpcaaIaid
import Derived.Lib.IndexBytes
namespace Go.Proofs.Ytobnbeeaiidpcaa
open Go.RowKit

theorem numZ_len {b : Bool} {l : List UInt8} : (dg (pZ b l).natAbs).length ≤ 900 := by
  cases h : isT l
  · rw [pZ_no h, show (0 : Int).natAbs = 0 from rfl, dg_zero]; simp
  · have h1 := num_len2 h
    unfold pZ
    rw [h]
    cases b <;> simpa using h1
theorem txZ_nat (n : Nat) : txZ (n : Int) = tx n := by
  unfold txZ
  rw [if_neg (by unfold sgnZ; rw [if_neg (by omega)]; split <;> omega)]
  rfl
theorem txZ_neg {n : Nat} (h : n ≠ 0) : txZ (-(n : Int)) = 45 :: tx n := by
  unfold txZ
  rw [if_pos (by unfold sgnZ; rw [if_pos (by omega)]; omega), Int.natAbs_neg]
  rfl
/-- Both parsers return the same, and what they accept is the text. -/
theorem iparse_both (s : ByteArray) (hs : s.size ≤ 9223372036854775807) : ∃ z k : Int, (∀ W : World, Calls Try.prog 45 #[.string s] W (RetInt2 W z k)) ∧ (∀ W : World, Calls Try.prog 46 #[.string s] W (RetInt2 W z k)) ∧ (dg z.natAbs).length ≤ 900 ∧ ((k = 0 ∧ (⟨(txZ z).toArray⟩ : ByteArray) = s) ∨ k = 3) := by
  have pos : ((pE false s.data.toList = 0 ∧ (⟨(txZ (pZ false s.data.toList)).toArray⟩ : ByteArray) = s) ∨ pE false s.data.toList = 3) := by
    cases hT : isT s.data.toList
    · exact .inr (pE_no hT)
    · refine .inl ⟨by unfold pE; rw [hT]; rfl, ?_⟩
      rw [show pZ false s.data.toList = (numT s.data.toList : Int) from by unfold pZ; rw [hT]; rfl, txZ_nat, tx_numT hT]
  rcases Nat.eq_zero_or_pos s.size with h0 | h0
  · exact ⟨_, _, fun W => iparse_empty s W hs h0, fun W => riparse_empty s W hs h0, numZ_len, pos⟩
  · by_cases h45 : s[0] = 45
    · refine ⟨_, _, fun W => iparse_neg s W hs h0 h45, fun W => riparse_neg s W hs h0 h45, numZ_len, ?_⟩
      have hl : s.data.toList = 45 :: (s.extract 1 s.size).data.toList := by
        rw [Go.Lib.extract_to_end]
        obtain ⟨⟨l⟩⟩ := s
        cases l with
        | nil => simp [ByteArray.size] at h0
        | cons x l =>
          have : x = 45 := h45
          subst this
          rfl
      generalize hr : (s.extract 1 s.size).data.toList = r at hl ⊢
      cases hT : isT r
      · exact .inr (pE_no hT)
      · by_cases hz : numT r = 0
        · refine .inr ?_
          unfold pE
          rw [hT, hz]
          rfl
        · refine .inl ⟨by unfold pE; rw [hT, decide_eq_false hz]; rfl, ?_⟩
          rw [show pZ true r = -(numT r : Int) from by unfold pZ; rw [hT]; rfl, txZ_neg hz, tx_numT hT, ← hl]
    · exact ⟨_, _, fun W => iparse_pos s W hs h0 h45, fun W => riparse_pos s W hs h0 h45, numZ_len, pos⟩

set_option maxRecDepth 100000 in
set_option maxHeartbeats 4000000 in
theorem integerTexts_any (s : ByteArray) (w : World) (hs : s.size ≤ 9223372036854775807) :
    Calls Try.prog 8 #[.string s] w (RetB w true) := by
  obtain ⟨z, k, pa, pb, hl, hk⟩ := iparse_both s hs
  have PA := hid pa
  have PB := hid pb
  clear pa pb
  by_cases hf : s.size ≤ 200
  · rcases hk with ⟨rfl, ht⟩ | rfl
    · have TX : Hid (∀ (W : World) A n c, Rd W A n c (dg z.natAbs) → Calls Try.prog 30 #[.agg #[.bool (sg z), .slice A n c]] W (fun e w' => e = .returned (.string s) ∧ Below W.heap.size W w')) := hid fun W A n c h => by
        have t := itext_any (sg z) A n c _ W h (by have := h.1; omega)
        rw [iv_sg] at t
        unfold RetStr at t
        rwa [ht] at t
      clear ht
      go_enter Try.func8, Try.ntmps8
      go_wp2_with fail
      refine (iawake_any w).mono ?_
      rintro e w1 ⟨rfl, b1⟩
      have X1 := hid b1
      clear b1
      go_wp2_with fail
      refine (PA.out w1).mono ?_
      rintro e w2 ⟨A1, n1, c1, rfl, r1, b2⟩
      have X2 := hid (bx_call X1.out b2)
      have R1 := hid r1
      clear r1 b2 X1
      have q1 := R1.out.2.1
      have q2 := R1.out.2.2.1
      go_wp2_with fail
      refine (PB.out _).mono ?_
      rintro e w3 ⟨A2, n2, c2, rfl, r2, b3⟩
      have b4 := bx_call (bx_alloc (bx_refl w2) (.cells #[.bool (sg z), .slice A1 n1 c1] 25)) b3
      have X3 := hid (bx_call X2.out b4)
      have K1 := hid ((Blk.new w2 [.bool (sg z), .slice A1 n1 c1] 25).keep b3)
      have S1 := hid (R1.out.keep b4)
      have R2 := hid r2
      have SM := hid (fun (W : World) (hw : Below w3.heap.size w3 W) => risame_eq A1 n1 c1 A2 n2 c2 W (S1.out.keep hw) (R2.out.keep hw) rfl)
      obtain ⟨_, _, _, _, k0, k1, _⟩ := blk_facts K1.out
      clear r2 b3 b4 X2 R1
      go_wp2_with fail
      refine (SM.out _ (bx_alloc (bx_refl w3) _)).mono ?_
      rintro e w4 ⟨rfl, b5⟩
      have b6 := bx_call (bx_alloc (bx_refl w3) (.cells #[.bool (sg z), .slice A2 n2 c2] 25)) b5
      have X4 := hid (bx_call X3.out b6)
      have T1 := hid (S1.out.keep b6)
      obtain ⟨k2, k3⟩ := blk_two (K1.out.keep b6)
      clear b5 b6 X3 k0 k1 SM S1 R2
      go_wp2_with fail
      refine (TX.out w4 A1 n1 c1 T1.out).mono ?_
      rintro e w5 ⟨rfl, b7⟩
      have X5 := hid (bx_call X4.out b7)
      clear b7
      go_wp2_with fail
      go_ret
      exact ⟨rfl, X5.out⟩
    · go_enter Try.func8, Try.ntmps8
      go_wp2_with fail
      refine (iawake_any w).mono ?_
      rintro e w1 ⟨rfl, b1⟩
      have X1 := hid b1
      clear b1
      go_wp2_with fail
      refine (PA.out w1).mono ?_
      rintro e w2 ⟨A1, n1, c1, rfl, r1, b2⟩
      have X2 := hid (bx_call X1.out b2)
      have R1 := hid r1
      clear r1 b2 X1
      have q1 := R1.out.2.1
      have q2 := R1.out.2.2.1
      go_wp2_with fail
      refine (PB.out _).mono ?_
      rintro e w3 ⟨A2, n2, c2, rfl, r2, b3⟩
      have b4 := bx_call (bx_alloc (bx_refl w2) (.cells #[.bool (sg z), .slice A1 n1 c1] 25)) b3
      have X3 := hid (bx_call X2.out b4)
      have K1 := hid ((Blk.new w2 [.bool (sg z), .slice A1 n1 c1] 25).keep b3)
      have S1 := hid (R1.out.keep b4)
      have R2 := hid r2
      have SM := hid (fun (W : World) (hw : Below w3.heap.size w3 W) => risame_eq A1 n1 c1 A2 n2 c2 W (S1.out.keep hw) (R2.out.keep hw) rfl)
      obtain ⟨_, _, _, _, k0, k1, _⟩ := blk_facts K1.out
      clear r2 b3 b4 X2 R1
      go_wp2_with fail
      refine (SM.out _ (bx_alloc (bx_refl w3) _)).mono ?_
      rintro e w4 ⟨rfl, b5⟩
      have b6 := bx_call (bx_alloc (bx_refl w3) (.cells #[.bool (sg z), .slice A2 n2 c2] 25)) b5
      have X4 := hid (bx_call X3.out b6)
      have T1 := hid (S1.out.keep b6)
      obtain ⟨k2, k3⟩ := blk_two (K1.out.keep b6)
      clear b5 b6 X3 k0 k1 SM S1 R2
      go_wp2_with fail
      go_ret
      exact ⟨rfl, X4.out⟩
  · go_enter Try.func8, Try.ntmps8
    go_wp2_with fail
    refine (iawake_any w).mono ?_
    rintro e w1 ⟨rfl, b1⟩
    have X1 := hid b1
    clear b1
    go_wp2_with fail
    refine (iawake_any _).mono ?_
    rintro e w2 ⟨rfl, b2⟩
    have X2 := hid (bx_call X1.out b2)
    clear b2 X1
    go_wp2_with fail
    go_ret
    exact ⟨rfl, X2.out⟩

end Go.Proofs.Ytobnbeeaiidpcaa
