/- Contracts: Parse of the specification of layer 1, every string. -/
import Derived.Test.YtcbbacnhnaopmaaRef11
namespace Go.Proofs.Ytcbbacnhnaopmaa
open Go.RowKit

theorem nonempty_bytes {s : ByteArray} (h0 : 0 < s.size) : s.toList.isEmpty = false := by
  rw [ByteArray.toList_eq]
  cases h : s.data.toList with
  | nil => have h1 : s.data.toList.length = 0 := by rw [h]; rfl
           have h2 : s.size = 0 := h1
           omega
  | cons a l => rfl

set_option maxRecDepth 100000 in
set_option maxHeartbeats 1000000 in
theorem rparse_any (s : ByteArray) (w : World) (hs : s.size ≤ 9223372036854775807) :
    Calls Try.prog 105 #[.string s] w (Ret2 w (parD s.data.toList) (parE s.data.toList)) := by
  have hl : s.data.toList.length = s.size := rfl
  by_cases h0 : s.size = 0
  · have hT : isT s.data.toList = false := by
      have : s.data.toList = [] := List.eq_nil_of_length_eq_zero h0
      rw [this]; rfl
    unfold parD parE
    rw [hT, if_neg (by decide), if_neg (by decide)]
    have e0 : s.toList.isEmpty = true := by
      rw [ByteArray.toList_eq]
      have : s.data.toList = [] := List.eq_nil_of_length_eq_zero h0
      rw [this]; rfl
    clear h0 hT hl
    go_enter Try.func105, Try.ntmps105
    go_wp2_with fail
    go_ret2
    exact ⟨_, rfl, Dig.nil _, Below.refl _ _⟩
  · have e0 : s.toList.isEmpty = false := nonempty_bytes (by omega)
    by_cases h1 : 4000 < s.size
    · have hT : isT s.data.toList = false := by
        unfold isT
        rw [decide_eq_false (show ¬ s.data.toList.length ≤ 4000 by omega)]
        simp
      unfold parD parE
      rw [hT, if_neg (by decide), if_neg (by decide)]
      have e1 : decide (4000 < (s.size : Int)) = true := decide_eq_true (by omega)
      clear h0 hT hl h1
      go_enter Try.func105, Try.ntmps105
      go_wp2_with fail
      go_ret2
      exact ⟨_, rfl, Dig.nil _, Below.refl _ _⟩
    · have e1 : decide (4000 < (s.size : Int)) = false := decide_eq_false (by omega)
      have hp : 0 < s.size := by omega
      have g0 : s.data.toList.getD 0 0 = s[0] := by
        have : s.data.toList.getD 0 0 = s.data.toList[0]'(by omega) := by simp [List.getD, List.getElem?_eq_getElem (by omega : 0 < s.data.toList.length)]
        rw [this]; rfl
      by_cases h2 : 1 < s.size ∧ s[0] = 48
      · have hT : isT s.data.toList = false := by
          unfold isT
          rw [g0, h2.2, decide_eq_true (show 1 < s.data.toList.length from h2.1)]
          simp
        unfold parD parE
        rw [hT, if_neg (by decide), if_neg (by decide)]
        have e2 : decide (1 < (s.size : Int)) = true := decide_eq_true (by omega)
        have e3 : (((s[0]).toNat : Int) == 48) = true := by rw [h2.2]; rfl
        clear h0 hT hl h1 g0 h2
        go_enter Try.func105, Try.ntmps105
        go_wp2_with fail
        go_ret2
        exact ⟨_, rfl, Dig.nil _, Below.refl _ _⟩
      · have HT := isT_all (l := s.data.toList) (by omega) (by omega) (by rw [g0]; rw [hl]; exact h2)
        unfold parD parE
        rw [HT]
        refine rparse_good s w (by omega) hp _ _ rfl rfl ?_
        rw [Bool.and_eq_false_iff]
        rcases (by omega : ¬ 1 < s.size ∨ 1 < s.size) with h3 | h3
        · left; exact decide_eq_false (by omega)
        · right
          rw [beq_eq_false_iff_ne]
          intro e
          refine h2 ⟨h3, UInt8.toNat_inj.1 ?_⟩
          show _ = 48
          omega

end Go.Proofs.Ytcbbacnhnaopmaa
