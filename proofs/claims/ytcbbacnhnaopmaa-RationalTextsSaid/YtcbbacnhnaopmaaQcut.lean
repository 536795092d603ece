/- Contracts: strings.Cut at the byte 47. -/
import Derived.Test.YtcbbacnhnaopmaaQval
import Derived.Lib.Bytealg
import Derived.Lib.CutLaws
import Derived.Lib.IndexBytes
import Derived.BigCall
namespace Go.Proofs.Ytcbbacnhnaopmaa
open Go.RowKit

/-- The place of the first slash, the length if there is none. -/
def fsl (l : List UInt8) : Nat := l.findIdx (· == 47)
theorem fsl_le (l : List UInt8) : fsl l ≤ l.length := List.findIdx_le_length
theorem indexByte_fsl (l : List UInt8) : Go.Lib.indexByte l 47 = if fsl l < l.length then (fsl l : Int) else -1 := by
  induction l with
  | nil => rfl
  | cons b l ih =>
    unfold Go.Lib.indexByte fsl
    rw [List.findIdx_cons]
    by_cases h : b == 47
    · rw [if_pos h, h]
      simp
    · rw [if_neg h]
      have h2 : (b == 47) = false := by simpa using h
      rw [h2]
      unfold fsl at ih
      rw [ih]
      simp only [cond_false, List.length_cons]
      by_cases h3 : List.findIdx (fun x => x == 47) l < l.length
      · rw [if_pos h3, if_neg (by rw [beq_iff_eq]; omega), if_pos (by omega)]
        omega
      · rw [if_neg h3, if_pos (by decide), if_neg (by omega)]

set_option maxRecDepth 100000 in
set_option maxHeartbeats 1000000 in
theorem sindexByte (s : ByteArray) (w : World) :
    Calls Try.prog 143 #[.string s, .int .u8 47] w (fun e w' => e = .returned (.int .i64 (Go.Lib.indexByte s.data.toList 47)) ∧ w' = w) := by
  go_enter Try.func143, Try.ntmps143
  go_wp2
  rw [run_callFunc_extern Try.func147 (by kernel_rfl) (by kernel_rfl) (by kernel_rfl) (e := Extern.BytealgIndexByte.indexByte) (by kernel_rfl), Lib.run_indexByteString]
  simp only [Result.andThen]
  rw [Oper.upon_value]
  go_wp2
  go_ret
  exact ⟨rfl, rfl⟩

set_option maxRecDepth 100000 in
set_option maxHeartbeats 2000000 in
theorem sindex (s : ByteArray) (w : World) :
    Calls Try.prog 140 #[.string s, .string ⟨#[47]⟩] w (fun e w' => e = .returned (.int .i64 (Go.Lib.indexByte s.data.toList 47)) ∧ w' = w) := by
  have IB := hid (sindexByte s w)
  have es : s.toList = s.data.toList := ByteArray.toList_eq s
  by_cases h : [47] = s.toList
  · have e0 : Go.Lib.indexByte s.data.toList 47 = 0 := by rw [← es, ← h]; rfl
    have hb : ([47] == s.toList) = true := by rw [beq_iff_eq]; exact h
    rw [e0]
    clear h e0 IB es
    go_enter Try.func140, Try.ntmps140
    go_wp2_with fail
    go_ret
    exact ⟨rfl, rfl⟩
  · have hb : ([47] == s.toList) = false := by rw [beq_eq_false_iff_ne]; exact h
    obtain ⟨i, hi⟩ : ∃ i, i = Go.Lib.indexByte s.data.toList 47 := ⟨_, rfl⟩
    rw [← hi] at IB ⊢
    clear h hi es
    go_enter Try.func140, Try.ntmps140
    go_wp2_with fail
    refine Calls.mono (R := fun e w' => e = .returned (.int .i64 i) ∧ w' = w) ?_ ?_
    · exact IB.out
    rintro e w1 ⟨rfl, rfl⟩
    go_wp2_with fail
    go_ret
    exact ⟨rfl, rfl⟩

/-- What Cut returns. -/
def RetCut (w : World) (s : ByteArray) (e : Ending) (w' : World) : Prop := e = .returned (.tuple #[.string (s.extract 0 (fsl s.data.toList)), .string (s.extract (fsl s.data.toList + 1) s.size), .bool (decide (fsl s.data.toList < s.size))]) ∧ Below w.heap.size w w'

set_option maxRecDepth 100000 in
set_option maxHeartbeats 4000000 in
theorem slcut (s : ByteArray) (w : World) (hs : s.size ≤ 200) :
    Calls Try.prog 134 #[.string s, .string ⟨#[47]⟩] w (RetCut w s) := by
  have IX := hid (sindex s w)
  have hl : s.data.toList.length = s.size := rfl
  have hle := fsl_le s.data.toList
  rw [indexByte_fsl] at IX
  unfold RetCut
  rw [hl] at IX hle
  obtain ⟨i, hi⟩ : ∃ i, i = fsl s.data.toList := ⟨_, rfl⟩
  rw [← hi] at IX hle
  rw [← hi]
  clear hi hl
  by_cases h : i < s.size
  · rw [if_pos h] at IX
    have hd : decide (i < s.size) = true := decide_eq_true h
    have c1 : (0 : Int) ≤ ↑i := by omega
    have c2 : (↑i : Int) ≤ ↑s.size := by omega
    have c3 : (0 : Int) ≤ ↑i + 1 := by omega
    have c4 : (↑i + 1 : Int) ≤ ↑s.size := by omega
    go_enter Try.func134, Try.ntmps134
    go_wp2_with fail
    refine (IX.out).mono ?_
    rintro e w1 ⟨rfl, rfl⟩
    clear IX
    go_wp2_with fail
    go_region
    go_wp2
    go_ret3
    exact ⟨by rw [hd]; rfl, bx_drew (bx_refl _)⟩
  · rw [if_neg h] at IX
    have hd : decide (i < s.size) = false := decide_eq_false h
    have ei : i = s.size := by omega
    have e1 : s.extract 0 i = s := by rw [ei]; exact ByteArray.extract_zero_size
    have e2 : s.extract (i + 1) s.size = ByteArray.empty := by rw [ei]; exact ByteArray.extract_eq_empty_iff.2 (by omega)
    rw [e1, e2, hd]
    clear ei e1 e2 h hle hd
    go_enter Try.func134, Try.ntmps134
    go_wp2_with fail
    refine (IX.out).mono ?_
    rintro e w1 ⟨rfl, rfl⟩
    clear IX
    go_wp2_with fail
    go_ret3
    exact ⟨rfl, bx_refl _⟩

set_option maxRecDepth 100000 in
set_option maxHeartbeats 2000000 in
theorem scut (s : ByteArray) (w : World) (hs : s.size ≤ 200) :
    Calls Try.prog 118 #[.string s, .string ⟨#[47]⟩] w (RetCut w s) := by
  have C := hid (slcut s w hs)
  unfold RetCut at C ⊢
  obtain ⟨a, ha⟩ : ∃ a, a = s.extract 0 (fsl s.data.toList) := ⟨_, rfl⟩
  obtain ⟨b, hb⟩ : ∃ a, a = s.extract (fsl s.data.toList + 1) s.size := ⟨_, rfl⟩
  obtain ⟨c, hc⟩ : ∃ a, a = decide (fsl s.data.toList < s.size) := ⟨_, rfl⟩
  rw [← ha, ← hb, ← hc] at C
  rw [← ha, ← hb, ← hc]
  clear ha hb hc
  go_enter Try.func118, Try.ntmps118
  go_wp2_with fail
  refine (C.out).mono ?_
  rintro e w1 ⟨rfl, bb⟩
  have B := hid bb
  clear bb C
  go_wp2_with fail
  go_ret3
  exact ⟨rfl, B.out⟩

end Go.Proofs.Ytcbbacnhnaopmaa
