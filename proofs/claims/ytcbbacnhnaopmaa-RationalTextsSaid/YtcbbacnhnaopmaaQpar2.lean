/- Contracts: Parse of the specification of layer 3. -/
import Derived.Test.YtcbbacnhnaopmaaQpar1
namespace Go.Proofs.Ytcbbacnhnaopmaa
open Go.RowKit

theorem fsl_lt {l : List UInt8} {j : Nat} (h : j < fsl l) (hl : j < l.length) : l[j] ≠ 47 := by
  have := List.not_of_lt_findIdx h
  simpa using this
theorem fsl_at {l : List UInt8} (h : fsl l < l.length) : l[fsl l] = 47 := by
  have := List.findIdx_getElem (w := h)
  show l[l.findIdx (· == 47)]'h = 47
  simpa using this

set_option maxRecDepth 100000 in
set_option maxHeartbeats 4000000 in
theorem rparse_a1 (s : ByteArray) (i : Nat) (z : Int) (w : World) (hi : i = fsl s.data.toList) (hs : s.size ≤ 200) (hf : i < s.size) (PI : ∀ W : World, Calls Try.prog 46 #[.string (s.extract 0 i)] W (RetInt2 W z 3)) :
    Calls Try.prog 80 #[.string s] w (RetQ2 w 0 900 3) := by
  have K := hid (Blk.new w [.bool false, .slice none 0 0, .slice none 0 0] 50)
  have B := hid (bx_alloc (bx_refl w) (.cells #[.bool false, .slice none 0 0, .slice none 0 0] 50))
  have PA := hid PI
  have LT := hid (show ∀ (j : Nat) (hj : j < s.size), j < i → (((s[j]'hj).toNat : Int) == 47) = false from fun j hj hji => by
    rw [beq_eq_false_iff_ne]
    intro e
    have h1 := fsl_lt (l := s.data.toList) (j := j) (by rw [← hi]; exact hji) hj
    exact h1 (UInt8.toNat_inj.1 (by have : (s[j]'hj).toNat = 47 := by omega
                                    exact this)))
  have AT := hid (show (((s[i]'hf).toNat : Int) == 47) = true from by
    subst hi
    rw [beq_iff_eq]
    have h1 : s.data.toList[fsl s.data.toList]'hf = 47 := fsl_at hf
    have h2 : s[fsl s.data.toList]'hf = 47 := h1
    rw [h2]; rfl)
  clear PI hi
  have hle : i ≤ s.size := by omega
  go_enter Try.func80, Try.ntmps80
  go_wp2_with fail
  go_loopw [4] (fun v wr => ∃ j : Nat, j ≤ i ∧ v = .int .i64 j ∧ Hid (wr = w.alloc (.cells #[.bool false, .slice none 0 0, .slice none 0 0] 50))) (fun v _ => i - (intOf v).toNat)
  case atStart => exact ⟨0, Nat.zero_le _, rfl, hid rfl⟩
  case round =>
    obtain ⟨j, hj, rfl, hw⟩ := hrel
    rcases Nat.lt_or_ge j i with hlt | hge
    · have hjs : j < s.size := by omega
      have g1 : decide ((j : Int) < (s.size : Int)) = true := decide_eq_true (by omega)
      have g2 := LT.out j hjs hlt
      go_wp2_with fail
      go_roundw
      case rel => exact ⟨j + 1, by omega, by go_num, hw⟩
      case measure => simp [intOf]; omega
    obtain rfl : j = i := by omega
    have g1 : decide ((j : Int) < (s.size : Int)) = true := decide_eq_true (by omega)
    have g2 := AT.out
    have c1 : (0 : Int) ≤ ↑j := by omega
    have c2 : (↑j : Int) ≤ ↑s.size := by omega
    have c3 : (0 : Int) ≤ ↑j + 1 := by omega
    have c4 : (↑j + 1 : Int) ≤ ↑s.size := by omega
    obtain ⟨w1, rfl⟩ : ∃ W, W = wr := ⟨_, rfl⟩
    have K1 : Hid (Blk w1 w.heap.size [.bool false, .slice none 0 0, .slice none 0 0] 50) := hid (by rw [hw.out]; exact K.out)
    have B1 : Hid (Below w.heap.size w w1) := hid (by rw [hw.out]; exact B.out)
    clear hw K B LT AT
    go_wp2_with fail
    refine (PA.out _).mono ?_
    rintro e w2 ⟨A1, n1, c1', rfl, r1, b2⟩
    have o := bx_alloc (bx_refl w2) (.cells #[.bool (sg z), .slice A1 n1 c1'] 25)
    have p1 := r1.2.1
    have p2 := r1.2.2.1
    have K2 := hid (K1.out.keep (bx_call b2 o))
    have B2 := hid (bx_call B1.out (bx_call b2 o))
    have R1 := hid (r1.keep o)
    have KI := hid (Blk.new w2 [.bool (sg z), .slice A1 n1 c1'] 25)
    clear r1 b2 o K1 B1 PA
    obtain ⟨v2, hv⟩ : ∃ W, W = w2.alloc (.cells #[.bool (sg z), .slice A1 n1 c1'] 25) := ⟨_, rfl⟩
    obtain ⟨bi, hb⟩ : ∃ i, i = w2.heap.size := ⟨_, rfl⟩
    rw [← hv] at K2 B2 R1 KI
    rw [← hb] at KI
    go_upto_region 5 with fail
    rw [← hv, ← hb]
    clear hv hb
    have EE := hid (retq2_end (z := 3) (frl_zero v2 (k := 900) (by omega)) K2.out B2.out (Nat.le_refl _))
    obtain ⟨x0, x1, x2⟩ := blk_three K2.out
    have f0 := Blk.free K2.out 0
    have f1 := Blk.free K2.out 1
    have f2 := Blk.free K2.out 2
    clear K2 B2 R1 KI
    go_wp2_with fail
    exact bodyPost_ret (v := .tuple #[.agg #[.bool (sg (0 : Rat).num), .slice none 0 0, .slice none 0 0], .int .i64 3]) (by simp [results, Try.results80, go_sem, x0, x1, x2, sg]) rfl EE.out

set_option maxRecDepth 100000 in
set_option maxHeartbeats 4000000 in
theorem rparse_a2 (s : ByteArray) (i : Nat) (z : Int) (w : World) (hi : i = fsl s.data.toList) (hs : s.size ≤ 200) (hf : i = s.size) (PI : ∀ W : World, Calls Try.prog 46 #[.string (s.extract 0 i)] W (RetInt2 W z 3)) :
    Calls Try.prog 80 #[.string s] w (RetQ2 w 0 900 3) := by
  have K := hid (Blk.new w [.bool false, .slice none 0 0, .slice none 0 0] 50)
  have B := hid (bx_alloc (bx_refl w) (.cells #[.bool false, .slice none 0 0, .slice none 0 0] 50))
  have PA := hid PI
  have LT := hid (show ∀ (j : Nat) (hj : j < s.size), j < i → (((s[j]'hj).toNat : Int) == 47) = false from fun j hj hji => by
    rw [beq_eq_false_iff_ne]
    intro e
    have h1 := fsl_lt (l := s.data.toList) (j := j) (by rw [← hi]; exact hji) hj
    exact h1 (UInt8.toNat_inj.1 (by have : (s[j]'hj).toNat = 47 := by omega
                                    exact this)))
  clear PI hi
  have hle : i ≤ s.size := by omega
  have HF := hid hf
  clear hf
  go_enter Try.func80, Try.ntmps80
  go_wp2_with fail
  go_loopw [4] (fun v wr => ∃ j : Nat, j ≤ i ∧ v = .int .i64 j ∧ Hid (wr = w.alloc (.cells #[.bool false, .slice none 0 0, .slice none 0 0] 50))) (fun v _ => i - (intOf v).toNat)
  case atStart => exact ⟨0, Nat.zero_le _, rfl, hid rfl⟩
  case round =>
    obtain ⟨j, hj, rfl, hw⟩ := hrel
    rcases Nat.lt_or_ge j i with hlt | hge
    · have hjs : j < s.size := by omega
      have g1 : decide ((j : Int) < (s.size : Int)) = true := decide_eq_true (by omega)
      have g2 := LT.out j hjs hlt
      go_wp2_with fail
      go_roundw
      case rel => exact ⟨j + 1, by omega, by go_num, hw⟩
      case measure => simp [intOf]; omega
    obtain rfl : j = i := by omega
    have g1 : ¬ (j : Int) < (s.size : Int) := by have := HF.out; omega
    have c1 : (0 : Int) ≤ ↑j := by omega
    have c2 : (↑j : Int) ≤ ↑s.size := by omega
    obtain ⟨w1, rfl⟩ : ∃ W, W = wr := ⟨_, rfl⟩
    have K1 : Hid (Blk w1 w.heap.size [.bool false, .slice none 0 0, .slice none 0 0] 50) := hid (by rw [hw.out]; exact K.out)
    have B1 : Hid (Below w.heap.size w w1) := hid (by rw [hw.out]; exact B.out)
    clear hw K B LT
    go_wp2_with fail
    refine (PA.out _).mono ?_
    rintro e w2 ⟨A1, n1, c1', rfl, r1, b2⟩
    have o := bx_alloc (bx_refl w2) (.cells #[.bool (sg z), .slice A1 n1 c1'] 25)
    have p1 := r1.2.1
    have p2 := r1.2.2.1
    have K2 := hid (K1.out.keep (bx_call b2 o))
    have B2 := hid (bx_call B1.out (bx_call b2 o))
    have R1 := hid (r1.keep o)
    have KI := hid (Blk.new w2 [.bool (sg z), .slice A1 n1 c1'] 25)
    clear r1 b2 o K1 B1 PA
    obtain ⟨v2, hv⟩ : ∃ W, W = w2.alloc (.cells #[.bool (sg z), .slice A1 n1 c1'] 25) := ⟨_, rfl⟩
    obtain ⟨bi, hb⟩ : ∃ i, i = w2.heap.size := ⟨_, rfl⟩
    rw [← hv] at K2 B2 R1 KI
    rw [← hb] at KI
    go_upto_region 5 with fail
    rw [← hv, ← hb]
    clear hv hb
    have EE := hid (retq2_end (z := 3) (frl_zero v2 (k := 900) (by omega)) K2.out B2.out (Nat.le_refl _))
    obtain ⟨x0, x1, x2⟩ := blk_three K2.out
    have f0 := Blk.free K2.out 0
    have f1 := Blk.free K2.out 1
    have f2 := Blk.free K2.out 2
    clear K2 B2 R1 KI
    go_wp2_with fail
    exact bodyPost_ret (v := .tuple #[.agg #[.bool (sg (0 : Rat).num), .slice none 0 0, .slice none 0 0], .int .i64 3]) (by simp [results, Try.results80, go_sem, x0, x1, x2, sg]) rfl EE.out

set_option maxRecDepth 100000 in
set_option maxHeartbeats 4000000 in
theorem rparse_b (s : ByteArray) (i : Nat) (z : Int) (w : World) (hi : i = fsl s.data.toList) (hs : s.size ≤ 200) (hf : i = s.size) (PI : ∀ W : World, Calls Try.prog 46 #[.string (s.extract 0 i)] W (RetInt2 W z 0)) (hz : (dg z.natAbs).length ≤ 900) :
    Calls Try.prog 80 #[.string s] w (RetQ2 w (z : Rat) 900 0) := by
  have K := hid (Blk.new w [.bool false, .slice none 0 0, .slice none 0 0] 50)
  have B := hid (bx_alloc (bx_refl w) (.cells #[.bool false, .slice none 0 0, .slice none 0 0] 50))
  have PA := hid PI
  have LT := hid (show ∀ (j : Nat) (hj : j < s.size), j < i → (((s[j]'hj).toNat : Int) == 47) = false from fun j hj hji => by
    rw [beq_eq_false_iff_ne]
    intro e
    have h1 := fsl_lt (l := s.data.toList) (j := j) (by rw [← hi]; exact hji) hj
    exact h1 (UInt8.toNat_inj.1 (by have : (s[j]'hj).toNat = 47 := by omega
                                    exact this)))
  clear PI hi
  have hle : i ≤ s.size := by omega
  have HF := hid hf
  clear hf
  go_enter Try.func80, Try.ntmps80
  go_wp2_with fail
  go_loopw [4] (fun v wr => ∃ j : Nat, j ≤ i ∧ v = .int .i64 j ∧ Hid (wr = w.alloc (.cells #[.bool false, .slice none 0 0, .slice none 0 0] 50))) (fun v _ => i - (intOf v).toNat)
  case atStart => exact ⟨0, Nat.zero_le _, rfl, hid rfl⟩
  case round =>
    obtain ⟨j, hj, rfl, hw⟩ := hrel
    rcases Nat.lt_or_ge j i with hlt | hge
    · have hjs : j < s.size := by omega
      have g1 : decide ((j : Int) < (s.size : Int)) = true := decide_eq_true (by omega)
      have g2 := LT.out j hjs hlt
      go_wp2_with fail
      go_roundw
      case rel => exact ⟨j + 1, by omega, by go_num, hw⟩
      case measure => simp [intOf]; omega
    obtain rfl : j = i := by omega
    have g1 : ¬ (j : Int) < (s.size : Int) := by have := HF.out; omega
    have c1 : (0 : Int) ≤ ↑j := by omega
    have c2 : (↑j : Int) ≤ ↑s.size := by omega
    obtain ⟨w1, rfl⟩ : ∃ W, W = wr := ⟨_, rfl⟩
    have K1 : Hid (Blk w1 w.heap.size [.bool false, .slice none 0 0, .slice none 0 0] 50) := hid (by rw [hw.out]; exact K.out)
    have B1 : Hid (Below w.heap.size w w1) := hid (by rw [hw.out]; exact B.out)
    clear hw K B LT
    go_wp2_with fail
    refine (PA.out _).mono ?_
    rintro e w2 ⟨A1, n1, c1', rfl, r1, b2⟩
    have o := bx_alloc (bx_refl w2) (.cells #[.bool (sg z), .slice A1 n1 c1'] 25)
    have p1 := r1.2.1
    have p2 := r1.2.2.1
    have K2 := hid (K1.out.keep (bx_call b2 o))
    have B2 := hid (bx_call B1.out (bx_call b2 o))
    have R1 := hid (r1.keep o)
    have KI := hid (Blk.new w2 [.bool (sg z), .slice A1 n1 c1'] 25)
    clear r1 b2 o K1 B1 PA
    obtain ⟨v2, hv⟩ : ∃ W, W = w2.alloc (.cells #[.bool (sg z), .slice A1 n1 c1'] 25) := ⟨_, rfl⟩
    obtain ⟨bi, hb⟩ : ∃ i, i = w2.heap.size := ⟨_, rfl⟩
    rw [← hv] at K2 B2 R1 KI
    rw [← hb] at KI
    go_upto_region 5 with fail
    rw [← hv, ← hb]
    clear hv hb
    obtain ⟨s0, s1⟩ := blk_two KI.out
    go_upto_region 8 with fail
    clear s0 s1
    have o := bx_alloc (bx_refl v2) (.cells #[.bool (sg z), .slice A1 n1 c1', .slice none 0 0] 50)
    have K3 := hid (K2.out.keep o)
    have B3 := hid (bx_call B2.out o)
    have R3 := hid (R1.out.keep o)
    have KI3 := hid (KI.out.keep o)
    have KO := hid (Blk.new v2 [.bool (sg z), .slice A1 n1 c1', .slice none 0 0] 50)
    have nb := hid (show w.heap.size < v2.heap.size from K2.out.lt)
    have nb2 := hid (show bi < v2.heap.size from KI.out.lt)
    obtain ⟨v3, hv⟩ : ∃ W, W = v2.alloc (.cells #[.bool (sg z), .slice A1 n1 c1', .slice none 0 0] 50) := ⟨_, rfl⟩
    obtain ⟨bo, hb⟩ : ∃ i, i = v2.heap.size := ⟨_, rfl⟩
    rw [← hv] at K3 B3 R3 KI3 KO ⊢
    rw [← hb] at KO nb nb2 ⊢
    clear hv hb o K2 B2 R1 KI
    have EE : Hid (RetQ2 w (z : Rat) 900 0 (.returned (.tuple #[.agg #[.bool (sg z), .slice A1 n1 c1', .slice none 0 0], .int .i64 0])) (((v3.setCell ⟨w.heap.size, 0, none⟩ (.bool (sg z))).setCell ⟨w.heap.size, 1, none⟩ (.slice A1 n1 c1')).setCell ⟨w.heap.size, 2, none⟩ (.slice none 0 0))) := hid (retq2_end (q := (z : Rat)) (z := 0) (show FrL v3 A1 n1 c1' none 0 0 900 (z : Rat) from ⟨R3.out, by rw [← R3.out.1]; exact hz, Rd.nil v3 none, Nat.zero_le _, by omega⟩) K3.out B3.out (Nat.le_refl _))
    obtain ⟨x0, x1, x2⟩ := blk_three K3.out
    have f0 := Blk.free K3.out 0
    have f1 := Blk.free K3.out 1
    have f2 := Blk.free K3.out 2
    obtain ⟨t0, t1, t2⟩ := blk_three KO.out
    clear K3 B3 R3 KI3 KO nb nb2
    go_wp2_with fail
    exact bodyPost_ret (v := .tuple #[.agg #[.bool (sg z), .slice A1 n1 c1', .slice none 0 0], .int .i64 0]) (by simp [results, Try.results80, go_sem, x0, x1, x2]) rfl EE.out

set_option maxRecDepth 100000 in
set_option maxHeartbeats 4000000 in
theorem rparse_c (s : ByteArray) (i : Nat) (z : Int) (w : World) (hi : i = fsl s.data.toList) (hs : s.size ≤ 200) (hf : i < s.size) (PI : ∀ W : World, Calls Try.prog 46 #[.string (s.extract 0 i)] W (RetInt2 W z 0)) (PN : ∀ W : World, Calls Try.prog 105 #[.string (s.extract (i + 1) s.size)] W (Ret2 W [] 3)) :
    Calls Try.prog 80 #[.string s] w (RetQ2 w 0 900 3) := by
  have K := hid (Blk.new w [.bool false, .slice none 0 0, .slice none 0 0] 50)
  have B := hid (bx_alloc (bx_refl w) (.cells #[.bool false, .slice none 0 0, .slice none 0 0] 50))
  have PA := hid PI
  have LT := hid (show ∀ (j : Nat) (hj : j < s.size), j < i → (((s[j]'hj).toNat : Int) == 47) = false from fun j hj hji => by
    rw [beq_eq_false_iff_ne]
    intro e
    have h1 := fsl_lt (l := s.data.toList) (j := j) (by rw [← hi]; exact hji) hj
    exact h1 (UInt8.toNat_inj.1 (by have : (s[j]'hj).toNat = 47 := by omega
                                    exact this)))
  have AT := hid (show (((s[i]'hf).toNat : Int) == 47) = true from by
    subst hi
    rw [beq_iff_eq]
    have h1 : s.data.toList[fsl s.data.toList]'hf = 47 := fsl_at hf
    have h2 : s[fsl s.data.toList]'hf = 47 := h1
    rw [h2]; rfl)
  clear PI hi
  have hle : i ≤ s.size := by omega
  go_enter Try.func80, Try.ntmps80
  go_wp2_with fail
  go_loopw [4] (fun v wr => ∃ j : Nat, j ≤ i ∧ v = .int .i64 j ∧ Hid (wr = w.alloc (.cells #[.bool false, .slice none 0 0, .slice none 0 0] 50))) (fun v _ => i - (intOf v).toNat)
  case atStart => exact ⟨0, Nat.zero_le _, rfl, hid rfl⟩
  case round =>
    obtain ⟨j, hj, rfl, hw⟩ := hrel
    rcases Nat.lt_or_ge j i with hlt | hge
    · have hjs : j < s.size := by omega
      have g1 : decide ((j : Int) < (s.size : Int)) = true := decide_eq_true (by omega)
      have g2 := LT.out j hjs hlt
      go_wp2_with fail
      go_roundw
      case rel => exact ⟨j + 1, by omega, by go_num, hw⟩
      case measure => simp [intOf]; omega
    obtain rfl : j = i := by omega
    have g1 : decide ((j : Int) < (s.size : Int)) = true := decide_eq_true (by omega)
    have g2 := AT.out
    have c1 : (0 : Int) ≤ ↑j := by omega
    have c2 : (↑j : Int) ≤ ↑s.size := by omega
    have c3 : (0 : Int) ≤ ↑j + 1 := by omega
    have c4 : (↑j + 1 : Int) ≤ ↑s.size := by omega
    obtain ⟨w1, rfl⟩ : ∃ W, W = wr := ⟨_, rfl⟩
    have K1 : Hid (Blk w1 w.heap.size [.bool false, .slice none 0 0, .slice none 0 0] 50) := hid (by rw [hw.out]; exact K.out)
    have B1 : Hid (Below w.heap.size w w1) := hid (by rw [hw.out]; exact B.out)
    clear hw K B LT AT
    go_wp2_with fail
    refine (PA.out _).mono ?_
    rintro e w2 ⟨A1, n1, c1', rfl, r1, b2⟩
    have o := bx_alloc (bx_refl w2) (.cells #[.bool (sg z), .slice A1 n1 c1'] 25)
    have p1 := r1.2.1
    have p2 := r1.2.2.1
    have K2 := hid (K1.out.keep (bx_call b2 o))
    have B2 := hid (bx_call B1.out (bx_call b2 o))
    have R1 := hid (r1.keep o)
    have KI := hid (Blk.new w2 [.bool (sg z), .slice A1 n1 c1'] 25)
    clear r1 b2 o K1 B1 PA
    obtain ⟨v2, hv⟩ : ∃ W, W = w2.alloc (.cells #[.bool (sg z), .slice A1 n1 c1'] 25) := ⟨_, rfl⟩
    obtain ⟨bi, hb⟩ : ∃ i, i = w2.heap.size := ⟨_, rfl⟩
    rw [← hv] at K2 B2 R1 KI
    rw [← hb] at KI
    go_upto_region 5 with fail
    rw [← hv, ← hb]
    clear hv hb
    obtain ⟨s0, s1⟩ := blk_two KI.out
    go_upto_region 8 with fail
    clear s0 s1
    have o := bx_alloc (bx_refl v2) (.cells #[.bool (sg z), .slice A1 n1 c1', .slice none 0 0] 50)
    have K3 := hid (K2.out.keep o)
    have B3 := hid (bx_call B2.out o)
    have R3 := hid (R1.out.keep o)
    have KI3 := hid (KI.out.keep o)
    have KO := hid (Blk.new v2 [.bool (sg z), .slice A1 n1 c1', .slice none 0 0] 50)
    have nb := hid (show w.heap.size < v2.heap.size from K2.out.lt)
    have nb2 := hid (show bi < v2.heap.size from KI.out.lt)
    obtain ⟨v3, hv⟩ : ∃ W, W = v2.alloc (.cells #[.bool (sg z), .slice A1 n1 c1', .slice none 0 0] 50) := ⟨_, rfl⟩
    obtain ⟨bo, hb⟩ : ∃ i, i = v2.heap.size := ⟨_, rfl⟩
    rw [← hv] at K3 B3 R3 KI3 KO ⊢
    rw [← hb] at KO nb nb2 ⊢
    clear hv hb o K2 B2 R1 KI
    have PD := hid PN
    clear PN
    go_wp2_with fail
    refine (PD.out _).mono ?_
    rintro e w4 ⟨v4, rfl, ⟨D1, m1, d1, rfl, r4⟩, b4⟩
    have p3 := r4.2.1
    have p4 := r4.2.2.1
    have K4 := hid (K3.out.keep b4)
    have B4 := hid (bx_call B3.out b4)
    have R4 := hid (R3.out.keep b4)
    have KI4 := hid (KI3.out.keep b4)
    have KO4 := hid (KO.out.keep b4)
    have S4 := hid r4
    clear r4 b4 K3 B3 R3 KI3 KO PD
    have EE := hid (retq2_end (z := 3) (frl_zero w4 (k := 900) (by omega)) K4.out B4.out (Nat.le_refl _))
    obtain ⟨x0, x1, x2⟩ := blk_three K4.out
    have f0 := Blk.free K4.out 0
    have f1 := Blk.free K4.out 1
    have f2 := Blk.free K4.out 2
    clear K4 B4 R4 KI4 KO4 S4 nb nb2
    go_wp2_with fail
    exact bodyPost_ret (v := .tuple #[.agg #[.bool (sg (0 : Rat).num), .slice none 0 0, .slice none 0 0], .int .i64 3]) (by simp [results, Try.results80, go_sem, x0, x1, x2, sg]) rfl EE.out

set_option maxRecDepth 100000 in
set_option maxHeartbeats 4000000 in
theorem rparse_d (s : ByteArray) (i : Nat) (z : Int) (w : World) (hi : i = fsl s.data.toList) (hs : s.size ≤ 200) (hf : i < s.size) (PI : ∀ W : World, Calls Try.prog 46 #[.string (s.extract 0 i)] W (RetInt2 W z 0)) (PN : ∀ W : World, Calls Try.prog 105 #[.string (s.extract (i + 1) s.size)] W (Ret2 W (dg 0) 0)) :
    Calls Try.prog 80 #[.string s] w (RetQ2 w 0 900 3) := by
  have K := hid (Blk.new w [.bool false, .slice none 0 0, .slice none 0 0] 50)
  have B := hid (bx_alloc (bx_refl w) (.cells #[.bool false, .slice none 0 0, .slice none 0 0] 50))
  have PA := hid PI
  have LT := hid (show ∀ (j : Nat) (hj : j < s.size), j < i → (((s[j]'hj).toNat : Int) == 47) = false from fun j hj hji => by
    rw [beq_eq_false_iff_ne]
    intro e
    have h1 := fsl_lt (l := s.data.toList) (j := j) (by rw [← hi]; exact hji) hj
    exact h1 (UInt8.toNat_inj.1 (by have : (s[j]'hj).toNat = 47 := by omega
                                    exact this)))
  have AT := hid (show (((s[i]'hf).toNat : Int) == 47) = true from by
    subst hi
    rw [beq_iff_eq]
    have h1 : s.data.toList[fsl s.data.toList]'hf = 47 := fsl_at hf
    have h2 : s[fsl s.data.toList]'hf = 47 := h1
    rw [h2]; rfl)
  clear PI hi
  have hle : i ≤ s.size := by omega
  go_enter Try.func80, Try.ntmps80
  go_wp2_with fail
  go_loopw [4] (fun v wr => ∃ j : Nat, j ≤ i ∧ v = .int .i64 j ∧ Hid (wr = w.alloc (.cells #[.bool false, .slice none 0 0, .slice none 0 0] 50))) (fun v _ => i - (intOf v).toNat)
  case atStart => exact ⟨0, Nat.zero_le _, rfl, hid rfl⟩
  case round =>
    obtain ⟨j, hj, rfl, hw⟩ := hrel
    rcases Nat.lt_or_ge j i with hlt | hge
    · have hjs : j < s.size := by omega
      have g1 : decide ((j : Int) < (s.size : Int)) = true := decide_eq_true (by omega)
      have g2 := LT.out j hjs hlt
      go_wp2_with fail
      go_roundw
      case rel => exact ⟨j + 1, by omega, by go_num, hw⟩
      case measure => simp [intOf]; omega
    obtain rfl : j = i := by omega
    have g1 : decide ((j : Int) < (s.size : Int)) = true := decide_eq_true (by omega)
    have g2 := AT.out
    have c1 : (0 : Int) ≤ ↑j := by omega
    have c2 : (↑j : Int) ≤ ↑s.size := by omega
    have c3 : (0 : Int) ≤ ↑j + 1 := by omega
    have c4 : (↑j + 1 : Int) ≤ ↑s.size := by omega
    obtain ⟨w1, rfl⟩ : ∃ W, W = wr := ⟨_, rfl⟩
    have K1 : Hid (Blk w1 w.heap.size [.bool false, .slice none 0 0, .slice none 0 0] 50) := hid (by rw [hw.out]; exact K.out)
    have B1 : Hid (Below w.heap.size w w1) := hid (by rw [hw.out]; exact B.out)
    clear hw K B LT AT
    go_wp2_with fail
    refine (PA.out _).mono ?_
    rintro e w2 ⟨A1, n1, c1', rfl, r1, b2⟩
    have o := bx_alloc (bx_refl w2) (.cells #[.bool (sg z), .slice A1 n1 c1'] 25)
    have p1 := r1.2.1
    have p2 := r1.2.2.1
    have K2 := hid (K1.out.keep (bx_call b2 o))
    have B2 := hid (bx_call B1.out (bx_call b2 o))
    have R1 := hid (r1.keep o)
    have KI := hid (Blk.new w2 [.bool (sg z), .slice A1 n1 c1'] 25)
    clear r1 b2 o K1 B1 PA
    obtain ⟨v2, hv⟩ : ∃ W, W = w2.alloc (.cells #[.bool (sg z), .slice A1 n1 c1'] 25) := ⟨_, rfl⟩
    obtain ⟨bi, hb⟩ : ∃ i, i = w2.heap.size := ⟨_, rfl⟩
    rw [← hv] at K2 B2 R1 KI
    rw [← hb] at KI
    go_upto_region 5 with fail
    rw [← hv, ← hb]
    clear hv hb
    obtain ⟨s0, s1⟩ := blk_two KI.out
    go_upto_region 8 with fail
    clear s0 s1
    have o := bx_alloc (bx_refl v2) (.cells #[.bool (sg z), .slice A1 n1 c1', .slice none 0 0] 50)
    have K3 := hid (K2.out.keep o)
    have B3 := hid (bx_call B2.out o)
    have R3 := hid (R1.out.keep o)
    have KI3 := hid (KI.out.keep o)
    have KO := hid (Blk.new v2 [.bool (sg z), .slice A1 n1 c1', .slice none 0 0] 50)
    have nb := hid (show w.heap.size < v2.heap.size from K2.out.lt)
    have nb2 := hid (show bi < v2.heap.size from KI.out.lt)
    obtain ⟨v3, hv⟩ : ∃ W, W = v2.alloc (.cells #[.bool (sg z), .slice A1 n1 c1', .slice none 0 0] 50) := ⟨_, rfl⟩
    obtain ⟨bo, hb⟩ : ∃ i, i = v2.heap.size := ⟨_, rfl⟩
    rw [← hv] at K3 B3 R3 KI3 KO ⊢
    rw [← hb] at KO nb nb2 ⊢
    clear hv hb o K2 B2 R1 KI
    have PD := hid PN
    clear PN
    go_wp2_with fail
    refine (PD.out _).mono ?_
    rintro e w4 ⟨v4, rfl, ⟨D1, m1, d1, rfl, r4⟩, b4⟩
    have p3 := r4.2.1
    have p4 := r4.2.2.1
    have K4 := hid (K3.out.keep b4)
    have B4 := hid (bx_call B3.out b4)
    have R4 := hid (R3.out.keep b4)
    have KI4 := hid (KI3.out.keep b4)
    have KO4 := hid (KO.out.keep b4)
    have S4 := hid r4
    clear r4 b4 K3 B3 R3 KI3 KO PD
    have hm0 : m1 = 0 := by rw [← S4.out.1]; rfl
    subst hm0
    have EE := hid (retq2_end (z := 3) (frl_zero w4 (k := 900) (by omega)) K4.out B4.out (Nat.le_refl _))
    obtain ⟨x0, x1, x2⟩ := blk_three K4.out
    have f0 := Blk.free K4.out 0
    have f1 := Blk.free K4.out 1
    have f2 := Blk.free K4.out 2
    clear K4 B4 R4 KI4 KO4 S4 nb nb2
    go_wp2_with fail
    exact bodyPost_ret (v := .tuple #[.agg #[.bool (sg (0 : Rat).num), .slice none 0 0, .slice none 0 0], .int .i64 3]) (by simp [results, Try.results80, go_sem, x0, x1, x2, sg]) rfl EE.out

set_option maxRecDepth 100000 in
set_option maxHeartbeats 4000000 in
theorem rparse_e (s : ByteArray) (i : Nat) (z : Int) (w : World) (hi : i = fsl s.data.toList) (hs : s.size ≤ 200) (hf : i < s.size) (PI : ∀ W : World, Calls Try.prog 46 #[.string (s.extract 0 i)] W (RetInt2 W z 0)) (D : Nat) (hD : 0 < D) (hz : (dg z.natAbs).length ≤ 900) (hd : (dg D).length ≤ 900) (PN : ∀ W : World, Calls Try.prog 105 #[.string (s.extract (i + 1) s.size)] W (Ret2 W (dg D) 0)) (hacc : accQ z D = false) :
    Calls Try.prog 80 #[.string s] w (RetQ2 w 0 900 3) := by
  have K := hid (Blk.new w [.bool false, .slice none 0 0, .slice none 0 0] 50)
  have B := hid (bx_alloc (bx_refl w) (.cells #[.bool false, .slice none 0 0, .slice none 0 0] 50))
  have PA := hid PI
  have LT := hid (show ∀ (j : Nat) (hj : j < s.size), j < i → (((s[j]'hj).toNat : Int) == 47) = false from fun j hj hji => by
    rw [beq_eq_false_iff_ne]
    intro e
    have h1 := fsl_lt (l := s.data.toList) (j := j) (by rw [← hi]; exact hji) hj
    exact h1 (UInt8.toNat_inj.1 (by have : (s[j]'hj).toNat = 47 := by omega
                                    exact this)))
  have AT := hid (show (((s[i]'hf).toNat : Int) == 47) = true from by
    subst hi
    rw [beq_iff_eq]
    have h1 : s.data.toList[fsl s.data.toList]'hf = 47 := fsl_at hf
    have h2 : s[fsl s.data.toList]'hf = 47 := h1
    rw [h2]; rfl)
  clear PI hi
  have hle : i ≤ s.size := by omega
  go_enter Try.func80, Try.ntmps80
  go_wp2_with fail
  go_loopw [4] (fun v wr => ∃ j : Nat, j ≤ i ∧ v = .int .i64 j ∧ Hid (wr = w.alloc (.cells #[.bool false, .slice none 0 0, .slice none 0 0] 50))) (fun v _ => i - (intOf v).toNat)
  case atStart => exact ⟨0, Nat.zero_le _, rfl, hid rfl⟩
  case round =>
    obtain ⟨j, hj, rfl, hw⟩ := hrel
    rcases Nat.lt_or_ge j i with hlt | hge
    · have hjs : j < s.size := by omega
      have g1 : decide ((j : Int) < (s.size : Int)) = true := decide_eq_true (by omega)
      have g2 := LT.out j hjs hlt
      go_wp2_with fail
      go_roundw
      case rel => exact ⟨j + 1, by omega, by go_num, hw⟩
      case measure => simp [intOf]; omega
    obtain rfl : j = i := by omega
    have g1 : decide ((j : Int) < (s.size : Int)) = true := decide_eq_true (by omega)
    have g2 := AT.out
    have c1 : (0 : Int) ≤ ↑j := by omega
    have c2 : (↑j : Int) ≤ ↑s.size := by omega
    have c3 : (0 : Int) ≤ ↑j + 1 := by omega
    have c4 : (↑j + 1 : Int) ≤ ↑s.size := by omega
    obtain ⟨w1, rfl⟩ : ∃ W, W = wr := ⟨_, rfl⟩
    have K1 : Hid (Blk w1 w.heap.size [.bool false, .slice none 0 0, .slice none 0 0] 50) := hid (by rw [hw.out]; exact K.out)
    have B1 : Hid (Below w.heap.size w w1) := hid (by rw [hw.out]; exact B.out)
    clear hw K B LT AT
    go_wp2_with fail
    refine (PA.out _).mono ?_
    rintro e w2 ⟨A1, n1, c1', rfl, r1, b2⟩
    have o := bx_alloc (bx_refl w2) (.cells #[.bool (sg z), .slice A1 n1 c1'] 25)
    have p1 := r1.2.1
    have p2 := r1.2.2.1
    have K2 := hid (K1.out.keep (bx_call b2 o))
    have B2 := hid (bx_call B1.out (bx_call b2 o))
    have R1 := hid (r1.keep o)
    have KI := hid (Blk.new w2 [.bool (sg z), .slice A1 n1 c1'] 25)
    clear r1 b2 o K1 B1 PA
    obtain ⟨v2, hv⟩ : ∃ W, W = w2.alloc (.cells #[.bool (sg z), .slice A1 n1 c1'] 25) := ⟨_, rfl⟩
    obtain ⟨bi, hb⟩ : ∃ i, i = w2.heap.size := ⟨_, rfl⟩
    rw [← hv] at K2 B2 R1 KI
    rw [← hb] at KI
    go_upto_region 5 with fail
    rw [← hv, ← hb]
    clear hv hb
    obtain ⟨s0, s1⟩ := blk_two KI.out
    go_upto_region 8 with fail
    clear s0 s1
    have o := bx_alloc (bx_refl v2) (.cells #[.bool (sg z), .slice A1 n1 c1', .slice none 0 0] 50)
    have K3 := hid (K2.out.keep o)
    have B3 := hid (bx_call B2.out o)
    have R3 := hid (R1.out.keep o)
    have KI3 := hid (KI.out.keep o)
    have KO := hid (Blk.new v2 [.bool (sg z), .slice A1 n1 c1', .slice none 0 0] 50)
    have nb := hid (show w.heap.size < v2.heap.size from K2.out.lt)
    have nb2 := hid (show bi < v2.heap.size from KI.out.lt)
    obtain ⟨v3, hv⟩ : ∃ W, W = v2.alloc (.cells #[.bool (sg z), .slice A1 n1 c1', .slice none 0 0] 50) := ⟨_, rfl⟩
    obtain ⟨bo, hb⟩ : ∃ i, i = v2.heap.size := ⟨_, rfl⟩
    rw [← hv] at K3 B3 R3 KI3 KO ⊢
    rw [← hb] at KO nb nb2 ⊢
    clear hv hb o K2 B2 R1 KI
    have PD := hid PN
    clear PN
    go_wp2_with fail
    refine (PD.out _).mono ?_
    rintro e w4 ⟨v4, rfl, ⟨D1, m1, d1, rfl, r4⟩, b4⟩
    have p3 := r4.2.1
    have p4 := r4.2.2.1
    have K4 := hid (K3.out.keep b4)
    have B4 := hid (bx_call B3.out b4)
    have R4 := hid (R3.out.keep b4)
    have KI4 := hid (KI3.out.keep b4)
    have KO4 := hid (KO.out.keep b4)
    have S4 := hid r4
    clear r4 b4 K3 B3 R3 KI3 KO PD
    have hm0 : ((m1 : Int) == 0) = false := by
      rw [beq_eq_false_iff_ne]
      have := S4.out.1
      have := dg_len_pos hD
      omega
    have cc := (qrbuild_any (sg z) A1 n1 c1' _ D1 m1 d1 _ w4 R4.out (by have := R4.out.1; omega) S4.out (by have := S4.out.1; omega) (by rw [val_dg]; exact hD)).mono fun e w' hr => (show RetQ w4 (mkRat z D) 900 e w' from by
      rw [iv_sg, val_dg] at hr
      exact retQ_of hr hD hz hd (by omega) rfl)
    have BU := hid cc
    obtain ⟨qz, hqz⟩ : ∃ q, q = mkRat z D := ⟨_, rfl⟩
    rw [← hqz] at BU
    have HQ := hid hqz
    obtain ⟨s0, s1⟩ := blk_two KI4.out
    clear cc hqz
    go_wp2_with fail
    refine (BU.out).mono ?_
    rintro e w5 ⟨A5, n5, c5, D5, m5, d5, rfl, r5, b5⟩
    have K50 := K4.out.keep b5
    have O50 := KO4.out.keep b5
    obtain ⟨v6, hv⟩ : ∃ W, W = ((w5.setCell ⟨bo, 0, none⟩ (.bool (sg qz.num))).setCell ⟨bo, 1, none⟩ (.slice A5 n5 c5)).setCell ⟨bo, 2, none⟩ (.slice D5 m5 d5) := ⟨_, rfl⟩
    have K6 : Hid (Blk v6 w.heap.size [.bool false, .slice none 0 0, .slice none 0 0] 50) := hid (by rw [hv]; exact ((K50.far (Nat.ne_of_lt nb.out) _).far (Nat.ne_of_lt nb.out) _).far (Nat.ne_of_lt nb.out) _)
    have O6 : Hid (Blk v6 bo [.bool (sg qz.num), .slice A5 n5 c5, .slice D5 m5 d5] 50) := hid (by rw [hv]; exact ((O50.set_ 0 _).set_ 1 _).set_ 2 _)
    have L6 : Hid (FrL v6 A5 n5 c5 D5 m5 d5 900 qz) := hid (by rw [hv]; exact ⟨rd_cell_far3 r5.1 O50 _ _ _, r5.2.1, rd_cell_far3 r5.2.2.1 O50 _ _ _, r5.2.2.2⟩)
    have S6 : Hid (Rd v6 D1 m1 d1 (dg D)) := hid (by rw [hv]; exact rd_cell_far3 (S4.out.keep b5) O50 _ _ _)
    have B6 : Hid (Below w.heap.size w v6) := hid (by rw [hv]; exact bx_set (bx_set (bx_set (bx_call B4.out b5) (Nat.le_of_lt nb.out)) (Nat.le_of_lt nb.out)) (Nat.le_of_lt nb.out))
    obtain ⟨y0, y1, y2⟩ := blk_three O50
    have h0 := Blk.free O50 0
    have h1' := Blk.free O50 1
    have h2 := Blk.free O50 2
    clear r5 b5 K50 O50 K4 B4 R4 KI4 KO4 S4 s0 s1 BU
    go_upto_region 13 with fail
    rw [← hv]
    clear hv y0 y1 y2 h0 h1' h2
    have SM := hid (rsame_any D5 D1 m5 d5 m1 d1 (dn qz.den) (dg D) v6 L6.out.2.2.1 S6.out)
    have p5 := L6.out.2.2.1.2.1
    have p6 := L6.out.2.2.1.2.2.1
    have p7 := L6.out.1.2.1
    have p8 := L6.out.1.2.2.1
    obtain ⟨t0, t1, t2⟩ := blk_three O6.out
    have ha : decide (dn qz.den = dg D) = false := by have t := hacc; unfold accQ at t; rw [← HQ.out] at t; exact t
    rw [ha] at SM
    clear ha HQ
    rcases Nat.eq_zero_or_pos m5 with rfl | hm5
    · clear SM
      have EE := hid (retq2_end (z := 3) (frl_zero v6 (k := 900) (by omega)) K6.out B6.out (Nat.le_refl _))
      obtain ⟨x0, x1, x2⟩ := blk_three K6.out
      have f0 := Blk.free K6.out 0
      have f1 := Blk.free K6.out 1
      have f2 := Blk.free K6.out 2
      clear K6 O6 L6 S6 B6 nb nb2
      go_wp2_with fail
      exact bodyPost_ret (v := .tuple #[.agg #[.bool (sg (0 : Rat).num), .slice none 0 0, .slice none 0 0], .int .i64 3]) (by simp [results, Try.results80, go_sem, x0, x1, x2, sg]) rfl EE.out
    · have hm6 : ((m5 : Int) == 0) = false := beq_eq_false_iff_ne.2 (by omega)
      go_wp2_with fail
      refine (SM.out).mono ?_
      rintro e w7 ⟨rfl, b7⟩
      have K7 := hid (K6.out.keep b7)
      have B7 := hid (bx_call B6.out b7)
      clear b7 SM K6 B6 O6 L6 S6 t0 t1 t2 nb nb2
      have EE := hid (retq2_end (z := 3) (frl_zero w7 (k := 900) (by omega)) K7.out B7.out (Nat.le_refl _))
      obtain ⟨x0, x1, x2⟩ := blk_three K7.out
      have f0 := Blk.free K7.out 0
      have f1 := Blk.free K7.out 1
      have f2 := Blk.free K7.out 2
      clear K7 B7
      go_wp2_with fail
      exact bodyPost_ret (v := .tuple #[.agg #[.bool (sg (0 : Rat).num), .slice none 0 0, .slice none 0 0], .int .i64 3]) (by simp [results, Try.results80, go_sem, x0, x1, x2, sg]) rfl EE.out

set_option maxRecDepth 100000 in
set_option maxHeartbeats 4000000 in
theorem rparse_f (s : ByteArray) (i : Nat) (z : Int) (w : World) (hi : i = fsl s.data.toList) (hs : s.size ≤ 200) (hf : i < s.size) (PI : ∀ W : World, Calls Try.prog 46 #[.string (s.extract 0 i)] W (RetInt2 W z 0)) (D : Nat) (hD : 0 < D) (hz : (dg z.natAbs).length ≤ 900) (hd : (dg D).length ≤ 900) (PN : ∀ W : World, Calls Try.prog 105 #[.string (s.extract (i + 1) s.size)] W (Ret2 W (dg D) 0)) (hacc : accQ z D = true) :
    Calls Try.prog 80 #[.string s] w (RetQ2 w (mkRat z D) 900 0) := by
  have K := hid (Blk.new w [.bool false, .slice none 0 0, .slice none 0 0] 50)
  have B := hid (bx_alloc (bx_refl w) (.cells #[.bool false, .slice none 0 0, .slice none 0 0] 50))
  have PA := hid PI
  have LT := hid (show ∀ (j : Nat) (hj : j < s.size), j < i → (((s[j]'hj).toNat : Int) == 47) = false from fun j hj hji => by
    rw [beq_eq_false_iff_ne]
    intro e
    have h1 := fsl_lt (l := s.data.toList) (j := j) (by rw [← hi]; exact hji) hj
    exact h1 (UInt8.toNat_inj.1 (by have : (s[j]'hj).toNat = 47 := by omega
                                    exact this)))
  have AT := hid (show (((s[i]'hf).toNat : Int) == 47) = true from by
    subst hi
    rw [beq_iff_eq]
    have h1 : s.data.toList[fsl s.data.toList]'hf = 47 := fsl_at hf
    have h2 : s[fsl s.data.toList]'hf = 47 := h1
    rw [h2]; rfl)
  clear PI hi
  have hle : i ≤ s.size := by omega
  go_enter Try.func80, Try.ntmps80
  go_wp2_with fail
  go_loopw [4] (fun v wr => ∃ j : Nat, j ≤ i ∧ v = .int .i64 j ∧ Hid (wr = w.alloc (.cells #[.bool false, .slice none 0 0, .slice none 0 0] 50))) (fun v _ => i - (intOf v).toNat)
  case atStart => exact ⟨0, Nat.zero_le _, rfl, hid rfl⟩
  case round =>
    obtain ⟨j, hj, rfl, hw⟩ := hrel
    rcases Nat.lt_or_ge j i with hlt | hge
    · have hjs : j < s.size := by omega
      have g1 : decide ((j : Int) < (s.size : Int)) = true := decide_eq_true (by omega)
      have g2 := LT.out j hjs hlt
      go_wp2_with fail
      go_roundw
      case rel => exact ⟨j + 1, by omega, by go_num, hw⟩
      case measure => simp [intOf]; omega
    obtain rfl : j = i := by omega
    have g1 : decide ((j : Int) < (s.size : Int)) = true := decide_eq_true (by omega)
    have g2 := AT.out
    have c1 : (0 : Int) ≤ ↑j := by omega
    have c2 : (↑j : Int) ≤ ↑s.size := by omega
    have c3 : (0 : Int) ≤ ↑j + 1 := by omega
    have c4 : (↑j + 1 : Int) ≤ ↑s.size := by omega
    obtain ⟨w1, rfl⟩ : ∃ W, W = wr := ⟨_, rfl⟩
    have K1 : Hid (Blk w1 w.heap.size [.bool false, .slice none 0 0, .slice none 0 0] 50) := hid (by rw [hw.out]; exact K.out)
    have B1 : Hid (Below w.heap.size w w1) := hid (by rw [hw.out]; exact B.out)
    clear hw K B LT AT
    go_wp2_with fail
    refine (PA.out _).mono ?_
    rintro e w2 ⟨A1, n1, c1', rfl, r1, b2⟩
    have o := bx_alloc (bx_refl w2) (.cells #[.bool (sg z), .slice A1 n1 c1'] 25)
    have p1 := r1.2.1
    have p2 := r1.2.2.1
    have K2 := hid (K1.out.keep (bx_call b2 o))
    have B2 := hid (bx_call B1.out (bx_call b2 o))
    have R1 := hid (r1.keep o)
    have KI := hid (Blk.new w2 [.bool (sg z), .slice A1 n1 c1'] 25)
    clear r1 b2 o K1 B1 PA
    obtain ⟨v2, hv⟩ : ∃ W, W = w2.alloc (.cells #[.bool (sg z), .slice A1 n1 c1'] 25) := ⟨_, rfl⟩
    obtain ⟨bi, hb⟩ : ∃ i, i = w2.heap.size := ⟨_, rfl⟩
    rw [← hv] at K2 B2 R1 KI
    rw [← hb] at KI
    go_upto_region 5 with fail
    rw [← hv, ← hb]
    clear hv hb
    obtain ⟨s0, s1⟩ := blk_two KI.out
    go_upto_region 8 with fail
    clear s0 s1
    have o := bx_alloc (bx_refl v2) (.cells #[.bool (sg z), .slice A1 n1 c1', .slice none 0 0] 50)
    have K3 := hid (K2.out.keep o)
    have B3 := hid (bx_call B2.out o)
    have R3 := hid (R1.out.keep o)
    have KI3 := hid (KI.out.keep o)
    have KO := hid (Blk.new v2 [.bool (sg z), .slice A1 n1 c1', .slice none 0 0] 50)
    have nb := hid (show w.heap.size < v2.heap.size from K2.out.lt)
    have nb2 := hid (show bi < v2.heap.size from KI.out.lt)
    obtain ⟨v3, hv⟩ : ∃ W, W = v2.alloc (.cells #[.bool (sg z), .slice A1 n1 c1', .slice none 0 0] 50) := ⟨_, rfl⟩
    obtain ⟨bo, hb⟩ : ∃ i, i = v2.heap.size := ⟨_, rfl⟩
    rw [← hv] at K3 B3 R3 KI3 KO ⊢
    rw [← hb] at KO nb nb2 ⊢
    clear hv hb o K2 B2 R1 KI
    have PD := hid PN
    clear PN
    go_wp2_with fail
    refine (PD.out _).mono ?_
    rintro e w4 ⟨v4, rfl, ⟨D1, m1, d1, rfl, r4⟩, b4⟩
    have p3 := r4.2.1
    have p4 := r4.2.2.1
    have K4 := hid (K3.out.keep b4)
    have B4 := hid (bx_call B3.out b4)
    have R4 := hid (R3.out.keep b4)
    have KI4 := hid (KI3.out.keep b4)
    have KO4 := hid (KO.out.keep b4)
    have S4 := hid r4
    clear r4 b4 K3 B3 R3 KI3 KO PD
    have hm0 : ((m1 : Int) == 0) = false := by
      rw [beq_eq_false_iff_ne]
      have := S4.out.1
      have := dg_len_pos hD
      omega
    have cc := (qrbuild_any (sg z) A1 n1 c1' _ D1 m1 d1 _ w4 R4.out (by have := R4.out.1; omega) S4.out (by have := S4.out.1; omega) (by rw [val_dg]; exact hD)).mono fun e w' hr => (show RetQ w4 (mkRat z D) 900 e w' from by
      rw [iv_sg, val_dg] at hr
      exact retQ_of hr hD hz hd (by omega) rfl)
    have BU := hid cc
    obtain ⟨qz, hqz⟩ : ∃ q, q = mkRat z D := ⟨_, rfl⟩
    rw [← hqz] at BU
    have HQ := hid hqz
    obtain ⟨s0, s1⟩ := blk_two KI4.out
    clear cc hqz
    go_wp2_with fail
    refine (BU.out).mono ?_
    rintro e w5 ⟨A5, n5, c5, D5, m5, d5, rfl, r5, b5⟩
    have K50 := K4.out.keep b5
    have O50 := KO4.out.keep b5
    obtain ⟨v6, hv⟩ : ∃ W, W = ((w5.setCell ⟨bo, 0, none⟩ (.bool (sg qz.num))).setCell ⟨bo, 1, none⟩ (.slice A5 n5 c5)).setCell ⟨bo, 2, none⟩ (.slice D5 m5 d5) := ⟨_, rfl⟩
    have K6 : Hid (Blk v6 w.heap.size [.bool false, .slice none 0 0, .slice none 0 0] 50) := hid (by rw [hv]; exact ((K50.far (Nat.ne_of_lt nb.out) _).far (Nat.ne_of_lt nb.out) _).far (Nat.ne_of_lt nb.out) _)
    have O6 : Hid (Blk v6 bo [.bool (sg qz.num), .slice A5 n5 c5, .slice D5 m5 d5] 50) := hid (by rw [hv]; exact ((O50.set_ 0 _).set_ 1 _).set_ 2 _)
    have L6 : Hid (FrL v6 A5 n5 c5 D5 m5 d5 900 qz) := hid (by rw [hv]; exact ⟨rd_cell_far3 r5.1 O50 _ _ _, r5.2.1, rd_cell_far3 r5.2.2.1 O50 _ _ _, r5.2.2.2⟩)
    have S6 : Hid (Rd v6 D1 m1 d1 (dg D)) := hid (by rw [hv]; exact rd_cell_far3 (S4.out.keep b5) O50 _ _ _)
    have B6 : Hid (Below w.heap.size w v6) := hid (by rw [hv]; exact bx_set (bx_set (bx_set (bx_call B4.out b5) (Nat.le_of_lt nb.out)) (Nat.le_of_lt nb.out)) (Nat.le_of_lt nb.out))
    obtain ⟨y0, y1, y2⟩ := blk_three O50
    have h0 := Blk.free O50 0
    have h1' := Blk.free O50 1
    have h2 := Blk.free O50 2
    clear r5 b5 K50 O50 K4 B4 R4 KI4 KO4 S4 s0 s1 BU
    go_upto_region 13 with fail
    rw [← hv]
    clear hv y0 y1 y2 h0 h1' h2
    have SM := hid (rsame_any D5 D1 m5 d5 m1 d1 (dn qz.den) (dg D) v6 L6.out.2.2.1 S6.out)
    have p5 := L6.out.2.2.1.2.1
    have p6 := L6.out.2.2.1.2.2.1
    have p7 := L6.out.1.2.1
    have p8 := L6.out.1.2.2.1
    obtain ⟨t0, t1, t2⟩ := blk_three O6.out
    have ha : decide (dn qz.den = dg D) = true := by have t := hacc; unfold accQ at t; rw [← HQ.out] at t; exact t
    rw [ha] at SM
    have hm6 : ((m5 : Int) == 0) = false := by
      rw [beq_eq_false_iff_ne]
      have e1 := of_decide_eq_true ha
      have e2 := L6.out.2.2.1.1
      rw [e1] at e2
      have := dg_len_pos hD
      omega
    clear ha
    go_wp2_with fail
    refine (SM.out).mono ?_
    rintro e w7 ⟨rfl, b7⟩
    have K7 := hid (K6.out.keep b7)
    have B7 := hid (bx_call B6.out b7)
    have EE := hid (retq2_end (z := 0) (L6.out.keep b7) K7.out B7.out (Nat.le_refl _))
    obtain ⟨x0, x1, x2⟩ := blk_three K7.out
    have f0 := Blk.free K7.out 0
    have f1 := Blk.free K7.out 1
    have f2 := Blk.free K7.out 2
    obtain ⟨u0, u1, u2⟩ := blk_three (O6.out.keep b7)
    clear b7 SM K6 B6 O6 L6 S6 t0 t1 t2 K7 B7 nb nb2
    go_wp2_with fail
    exact bodyPost_ret (v := .tuple #[.agg #[.bool (sg qz.num), .slice A5 n5 c5, .slice D5 m5 d5], .int .i64 0]) (by simp [results, Try.results80, go_sem, x0, x1, x2]) rfl (by rw [← HQ.out]; exact EE.out)

end Go.Proofs.Ytcbbacnhnaopmaa
