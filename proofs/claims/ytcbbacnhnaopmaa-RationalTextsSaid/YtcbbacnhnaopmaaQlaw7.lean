/- The law RationalTexts of layer 3, walked by contracts. -/
import Derived.Test.YtcbbacnhnaopmaaQpar2
namespace Go.Proofs.Ytcbbacnhnaopmaa
open Go.RowKit

theorem bytes_eq {s t : ByteArray} (h : s.data.toList = t.data.toList) : s = t := by
  cases s
  cases t
  simp at h
  rw [h]
theorem extract_lst2 (s : ByteArray) (a b : Nat) : (s.extract a b).data.toList = (s.data.toList.drop a).take (b - a) := by
  simp [ByteArray.data_extract]
theorem slash_split {l : List UInt8} (h : fsl l < l.length) : l = l.take (fsl l) ++ 47 :: l.drop (fsl l + 1) := by
  have h1 := fsl_at h
  rw [← h1, List.getElem_cons_drop, List.take_append_drop]
/-- Both parsers return the same, and what they accept is the text. -/
theorem qparse_both (s : ByteArray) (hs : s.size ≤ 200) : ∃ (q : Rat) (k : Int), (∀ W : World, Calls Try.prog 79 #[.string s] W (RetQ2 W q 900 k)) ∧ (∀ W : World, Calls Try.prog 80 #[.string s] W (RetQ2 W q 900 k)) ∧ ((k = 0 ∧ (⟨(txQ q).toArray⟩ : ByteArray) = s) ∨ k = 3) := by
  obtain ⟨i, hi⟩ : ∃ i, i = fsl s.data.toList := ⟨_, rfl⟩
  have hle : i ≤ s.size := by rw [hi]; exact fsl_le _
  have sa : (s.extract 0 i).size ≤ 200 := by rw [ByteArray.size_extract]; omega
  have sb : (s.extract (i + 1) s.size).size ≤ 200 := by rw [ByteArray.size_extract]; omega
  have CUT := fun W => scut s W hs
  unfold RetCut at CUT
  rw [← hi] at CUT
  obtain ⟨z, k, pa, pb, hl, hk⟩ := iparse_both (s.extract 0 i) (by omega)
  by_cases hf : i < s.size
  · rw [decide_eq_true hf] at CUT
    rcases hk with ⟨rfl, ht⟩ | rfl
    · have PN := fun W => parse_any (s.extract (i + 1) s.size) W (by omega)
      have RN := fun W => rparse_any (s.extract (i + 1) s.size) W (by omega)
      obtain ⟨bl, hbl⟩ : ∃ l, l = (s.extract (i + 1) s.size).data.toList := ⟨_, rfl⟩
      rw [← hbl] at PN RN
      cases hT : isT bl
      · have e1 : parD bl = [] := by unfold parD; rw [hT]; rfl
        have e2 : parE bl = 3 := by unfold parE; rw [hT]; rfl
        rw [e1, e2] at PN RN
        exact ⟨0, 3, fun W => qparse_c s _ _ z W CUT pa PN, fun W => rparse_c s i z W hi hs hf pb RN, .inr rfl⟩
      · have e1 : parD bl = dg (numT bl) := by unfold parD; rw [hT]; rfl
        have e2 : parE bl = 0 := by unfold parE; rw [hT]; rfl
        rw [e1, e2] at PN RN
        have hd := num_len2 hT
        have htx := tx_numT hT
        obtain ⟨D, hD⟩ : ∃ D, D = numT bl := ⟨_, rfl⟩
        rw [← hD] at PN RN hd htx
        rcases Nat.eq_zero_or_pos D with hz | hp
        · rw [hz] at PN RN
          exact ⟨0, 3, fun W => qparse_d s _ _ z W CUT pa PN, fun W => rparse_d s i z W hi hs hf pb RN, .inr rfl⟩
        · cases hacc : accQ z D
          · exact ⟨0, 3, fun W => qparse_e s _ _ z W CUT pa D hp hl hd PN hacc, fun W => rparse_e s i z W hi hs hf pb D hp hl hd RN hacc, .inr rfl⟩
          · refine ⟨mkRat z D, 0, fun W => qparse_f s _ _ z W CUT pa D hp hl hd PN hacc, fun W => rparse_f s i z W hi hs hf pb D hp hl hd RN hacc, .inl ⟨rfl, ?_⟩⟩
            obtain ⟨a1, a2, a3⟩ := acc_den hacc hp
            have et : txQ (mkRat z D) = txZ z ++ 47 :: tx D := by unfold txQ; rw [if_neg (by rw [a1]; exact a3), a1, a2]
            have ea : txZ z = s.data.toList.take i := by
              have := congrArg (fun t : ByteArray => t.data.toList) ht
              simp only [extract_lst2] at this
              simpa using this
            have eb : bl = s.data.toList.drop (i + 1) := by
              rw [hbl, extract_lst2]
              exact List.take_of_length_le (by rw [List.length_drop]; exact Nat.le_refl _)
            apply bytes_eq
            rw [et, htx, ea, eb, hi]
            have hsp := slash_split (l := s.data.toList) (by rw [← hi]; exact hf)
            simpa using hsp.symm
    · exact ⟨0, 3, fun W => qparse_a s _ _ true z W CUT pa, fun W => rparse_a1 s i z W hi hs hf pb, .inr rfl⟩
  · rw [decide_eq_false hf] at CUT
    have he : i = s.size := by omega
    rcases hk with ⟨rfl, ht⟩ | rfl
    · refine ⟨(z : Rat), 0, fun W => qparse_b s _ _ z W CUT pa hl, fun W => rparse_b s i z W hi hs he pb hl, .inl ⟨rfl, ?_⟩⟩
      have et : txQ (z : Rat) = txZ z := if_pos rfl
      rw [et, ht, he]
      exact ByteArray.extract_zero_size
    · exact ⟨0, 3, fun W => qparse_a s _ _ false z W CUT pa, fun W => rparse_a2 s i z W hi hs he pb, .inr rfl⟩

set_option maxRecDepth 100000 in
set_option maxHeartbeats 4000000 in
theorem rationalTexts_any (s : ByteArray) (w : World) (_hs : s.size ≤ 9223372036854775807) :
    Calls Try.prog 15 #[.string s] w (RetB w true) := by
  by_cases hf : s.size ≤ 200
  · obtain ⟨q, k, pa, pb, hk⟩ := qparse_both s hf
    have PA := hid pa
    have PB := hid pb
    have g1 : decide ((200 : Int) < (s.size : Int)) = false := decide_eq_false (by omega)
    have HK := hid hk
    clear pa pb hk hf
    go_enter Try.func15, Try.ntmps15
    go_wp2_with fail
    refine (qawake_any w).mono ?_
    rintro e w1 ⟨rfl, b1⟩
    have X1 := hid b1
    clear b1
    go_wp2_with fail
    refine (PA.out w1).mono ?_
    rintro e w2 ⟨A1, n1, c1, D1, m1, d1, rfl, r, b0⟩
    have o := bx_alloc (bx_refl w2) (.cells #[.bool (sg q.num), .slice A1 n1 c1, .slice D1 m1 d1] 50)
    have p1 := r.1.2.1
    have p2 := r.1.2.2.1
    have p3 := r.2.2.1.2.1
    have p4 := r.2.2.1.2.2.1
    have X2 := hid (bx_call X1.out (bx_call b0 o))
    have Lx := hid (r.keep o)
    have Kx := hid (Blk.new w2 [.bool (sg q.num), .slice A1 n1 c1, .slice D1 m1 d1] 50)
    clear r b0 o X1 PA
    obtain ⟨v2, hv2⟩ : ∃ W, W = w2.alloc (.cells #[.bool (sg q.num), .slice A1 n1 c1, .slice D1 m1 d1] 50) := ⟨_, rfl⟩
    obtain ⟨bx, hbx⟩ : ∃ i, i = w2.heap.size := ⟨_, rfl⟩
    rw [← hv2] at X2 Lx Kx
    rw [← hbx] at Kx
    go_upto_region 4 with fail
    rw [← hv2, ← hbx]
    clear hv2 hbx
    go_wp2_with fail
    refine (PB.out _).mono ?_
    rintro e w3 ⟨A2, n2, c2, D2, m2, d2, rfl, r, b0⟩
    have o := bx_alloc (bx_refl w3) (.cells #[.bool (sg q.num), .slice A2 n2 c2, .slice D2 m2 d2] 50)
    have p5 := r.1.2.1
    have p6 := r.1.2.2.1
    have p7 := r.2.2.1.2.1
    have p8 := r.2.2.1.2.2.1
    have X3 := hid (bx_call X2.out (bx_call b0 o))
    have Lx3 := hid (Lx.out.keep (bx_call b0 o))
    have Kx3 := hid (Kx.out.keep (bx_call b0 o))
    have Ly := hid (r.keep o)
    have Ky := hid (Blk.new w3 [.bool (sg q.num), .slice A2 n2 c2, .slice D2 m2 d2] 50)
    clear r b0 o X2 PB Lx Kx
    obtain ⟨v3, hv3⟩ : ∃ W, W = w3.alloc (.cells #[.bool (sg q.num), .slice A2 n2 c2, .slice D2 m2 d2] 50) := ⟨_, rfl⟩
    obtain ⟨b3, hb3⟩ : ∃ i, i = w3.heap.size := ⟨_, rfl⟩
    rw [← hv3] at X3 Lx3 Kx3 Ly Ky
    rw [← hb3] at Ky
    go_upto_region 5 with fail
    rw [← hv3, ← hb3]
    clear hv3 hb3
    have cc := vsame Lx3.out Ly.out
    rw [decide_eq_true rfl] at cc
    have CC := hid cc
    clear cc
    obtain ⟨s0, s1, s2⟩ := blk_three Kx3.out
    obtain ⟨t0, t1, t2⟩ := blk_three Ky.out
    rcases HK.out with ⟨hk0, ht⟩ | hk3
    · subst hk0
      have TX := hid (fun (W : World) (r : FrL W A1 n1 c1 D1 m1 d1 900 q) => (show Calls Try.prog 63 #[.agg #[.bool (sg q.num), .slice A1 n1 c1, .slice D1 m1 d1]] W (fun e w' => e = .returned (.string s) ∧ Below W.heap.size W w') from by
        have t := vtext (sg q.num) A1 n1 c1 D1 m1 d1 900 q W r.v (by omega)
        unfold RetStr at t
        rw [ht] at t
        exact t))
      have VV := hid (fun (W : World) (r : FrL W A1 n1 c1 D1 m1 d1 900 q) => (show Calls Try.prog 56 #[.agg #[.bool (sg q.num), .slice A1 n1 c1, .slice D1 m1 d1]] W (RetB W true) from by
        have t := vvalid (sg q.num) A1 n1 c1 _ D1 m1 d1 _ W r.1 (Nat.le_trans r.2.1 (by omega)) r.2.2.1 (Nat.le_trans r.2.2.2.1 (by omega))
        rw [vB_low r] at t
        exact t))
      clear HK ht Ly Ky
      go_wp2_with fail
      refine (CC.out).mono ?_
      rintro e w4 ⟨rfl, b0⟩
      have X4 := hid (bx_call X3.out b0)
      have Lx4 := hid (Lx3.out.keep b0)
      have Kx4 := hid (Kx3.out.keep b0)
      clear b0 CC X3 Lx3 Kx3 s0 s1 s2 t0 t1 t2
      have T4 := hid (TX.out w4 Lx4.out)
      obtain ⟨u0, u1, u2⟩ := blk_three Kx4.out
      go_wp2_with fail
      refine (T4.out).mono ?_
      rintro e w5 ⟨rfl, b0⟩
      have X5 := hid (bx_call X4.out b0)
      have V5 := hid (VV.out w5 (Lx4.out.keep b0))
      obtain ⟨v0, v1, v2'⟩ := blk_three (Kx4.out.keep b0)
      clear b0 T4 X4 Lx4 Kx4 u0 u1 u2 TX VV
      go_wp2_with fail
      refine (V5.out).mono ?_
      rintro e w6 ⟨rfl, b0⟩
      have X6 := hid (bx_call X5.out b0)
      clear b0 V5 X5
      go_wp2_with fail
      go_ret
      exact ⟨rfl, X6.out⟩
    · subst hk3
      clear HK Ly Ky
      go_wp2_with fail
      refine (CC.out).mono ?_
      rintro e w4 ⟨rfl, b0⟩
      have X4 := hid (bx_call X3.out b0)
      clear b0 CC X3 Lx3 Kx3 s0 s1 s2 t0 t1 t2
      go_wp2_with fail
      go_ret
      exact ⟨rfl, X4.out⟩
  · have g1 : decide ((200 : Int) < (s.size : Int)) = true := decide_eq_true (by omega)
    clear hf
    go_enter Try.func15, Try.ntmps15
    go_wp2_with fail
    refine (qawake_any w).mono ?_
    rintro e w1 ⟨rfl, b1⟩
    have X1 := hid b1
    clear b1
    go_wp2_with fail
    refine (qawake_any _).mono ?_
    rintro e w2 ⟨rfl, b1⟩
    have X2 := hid (bx_call X1.out b1)
    clear b1 X1
    go_wp2_with fail
    go_ret
    exact ⟨rfl, X2.out⟩

end Go.Proofs.Ytcbbacnhnaopmaa
