/- Laws of layer 1, walked by contracts. -/
import Derived.Test.YtojcjhnhajjppaaLaw2
namespace Go.Proofs.Ytojcjhnhajjppaa
open Go.RowKit

theorem numT_rev (m : List UInt8) : numT m.reverse = val10 (m.map fun c => c.toNat - 48) := by
  induction m with
  | nil => rfl
  | cons c m ih => rw [List.reverse_cons, numT_snoc, ih, List.map_cons, val10]; omega
theorem ch_dig {c : UInt8} (h : isDig c = true) : ch (c.toNat - 48) = c := by
  simp only [isDig, decide_eq_true_eq] at h
  unfold ch
  apply UInt8.toNat_inj.1
  rw [UInt8.toNat_ofNat']
  omega
theorem tx_numT {l : List UInt8} (h : isT l = true) : tx (numT l) = l := by
  obtain ⟨_, hall⟩ := isT_parts h
  have hT := h
  unfold isT at hT
  simp only [Bool.and_eq_true, Bool.not_eq_true', decide_eq_true_eq, Bool.and_eq_false_iff, decide_eq_false_iff_not] at hT
  obtain ⟨⟨⟨h1, _⟩, h2⟩, _⟩ := hT
  cases l with
  | nil => simp at h1
  | cons c l =>
    have hv : numT (c :: l) = val10 ((c :: l).reverse.map fun c => c.toNat - 48) := by
      have := numT_rev (c :: l).reverse
      rwa [List.reverse_reverse] at this
    have hds : Decs_t ((c :: l).reverse.map fun c => c.toNat - 48) := by
      intro x hx
      obtain ⟨a, ha, rfl⟩ := List.mem_map.1 hx
      rw [List.all_eq_true] at hall
      have := hall a (List.mem_reverse.1 ha)
      simp only [isDig, decide_eq_true_eq] at this
      omega
    have hback : (((c :: l).reverse.map fun c => c.toNat - 48).map ch).reverse = c :: l := by
      rw [List.map_map, ← List.map_reverse, List.reverse_reverse]
      rw [List.all_eq_true] at hall
      calc (c :: l).map (ch ∘ fun c => c.toNat - 48) = (c :: l).map id := List.map_congr_left fun a ha => ch_dig (hall a ha)
        _ = c :: l := List.map_id _
    have hlast : ((c :: l).reverse.map fun c => c.toNat - 48).getD (((c :: l).reverse.map fun c => c.toNat - 48).length - 1) 0 = c.toNat - 48 := by
      simp [List.getD]
    have hc := hall
    rw [List.all_cons, Bool.and_eq_true] at hc
    have hcd := hc.1
    simp only [isDig, decide_eq_true_eq] at hcd
    by_cases h0 : c.toNat = 48
    · rcases h2 with h2 | h2
      · have hl : l = [] := by simpa using h2
        subst hl
        have : numT [c] = 0 := by rw [numT_cons, h0]; rfl
        rw [this]
        unfold tx
        rw [if_pos rfl]
        congr 1
        apply UInt8.toNat_inj.1
        rw [h0]; rfl
      · exfalso
        refine h2 ?_
        simp
        apply UInt8.toNat_inj.1
        rw [h0]; rfl
    · have hf : Full10 ((c :: l).reverse.map fun c => c.toNat - 48) := .inr (by rw [hlast]; omega)
      have hne : numT (c :: l) ≠ 0 := by
        rw [hv]
        have h3 := full_lower_t (xs := (c :: l).reverse.map fun c => c.toNat - 48) (by rw [hlast]; omega)
        have := Nat.pow_pos (n := ((c :: l).reverse.map fun c => c.toNat - 48).length - 1) (show 0 < 10 by omega)
        omega
      rw [tx_lit hds hf hv.symm hne, hback]
theorem uintV_small {n : Nat} (h : n < 18446744073709551616) : uintV n = n := by unfold uintV; rw [if_pos h]
theorem uintB_small {n : Nat} (h : n < 18446744073709551616) : uintB n = true := by unfold uintB; rw [decide_eq_true h]
def mk_bs (s : ByteArray) : List UInt8 := s.data.toList
theorem par_len {l : List UInt8} : (parD l).length ≤ 900 := by
  unfold parD
  split
  · rename_i h
    obtain ⟨h1, h2⟩ := isT_parts h
    have := num_len 900 (l := l) (k := l.length) (by rw [List.take_of_length_le (Nat.le_refl _)]; exact h2) (by omega)
    rwa [List.take_of_length_le (Nat.le_refl _)] at this
  · simp

set_option maxRecDepth 100000 in
set_option maxHeartbeats 4000000 in
theorem naturalForms_any (Aa : Option Addr) (na ca : Nat) (xsa : List Nat) (u : Nat) (w : World) (ha : Rd w Aa na ca xsa) (hu : u < 18446744073709551616) :
    Calls Try.prog 3 #[.slice Aa na ca, .int .u64 u] w (RetB w true) := by
  have Ra := hid ha
  have ka := ha.2.1
  have ja := ha.2.2.1
  have vla : na ≤ 12 → Hid (val xsa < 4294967296 ^ 12) := fun h => hid (lt_pow12 Ra.out h)
  have HU := hid hu
  clear ha hu
  by_cases hf : na ≤ 12
  · have vha := vla hf
    have qa := hf
    clear vla
    go_enter Try.func3, Try.ntmps3
    go_wp2_with fail
    refine (awake_any w).mono ?_
    rintro e w1 ⟨rfl, bb1⟩
    have cc := few1 w1 Aa na ca (by omega)
    rw [decide_eq_true qa] at cc
    have CC := hid cc
    clear cc
    go_wp2_with fail
    refine (CC.out).mono ?_
    rintro e w' ⟨rfl, rfl⟩
    clear CC
    have BB0 := hid (Below.refl w.heap.size w)
    have Ra_1 := hid (Ra.out.keep bb1)
    have BB1 := hid (BB0.out.trans (bb1.mono BB0.out.size))
    clear Ra BB0
    clear bb1
    have al2 := (Below.refl w1.heap.size w1).alloc (Nat.le_refl _) (.cells #[.slice Aa na ca] 23)
    have Ra_2 := hid (Ra_1.out.keep al2)
    have BB2 := hid (BB1.out.trans (al2.mono BB1.out.size))
    clear Ra_1 BB1
    clear al2
    have cc := uint_any Aa na ca _ (w1.alloc (.cells #[.slice Aa na ca] 23)) Ra_2.out
    have CC := hid cc
    clear cc
    go_wp2_with fail
    refine (CC.out).mono ?_
    rintro e w' ⟨rfl, rfl⟩
    clear CC
    have cc := ruint_any Aa na ca _ (w1.alloc (.cells #[.slice Aa na ca] 23)) Ra_2.out (by omega)
    have CC := hid cc
    clear cc
    go_wp2_with fail
    refine (CC.out).mono ?_
    rintro e w3 ⟨rfl, b3⟩
    clear CC
    have Ra_3 := hid (Ra_2.out.keep b3)
    have BB3 := hid (BB2.out.trans (b3.mono BB2.out.size))
    clear Ra_2 BB2
    clear b3
    have cc := from_any u w3 HU.out
    have CC := hid cc
    clear cc
    go_wp2_with fail
    refine (CC.out).mono ?_
    rintro e w4 ⟨v4, rfl, ⟨Ag, ng, cg, rfl, rg⟩, b4⟩
    clear CC
    have lg : ng ≤ 2 := by rw [← rg.1]; exact dg_len_le (show u < 4294967296 ^ 2 from Nat.lt_of_lt_of_le HU.out (by decide))
    have Rg := hid rg
    clear rg
    have Ra_4 := hid (Ra_3.out.keep b4)
    have BB4 := hid (BB3.out.trans (b4.mono BB3.out.size))
    clear Ra_3 BB3
    clear b4
    have cc := uint_any Ag ng cg _ w4 Rg.out
    rw [val_dg, uintV_small HU.out, uintB_small HU.out] at cc
    have CC := hid cc
    clear cc
    go_wp2_with fail
    refine (CC.out).mono ?_
    rintro e w' ⟨rfl, rfl⟩
    clear CC
    clear Rg
    have cc := valid_any Aa na ca _ w4 Ra_4.out
    have CC := hid cc
    clear cc
    go_wp2_with fail
    refine (CC.out).mono ?_
    rintro e w' ⟨rfl, rfl⟩
    clear CC
    have cc := rvalid_any Aa na ca _ w4 Ra_4.out
    have CC := hid cc
    clear cc
    go_wp2_with fail
    refine (CC.out).mono ?_
    rintro e w' ⟨rfl, rfl⟩
    clear CC
    have cc := from_any u w4 HU.out
    have CC := hid cc
    clear cc
    go_wp2_with fail
    refine (CC.out).mono ?_
    rintro e w5 ⟨v5, rfl, ⟨Ah, nh, ch, rfl, rh⟩, b5⟩
    clear CC
    have lh : nh ≤ 2 := by rw [← rh.1]; exact dg_len_le (show u < 4294967296 ^ 2 from Nat.lt_of_lt_of_le HU.out (by decide))
    have Rh := hid rh
    clear rh
    have Ra_5 := hid (Ra_4.out.keep b5)
    have BB5 := hid (BB4.out.trans (b5.mono BB4.out.size))
    clear Ra_4 BB4
    clear b5
    have cc := rfrom_any u w5 HU.out
    have CC := hid cc
    clear cc
    go_wp2_with fail
    refine (CC.out).mono ?_
    rintro e w6 ⟨v6, rfl, ⟨Ai, ni, ci, rfl, ri⟩, b6⟩
    clear CC
    have li : ni ≤ 2 := by rw [← ri.1]; exact dg_len_le (show u < 4294967296 ^ 2 from Nat.lt_of_lt_of_le HU.out (by decide))
    have Ri := hid ri
    clear ri
    have Ra_6 := hid (Ra_5.out.keep b6)
    have Rh_6 := hid (Rh.out.keep b6)
    have BB6 := hid (BB5.out.trans (b6.mono BB5.out.size))
    clear Ra_5 Rh BB5
    clear b6
    have cc := rsame_any Ah Ai nh ch ni ci _ _ w6 Rh_6.out Ri.out 
    rw [decide_eq_true rfl] at cc
    have CC := hid cc
    clear cc
    go_wp2_with fail
    refine (CC.out).mono ?_
    rintro e w7 ⟨rfl, b7⟩
    clear CC
    have Ra_7 := hid (Ra_6.out.keep b7)
    have Rh_7 := hid (Rh_6.out.keep b7)
    have Ri_7 := hid (Ri.out.keep b7)
    have BB7 := hid (BB6.out.trans (b7.mono BB6.out.size))
    clear Ra_6 Rh_6 Ri BB6
    clear b7
    clear Rh_7
    clear Ri_7
    have cc := bits_any Aa na ca _ w7 Ra_7.out (by omega)
    have CC := hid cc
    clear cc
    go_wp2_with fail
    refine (CC.out).mono ?_
    rintro e w' ⟨rfl, rfl⟩
    clear CC
    have cc := rbits_any Aa na ca _ w7 Ra_7.out (by omega)
    have CC := hid cc
    clear cc
    go_wp2_with fail
    refine (CC.out).mono ?_
    rintro e w8 ⟨rfl, b8⟩
    clear CC
    have Ra_8 := hid (Ra_7.out.keep b8)
    have BB8 := hid (BB7.out.trans (b8.mono BB7.out.size))
    clear Ra_7 BB7
    clear b8
    have cc := text_any Aa na ca _ w8 Ra_8.out (by omega)
    have CC := hid cc
    clear cc
    go_wp2_with fail
    refine (CC.out).mono ?_
    rintro e w9 ⟨rfl, b9⟩
    clear CC
    have Ra_9 := hid (Ra_8.out.keep b9)
    have BB9 := hid (BB8.out.trans (b9.mono BB8.out.size))
    clear Ra_8 BB8
    clear b9
    have cc := rtext_any Aa na ca _ w9 Ra_9.out (by omega)
    have CC := hid cc
    clear cc
    go_wp2_with fail
    refine (CC.out).mono ?_
    rintro e w10 ⟨rfl, b10⟩
    clear CC
    have Ra_10 := hid (Ra_9.out.keep b10)
    have BB10 := hid (BB9.out.trans (b10.mono BB9.out.size))
    clear Ra_9 BB9
    clear b10
    go_wp2_with fail
    go_ret
    exact ⟨rfl, BB10.out⟩
  · have hF := decide_eq_false hf
    clear hf vla
    go_enter Try.func3, Try.ntmps3
    go_wp2_with fail
    refine (awake_any w).mono ?_
    rintro e w1 ⟨rfl, bb1⟩
    have cc := few1 w1 Aa na ca (by omega)
    rw [hF] at cc
    have CC := hid cc
    clear cc hF
    go_wp2_with fail
    refine (CC.out).mono ?_
    rintro e w' ⟨rfl, rfl⟩
    clear CC
    go_wp2_with fail
    refine (awake_any _).mono ?_
    rintro e w3 ⟨rfl, bb3⟩
    have F := hid (bb1.trans (((Below.refl w1.heap.size w1).alloc (Nat.le_refl _) (.cells #[.slice Aa na ca] 23)).trans (bb3.mono (by simp)) |>.mono bb1.size))
    clear bb1 bb3
    go_wp2_with fail
    go_ret
    exact ⟨rfl, F.out⟩
set_option maxRecDepth 100000 in
set_option maxHeartbeats 4000000 in
theorem naturalTexts_any (s : ByteArray) (w : World) (hs : s.size ≤ 9223372036854775807) :
    Calls Try.prog 8 #[.string s] w (RetB w true) := by
  by_cases hf : s.size ≤ 200
  · go_enter Try.func8, Try.ntmps8
    go_wp2_with fail
    refine (awake_any w).mono ?_
    rintro e w1 ⟨rfl, bb1⟩
    have BB0 := hid (Below.refl w.heap.size w)
    have BB1 := hid (BB0.out.trans (bb1.mono BB0.out.size))
    clear BB0
    clear bb1
    by_cases hT : isT s.data.toList = true
    · have hE : parE s.data.toList = 0 := by unfold parE; rw [if_pos hT]
      have hD : parD s.data.toList = dg (numT s.data.toList) := by unfold parD; rw [if_pos hT]
      have HT := hid hT
      have HE := hid hE
      have HD := hid hD
      clear hT hE hD
      have cc := parse_any s w1 hs
      rw [HD.out, HE.out] at cc
      have CC := hid cc
      clear cc
      go_wp2_with fail
      refine (CC.out).mono ?_
      rintro e w2 ⟨v2, rfl, ⟨Aa, na, ca, rfl, ra⟩, b2⟩
      clear CC
      have la : na ≤ 900 := by rw [← ra.1]; exact by rw [← HD.out]; exact par_len
      have Ra := hid ra
      clear ra
      have BB2 := hid (BB1.out.trans (b2.mono BB1.out.size))
      clear BB1
      clear b2
      have cc := rparse_any s w2 hs
      rw [HD.out, HE.out] at cc
      have CC := hid cc
      clear cc
      go_wp2_with fail
      refine (CC.out).mono ?_
      rintro e w3 ⟨v3, rfl, ⟨Ab, nb, cb, rfl, rb⟩, b3⟩
      clear CC
      have lb : nb ≤ 900 := by rw [← rb.1]; exact by rw [← HD.out]; exact par_len
      have Rb := hid rb
      clear rb
      have Ra_3 := hid (Ra.out.keep b3)
      have BB3 := hid (BB2.out.trans (b3.mono BB2.out.size))
      clear Ra BB2
      clear b3
      have cc := rsame_any Aa Ab na ca nb cb _ _ w3 Ra_3.out Rb.out 
      rw [decide_eq_true rfl] at cc
      have CC := hid cc
      clear cc
      go_wp2_with fail
      refine (CC.out).mono ?_
      rintro e w4 ⟨rfl, b4⟩
      clear CC
      have Ra_4 := hid (Ra_3.out.keep b4)
      have Rb_4 := hid (Rb.out.keep b4)
      have BB4 := hid (BB3.out.trans (b4.mono BB3.out.size))
      clear Ra_3 Rb BB3
      clear b4
      have cc := text_any Aa na ca _ w4 Ra_4.out (by omega)
      rw [val_dg, tx_numT HT.out] at cc
      have CC := hid cc
      clear cc
      go_wp2_with fail
      refine (CC.out).mono ?_
      rintro e w5 ⟨rfl, b5⟩
      clear CC
      have Ra_5 := hid (Ra_4.out.keep b5)
      have Rb_5 := hid (Rb_4.out.keep b5)
      have BB5 := hid (BB4.out.trans (b5.mono BB4.out.size))
      clear Ra_4 Rb_4 BB4
      clear b5
      go_wp2_with fail
      go_ret
      exact ⟨rfl, BB5.out⟩
    · have hE : parE s.data.toList = 3 := by unfold parE; rw [if_neg hT]
      have hD : parD s.data.toList = [] := by unfold parD; rw [if_neg hT]
      have HE := hid hE
      have HD := hid hD
      clear hT hE hD
      have cc := parse_any s w1 hs
      rw [HD.out, HE.out] at cc
      have CC := hid cc
      clear cc
      go_wp2_with fail
      refine (CC.out).mono ?_
      rintro e w2 ⟨v2, rfl, ⟨Aa, na, ca, rfl, ra⟩, b2⟩
      clear CC
      have la : na ≤ 900 := by rw [← ra.1]; exact Nat.zero_le _
      have Ra := hid ra
      clear ra
      have BB2 := hid (BB1.out.trans (b2.mono BB1.out.size))
      clear BB1
      clear b2
      have cc := rparse_any s w2 hs
      rw [HD.out, HE.out] at cc
      have CC := hid cc
      clear cc
      go_wp2_with fail
      refine (CC.out).mono ?_
      rintro e w3 ⟨v3, rfl, ⟨Ab, nb, cb, rfl, rb⟩, b3⟩
      clear CC
      have lb : nb ≤ 900 := by rw [← rb.1]; exact Nat.zero_le _
      have Rb := hid rb
      clear rb
      have Ra_3 := hid (Ra.out.keep b3)
      have BB3 := hid (BB2.out.trans (b3.mono BB2.out.size))
      clear Ra BB2
      clear b3
      have cc := rsame_any Aa Ab na ca nb cb _ _ w3 Ra_3.out Rb.out 
      rw [decide_eq_true rfl] at cc
      have CC := hid cc
      clear cc
      go_wp2_with fail
      refine (CC.out).mono ?_
      rintro e w4 ⟨rfl, b4⟩
      clear CC
      have Ra_4 := hid (Ra_3.out.keep b4)
      have Rb_4 := hid (Rb.out.keep b4)
      have BB4 := hid (BB3.out.trans (b4.mono BB3.out.size))
      clear Ra_3 Rb BB3
      clear b4
      go_wp2_with fail
      go_ret
      exact ⟨rfl, BB4.out⟩
  · go_enter Try.func8, Try.ntmps8
    go_wp2_with fail
    refine (awake_any w).mono ?_
    rintro e w1 ⟨rfl, bb1⟩
    have B1 := hid bb1
    clear bb1
    go_wp2_with fail
    refine (awake_any w1).mono ?_
    rintro e w3 ⟨rfl, bb3⟩
    have F := hid (B1.out.trans (bb3.mono B1.out.size))
    clear bb3
    go_wp2_with fail
    go_ret
    exact ⟨rfl, F.out⟩

end Go.Proofs.Ytojcjhnhajjppaa
