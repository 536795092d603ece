/- Contracts: Cmp, Uint, From, digit of the specification of layer 1. -/
import Derived.Test.YtobnbeeaiidpcaaRef2
namespace Go.Proofs.Ytobnbeeaiidpcaa
open Go.RowKit

theorem len_cmp_lt {x y : Nat} (h : (dg x).length < (dg y).length) : cmpN x y = -1 := by
  unfold cmpN
  rcases Nat.lt_or_ge x y with h1 | h1
  · rw [if_pos h1]
  · have := dg_len_mono h1; omega
theorem len_cmp_gt {x y : Nat} (h : (dg y).length < (dg x).length) : cmpN x y = 1 := by
  unfold cmpN
  rcases Nat.lt_or_ge y x with h1 | h1
  · rw [if_neg (by omega), if_pos h1]
  · have := dg_len_mono h1; omega

set_option maxRecDepth 100000 in
set_option maxHeartbeats 2000000 in
theorem rcmp_any (A B : Option Addr) (n c m d : Nat) (xs ys : List Nat) (w : World) (ha : Rd w A n c xs) (hb : Rd w B m d ys) (hn : n ≤ 1099511627776) (hm : m ≤ 1099511627776) :
    Calls Try.prog 44 #[.slice A n c, .slice B m d] w (RetI w (cmpN (val xs) (val ys))) := by
  have ta := hid (rtrim_any A n c xs w ha (by omega))
  have tb := hid (fun (w1 : World) (h : Below w.heap.size w w1) => rtrim_any B m d ys w1 (hb.keep h) (by omega))
  have la := dg_len_small ha.2.2.2.1
  have lb := dg_len_small hb.2.2.2.1
  rw [ha.1] at la
  rw [hb.1] at lb
  obtain ⟨x, hx⟩ : ∃ x, x = val xs := ⟨_, rfl⟩
  obtain ⟨y, hy⟩ : ∃ y, y = val ys := ⟨_, rfl⟩
  rw [← hx] at ta la ⊢
  rw [← hy] at tb lb ⊢
  clear ha hb hx hy
  go_enter Try.func44, Try.ntmps44
  go_wp2_with fail
  refine (ta.out).mono ?_
  rintro e w1 ⟨v1, rfl, ⟨A1, p, c1, rfl, d1⟩, b1⟩
  have D1 := hid d1
  have B1 := hid b1
  have p1 := d1.1
  clear d1 b1
  go_wp2_with fail
  refine (tb.out w1 B1.out).mono ?_
  rintro e w2 ⟨v2, rfl, ⟨A2, q, c2, rfl, d2⟩, b2⟩
  have D1' := hid (D1.out.keep b2)
  have D2 := hid d2
  have B2 := hid (B1.out.trans (b2.mono B1.out.size))
  have q1 := d2.1
  clear d2 b2 D1 B1 ta tb
  rcases Nat.lt_trichotomy p q with hpq | hpq | hpq
  · have e0 : ((p : Int) != (q : Int)) = true := by simp; omega
    have e1 : ((p : Int) == (q : Int)) = false := by rw [beq_eq_false_iff_ne]; omega
    have V := hid (len_cmp_lt (x := x) (y := y) (by omega))
    clear p1 q1
    go_wp2_with fail
    go_ret
    exact ⟨by rw [V.out]; rfl, B2.out⟩
  · subst hpq
    have P1 := hid p1
    have Q1 := hid q1
    have hpm : p ≤ 1099511627776 := by omega
    clear p1 q1
    go_wp2_with fail
    go_loopw [5] (fun i wr => ∃ k : Nat, k ≤ p ∧ i = .int .i64 ((k : Int) - 1) ∧ Hid (cmpN (val ((dg x).take k)) (val ((dg y).take k)) = cmpN x y ∧ Below w.heap.size w wr ∧ Rd wr A1 p c1 (dg x) ∧ Rd wr A2 p c2 (dg y))) (fun i _ => (intOf i + 1).toNat)
    case atStart => exact ⟨p, Nat.le_refl _, rfl, hid ⟨by rw [cmp_start P1.out Q1.out (Nat.le_refl _) (Nat.le_refl _), val_dg, val_dg], B2.out, D1'.out, D2.out⟩⟩
    case round =>
      obtain ⟨k, hk, rfl, hz⟩ := hrel
      rcases Nat.eq_zero_or_pos k with rfl | hp
      · go_wp2_with fail
        go_ret
        exact ⟨ret_i64 (by rw [← hz.out.1]; rfl), hz.out.2.1⟩
      · obtain ⟨q, rfl⟩ : ∃ q, k = q + 1 := ⟨k - 1, by omega⟩
        obtain ⟨b, o, hA, ca⟩ := rd_cell hz.out.2.2.1 (k := q) (by omega)
        obtain ⟨b2, o2, hB, cb⟩ := rd_cell hz.out.2.2.2 (k := q) (by omega)
        have st := hid (cmpN_step (digs_dg x) (digs_dg y) q)
        have l1 := hz.out.2.2.1.2.1
        have l2 := hz.out.2.2.2.2.1
        have l3 := hz.out.2.2.1.2.2.1
        have l4 := hz.out.2.2.2.2.2.1
        subst hA hB
        obtain ⟨s, hs⟩ : ∃ s, s = (dg x).getD q 0 := ⟨_, rfl⟩
        obtain ⟨t, ht⟩ : ∃ t, t = (dg y).getD q 0 := ⟨_, rfl⟩
        rw [← hs] at ca st
        rw [← ht] at cb st
        clear hs ht
        rcases Nat.lt_trichotomy s t with hst | rfl | hst
        · have e0 : ((s : Int) != (t : Int)) = true := by simp; omega
          have e1 : ((s : Int) == (t : Int)) = false := by rw [beq_eq_false_iff_ne]; omega
          go_wp2_with fail
          go_quiet (fail)
          go_wp2_with fail
          go_quiet (fail)
          go_wp2_with fail
          go_ret
          refine ⟨ret_i64 (by rw [← hz.out.1, st.out, if_pos hst]), ?_⟩
          exact below_drew0 (below_drew0 hz.out.2.1 _) _
        · go_wp2_with fail
          go_quiet (fail)
          go_wp2_with fail
          go_roundw
          case rel => exact ⟨q, by omega, by go_num, hid ⟨by rw [← hz.out.1, st.out, if_neg (Nat.lt_irrefl _), if_neg (Nat.lt_irrefl _)], below_drew0 hz.out.2.1 _, hz.out.2.2.1, hz.out.2.2.2⟩⟩
          case measure => simp [intOf]
        · have e0 : ((s : Int) != (t : Int)) = true := by simp; omega
          have e1 : ((s : Int) == (t : Int)) = false := by rw [beq_eq_false_iff_ne]; omega
          go_wp2_with fail
          go_quiet (fail)
          go_wp2_with fail
          go_quiet (fail)
          go_wp2_with fail
          go_ret
          refine ⟨ret_i64 (by rw [← hz.out.1, st.out, if_neg (by omega), if_pos hst]), ?_⟩
          exact below_drew0 (below_drew0 hz.out.2.1 _) _
  · have e0 : ((p : Int) != (q : Int)) = true := by simp; omega
    have e1 : ((p : Int) == (q : Int)) = false := by rw [beq_eq_false_iff_ne]; omega
    have V := hid (len_cmp_gt (x := x) (y := y) (by omega))
    clear p1 q1
    go_wp2_with fail
    go_ret
    exact ⟨by rw [V.out]; rfl, B2.out⟩

set_option maxHeartbeats 400000 in
theorem rdigit_any (A : Option Addr) (n c : Nat) (xs : List Nat) (i : Nat) (w : World) (h : Rd w A n c xs) :
    Calls Try.prog 121 #[.slice A n c, .int .i64 i] w fun e w' => e = .returned (.int .u64 (xs.getD i 0 : Nat)) ∧ w = w' := by
  have H := hid h
  have h1 : n ≤ c := h.2.1
  have h2 : c ≤ 9223372036854775807 := h.2.2.1
  clear h
  rcases Nat.lt_or_ge i n with hi | hi
  · obtain ⟨b, o, rfl, hcell⟩ := rd_cell H.out hi
    have hd := H.out.2.2.2.1.get i
    obtain ⟨x, hx⟩ : ∃ x, x = xs.getD i 0 := ⟨_, rfl⟩
    rw [← hx] at hcell hd ⊢
    clear hx
    go_enter Try.func121, Try.ntmps121
    go_wp2
    go_ret
    exact ⟨rfl, rfl⟩
  · have h0 : xs.getD i 0 = 0 := by have := H.out.1; simp [List.getD, List.getElem?_eq_none (by omega : xs.length ≤ i)]
    rw [h0]
    clear h0
    go_enter Try.func121, Try.ntmps121
    go_wp2
    go_ret
    exact ⟨rfl, rfl⟩

set_option maxHeartbeats 400000 in
theorem rfrom_any (n : Nat) (w : World) (h : n < 18446744073709551616) :
    Calls Try.prog 91 #[.int .u64 n] w (RetDig w (dg n)) := by
  have T := hid (rtrim_any (some ⟨w.heap.size, 0, none⟩) 2 2 _ _ ((from_row0 n w).rd0 (from_digs h) (c := 2) (by simp) (by omega)) (by omega))
  rw [from_val] at T
  go_enter Try.func91, Try.ntmps91
  go_wp2_with fail
  refine (T.out).mono ?_
  rintro e w1 ⟨v, rfl, h1, h2⟩
  have R := hid (show RetDig w (dg n) (.returned v) w1 from ⟨v, rfl, h1, ((Below.refl _ _).alloc (Nat.le_refl _) _).trans (h2.mono (by simp))⟩)
  clear h1 h2
  go_wp2_with fail
  go_ret
  exact R.out

end Go.Proofs.Ytobnbeeaiidpcaa
