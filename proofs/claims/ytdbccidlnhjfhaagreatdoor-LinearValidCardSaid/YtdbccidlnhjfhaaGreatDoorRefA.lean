/- RefA: Ref1, Ref2, Ref3, Ref4, Ref5, Ref6 in one text. -/
import Derived.Test.YtdbccidlnhjfhaaGreatDoorApp
import Derived.Deep.QuietTactic
import Derived.BigQuiet
import Derived.Test.YtdbccidlnhjfhaaGreatDoorDivA
import Derived.Deep.LoopGhost
namespace Go.Proofs.YtdbccidlnhjfhaaGreatDoor
open Go.RowKit
set_option maxRecDepth 100000
def New (base : Nat) (v : Value) : Prop := ∀ k, v.ownBlock = some k → base ≤ k
theorem New.mono {b b' : Nat} {v : Value} (h : New b v) (hb : b' ≤ b) : New b' v := fun k hk => Nat.le_trans hb (h k hk)
def RetNew (w : World) (zs : List Nat) (e : Ending) (w' : World) : Prop := ∃ v, e = .returned v ∧ Dig w' v zs ∧ Below w.heap.size w w' ∧ New w.heap.size v
set_option maxHeartbeats 1000000 in
theorem rtrim_new (A : Option Addr) (n c : Nat) (xs : List Nat) (w : World) (h : Rd w A n c xs) (hn : n ≤ 2199023255552) :
    Calls Tryz.prog 123 #[.slice A n c] w (RetNew w (dg (val xs))) := by
  have H := hid h
  have h1 : n ≤ c := h.2.1
  have h2 : c ≤ 9223372036854775807 := h.2.2.1
  obtain ⟨i0, hi, hz0, hz1, hz2⟩ := Tryz.infoU32'
  clear h
  go_enter Tryz.func123, Tryz.ntmps123
  go_wp2_with fail
  go_loop [3] (fun i => ∃ k : Nat, k ≤ n ∧ i = .int .i64 k ∧ Hid (∀ j, k ≤ j → xs.getD j 0 = 0)) (fun i => (intOf i).toNat)
  case atStart => exact ⟨n, Nat.le_refl _, rfl, hid (fun j hj => by have := H.out.1; simp [List.getD, List.getElem?_eq_none (by omega : xs.length ≤ j)])⟩
  case round =>
    obtain ⟨k, hk, rfl, hz⟩ := hrel
    rcases Nat.eq_zero_or_pos k with rfl | hp
    · have hr := hid ((H.out.cut (k := 0) (c' := c) (by omega) (by omega) h2).keep (w' := w.alloc (.cells #[] 127)) ((Below.refl _ _).alloc (Nat.le_refl _) _))
      have hv := hid (by rw [← dg_take hz.out]; rfl : dg (val xs) = [])
      go_wp2_with (at_builtin; refine wpList_append_rd rfl _ _ 37 127 rfl w.heap.size i0 (.int .u32 0) Tryz.underlying37 hi hz0 hz1 hz2 rfl _ _ _ rfl (own_empty w) A 0 c (xs.take 0) rfl hr.out (by omega) (by simp) ?_)
      intro v' w' g1 g2
      have R := hid (show RetNew w (dg (val xs)) (.returned v') w' from ⟨v', rfl, dig_own (xs := dg (val xs)) (by rw [hv.out]; exact g1) (digs_dg _), ((Below.refl _ _).alloc (Nat.le_refl _) _).grown g2 (by simp) (fun k hk => by cases hk; exact Nat.le_refl _), fun k hk => (g1.lt k hk).1⟩)
      clear g1 g2
      go_wp2_with fail
      go_ret
      exact R.out
    · obtain ⟨b, o, rfl, hlt, hc⟩ := H.out.2.2.2.2 (by omega)
      have hcell : w.cell? ⟨b, o + (k - 1), none⟩ = some (.int .u32 (xs.getD (k - 1) 0)) := hc _ (by omega)
      clear hc
      by_cases h0 : xs.getD (k - 1) 0 = 0
      · rw [h0] at hcell
        have hz2 : Hid (∀ j, k - 1 ≤ j → xs.getD j 0 = 0) := fun j hj => by
          rcases Nat.lt_or_ge j k with h | h
          · obtain rfl : j = k - 1 := by omega
            exact h0
          · exact hz.out j h
        clear h0
        go_wp2_with fail
        go_round
        case rel => exact ⟨k - 1, by omega, by go_num, hz2⟩
        case measure => simp [intOf]; omega
      · have h0' := hid h0
        have hl' := hid (show xs.length = n from H.out.1)
        obtain ⟨x, hx⟩ : ∃ x, x = xs.getD (k - 1) 0 := ⟨_, rfl⟩
        rw [← hx] at hcell h0
        have hb : ((x : Int) == 0) = false := by rw [beq_eq_false_iff_ne]; omega
        have hr := hid ((H.out.cut (k := k) (c' := c) hk (by omega) h2).keep (w' := w.alloc (.cells #[] 127)) ((Below.refl _ _).alloc (Nat.le_refl _) _))
        have hv := hid (take_is_dg H.out.2.2.2.1 (by have := hl'.out; omega) hz.out (.inr h0'.out))
        clear h0 hx
        go_wp2_with (at_builtin; refine wpList_append_rd rfl _ _ 37 127 rfl w.heap.size i0 (.int .u32 0) Tryz.underlying37 hi hz0 hz1 hz2 rfl _ _ _ rfl (own_empty w) (some ⟨b, o, none⟩) k c (xs.take k) rfl hr.out (by omega) (by simp) ?_)
        intro v' w' g1 g2
        have R := hid (show RetNew w (dg (val xs)) (.returned v') w' from ⟨v', rfl, dig_own (base := w.heap.size) (n := k) (xs := dg (val xs)) (by rw [← hv.out]; simpa using g1) (digs_dg _), ((Below.refl _ _).alloc (Nat.le_refl _) _).grown g2 (by simp) (fun k hk => by cases hk; exact Nat.le_refl _), fun k hk => (g1.lt k hk).1⟩)
        clear g1 g2
        go_wp2_with fail
        go_ret
        exact R.out
theorem rtrim_any (A : Option Addr) (n c : Nat) (xs : List Nat) (w : World) (h : Rd w A n c xs) (hn : n ≤ 2199023255552) :
    Calls Tryz.prog 123 #[.slice A n c] w (RetDig w (dg (val xs))) := (rtrim_new A n c xs w h hn).mono fun _ _ ⟨v, a, b, c, _⟩ => ⟨v, a, b, c⟩
def RetB (w : World) (b : Bool) (e : Ending) (w' : World) : Prop := e = .returned (.bool b) ∧ Below w.heap.size w w'
def RetI (w : World) (i : Int) (e : Ending) (w' : World) : Prop := e = .returned (.int .i64 i) ∧ Below w.heap.size w w'
theorem below_drew0 {B : Nat} {a w : World} (h : Below B a w) (k : Nat) : Below B a (w.drewN k) := ⟨h.os, h.tape, h.output, h.size, h.block⟩
theorem rd_cell {w : World} {A : Option Addr} {n c : Nat} {xs : List Nat} (h : Rd w A n c xs) {k : Nat} (hk : k < n) : ∃ b o, A = some ⟨b, o, none⟩ ∧ w.cell? ⟨b, o + k, none⟩ = some (.int .u32 (xs.getD k 0 : Nat)) := by
  obtain ⟨b, o, hA, _, hc⟩ := h.2.2.2.2 (by omega)
  exact ⟨b, o, hA, hc k hk⟩
set_option maxHeartbeats 1000000 in
theorem rsame_any (A B : Option Addr) (n c m d : Nat) (xs ys : List Nat) (w : World) (ha : Rd w A n c xs) (hb : Rd w B m d ys) :
    Calls Tryz.prog 65 #[.slice A n c, .slice B m d] w (RetB w (decide (xs = ys))) := by
  have HA := hid ha
  have HB := hid hb
  have h1 := ha.2.1
  have h2 := ha.2.2.1
  have h3 := hb.2.1
  have h4 := hb.2.2.1
  by_cases hnm : n = m
  · subst hnm
    clear ha hb
    go_enter Tryz.func65, Tryz.ntmps65
    go_wp2_with fail
    go_loopw [5] (fun i wr => ∃ k : Nat, k ≤ n ∧ i = .int .i64 k ∧ Hid ((∀ j, j < k → xs.getD j 0 = ys.getD j 0) ∧ Below w.heap.size w wr)) (fun i _ => n - (intOf i).toNat)
    case atStart => exact ⟨0, Nat.zero_le _, rfl, hid ⟨fun j hj => absurd hj (by omega), Below.refl _ _⟩⟩
    case round =>
      obtain ⟨k, hk, rfl, hz⟩ := hrel
      rcases Nat.lt_or_ge k n with hlt | hge
      · obtain ⟨b, o, hA, ca⟩ := rd_cell (HA.out.keep hz.out.2) hlt
        obtain ⟨b2, o2, hB, cb⟩ := rd_cell (HB.out.keep hz.out.2) hlt
        subst hA hB
        obtain ⟨x, hx⟩ : ∃ x, x = xs.getD k 0 := ⟨_, rfl⟩
        obtain ⟨y, hy⟩ : ∃ y, y = ys.getD k 0 := ⟨_, rfl⟩
        rw [← hx] at ca
        rw [← hy] at cb
        by_cases hxy : x = y
        · subst hxy
          have HZ := hid (show (∀ j, j < k + 1 → xs.getD j 0 = ys.getD j 0) ∧ Below w.heap.size w wr from ⟨fun j hj => by
            rcases Nat.lt_or_ge j k with h | h
            · exact hz.out.1 j h
            · obtain rfl : j = k := by omega
              rw [← hx, ← hy], hz.out.2⟩)
          clear hx hy hz
          go_wp2_with fail
          go_quiet (fail)
          go_wp2_with fail
          go_roundw
          case rel => exact ⟨k + 1, by omega, by go_num, hid ⟨HZ.out.1, below_drew0 HZ.out.2 _⟩⟩
          case measure => simp [intOf]; omega
        · have e1 : ((x : Int) == (y : Int)) = false := by rw [beq_eq_false_iff_ne]; omega
          have e2 : ((x : Int) != (y : Int)) = true := by simp; omega
          have HN := hid (show xs ≠ ys from fun e => hxy (by rw [hx, hy, e]))
          clear hx hy hxy
          go_wp2_with fail
          go_quiet (fail)
          go_wp2_with fail
          go_ret
          exact ⟨by rw [decide_eq_false HN.out]; rfl, below_drew0 hz.out.2 _⟩
      · go_wp2_with fail
        go_ret
        refine ⟨?_, hz.out.2⟩
        have : xs = ys := ext_getD (by rw [HA.out.1, HB.out.1]) fun j => by
          rcases Nat.lt_or_ge j k with h | h
          · exact hz.out.1 j h
          · have := HA.out.1
            have := HB.out.1
            simp [List.getD, List.getElem?_eq_none (by omega : xs.length ≤ j), List.getElem?_eq_none (by omega : ys.length ≤ j)]
        rw [decide_eq_true this]
        rfl
  · have e1 : ((n : Int) == (m : Int)) = false := by rw [beq_eq_false_iff_ne]; omega
    have e2 : ((n : Int) != (m : Int)) = true := by simp; omega
    have HN := hid (show xs ≠ ys from fun e => hnm (by rw [← ha.1, ← hb.1, e]))
    clear ha hb hnm
    go_enter Tryz.func65, Tryz.ntmps65
    go_wp2_with fail
    go_ret
    exact ⟨by rw [decide_eq_false HN.out]; rfl, Below.refl _ _⟩
theorem len_cmp_lt {x y : Nat} (h : (dg x).length < (dg y).length) : cmpN x y = -1 := by
  unfold cmpN
  rcases Nat.lt_or_ge x y with h1 | h1
  · rw [if_pos h1]
  · have := dg_len_mono h1; omega
theorem len_cmp_gt {x y : Nat} (h : (dg y).length < (dg x).length) : cmpN x y = 1 := by
  unfold cmpN
  rcases Nat.lt_or_ge y x with h1 | h1
  · rw [if_neg (by omega), if_pos h1]
  · have := dg_len_mono h1; omega
set_option maxHeartbeats 2000000 in
theorem rcmp_any (A B : Option Addr) (n c m d : Nat) (xs ys : List Nat) (w : World) (ha : Rd w A n c xs) (hb : Rd w B m d ys) (hn : n ≤ 1099511627776) (hm : m ≤ 1099511627776) :
    Calls Tryz.prog 127 #[.slice A n c, .slice B m d] w (RetI w (cmpN (val xs) (val ys))) := by
  have ta := hid (rtrim_any A n c xs w ha (by omega))
  have tb := hid (fun (w1 : World) (h : Below w.heap.size w w1) => rtrim_any B m d ys w1 (hb.keep h) (by omega))
  have la := dg_len_small ha.2.2.2.1
  have lb := dg_len_small hb.2.2.2.1
  rw [ha.1] at la
  rw [hb.1] at lb
  obtain ⟨x, hx⟩ : ∃ x, x = val xs := ⟨_, rfl⟩
  obtain ⟨y, hy⟩ : ∃ y, y = val ys := ⟨_, rfl⟩
  rw [← hx] at ta la ⊢
  rw [← hy] at tb lb ⊢
  clear ha hb hx hy
  go_enter Tryz.func127, Tryz.ntmps127
  go_wp2_with fail
  refine (ta.out).mono ?_
  rintro e w1 ⟨v1, rfl, ⟨A1, p, c1, rfl, d1⟩, b1⟩
  have D1 := hid d1
  have B1 := hid b1
  have p1 := d1.1
  clear d1 b1
  go_wp2_with fail
  refine (tb.out w1 B1.out).mono ?_
  rintro e w2 ⟨v2, rfl, ⟨A2, q, c2, rfl, d2⟩, b2⟩
  have D1' := hid (D1.out.keep b2)
  have D2 := hid d2
  have B2 := hid (B1.out.trans (b2.mono B1.out.size))
  have q1 := d2.1
  clear d2 b2 D1 B1 ta tb
  rcases Nat.lt_trichotomy p q with hpq | hpq | hpq
  · have e0 : ((p : Int) != (q : Int)) = true := by simp; omega
    have e1 : ((p : Int) == (q : Int)) = false := by rw [beq_eq_false_iff_ne]; omega
    have V := hid (len_cmp_lt (x := x) (y := y) (by omega))
    clear p1 q1
    go_wp2_with fail
    go_ret
    exact ⟨by rw [V.out]; rfl, B2.out⟩
  · subst hpq
    have P1 := hid p1
    have Q1 := hid q1
    have hpm : p ≤ 1099511627776 := by omega
    clear p1 q1
    go_wp2_with fail
    go_loopw [5] (fun i wr => ∃ k : Nat, k ≤ p ∧ i = .int .i64 ((k : Int) - 1) ∧ Hid (cmpN (val ((dg x).take k)) (val ((dg y).take k)) = cmpN x y ∧ Below w.heap.size w wr ∧ Rd wr A1 p c1 (dg x) ∧ Rd wr A2 p c2 (dg y))) (fun i _ => (intOf i + 1).toNat)
    case atStart => exact ⟨p, Nat.le_refl _, rfl, hid ⟨by rw [cmp_start P1.out Q1.out (Nat.le_refl _) (Nat.le_refl _), val_dg, val_dg], B2.out, D1'.out, D2.out⟩⟩
    case round =>
      obtain ⟨k, hk, rfl, hz⟩ := hrel
      rcases Nat.eq_zero_or_pos k with rfl | hp
      · go_wp2_with fail
        go_ret
        exact ⟨ret_i64 (by rw [← hz.out.1]; rfl), hz.out.2.1⟩
      · obtain ⟨q, rfl⟩ : ∃ q, k = q + 1 := ⟨k - 1, by omega⟩
        obtain ⟨b, o, hA, ca⟩ := rd_cell hz.out.2.2.1 (k := q) (by omega)
        obtain ⟨b2, o2, hB, cb⟩ := rd_cell hz.out.2.2.2 (k := q) (by omega)
        have st := hid (cmpN_step (digs_dg x) (digs_dg y) q)
        have l1 := hz.out.2.2.1.2.1
        have l2 := hz.out.2.2.2.2.1
        have l3 := hz.out.2.2.1.2.2.1
        have l4 := hz.out.2.2.2.2.2.1
        subst hA hB
        obtain ⟨s, hs⟩ : ∃ s, s = (dg x).getD q 0 := ⟨_, rfl⟩
        obtain ⟨t, ht⟩ : ∃ t, t = (dg y).getD q 0 := ⟨_, rfl⟩
        rw [← hs] at ca st
        rw [← ht] at cb st
        clear hs ht
        rcases Nat.lt_trichotomy s t with hst | rfl | hst
        · have e0 : ((s : Int) != (t : Int)) = true := by simp; omega
          have e1 : ((s : Int) == (t : Int)) = false := by rw [beq_eq_false_iff_ne]; omega
          go_wp2_with fail
          go_quiet (fail)
          go_wp2_with fail
          go_quiet (fail)
          go_wp2_with fail
          go_ret
          refine ⟨ret_i64 (by rw [← hz.out.1, st.out, if_pos hst]), ?_⟩
          exact below_drew0 (below_drew0 hz.out.2.1 _) _
        · go_wp2_with fail
          go_quiet (fail)
          go_wp2_with fail
          go_roundw
          case rel => exact ⟨q, by omega, by go_num, hid ⟨by rw [← hz.out.1, st.out, if_neg (Nat.lt_irrefl _), if_neg (Nat.lt_irrefl _)], below_drew0 hz.out.2.1 _, hz.out.2.2.1, hz.out.2.2.2⟩⟩
          case measure => simp [intOf]
        · have e0 : ((s : Int) != (t : Int)) = true := by simp; omega
          have e1 : ((s : Int) == (t : Int)) = false := by rw [beq_eq_false_iff_ne]; omega
          go_wp2_with fail
          go_quiet (fail)
          go_wp2_with fail
          go_quiet (fail)
          go_wp2_with fail
          go_ret
          refine ⟨ret_i64 (by rw [← hz.out.1, st.out, if_neg (by omega), if_pos hst]), ?_⟩
          exact below_drew0 (below_drew0 hz.out.2.1 _) _
  · have e0 : ((p : Int) != (q : Int)) = true := by simp; omega
    have e1 : ((p : Int) == (q : Int)) = false := by rw [beq_eq_false_iff_ne]; omega
    have V := hid (len_cmp_gt (x := x) (y := y) (by omega))
    clear p1 q1
    go_wp2_with fail
    go_ret
    exact ⟨by rw [V.out]; rfl, B2.out⟩
set_option maxHeartbeats 400000 in
theorem rdigit_any (A : Option Addr) (n c : Nat) (xs : List Nat) (i : Nat) (w : World) (h : Rd w A n c xs) :
    Calls Tryz.prog 139 #[.slice A n c, .int .i64 i] w fun e w' => e = .returned (.int .u64 (xs.getD i 0 : Nat)) ∧ w = w' := by
  have H := hid h
  have h1 : n ≤ c := h.2.1
  have h2 : c ≤ 9223372036854775807 := h.2.2.1
  clear h
  rcases Nat.lt_or_ge i n with hi | hi
  · obtain ⟨b, o, rfl, hcell⟩ := rd_cell H.out hi
    have hd := H.out.2.2.2.1.get i
    obtain ⟨x, hx⟩ : ∃ x, x = xs.getD i 0 := ⟨_, rfl⟩
    rw [← hx] at hcell hd ⊢
    clear hx
    go_enter Tryz.func139, Tryz.ntmps139
    go_wp2
    go_ret
    exact ⟨rfl, rfl⟩
  · have h0 : xs.getD i 0 = 0 := by have := H.out.1; simp [List.getD, List.getElem?_eq_none (by omega : xs.length ≤ i)]
    rw [h0]
    clear h0
    go_enter Tryz.func139, Tryz.ntmps139
    go_wp2
    go_ret
    exact ⟨rfl, rfl⟩
set_option maxHeartbeats 400000 in
theorem rfrom_any (n : Nat) (w : World) (h : n < 18446744073709551616) :
    Calls Tryz.prog 106 #[.int .u64 n] w (RetDig w (dg n)) := by
  have T := hid (rtrim_any (some ⟨w.heap.size, 0, none⟩) 2 2 _ _ ((from_row0 n w).rd0 (from_digs h) (c := 2) (by simp) (by omega)) (by omega))
  rw [from_val] at T
  go_enter Tryz.func106, Tryz.ntmps106
  go_wp2_with fail
  refine (T.out).mono ?_
  rintro e w1 ⟨v, rfl, h1, h2⟩
  have R := hid (show RetDig w (dg n) (.returned v) w1 from ⟨v, rfl, h1, ((Below.refl _ _).alloc (Nat.le_refl _) _).trans (h2.mono (by simp))⟩)
  clear h1 h2
  go_wp2_with fail
  go_ret
  exact R.out
def Grow (w : World) (v : Value) (ds : List Nat) (wr : World) : Prop := wr.ownsRow w.heap.size 127 1 v ds.length (ds.map dv) ∧ Digs ds ∧ Below w.heap.size w wr
theorem grow_next {w wr w' : World} {v v' : Value} {ds : List Nat} {n d : Nat} {o : Obj} (h : Grow w v ds wr) (hn : ds.length = n) (h1 : w'.ownsRow w.heap.size 127 1 v' (n + 1) (ds.map dv ++ [d].map dv)) (h2 : (wr.alloc o).grownBy w' v.ownBlock) (hd : d < 4294967296) : Grow w v' (ds ++ [d]) w' := by
  refine ⟨?_, h.2.1.append (Digs.cons hd Digs.nil), ?_⟩
  · rw [List.map_append, List.length_append, hn]
    exact h1
  · exact (h.2.2.alloc h.2.2.size o).grown h2 (Nat.le_trans h.2.2.size (by simp)) (fun k hk => (h.1.lt k hk).1)
theorem one_rd (w : World) (d : Nat) (hd : d < 4294967296) (z : Int) (hz : z = (d : Int)) : Rd (w.alloc (.cells #[.int .u32 z] 127)) (some ⟨w.heap.size, 0, none⟩) 1 1 [d] := by
  subst hz
  exact (show Row (w.alloc (.cells #[.int .u32 (d : Int)] 127)) w.heap.size [d] from Blk.new w [dv d] _).rd0 (Digs.cons hd Digs.nil) (Nat.le_refl _) (by simp)
theorem radd_val {xs ys ds : List Nat} {k c : Nat} (hl : ds.length = k) (h : val ds + 4294967296 ^ k * c = val (xs.take k) + val (ys.take k)) :
    val (ds ++ [(c + xs.getD k 0 + ys.getD k 0) % 4294967296]) + 4294967296 ^ (k + 1) * ((c + xs.getD k 0 + ys.getD k 0) / 4294967296) = val (xs.take (k + 1)) + val (ys.take (k + 1)) := by
  rw [val_snoc, val_take_succ, val_take_succ, hl, Nat.pow_succ, Nat.mul_assoc]
  generalize xs.getD k 0 = x
  generalize ys.getD k 0 = y
  have h3 : (c + x + y) % 4294967296 + 4294967296 * ((c + x + y) / 4294967296) = c + x + y := by omega
  have h4 := congrArg (4294967296 ^ k * ·) h3
  simp only [Nat.mul_add] at h4
  omega
set_option maxHeartbeats 2000000 in
theorem radd_new (A B : Option Addr) (n c m d : Nat) (xs ys : List Nat) (w : World) (ha : Rd w A n c xs) (hb : Rd w B m d ys) (hn : n ≤ 1099511627776) (hm : m ≤ 1099511627776) :
    Calls Tryz.prog 126 #[.slice A n c, .slice B m d] w (RetNew w (dg (val xs + val ys))) := by
  have HA := hid ha
  have HB := hid hb
  have h1 := ha.2.1
  have h2 := ha.2.2.1
  have h3 := hb.2.1
  have h4 := hb.2.2.1
  obtain ⟨i0, hi, hz0, hz1, hz2⟩ := Tryz.infoU32'
  clear ha hb
  go_enter Tryz.func126, Tryz.ntmps126
  go_wp2_with fail
  go_loopg [5, 6, 7] (n + m) (fun g s5 s6 s7 wr => ∃ (k c : Nat) (v : Value) (ds : List Nat), g = n + m - k ∧ k ≤ 1099511627776 ∧ c < 2 ∧ v = s5 ∧ s6 = .int .u64 c ∧ s7 = .int .i64 k ∧ Hid (ds.length = k ∧ Grow w v ds wr ∧ val ds + 4294967296 ^ k * c = val (xs.take k) + val (ys.take k)))
  case atStart => exact ⟨0, 0, _, [], rfl, by omega, by omega, rfl, rfl, rfl, hid ⟨rfl, ⟨own_empty w, Digs.nil, (Below.refl _ _).alloc (Nat.le_refl _) _⟩, by simp [val]⟩⟩
  case round =>
    obtain ⟨k, c', v, ds, rfl, hk, hc, rfl, rfl, rfl, hz⟩ := hrel
    have dx := HA.out.2.2.2.1.get k
    have dy := HB.out.2.2.2.1.get k
    have cx := hid (fun (w1 : World) (h : Below w.heap.size w w1) => rdigit_any A n c xs k w1 (HA.out.keep h))
    have cy := hid (fun (w1 : World) (h : Below w.heap.size w w1) => rdigit_any B m d ys k w1 (HB.out.keep h))
    have st := hid (radd_val hz.out.1 hz.out.2.2)
    obtain ⟨x, hx⟩ : ∃ x, x = xs.getD k 0 := ⟨_, rfl⟩
    obtain ⟨y, hy⟩ : ∃ y, y = ys.getD k 0 := ⟨_, rfl⟩
    rw [← hx] at dx cx st
    rw [← hy] at dy cy st
    clear hx hy
    rcases (by omega : (k < n ∨ (n ≤ k ∧ k < m)) ∨ (n ≤ k ∧ m ≤ k)) with h | ⟨g1, g2⟩
    · have hlt : k < n ∨ k < m := by omega
      have hz64 : c' + x + y < 18446744073709551616 := by omega
      have LT := hid hlt
      clear hlt
      rcases h with g1 | ⟨g1, g2⟩
      all_goals
        go_wp2_with fail
        refine (cx.out wr hz.out.2.1.2.2).mono ?_
        rintro e w' ⟨rfl, rfl⟩
        go_wp2_with fail
        refine (cy.out wr hz.out.2.1.2.2).mono ?_
        rintro e w' ⟨rfl, rfl⟩
        have hr := hid (one_rd wr ((c' + x + y) % 4294967296) (by omega) (((c' : Int) + x + y) % 4294967296) (by omega))
        have hz' : Hid ((wr.alloc (.cells #[.int .u32 (((c' : Int) + x + y) % 4294967296)] 127)).ownsRow w.heap.size 127 1 v k (ds.map dv)) := hid (by have := hz.out.2.1.1.alloc (.cells #[.int .u32 (((c' : Int) + x + y) % 4294967296)] 127); rwa [hz.out.1] at this)
        have hsz : w.heap.size ≤ wr.heap.size := hz.out.2.1.2.2.size
        go_wp2_with (at_builtin; refine wpList_append_rd rfl _ _ 37 127 rfl w.heap.size i0 (.int .u32 0) Tryz.underlying37 hi hz0 hz1 hz2 rfl v k (ds.map dv) rfl hz'.out (some ⟨wr.heap.size, 0, none⟩) 1 1 [(c' + x + y) % 4294967296] rfl hr.out (by omega) (by simp; omega) ?_)
        intro v' w' g3 g4
        have G := hid (grow_next hz.out.2.1 hz.out.1 g3 g4 (by omega))
        clear g3 g4
        go_wp2_with fail
        go_roundg (n + m - (k + 1))
        case measure => have := LT.out; omega
        case rel => exact ⟨k + 1, (c' + x + y) / 4294967296, v', _, rfl, by omega, by omega, rfl, by go_num, by go_num, hid ⟨by simp [hz.out.1], G.out, st.out⟩⟩
    · have hr := hid (one_rd wr c' (by omega) (c' : Int) rfl)
      have hz' : Hid ((wr.alloc (.cells #[.int .u32 (c' : Int)] 127)).ownsRow w.heap.size 127 1 v k (ds.map dv)) := hid (by have := hz.out.2.1.1.alloc (.cells #[.int .u32 (c' : Int)] 127); rwa [hz.out.1] at this)
      have hsz : w.heap.size ≤ wr.heap.size := hz.out.2.1.2.2.size
      have V := hid (show val (ds ++ [c']) = val xs + val ys by
        have h5 := hz.out.2.2
        rw [List.take_of_length_le (by have := HA.out.1; omega), List.take_of_length_le (by have := HB.out.1; omega)] at h5
        rw [val_snoc, hz.out.1]
        exact h5)
      clear cx cy st
      go_wp2_with (at_builtin; refine wpList_append_rd rfl _ _ 37 127 rfl w.heap.size i0 (.int .u32 0) Tryz.underlying37 hi hz0 hz1 hz2 rfl v k (ds.map dv) rfl hz'.out (some ⟨wr.heap.size, 0, none⟩) 1 1 [c'] rfl hr.out (by omega) (by simp; omega) ?_)
      intro v' w' g3 g4
      have G := hid (grow_next hz.out.2.1 hz.out.1 g3 g4 (by omega))
      obtain ⟨A', p', c1, rfl, d1⟩ := dig_own G.out.1 G.out.2.1
      have hp' : p' ≤ 1099511627777 := by have := d1.1; have := hz.out.1; simp at *; omega
      have D := hid d1
      clear g3 g4 d1
      go_wp2_with fail
      refine (rtrim_new A' p' c1 _ w' D.out (by omega)).mono ?_
      rintro e w3 ⟨u, rfl, u1, u2, u3⟩
      rw [V.out] at u1
      have R := hid (show RetNew w (dg (val xs + val ys)) (.returned u) w3 from ⟨u, rfl, u1, G.out.2.2.trans (u2.mono G.out.2.2.size), u3.mono G.out.2.2.size⟩)
      clear u1 u2 u3
      go_wp2_with fail
      go_ret
      exact R.out
theorem radd_any (A B : Option Addr) (n c m d : Nat) (xs ys : List Nat) (w : World) (ha : Rd w A n c xs) (hb : Rd w B m d ys) (hn : n ≤ 1099511627776) (hm : m ≤ 1099511627776) :
    Calls Tryz.prog 126 #[.slice A n c, .slice B m d] w (RetDig w (dg (val xs + val ys))) := (radd_new A B n c m d xs ys w ha hb hn hm).mono fun _ _ ⟨v, a, b, c, _⟩ => ⟨v, a, b, c⟩
theorem rsub_val {xs ys ds : List Nat} {k c x : Nat} (hl : ds.length = k) (hx : xs.getD k 0 < 4294967296) (hy : ys.getD k 0 < 4294967296) (hc : c < 2) (h : val ds + val (ys.take k) = val (xs.take k) + 4294967296 ^ k * c) (he : x + ys.getD k 0 + c = 4294967296 + xs.getD k 0) :
    val (ds ++ [x % 4294967296]) + val (ys.take (k + 1)) = val (xs.take (k + 1)) + 4294967296 ^ (k + 1) * (1 - x / 4294967296) := by
  rw [val_snoc, val_take_succ, val_take_succ, hl, Nat.pow_succ, Nat.mul_assoc]
  generalize xs.getD k 0 = a at *
  generalize ys.getD k 0 = b at *
  have h3 : x % 4294967296 + (b + c) = a + 4294967296 * (1 - x / 4294967296) := by omega
  have h4 := congrArg (4294967296 ^ k * ·) h3
  simp only [Nat.mul_add] at h4
  omega
def RetNew2 (w : World) (zs : List Nat) (k : Int) (e : Ending) (w' : World) : Prop := ∃ v, e = .returned (.tuple #[v, .int .i64 k]) ∧ Dig w' v zs ∧ Below w.heap.size w w' ∧ New w.heap.size v
set_option maxHeartbeats 2000000 in
theorem rsub_ge (A B : Option Addr) (n c m d : Nat) (xs ys : List Nat) (w : World) (ha : Rd w A n c xs) (hb : Rd w B m d ys) (hn : n ≤ 1099511627776) (hm : m ≤ 1099511627776) (hge : val ys ≤ val xs) :
    Calls Tryz.prog 128 #[.slice A n c, .slice B m d] w (RetNew2 w (dg (val xs - val ys)) 0) := by
  have HA := hid ha
  have HB := hid hb
  have h1 := ha.2.1
  have h2 := ha.2.2.1
  have h3 := hb.2.1
  have h4 := hb.2.2.1
  have cc := hid (rcmp_any A B n c m d xs ys w ha hb hn hm)
  have e1 := cmpN_ge hge
  obtain ⟨z, hz⟩ : ∃ z, z = cmpN (val xs) (val ys) := ⟨_, rfl⟩
  rw [← hz] at cc e1
  have GE := hid hge
  obtain ⟨i0, hi, hz0, hz1, hz2⟩ := Tryz.infoU32'
  clear ha hb hz hge
  go_enter Tryz.func128, Tryz.ntmps128
  go_wp2_with fail
  refine (cc.out).mono ?_
  rintro e w0 ⟨rfl, b0⟩
  have B0 := hid b0
  clear b0 cc
  go_wp2_with fail
  go_loopw [6, 7, 8, 9] (fun s6 s7 s8 s9 wr => ∃ (k c : Nat) (v : Value) (ds : List Nat), k ≤ n ∧ c < 2 ∧ v = s6 ∧ s7 = .int .u64 c ∧ s8 = .int .i64 k ∧ Hid (ds.length = k ∧ Grow w0 v ds wr ∧ val ds + val (ys.take k) = val (xs.take k) + 4294967296 ^ k * c)) (fun _ _ i _ _ => n - (intOf i).toNat)
  case atStart => exact ⟨0, 0, _, [], by omega, by omega, rfl, rfl, rfl, hid ⟨rfl, ⟨own_empty w0, Digs.nil, (Below.refl _ _).alloc (Nat.le_refl _) _⟩, by simp [val]⟩⟩
  case round =>
    obtain ⟨k, c', v, ds, hk, hc, rfl, rfl, rfl, hz⟩ := hrel
    have dx := HA.out.2.2.2.1.get k
    have dy := HB.out.2.2.2.1.get k
    have cx := hid (rdigit_any A n c xs k wr ((HA.out.keep B0.out).keep hz.out.2.1.2.2))
    have cy := hid (rdigit_any B m d ys k wr ((HB.out.keep B0.out).keep hz.out.2.1.2.2))
    have st := hid (fun (u : Nat) => rsub_val (x := u) hz.out.1 dx dy hc hz.out.2.2)
    obtain ⟨x, hx⟩ : ∃ x, x = xs.getD k 0 := ⟨_, rfl⟩
    obtain ⟨y, hy⟩ : ∃ y, y = ys.getD k 0 := ⟨_, rfl⟩
    rw [← hx] at dx cx st
    rw [← hy] at dy cy st
    clear hx hy
    rcases Nat.lt_or_ge k n with hlt | hge
    · obtain ⟨u, hu⟩ : ∃ u : Nat, u = 4294967296 + x - y - c' := ⟨_, rfl⟩
      have eu : (4294967296 : Int) + (x : Int) - (y : Int) - (c' : Int) = (u : Int) := by omega
      have ub : u < 8589934592 := by omega
      have ST := hid (st.out u (by omega))
      have hr := hid (one_rd wr (u % 4294967296) (by omega) ((u : Int) % 4294967296) (by omega))
      have hz' : Hid ((wr.alloc (.cells #[.int .u32 ((u : Int) % 4294967296)] 127)).ownsRow w0.heap.size 127 1 v k (ds.map dv)) := hid (by have := hz.out.2.1.1.alloc (.cells #[.int .u32 ((u : Int) % 4294967296)] 127); rwa [hz.out.1] at this)
      have hsz : w0.heap.size ≤ wr.heap.size := hz.out.2.1.2.2.size
      clear st hu
      go_wp2_with fail
      refine (cx.out).mono ?_
      rintro e w' ⟨rfl, rfl⟩
      go_wp2_with fail
      refine (cy.out).mono ?_
      rintro e w' ⟨rfl, rfl⟩
      go_wp2_with (at_builtin; refine wpList_append_rd rfl _ _ 37 127 rfl w0.heap.size i0 (.int .u32 0) Tryz.underlying37 hi hz0 hz1 hz2 rfl v k (ds.map dv) rfl hz'.out (some ⟨wr.heap.size, 0, none⟩) 1 1 [u % 4294967296] rfl hr.out (by omega) (by simp; omega) ?_)
      intro v' w' g3 g4
      have G := hid (grow_next hz.out.2.1 hz.out.1 g3 g4 (by omega))
      clear g3 g4
      go_wp2_with fail
      go_roundw
      case rel => exact ⟨k + 1, 1 - u / 4294967296, v', _, by omega, by omega, rfl, by go_num, by go_num, hid ⟨by simp [hz.out.1], G.out, ST.out⟩⟩
      case measure => simp [intOf]; omega
    · obtain rfl : k = n := by omega
      have V := hid (show val ds = val xs - val ys by
        have h5 := hz.out.2.2
        have h0 : val (ys.take k) = val ys := val_drop_zero (by have := val_lt HA.out.2.2.2.1; rw [HA.out.1] at this; have := GE.out; omega)
        rw [h0, List.take_of_length_le (by have := HA.out.1; omega)] at h5
        exact no_borrow h5 (by have := val_lt hz.out.2.1.2.1; rwa [hz.out.1] at this) GE.out)
      obtain ⟨A', p', c1, rfl, d1⟩ := dig_own hz.out.2.1.1 hz.out.2.1.2.1
      have hp' : p' ≤ 1099511627777 := by have := d1.1; have := hz.out.1; omega
      have D := hid d1
      clear d1 cx cy st
      go_wp2_with fail
      refine (rtrim_new A' p' c1 _ wr D.out (by omega)).mono ?_
      rintro e w3 ⟨u, rfl, u1, u2, u3⟩
      rw [V.out] at u1
      have R := hid (show RetNew2 w (dg (val xs - val ys)) 0 (.returned (.tuple #[u, .int .i64 0])) w3 from ⟨u, rfl, u1, B0.out.trans ((hz.out.2.1.2.2.trans (u2.mono hz.out.2.1.2.2.size)).mono B0.out.size), u3.mono (Nat.le_trans B0.out.size hz.out.2.1.2.2.size)⟩)
      clear u1 u2 u3
      go_wp2_with fail
      go_ret2
      exact R.out
set_option maxHeartbeats 400000 in
theorem rsub_any (A B : Option Addr) (n c m d : Nat) (xs ys : List Nat) (w : World) (ha : Rd w A n c xs) (hb : Rd w B m d ys) (hn : n ≤ 1099511627776) (hm : m ≤ 1099511627776) :
    Calls Tryz.prog 128 #[.slice A n c, .slice B m d] w (Ret2 w (subD (val xs) (val ys)) (subE (val xs) (val ys))) := by
  unfold subD subE
  by_cases h : val xs < val ys
  · rw [if_pos h, if_pos h]
    have cc := rcmp_any A B n c m d xs ys w ha hb hn hm
    rw [cmpN_lt h] at cc
    have CC := hid cc
    clear cc ha hb h
    go_enter Tryz.func128, Tryz.ntmps128
    go_wp2_with fail
    refine (CC.out).mono ?_
    rintro e w0 ⟨rfl, b0⟩
    have B0 := hid b0
    clear b0
    go_wp2_with fail
    go_ret2
    exact ⟨_, rfl, Dig.nil _, B0.out⟩
  · rw [if_neg h, if_neg h]
    exact (rsub_ge A B n c m d xs ys w ha hb hn hm (by omega)).mono fun _ _ ⟨v, a, b, c, _⟩ => ⟨v, a, b, c⟩
theorem val_set {us : List Nat} {p v : Nat} (hp : p < us.length) : val (us.set p v) + 4294967296 ^ p * us.getD p 0 = val us + 4294967296 ^ p * v := by
  induction us generalizing p with
  | nil => simp at hp
  | cons u us ih =>
    cases p with
    | zero => simp [val, List.getD]; omega
    | succ p =>
      have h := ih (p := p) (by simpa using hp)
      simp only [List.set_cons_succ, val, List.getD_cons_succ, Nat.pow_succ]
      have h2 := congrArg (4294967296 * ·) h
      simp only [Nat.mul_add] at h2
      have e1 : 4294967296 ^ p * 4294967296 * us.getD p 0 = 4294967296 * (4294967296 ^ p * us.getD p 0) := by rw [Nat.mul_comm (4294967296 ^ p), Nat.mul_assoc]
      have e2 : 4294967296 ^ p * 4294967296 * v = 4294967296 * (4294967296 ^ p * v) := by rw [Nat.mul_comm (4294967296 ^ p), Nat.mul_assoc]
      rw [e1, e2]
      omega
theorem digs_set {us : List Nat} {p v : Nat} (h : Digs us) (hv : v < 4294967296) : Digs (us.set p v) := by
  intro z hz
  rcases List.mem_or_eq_of_mem_set hz with h1 | h1
  · exact h z h1
  · rw [h1]; exact hv
def RMul (w : World) (xs ys : List Nat) (n m i : Nat) (wr : World) : Prop := ∃ zs, Row wr w.heap.size zs ∧ Digs zs ∧ zs.length = n + m + 1 ∧ val zs = val (xs.take i) * val ys ∧ (∀ j, i + m ≤ j → zs.getD j 0 = 0) ∧ Below w.heap.size w wr
def RMulIn (w : World) (xs ys : List Nat) (n m i k c : Nat) (us : List Nat) (wr : World) : Prop := Row wr w.heap.size us ∧ Digs us ∧ us.length = n + m + 1 ∧ val us + 4294967296 ^ (i + k) * c = val (xs.take i) * val ys + 4294967296 ^ i * (xs.getD i 0 * val (ys.take k)) ∧ (∀ j, i + m ≤ j → us.getD j 0 = 0) ∧ Below w.heap.size w wr
theorem rmul_in {w wr : World} {xs ys : List Nat} {n m i : Nat} (h : RMul w xs ys n m i wr) : ∃ us, RMulIn w xs ys n m i 0 0 us wr := by
  obtain ⟨zs, h1, h2, h3, h4, h5, h6⟩ := h
  exact ⟨zs, h1, h2, h3, by rw [h4]; simp [val], h5, h6⟩
theorem rmul_drew {w wr : World} {xs ys us : List Nat} {n m i k c : Nat} (h : RMulIn w xs ys n m i k c us wr) (q : Nat) : RMulIn w xs ys n m i k c us (wr.drewN q) := ⟨h.1, h.2.1, h.2.2.1, h.2.2.2.1, h.2.2.2.2.1, below_drew0 h.2.2.2.2.2 q⟩
theorem rmul_step {w wr : World} {xs ys us : List Nat} {n m i k c s : Nat} (h : RMulIn w xs ys n m i k c us wr) (hi : i < n) (hk : k < m) (hs : s = c + xs.getD i 0 * ys.getD k 0 + us.getD (i + k) 0) :
    RMulIn w xs ys n m i (k + 1) (s / 4294967296) (us.set (i + k) (s % 4294967296)) (wr.setCell ⟨w.heap.size, i + k, none⟩ (.int .u32 (s % 4294967296 : Nat))) := by
  obtain ⟨h1, h2, h3, h4, h5, h6⟩ := h
  refine ⟨h1.set_ _ _, digs_set h2 (Nat.mod_lt _ (by omega)), by simp [h3], ?_, ?_, h6.setCell (Nat.le_refl _) _⟩
  · have e := val_set (us := us) (p := i + k) (v := s % 4294967296) (by omega)
    rw [val_take_succ, Nat.mul_add, Nat.mul_add, ← Nat.add_assoc (val (xs.take i) * val ys), ← h4]
    have e2 : 4294967296 ^ i * (xs.getD i 0 * (4294967296 ^ k * ys.getD k 0)) = 4294967296 ^ (i + k) * (xs.getD i 0 * ys.getD k 0) := by rw [Nat.pow_add, Nat.mul_left_comm (xs.getD i 0), Nat.mul_assoc]
    rw [e2, ← Nat.add_assoc i k 1, Nat.pow_succ, Nat.mul_assoc]
    have e3 : s % 4294967296 + 4294967296 * (s / 4294967296) = c + xs.getD i 0 * ys.getD k 0 + us.getD (i + k) 0 := by omega
    have e4 := congrArg (4294967296 ^ (i + k) * ·) e3
    simp only [Nat.mul_add] at e4
    omega
  · intro j hj
    rw [getD_set _ _ _ _ (by omega), if_neg (by omega)]
    exact h5 j hj
theorem rmul_out {w wr : World} {xs ys us : List Nat} {n m i c : Nat} (h : RMulIn w xs ys n m i m c us wr) (hi : i < n) (hl : ys.length = m) (hc : c < 4294967296) :
    RMul w xs ys n m (i + 1) (wr.setCell ⟨w.heap.size, i + m, none⟩ (.int .u32 (c : Nat))) := by
  obtain ⟨h1, h2, h3, h4, h5, h6⟩ := h
  refine ⟨us.set (i + m) c, h1.set_ _ _, digs_set h2 hc, by simp [h3], ?_, ?_, h6.setCell (Nat.le_refl _) _⟩
  · have e := val_set (us := us) (p := i + m) (v := c) (by omega)
    rw [h5 (i + m) (Nat.le_refl _), Nat.mul_zero, Nat.add_zero] at e
    rw [e, h4, val_take_succ, show ys.take m = ys from List.take_of_length_le (by omega), Nat.add_mul, Nat.mul_assoc]
  · intro j hj
    rw [getD_set _ _ _ _ (by omega), if_neg (by omega)]
    exact h5 j (by omega)
set_option maxHeartbeats 2000000 in
theorem rmul_any (A B : Option Addr) (n c m d : Nat) (xs ys : List Nat) (w : World) (ha : Rd w A n c xs) (hb : Rd w B m d ys) (hn : n ≤ 1099511627776) (hm : m ≤ 1099511627775) :
    Calls Tryz.prog 88 #[.slice A n c, .slice B m d] w (RetDig w (dg (val xs * val ys))) := by
  have HA := hid ha
  have HB := hid hb
  have h1 := ha.2.1
  have h2 := ha.2.2.1
  have h3 := hb.2.1
  have h4 := hb.2.2.1
  have hmk : ∀ W, (Instr.makeSlice 37 (.int .i64 ((n : Int) + (m : Int) + 1)) (.int .i64 ((n : Int) + (m : Int) + 1))).run Tryz.prog W = .ok (.slice (some ⟨W.heap.size, 0, none⟩) (n + m + 1) (n + m + 1)) (W.alloc (.cells (zrow (n + m + 1)) 127)) := fun W => run_make_nat (n + m + 1) (by omega) W
  have R0 := hid (show RMul w xs ys n m 0 (w.alloc (.cells (zrow (n + m + 1)) 127)) from ⟨_, row_new w (n + m + 1), Digs.zeros _, by simp, by rw [val_zeros]; simp [val], fun j _ => by simp [List.getD, List.getElem?_replicate]; split <;> rfl, (Below.refl _ _).alloc (Nat.le_refl _) _⟩)
  clear ha hb
  go_enter Tryz.func88, Tryz.ntmps88
  go_wp2_with fail
  go_loopw [6] (fun s6 wr => ∃ i : Nat, i ≤ n ∧ s6 = .int .i64 i ∧ Hid (RMul w xs ys n m i wr)) (fun s6 _ => n - (intOf s6).toNat)
  case atStart => exact ⟨0, Nat.zero_le _, rfl, R0⟩
  case round =>
    obtain ⟨i, hi, rfl, hz⟩ := hrel
    rcases Nat.lt_or_ge i n with hlt | hge
    · obtain ⟨us0, hin⟩ := rmul_in hz.out
      have HI := hid hin
      clear hin
      obtain ⟨b, o, hA, _⟩ := rd_cell HA.out hlt
      have CA := hid (fun (w1 : World) (h : Below w.heap.size w w1) => rd_cell (HA.out.keep h) hlt)
      subst hA
      have dx := HA.out.2.2.2.1.get i
      go_wp2_with fail
      obtain ⟨wo, rfl⟩ : ∃ wo : World, wo = wr := ⟨_, rfl⟩
      go_loopw [7, 8] (fun s7 s8 wi => ∃ (k c : Nat) (us : List Nat), k ≤ m ∧ c < 4294967296 ∧ s7 = .int .u64 c ∧ s8 = .int .i64 k ∧ Hid (RMulIn w xs ys n m i k c us wi)) (fun _ s8 _ => m - (intOf s8).toNat)
      case atStart => exact ⟨0, 0, us0, Nat.zero_le _, by omega, rfl, rfl, HI⟩
      case round =>
        clear HI R0
        obtain ⟨k, c', us, hk, hc, rfl, rfl, hy⟩ := hrel
        rcases Nat.lt_or_ge k m with hkm | hkm
        · obtain ⟨b2, o2, hB, cb⟩ := rd_cell (HB.out.keep hy.out.2.2.2.2.2) hkm
          obtain ⟨b1, o1, hA, ca⟩ := CA.out wr hy.out.2.2.2.2.2
          injection hA with hA
          injection hA with e1 e2 _
          subst hB e1 e2
          have hrow := hy.out.1
          have hul := hy.out.2.2.1
          have co := hrow.cell (i := i + k) (by omega)
          have fo := Blk.free hrow (i + k)
          have dy := HB.out.2.2.2.1.get k
          have du := hy.out.2.1.get (i + k)
          have st := hid (fun (s q : Nat) => rmul_step (s := s) (rmul_drew hy.out q) hlt hkm)
          have pl := prod_le dx dy
          obtain ⟨x, hx⟩ : ∃ x, x = xs.getD i 0 := ⟨_, rfl⟩
          obtain ⟨y, hyy⟩ : ∃ y, y = ys.getD k 0 := ⟨_, rfl⟩
          obtain ⟨u, hu⟩ : ∃ u, u = us.getD (i + k) 0 := ⟨_, rfl⟩
          rw [← hx] at ca st pl
          rw [← hyy] at cb dy st pl
          rw [← hu] at co du st
          have pl0 : (x : Int) * y ≤ 18446744065119617025 := by rw [← Int.natCast_mul]; omega
          have pl1 : 0 ≤ (x : Int) * y := by rw [← Int.natCast_mul]; exact Int.natCast_nonneg _
          have dx' : x < 4294967296 := by rw [hx]; exact dx
          clear hx hyy hu hrow hul
          go_wp2_with fail
          go_quiet (fail)
          go_wp2_with fail
          go_roundw
          case rel =>
            have e3 : ((c' : Int) + (x : Int) * (y : Int) + (u : Int)) = ((c' + x * y + u : Nat) : Int) := by simp
            refine ⟨k + 1, (c' + x * y + u) / 4294967296, us.set (i + k) ((c' + x * y + u) % 4294967296), by omega, by omega, by rw [e3]; rfl, by go_num, ?_⟩
            have := st.out (c' + x * y + u) nq rfl
            rw [e3]
            exact hid this
          case measure => simp [intOf]; omega
        · obtain rfl : k = m := by omega
          have hrow := hy.out.1
          have hul := hy.out.2.2.1
          have co := hrow.cell (i := i + k) (by omega)
          have fo := Blk.free hrow (i + k)
          obtain ⟨u, hu⟩ : ∃ u, u = us.getD (i + k) 0 := ⟨_, rfl⟩
          rw [← hu] at co
          have RO := hid (rmul_out hy.out hlt HB.out.1 hc)
          clear hu hrow hul
          go_wp2_with fail
          go_roundw
          case rel => exact ⟨i + 1, by omega, by go_num, RO⟩
          case measure => simp [intOf]; omega
    · obtain rfl : i = n := by omega
      obtain ⟨zs, z1, z2, z3, z4, z5, z6⟩ := hz.out
      have hrd := z1.rd0 z2 (Nat.le_refl _) (by omega)
      rw [z3] at hrd
      rw [List.take_of_length_le (by have := HA.out.1; omega)] at z4
      have T := hid (rtrim_any (some ⟨w.heap.size, 0, none⟩) (i + m + 1) (i + m + 1) zs wr hrd (by omega))
      rw [z4] at T
      have Z6 := hid z6
      clear z1 z2 z3 z4 z5 z6 hrd
      go_wp2_with fail
      refine (T.out).mono ?_
      rintro e w3 ⟨u, rfl, u1, u2⟩
      have R := hid (show RetDig w (dg (val xs * val ys)) (.returned u) w3 from ⟨u, rfl, u1, Z6.out.trans (u2.mono Z6.out.size)⟩)
      clear u1 u2
      go_wp2_with fail
      go_ret
      exact R.out
end Go.Proofs.YtdbccidlnhjfhaaGreatDoor
