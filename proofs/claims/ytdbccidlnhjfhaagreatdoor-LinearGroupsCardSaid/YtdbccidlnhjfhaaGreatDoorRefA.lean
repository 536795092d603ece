/- RefA: Ref1, Ref2, Ref3, Ref4, Ref5, Ref6 in one text. -/
import Derived.Test.YtdbccidlnhjfhaaGreatDoorApp
import Derived.Deep.QuietTactic
import Derived.BigQuiet
import Derived.Test.YtdbccidlnhjfhaaGreatDoorDivA
import Derived.Deep.LoopGhost
namespace Go.Proofs.YtdbccidlnhjfhaaGreatDoor
open Go.RowKit
set_option maxRecDepth 100000
def New (base : Nat) (v : Value) : Prop := ∀ k, v.ownBlock = some k → base ≤ k
theorem New.mono {b b' : Nat} {v : Value} (h : New b v) (hb : b' ≤ b) : New b' v := fun k hk => Nat.le_trans hb (h k hk)
def RetNew (w : World) (zs : List Nat) (e : Ending) (w' : World) : Prop := ∃ v, e = .returned v ∧ Dig w' v zs ∧ Below w.heap.size w w' ∧ New w.heap.size v
set_option maxHeartbeats 1000000 in
theorem rtrim_new (A : Option Addr) (n c : Nat) (xs : List Nat) (w : World) (h : Rd w A n c xs) (hn : n ≤ 2199023255552) :
    Calls Tryz.prog 123 #[.slice A n c] w (RetNew w (dg (val xs))) := by
  have H := hid h
  have h1 : n ≤ c := h.2.1
  have h2 : c ≤ 9223372036854775807 := h.2.2.1
  obtain ⟨i0, hi, hz0, hz1, hz2⟩ := Tryz.infoU32'
  clear h
  go_enter Tryz.func123, Tryz.ntmps123
  go_wp2_with fail
  go_loop [3] (fun i => ∃ k : Nat, k ≤ n ∧ i = .int .i64 k ∧ Hid (∀ j, k ≤ j → xs.getD j 0 = 0)) (fun i => (intOf i).toNat)
  case atStart => exact ⟨n, Nat.le_refl _, rfl, hid (fun j hj => by have := H.out.1; simp [List.getD, List.getElem?_eq_none (by omega : xs.length ≤ j)])⟩
  case round =>
    obtain ⟨k, hk, rfl, hz⟩ := hrel
    rcases Nat.eq_zero_or_pos k with rfl | hp
    · have hr := hid ((H.out.cut (k := 0) (c' := c) (by omega) (by omega) h2).keep (w' := w.alloc (.cells #[] 127)) ((Below.refl _ _).alloc (Nat.le_refl _) _))
      have hv := hid (by rw [← dg_take hz.out]; rfl : dg (val xs) = [])
      go_wp2_with (at_builtin; refine wpList_append_rd rfl _ _ 37 127 rfl w.heap.size i0 (.int .u32 0) Tryz.underlying37 hi hz0 hz1 hz2 rfl _ _ _ rfl (own_empty w) A 0 c (xs.take 0) rfl hr.out (by omega) (by simp) ?_)
      intro v' w' g1 g2
      have R := hid (show RetNew w (dg (val xs)) (.returned v') w' from ⟨v', rfl, dig_own (xs := dg (val xs)) (by rw [hv.out]; exact g1) (digs_dg _), ((Below.refl _ _).alloc (Nat.le_refl _) _).grown g2 (by simp) (fun k hk => by cases hk; exact Nat.le_refl _), fun k hk => (g1.lt k hk).1⟩)
      clear g1 g2
      go_wp2_with fail
      go_ret
      exact R.out
    · obtain ⟨b, o, rfl, hlt, hc⟩ := H.out.2.2.2.2 (by omega)
      have hcell : w.cell? ⟨b, o + (k - 1), none⟩ = some (.int .u32 (xs.getD (k - 1) 0)) := hc _ (by omega)
      clear hc
      by_cases h0 : xs.getD (k - 1) 0 = 0
      · rw [h0] at hcell
        have hz2 : Hid (∀ j, k - 1 ≤ j → xs.getD j 0 = 0) := fun j hj => by
          rcases Nat.lt_or_ge j k with h | h
          · obtain rfl : j = k - 1 := by omega
            exact h0
          · exact hz.out j h
        clear h0
        go_wp2_with fail
        go_round
        case rel => exact ⟨k - 1, by omega, by go_num, hz2⟩
        case measure => simp [intOf]; omega
      · have h0' := hid h0
        have hl' := hid (show xs.length = n from H.out.1)
        obtain ⟨x, hx⟩ : ∃ x, x = xs.getD (k - 1) 0 := ⟨_, rfl⟩
        rw [← hx] at hcell h0
        have hb : ((x : Int) == 0) = false := by rw [beq_eq_false_iff_ne]; omega
        have hr := hid ((H.out.cut (k := k) (c' := c) hk (by omega) h2).keep (w' := w.alloc (.cells #[] 127)) ((Below.refl _ _).alloc (Nat.le_refl _) _))
        have hv := hid (take_is_dg H.out.2.2.2.1 (by have := hl'.out; omega) hz.out (.inr h0'.out))
        clear h0 hx
        go_wp2_with (at_builtin; refine wpList_append_rd rfl _ _ 37 127 rfl w.heap.size i0 (.int .u32 0) Tryz.underlying37 hi hz0 hz1 hz2 rfl _ _ _ rfl (own_empty w) (some ⟨b, o, none⟩) k c (xs.take k) rfl hr.out (by omega) (by simp) ?_)
        intro v' w' g1 g2
        have R := hid (show RetNew w (dg (val xs)) (.returned v') w' from ⟨v', rfl, dig_own (base := w.heap.size) (n := k) (xs := dg (val xs)) (by rw [← hv.out]; simpa using g1) (digs_dg _), ((Below.refl _ _).alloc (Nat.le_refl _) _).grown g2 (by simp) (fun k hk => by cases hk; exact Nat.le_refl _), fun k hk => (g1.lt k hk).1⟩)
        clear g1 g2
        go_wp2_with fail
        go_ret
        exact R.out
theorem rtrim_any (A : Option Addr) (n c : Nat) (xs : List Nat) (w : World) (h : Rd w A n c xs) (hn : n ≤ 2199023255552) :
    Calls Tryz.prog 123 #[.slice A n c] w (RetDig w (dg (val xs))) := (rtrim_new A n c xs w h hn).mono fun _ _ ⟨v, a, b, c, _⟩ => ⟨v, a, b, c⟩
def RetB (w : World) (b : Bool) (e : Ending) (w' : World) : Prop := e = .returned (.bool b) ∧ Below w.heap.size w w'
def RetI (w : World) (i : Int) (e : Ending) (w' : World) : Prop := e = .returned (.int .i64 i) ∧ Below w.heap.size w w'
theorem below_drew0 {B : Nat} {a w : World} (h : Below B a w) (k : Nat) : Below B a (w.drewN k) := ⟨h.os, h.tape, h.output, h.size, h.block⟩
theorem rd_cell {w : World} {A : Option Addr} {n c : Nat} {xs : List Nat} (h : Rd w A n c xs) {k : Nat} (hk : k < n) : ∃ b o, A = some ⟨b, o, none⟩ ∧ w.cell? ⟨b, o + k, none⟩ = some (.int .u32 (xs.getD k 0 : Nat)) := by
  obtain ⟨b, o, hA, _, hc⟩ := h.2.2.2.2 (by omega)
  exact ⟨b, o, hA, hc k hk⟩
set_option maxHeartbeats 1000000 in
theorem rsame_any (A B : Option Addr) (n c m d : Nat) (xs ys : List Nat) (w : World) (ha : Rd w A n c xs) (hb : Rd w B m d ys) :
    Calls Tryz.prog 65 #[.slice A n c, .slice B m d] w (RetB w (decide (xs = ys))) := by
  have HA := hid ha
  have HB := hid hb
  have h1 := ha.2.1
  have h2 := ha.2.2.1
  have h3 := hb.2.1
  have h4 := hb.2.2.1
  by_cases hnm : n = m
  · subst hnm
    clear ha hb
    go_enter Tryz.func65, Tryz.ntmps65
    go_wp2_with fail
    go_loopw [5] (fun i wr => ∃ k : Nat, k ≤ n ∧ i = .int .i64 k ∧ Hid ((∀ j, j < k → xs.getD j 0 = ys.getD j 0) ∧ Below w.heap.size w wr)) (fun i _ => n - (intOf i).toNat)
    case atStart => exact ⟨0, Nat.zero_le _, rfl, hid ⟨fun j hj => absurd hj (by omega), Below.refl _ _⟩⟩
    case round =>
      obtain ⟨k, hk, rfl, hz⟩ := hrel
      rcases Nat.lt_or_ge k n with hlt | hge
      · obtain ⟨b, o, hA, ca⟩ := rd_cell (HA.out.keep hz.out.2) hlt
        obtain ⟨b2, o2, hB, cb⟩ := rd_cell (HB.out.keep hz.out.2) hlt
        subst hA hB
        obtain ⟨x, hx⟩ : ∃ x, x = xs.getD k 0 := ⟨_, rfl⟩
        obtain ⟨y, hy⟩ : ∃ y, y = ys.getD k 0 := ⟨_, rfl⟩
        rw [← hx] at ca
        rw [← hy] at cb
        by_cases hxy : x = y
        · subst hxy
          have HZ := hid (show (∀ j, j < k + 1 → xs.getD j 0 = ys.getD j 0) ∧ Below w.heap.size w wr from ⟨fun j hj => by
            rcases Nat.lt_or_ge j k with h | h
            · exact hz.out.1 j h
            · obtain rfl : j = k := by omega
              rw [← hx, ← hy], hz.out.2⟩)
          clear hx hy hz
          go_wp2_with fail
          go_quiet (fail)
          go_wp2_with fail
          go_roundw
          case rel => exact ⟨k + 1, by omega, by go_num, hid ⟨HZ.out.1, below_drew0 HZ.out.2 _⟩⟩
          case measure => simp [intOf]; omega
        · have e1 : ((x : Int) == (y : Int)) = false := by rw [beq_eq_false_iff_ne]; omega
          have e2 : ((x : Int) != (y : Int)) = true := by simp; omega
          have HN := hid (show xs ≠ ys from fun e => hxy (by rw [hx, hy, e]))
          clear hx hy hxy
          go_wp2_with fail
          go_quiet (fail)
          go_wp2_with fail
          go_ret
          exact ⟨by rw [decide_eq_false HN.out]; rfl, below_drew0 hz.out.2 _⟩
      · go_wp2_with fail
        go_ret
        refine ⟨?_, hz.out.2⟩
        have : xs = ys := ext_getD (by rw [HA.out.1, HB.out.1]) fun j => by
          rcases Nat.lt_or_ge j k with h | h
          · exact hz.out.1 j h
          · have := HA.out.1
            have := HB.out.1
            simp [List.getD, List.getElem?_eq_none (by omega : xs.length ≤ j), List.getElem?_eq_none (by omega : ys.length ≤ j)]
        rw [decide_eq_true this]
        rfl
  · have e1 : ((n : Int) == (m : Int)) = false := by rw [beq_eq_false_iff_ne]; omega
    have e2 : ((n : Int) != (m : Int)) = true := by simp; omega
    have HN := hid (show xs ≠ ys from fun e => hnm (by rw [← ha.1, ← hb.1, e]))
    clear ha hb hnm
    go_enter Tryz.func65, Tryz.ntmps65
    go_wp2_with fail
    go_ret
    exact ⟨by rw [decide_eq_false HN.out]; rfl, Below.refl _ _⟩
set_option maxHeartbeats 400000 in
theorem rdigit_any (A : Option Addr) (n c : Nat) (xs : List Nat) (i : Nat) (w : World) (h : Rd w A n c xs) :
    Calls Tryz.prog 139 #[.slice A n c, .int .i64 i] w fun e w' => e = .returned (.int .u64 (xs.getD i 0 : Nat)) ∧ w = w' := by
  have H := hid h
  have h1 : n ≤ c := h.2.1
  have h2 : c ≤ 9223372036854775807 := h.2.2.1
  clear h
  rcases Nat.lt_or_ge i n with hi | hi
  · obtain ⟨b, o, rfl, hcell⟩ := rd_cell H.out hi
    have hd := H.out.2.2.2.1.get i
    obtain ⟨x, hx⟩ : ∃ x, x = xs.getD i 0 := ⟨_, rfl⟩
    rw [← hx] at hcell hd ⊢
    clear hx
    go_enter Tryz.func139, Tryz.ntmps139
    go_wp2
    go_ret
    exact ⟨rfl, rfl⟩
  · have h0 : xs.getD i 0 = 0 := by have := H.out.1; simp [List.getD, List.getElem?_eq_none (by omega : xs.length ≤ i)]
    rw [h0]
    clear h0
    go_enter Tryz.func139, Tryz.ntmps139
    go_wp2
    go_ret
    exact ⟨rfl, rfl⟩
set_option maxHeartbeats 400000 in
theorem rfrom_any (n : Nat) (w : World) (h : n < 18446744073709551616) :
    Calls Tryz.prog 106 #[.int .u64 n] w (RetDig w (dg n)) := by
  have T := hid (rtrim_any (some ⟨w.heap.size, 0, none⟩) 2 2 _ _ ((from_row0 n w).rd0 (from_digs h) (c := 2) (by simp) (by omega)) (by omega))
  rw [from_val] at T
  go_enter Tryz.func106, Tryz.ntmps106
  go_wp2_with fail
  refine (T.out).mono ?_
  rintro e w1 ⟨v, rfl, h1, h2⟩
  have R := hid (show RetDig w (dg n) (.returned v) w1 from ⟨v, rfl, h1, ((Below.refl _ _).alloc (Nat.le_refl _) _).trans (h2.mono (by simp))⟩)
  clear h1 h2
  go_wp2_with fail
  go_ret
  exact R.out
def Grow (w : World) (v : Value) (ds : List Nat) (wr : World) : Prop := wr.ownsRow w.heap.size 127 1 v ds.length (ds.map dv) ∧ Digs ds ∧ Below w.heap.size w wr
theorem grow_next {w wr w' : World} {v v' : Value} {ds : List Nat} {n d : Nat} {o : Obj} (h : Grow w v ds wr) (hn : ds.length = n) (h1 : w'.ownsRow w.heap.size 127 1 v' (n + 1) (ds.map dv ++ [d].map dv)) (h2 : (wr.alloc o).grownBy w' v.ownBlock) (hd : d < 4294967296) : Grow w v' (ds ++ [d]) w' := by
  refine ⟨?_, h.2.1.append (Digs.cons hd Digs.nil), ?_⟩
  · rw [List.map_append, List.length_append, hn]
    exact h1
  · exact (h.2.2.alloc h.2.2.size o).grown h2 (Nat.le_trans h.2.2.size (by simp)) (fun k hk => (h.1.lt k hk).1)
theorem one_rd (w : World) (d : Nat) (hd : d < 4294967296) (z : Int) (hz : z = (d : Int)) : Rd (w.alloc (.cells #[.int .u32 z] 127)) (some ⟨w.heap.size, 0, none⟩) 1 1 [d] := by
  subst hz
  exact (show Row (w.alloc (.cells #[.int .u32 (d : Int)] 127)) w.heap.size [d] from Blk.new w [dv d] _).rd0 (Digs.cons hd Digs.nil) (Nat.le_refl _) (by simp)
theorem radd_val {xs ys ds : List Nat} {k c : Nat} (hl : ds.length = k) (h : val ds + 4294967296 ^ k * c = val (xs.take k) + val (ys.take k)) :
    val (ds ++ [(c + xs.getD k 0 + ys.getD k 0) % 4294967296]) + 4294967296 ^ (k + 1) * ((c + xs.getD k 0 + ys.getD k 0) / 4294967296) = val (xs.take (k + 1)) + val (ys.take (k + 1)) := by
  rw [val_snoc, val_take_succ, val_take_succ, hl, Nat.pow_succ, Nat.mul_assoc]
  generalize xs.getD k 0 = x
  generalize ys.getD k 0 = y
  have h3 : (c + x + y) % 4294967296 + 4294967296 * ((c + x + y) / 4294967296) = c + x + y := by omega
  have h4 := congrArg (4294967296 ^ k * ·) h3
  simp only [Nat.mul_add] at h4
  omega
set_option maxHeartbeats 2000000 in
theorem radd_new (A B : Option Addr) (n c m d : Nat) (xs ys : List Nat) (w : World) (ha : Rd w A n c xs) (hb : Rd w B m d ys) (hn : n ≤ 1099511627776) (hm : m ≤ 1099511627776) :
    Calls Tryz.prog 126 #[.slice A n c, .slice B m d] w (RetNew w (dg (val xs + val ys))) := by
  have HA := hid ha
  have HB := hid hb
  have h1 := ha.2.1
  have h2 := ha.2.2.1
  have h3 := hb.2.1
  have h4 := hb.2.2.1
  obtain ⟨i0, hi, hz0, hz1, hz2⟩ := Tryz.infoU32'
  clear ha hb
  go_enter Tryz.func126, Tryz.ntmps126
  go_wp2_with fail
  go_loopg [5, 6, 7] (n + m) (fun g s5 s6 s7 wr => ∃ (k c : Nat) (v : Value) (ds : List Nat), g = n + m - k ∧ k ≤ 1099511627776 ∧ c < 2 ∧ v = s5 ∧ s6 = .int .u64 c ∧ s7 = .int .i64 k ∧ Hid (ds.length = k ∧ Grow w v ds wr ∧ val ds + 4294967296 ^ k * c = val (xs.take k) + val (ys.take k)))
  case atStart => exact ⟨0, 0, _, [], rfl, by omega, by omega, rfl, rfl, rfl, hid ⟨rfl, ⟨own_empty w, Digs.nil, (Below.refl _ _).alloc (Nat.le_refl _) _⟩, by simp [val]⟩⟩
  case round =>
    obtain ⟨k, c', v, ds, rfl, hk, hc, rfl, rfl, rfl, hz⟩ := hrel
    have dx := HA.out.2.2.2.1.get k
    have dy := HB.out.2.2.2.1.get k
    have cx := hid (fun (w1 : World) (h : Below w.heap.size w w1) => rdigit_any A n c xs k w1 (HA.out.keep h))
    have cy := hid (fun (w1 : World) (h : Below w.heap.size w w1) => rdigit_any B m d ys k w1 (HB.out.keep h))
    have st := hid (radd_val hz.out.1 hz.out.2.2)
    obtain ⟨x, hx⟩ : ∃ x, x = xs.getD k 0 := ⟨_, rfl⟩
    obtain ⟨y, hy⟩ : ∃ y, y = ys.getD k 0 := ⟨_, rfl⟩
    rw [← hx] at dx cx st
    rw [← hy] at dy cy st
    clear hx hy
    rcases (by omega : (k < n ∨ (n ≤ k ∧ k < m)) ∨ (n ≤ k ∧ m ≤ k)) with h | ⟨g1, g2⟩
    · have hlt : k < n ∨ k < m := by omega
      have hz64 : c' + x + y < 18446744073709551616 := by omega
      have LT := hid hlt
      clear hlt
      rcases h with g1 | ⟨g1, g2⟩
      all_goals
        go_wp2_with fail
        refine (cx.out wr hz.out.2.1.2.2).mono ?_
        rintro e w' ⟨rfl, rfl⟩
        go_wp2_with fail
        refine (cy.out wr hz.out.2.1.2.2).mono ?_
        rintro e w' ⟨rfl, rfl⟩
        have hr := hid (one_rd wr ((c' + x + y) % 4294967296) (by omega) (((c' : Int) + x + y) % 4294967296) (by omega))
        have hz' : Hid ((wr.alloc (.cells #[.int .u32 (((c' : Int) + x + y) % 4294967296)] 127)).ownsRow w.heap.size 127 1 v k (ds.map dv)) := hid (by have := hz.out.2.1.1.alloc (.cells #[.int .u32 (((c' : Int) + x + y) % 4294967296)] 127); rwa [hz.out.1] at this)
        have hsz : w.heap.size ≤ wr.heap.size := hz.out.2.1.2.2.size
        go_wp2_with (at_builtin; refine wpList_append_rd rfl _ _ 37 127 rfl w.heap.size i0 (.int .u32 0) Tryz.underlying37 hi hz0 hz1 hz2 rfl v k (ds.map dv) rfl hz'.out (some ⟨wr.heap.size, 0, none⟩) 1 1 [(c' + x + y) % 4294967296] rfl hr.out (by omega) (by simp; omega) ?_)
        intro v' w' g3 g4
        have G := hid (grow_next hz.out.2.1 hz.out.1 g3 g4 (by omega))
        clear g3 g4
        go_wp2_with fail
        go_roundg (n + m - (k + 1))
        case measure => have := LT.out; omega
        case rel => exact ⟨k + 1, (c' + x + y) / 4294967296, v', _, rfl, by omega, by omega, rfl, by go_num, by go_num, hid ⟨by simp [hz.out.1], G.out, st.out⟩⟩
    · have hr := hid (one_rd wr c' (by omega) (c' : Int) rfl)
      have hz' : Hid ((wr.alloc (.cells #[.int .u32 (c' : Int)] 127)).ownsRow w.heap.size 127 1 v k (ds.map dv)) := hid (by have := hz.out.2.1.1.alloc (.cells #[.int .u32 (c' : Int)] 127); rwa [hz.out.1] at this)
      have hsz : w.heap.size ≤ wr.heap.size := hz.out.2.1.2.2.size
      have V := hid (show val (ds ++ [c']) = val xs + val ys by
        have h5 := hz.out.2.2
        rw [List.take_of_length_le (by have := HA.out.1; omega), List.take_of_length_le (by have := HB.out.1; omega)] at h5
        rw [val_snoc, hz.out.1]
        exact h5)
      clear cx cy st
      go_wp2_with (at_builtin; refine wpList_append_rd rfl _ _ 37 127 rfl w.heap.size i0 (.int .u32 0) Tryz.underlying37 hi hz0 hz1 hz2 rfl v k (ds.map dv) rfl hz'.out (some ⟨wr.heap.size, 0, none⟩) 1 1 [c'] rfl hr.out (by omega) (by simp; omega) ?_)
      intro v' w' g3 g4
      have G := hid (grow_next hz.out.2.1 hz.out.1 g3 g4 (by omega))
      obtain ⟨A', p', c1, rfl, d1⟩ := dig_own G.out.1 G.out.2.1
      have hp' : p' ≤ 1099511627777 := by have := d1.1; have := hz.out.1; simp at *; omega
      have D := hid d1
      clear g3 g4 d1
      go_wp2_with fail
      refine (rtrim_new A' p' c1 _ w' D.out (by omega)).mono ?_
      rintro e w3 ⟨u, rfl, u1, u2, u3⟩
      rw [V.out] at u1
      have R := hid (show RetNew w (dg (val xs + val ys)) (.returned u) w3 from ⟨u, rfl, u1, G.out.2.2.trans (u2.mono G.out.2.2.size), u3.mono G.out.2.2.size⟩)
      clear u1 u2 u3
      go_wp2_with fail
      go_ret
      exact R.out
theorem radd_any (A B : Option Addr) (n c m d : Nat) (xs ys : List Nat) (w : World) (ha : Rd w A n c xs) (hb : Rd w B m d ys) (hn : n ≤ 1099511627776) (hm : m ≤ 1099511627776) :
    Calls Tryz.prog 126 #[.slice A n c, .slice B m d] w (RetDig w (dg (val xs + val ys))) := (radd_new A B n c m d xs ys w ha hb hn hm).mono fun _ _ ⟨v, a, b, c, _⟩ => ⟨v, a, b, c⟩
end Go.Proofs.YtdbccidlnhjfhaaGreatDoor
