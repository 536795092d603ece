/- Contracts: Sub of the specification of layer 1. -/
import Derived.Test.YtobnbeeaiidpcaaRef4
namespace Go.Proofs.Ytobnbeeaiidpcaa
open Go.RowKit

theorem rsub_val {xs ys ds : List Nat} {k c x : Nat} (hl : ds.length = k) (hx : xs.getD k 0 < 4294967296) (hy : ys.getD k 0 < 4294967296) (hc : c < 2) (h : val ds + val (ys.take k) = val (xs.take k) + 4294967296 ^ k * c) (he : x + ys.getD k 0 + c = 4294967296 + xs.getD k 0) :
    val (ds ++ [x % 4294967296]) + val (ys.take (k + 1)) = val (xs.take (k + 1)) + 4294967296 ^ (k + 1) * (1 - x / 4294967296) := by
  rw [val_snoc, val_take_succ, val_take_succ, hl, Nat.pow_succ, Nat.mul_assoc]
  generalize xs.getD k 0 = a at *
  generalize ys.getD k 0 = b at *
  have h3 : x % 4294967296 + (b + c) = a + 4294967296 * (1 - x / 4294967296) := by omega
  have h4 := congrArg (4294967296 ^ k * ·) h3
  simp only [Nat.mul_add] at h4
  omega

/-- The call returns the digits zs in new memory, and a code. -/
def RetNew2 (w : World) (zs : List Nat) (k : Int) (e : Ending) (w' : World) : Prop := ∃ v, e = .returned (.tuple #[v, .int .i64 k]) ∧ Dig w' v zs ∧ Below w.heap.size w w' ∧ New w.heap.size v

set_option maxRecDepth 100000 in
set_option maxHeartbeats 2000000 in
theorem rsub_ge (A B : Option Addr) (n c m d : Nat) (xs ys : List Nat) (w : World) (ha : Rd w A n c xs) (hb : Rd w B m d ys) (hn : n ≤ 1099511627776) (hm : m ≤ 1099511627776) (hge : val ys ≤ val xs) :
    Calls Try.prog 97 #[.slice A n c, .slice B m d] w (RetNew2 w (dg (val xs - val ys)) 0) := by
  have HA := hid ha
  have HB := hid hb
  have h1 := ha.2.1
  have h2 := ha.2.2.1
  have h3 := hb.2.1
  have h4 := hb.2.2.1
  have cc := hid (rcmp_any A B n c m d xs ys w ha hb hn hm)
  have e1 := cmpN_ge hge
  obtain ⟨z, hz⟩ : ∃ z, z = cmpN (val xs) (val ys) := ⟨_, rfl⟩
  rw [← hz] at cc e1
  have GE := hid hge
  obtain ⟨i0, hi, hz0, hz1, hz2⟩ := Try.infoU32'
  clear ha hb hz hge
  go_enter Try.func97, Try.ntmps97
  go_wp2_with fail
  refine (cc.out).mono ?_
  rintro e w0 ⟨rfl, b0⟩
  have B0 := hid b0
  clear b0 cc
  go_wp2_with fail
  go_loopw [6, 7, 8, 9] (fun s6 s7 s8 s9 wr => ∃ (k c : Nat) (v : Value) (ds : List Nat), k ≤ n ∧ c < 2 ∧ v = s6 ∧ s7 = .int .u64 c ∧ s8 = .int .i64 k ∧ Hid (ds.length = k ∧ Grow w0 v ds wr ∧ val ds + val (ys.take k) = val (xs.take k) + 4294967296 ^ k * c)) (fun _ _ i _ _ => n - (intOf i).toNat)
  case atStart => exact ⟨0, 0, _, [], by omega, by omega, rfl, rfl, rfl, hid ⟨rfl, ⟨own_empty w0, Digs.nil, (Below.refl _ _).alloc (Nat.le_refl _) _⟩, by simp [val]⟩⟩
  case round =>
    obtain ⟨k, c', v, ds, hk, hc, rfl, rfl, rfl, hz⟩ := hrel
    have dx := HA.out.2.2.2.1.get k
    have dy := HB.out.2.2.2.1.get k
    have cx := hid (rdigit_any A n c xs k wr ((HA.out.keep B0.out).keep hz.out.2.1.2.2))
    have cy := hid (rdigit_any B m d ys k wr ((HB.out.keep B0.out).keep hz.out.2.1.2.2))
    have st := hid (fun (u : Nat) => rsub_val (x := u) hz.out.1 dx dy hc hz.out.2.2)
    obtain ⟨x, hx⟩ : ∃ x, x = xs.getD k 0 := ⟨_, rfl⟩
    obtain ⟨y, hy⟩ : ∃ y, y = ys.getD k 0 := ⟨_, rfl⟩
    rw [← hx] at dx cx st
    rw [← hy] at dy cy st
    clear hx hy
    rcases Nat.lt_or_ge k n with hlt | hge
    · obtain ⟨u, hu⟩ : ∃ u : Nat, u = 4294967296 + x - y - c' := ⟨_, rfl⟩
      have eu : (4294967296 : Int) + (x : Int) - (y : Int) - (c' : Int) = (u : Int) := by omega
      have ub : u < 8589934592 := by omega
      have ST := hid (st.out u (by omega))
      have hr := hid (one_rd wr (u % 4294967296) (by omega) ((u : Int) % 4294967296) (by omega))
      have hz' : Hid ((wr.alloc (.cells #[.int .u32 ((u : Int) % 4294967296)] 79)).ownsRow w0.heap.size 79 1 v k (ds.map dv)) := hid (by have := hz.out.2.1.1.alloc (.cells #[.int .u32 ((u : Int) % 4294967296)] 79); rwa [hz.out.1] at this)
      have hsz : w0.heap.size ≤ wr.heap.size := hz.out.2.1.2.2.size
      clear st hu
      go_wp2_with fail
      refine (cx.out).mono ?_
      rintro e w' ⟨rfl, rfl⟩
      go_wp2_with fail
      refine (cy.out).mono ?_
      rintro e w' ⟨rfl, rfl⟩
      go_wp2_with (at_builtin; refine wpList_append_rd rfl _ _ 23 79 rfl w0.heap.size i0 (.int .u32 0) Try.underlying23 hi hz0 hz1 hz2 rfl v k (ds.map dv) rfl hz'.out (some ⟨wr.heap.size, 0, none⟩) 1 1 [u % 4294967296] rfl hr.out (by omega) (by simp; omega) ?_)
      intro v' w' g3 g4
      have G := hid (grow_next hz.out.2.1 hz.out.1 g3 g4 (by omega))
      clear g3 g4
      go_wp2_with fail
      go_roundw
      case rel => exact ⟨k + 1, 1 - u / 4294967296, v', _, by omega, by omega, rfl, by go_num, by go_num, hid ⟨by simp [hz.out.1], G.out, ST.out⟩⟩
      case measure => simp [intOf]; omega
    · obtain rfl : k = n := by omega
      have V := hid (show val ds = val xs - val ys by
        have h5 := hz.out.2.2
        have h0 : val (ys.take k) = val ys := val_drop_zero (by have := val_lt HA.out.2.2.2.1; rw [HA.out.1] at this; have := GE.out; omega)
        rw [h0, List.take_of_length_le (by have := HA.out.1; omega)] at h5
        exact no_borrow h5 (by have := val_lt hz.out.2.1.2.1; rwa [hz.out.1] at this) GE.out)
      obtain ⟨A', p', c1, rfl, d1⟩ := dig_own hz.out.2.1.1 hz.out.2.1.2.1
      have hp' : p' ≤ 1099511627777 := by have := d1.1; have := hz.out.1; omega
      have D := hid d1
      clear d1 cx cy st
      go_wp2_with fail
      refine (rtrim_new A' p' c1 _ wr D.out (by omega)).mono ?_
      rintro e w3 ⟨u, rfl, u1, u2, u3⟩
      rw [V.out] at u1
      have R := hid (show RetNew2 w (dg (val xs - val ys)) 0 (.returned (.tuple #[u, .int .i64 0])) w3 from ⟨u, rfl, u1, B0.out.trans ((hz.out.2.1.2.2.trans (u2.mono hz.out.2.1.2.2.size)).mono B0.out.size), u3.mono (Nat.le_trans B0.out.size hz.out.2.1.2.2.size)⟩)
      clear u1 u2 u3
      go_wp2_with fail
      go_ret2
      exact R.out

set_option maxHeartbeats 400000 in
theorem rsub_any (A B : Option Addr) (n c m d : Nat) (xs ys : List Nat) (w : World) (ha : Rd w A n c xs) (hb : Rd w B m d ys) (hn : n ≤ 1099511627776) (hm : m ≤ 1099511627776) :
    Calls Try.prog 97 #[.slice A n c, .slice B m d] w (Ret2 w (subD (val xs) (val ys)) (subE (val xs) (val ys))) := by
  unfold subD subE
  by_cases h : val xs < val ys
  · rw [if_pos h, if_pos h]
    have cc := rcmp_any A B n c m d xs ys w ha hb hn hm
    rw [cmpN_lt h] at cc
    have CC := hid cc
    clear cc ha hb h
    go_enter Try.func97, Try.ntmps97
    go_wp2_with fail
    refine (CC.out).mono ?_
    rintro e w0 ⟨rfl, b0⟩
    have B0 := hid b0
    clear b0
    go_wp2_with fail
    go_ret2
    exact ⟨_, rfl, Dig.nil _, B0.out⟩
  · rw [if_neg h, if_neg h]
    exact (rsub_ge A B n c m d xs ys w ha hb hn hm (by omega)).mono fun _ _ ⟨v, a, b, c, _⟩ => ⟨v, a, b, c⟩

end Go.Proofs.Ytobnbeeaiidpcaa
