/- Contracts: Add, Sub of the specification of layer 1. -/
import Derived.Test.YtobnbeeaiidpcaaRef3
import Derived.Test.YtobnbeeaiidpcaaDivM
import Derived.Deep.LoopGhost
namespace Go.Proofs.Ytobnbeeaiidpcaa
open Go.RowKit

/-- A row of the call's own that grows: v holds the digits ds. -/
def Grow (w : World) (v : Value) (ds : List Nat) (wr : World) : Prop := wr.ownsRow w.heap.size 79 1 v ds.length (ds.map dv) ∧ Digs ds ∧ Below w.heap.size w wr
theorem grow_next {w wr w' : World} {v v' : Value} {ds : List Nat} {n d : Nat} {o : Obj} (h : Grow w v ds wr) (hn : ds.length = n) (h1 : w'.ownsRow w.heap.size 79 1 v' (n + 1) (ds.map dv ++ [d].map dv)) (h2 : (wr.alloc o).grownBy w' v.ownBlock) (hd : d < 4294967296) : Grow w v' (ds ++ [d]) w' := by
  refine ⟨?_, h.2.1.append (Digs.cons hd Digs.nil), ?_⟩
  · rw [List.map_append, List.length_append, hn]
    exact h1
  · exact (h.2.2.alloc h.2.2.size o).grown h2 (Nat.le_trans h.2.2.size (by simp)) (fun k hk => (h.1.lt k hk).1)
theorem one_rd (w : World) (d : Nat) (hd : d < 4294967296) (z : Int) (hz : z = (d : Int)) : Rd (w.alloc (.cells #[.int .u32 z] 79)) (some ⟨w.heap.size, 0, none⟩) 1 1 [d] := by
  subst hz
  exact (show Row (w.alloc (.cells #[.int .u32 (d : Int)] 79)) w.heap.size [d] from Blk.new w [dv d] _).rd0 (Digs.cons hd Digs.nil) (Nat.le_refl _) (by simp)

theorem radd_val {xs ys ds : List Nat} {k c : Nat} (hl : ds.length = k) (h : val ds + 4294967296 ^ k * c = val (xs.take k) + val (ys.take k)) :
    val (ds ++ [(c + xs.getD k 0 + ys.getD k 0) % 4294967296]) + 4294967296 ^ (k + 1) * ((c + xs.getD k 0 + ys.getD k 0) / 4294967296) = val (xs.take (k + 1)) + val (ys.take (k + 1)) := by
  rw [val_snoc, val_take_succ, val_take_succ, hl, Nat.pow_succ, Nat.mul_assoc]
  generalize xs.getD k 0 = x
  generalize ys.getD k 0 = y
  have h3 : (c + x + y) % 4294967296 + 4294967296 * ((c + x + y) / 4294967296) = c + x + y := by omega
  have h4 := congrArg (4294967296 ^ k * ·) h3
  simp only [Nat.mul_add] at h4
  omega

set_option maxRecDepth 100000 in
set_option maxHeartbeats 2000000 in
theorem radd_new (A B : Option Addr) (n c m d : Nat) (xs ys : List Nat) (w : World) (ha : Rd w A n c xs) (hb : Rd w B m d ys) (hn : n ≤ 1099511627776) (hm : m ≤ 1099511627776) :
    Calls Try.prog 90 #[.slice A n c, .slice B m d] w (RetNew w (dg (val xs + val ys))) := by
  have HA := hid ha
  have HB := hid hb
  have h1 := ha.2.1
  have h2 := ha.2.2.1
  have h3 := hb.2.1
  have h4 := hb.2.2.1
  obtain ⟨i0, hi, hz0, hz1, hz2⟩ := Try.infoU32'
  clear ha hb
  go_enter Try.func90, Try.ntmps90
  go_wp2_with fail
  go_loopg [5, 6, 7] (n + m) (fun g s5 s6 s7 wr => ∃ (k c : Nat) (v : Value) (ds : List Nat), g = n + m - k ∧ k ≤ 1099511627776 ∧ c < 2 ∧ v = s5 ∧ s6 = .int .u64 c ∧ s7 = .int .i64 k ∧ Hid (ds.length = k ∧ Grow w v ds wr ∧ val ds + 4294967296 ^ k * c = val (xs.take k) + val (ys.take k)))
  case atStart => exact ⟨0, 0, _, [], rfl, by omega, by omega, rfl, rfl, rfl, hid ⟨rfl, ⟨own_empty w, Digs.nil, (Below.refl _ _).alloc (Nat.le_refl _) _⟩, by simp [val]⟩⟩
  case round =>
    obtain ⟨k, c', v, ds, rfl, hk, hc, rfl, rfl, rfl, hz⟩ := hrel
    have dx := HA.out.2.2.2.1.get k
    have dy := HB.out.2.2.2.1.get k
    have cx := hid (fun (w1 : World) (h : Below w.heap.size w w1) => rdigit_any A n c xs k w1 (HA.out.keep h))
    have cy := hid (fun (w1 : World) (h : Below w.heap.size w w1) => rdigit_any B m d ys k w1 (HB.out.keep h))
    have st := hid (radd_val hz.out.1 hz.out.2.2)
    obtain ⟨x, hx⟩ : ∃ x, x = xs.getD k 0 := ⟨_, rfl⟩
    obtain ⟨y, hy⟩ : ∃ y, y = ys.getD k 0 := ⟨_, rfl⟩
    rw [← hx] at dx cx st
    rw [← hy] at dy cy st
    clear hx hy
    rcases (by omega : (k < n ∨ (n ≤ k ∧ k < m)) ∨ (n ≤ k ∧ m ≤ k)) with h | ⟨g1, g2⟩
    · have hlt : k < n ∨ k < m := by omega
      have hz64 : c' + x + y < 18446744073709551616 := by omega
      have LT := hid hlt
      clear hlt
      rcases h with g1 | ⟨g1, g2⟩
      all_goals
        go_wp2_with fail
        refine (cx.out wr hz.out.2.1.2.2).mono ?_
        rintro e w' ⟨rfl, rfl⟩
        go_wp2_with fail
        refine (cy.out wr hz.out.2.1.2.2).mono ?_
        rintro e w' ⟨rfl, rfl⟩
        have hr := hid (one_rd wr ((c' + x + y) % 4294967296) (by omega) (((c' : Int) + x + y) % 4294967296) (by omega))
        have hz' : Hid ((wr.alloc (.cells #[.int .u32 (((c' : Int) + x + y) % 4294967296)] 79)).ownsRow w.heap.size 79 1 v k (ds.map dv)) := hid (by have := hz.out.2.1.1.alloc (.cells #[.int .u32 (((c' : Int) + x + y) % 4294967296)] 79); rwa [hz.out.1] at this)
        have hsz : w.heap.size ≤ wr.heap.size := hz.out.2.1.2.2.size
        go_wp2_with (at_builtin; refine wpList_append_rd rfl _ _ 23 79 rfl w.heap.size i0 (.int .u32 0) Try.underlying23 hi hz0 hz1 hz2 rfl v k (ds.map dv) rfl hz'.out (some ⟨wr.heap.size, 0, none⟩) 1 1 [(c' + x + y) % 4294967296] rfl hr.out (by omega) (by simp; omega) ?_)
        intro v' w' g3 g4
        have G := hid (grow_next hz.out.2.1 hz.out.1 g3 g4 (by omega))
        clear g3 g4
        go_wp2_with fail
        go_roundg (n + m - (k + 1))
        case measure => have := LT.out; omega
        case rel => exact ⟨k + 1, (c' + x + y) / 4294967296, v', _, rfl, by omega, by omega, rfl, by go_num, by go_num, hid ⟨by simp [hz.out.1], G.out, st.out⟩⟩
    · have hr := hid (one_rd wr c' (by omega) (c' : Int) rfl)
      have hz' : Hid ((wr.alloc (.cells #[.int .u32 (c' : Int)] 79)).ownsRow w.heap.size 79 1 v k (ds.map dv)) := hid (by have := hz.out.2.1.1.alloc (.cells #[.int .u32 (c' : Int)] 79); rwa [hz.out.1] at this)
      have hsz : w.heap.size ≤ wr.heap.size := hz.out.2.1.2.2.size
      have V := hid (show val (ds ++ [c']) = val xs + val ys by
        have h5 := hz.out.2.2
        rw [List.take_of_length_le (by have := HA.out.1; omega), List.take_of_length_le (by have := HB.out.1; omega)] at h5
        rw [val_snoc, hz.out.1]
        exact h5)
      clear cx cy st
      go_wp2_with (at_builtin; refine wpList_append_rd rfl _ _ 23 79 rfl w.heap.size i0 (.int .u32 0) Try.underlying23 hi hz0 hz1 hz2 rfl v k (ds.map dv) rfl hz'.out (some ⟨wr.heap.size, 0, none⟩) 1 1 [c'] rfl hr.out (by omega) (by simp; omega) ?_)
      intro v' w' g3 g4
      have G := hid (grow_next hz.out.2.1 hz.out.1 g3 g4 (by omega))
      obtain ⟨A', p', c1, rfl, d1⟩ := dig_own G.out.1 G.out.2.1
      have hp' : p' ≤ 1099511627777 := by have := d1.1; have := hz.out.1; simp at *; omega
      have D := hid d1
      clear g3 g4 d1
      go_wp2_with fail
      refine (rtrim_new A' p' c1 _ w' D.out (by omega)).mono ?_
      rintro e w3 ⟨u, rfl, u1, u2, u3⟩
      rw [V.out] at u1
      have R := hid (show RetNew w (dg (val xs + val ys)) (.returned u) w3 from ⟨u, rfl, u1, G.out.2.2.trans (u2.mono G.out.2.2.size), u3.mono G.out.2.2.size⟩)
      clear u1 u2 u3
      go_wp2_with fail
      go_ret
      exact R.out

theorem radd_any (A B : Option Addr) (n c m d : Nat) (xs ys : List Nat) (w : World) (ha : Rd w A n c xs) (hb : Rd w B m d ys) (hn : n ≤ 1099511627776) (hm : m ≤ 1099511627776) :
    Calls Try.prog 90 #[.slice A n c, .slice B m d] w (RetDig w (dg (val xs + val ys))) := (radd_new A B n c m d xs ys w ha hb hn hm).mono fun _ _ ⟨v, a, b, c, _⟩ => ⟨v, a, b, c⟩

end Go.Proofs.Ytobnbeeaiidpcaa
