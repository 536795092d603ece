/- The contract of Gcd of package natural. -/
import Derived.Test.YtdbccidlnhjfhaaGreatDoorDivA
import Derived.Deep.LoopGhost
namespace Go.Proofs.YtdbccidlnhjfhaaGreatDoor
open Go.RowKit
set_option maxRecDepth 100000
def GcdRel (w : World) (G p q : Nat) (A : Option Addr) (c : Nat) (B : Option Addr) (d x y : Nat) (wr : World) : Prop := Rd wr A p c (dg x) ∧ Rd wr B q d (dg y) ∧ Nat.gcd x y = G ∧ Below w.heap.size w wr
theorem gcd_step {w wr w' : World} {G p q : Nat} {A : Option Addr} {c : Nat} {B : Option Addr} {d x y : Nat} {u : Value} (h : GcdRel w G p q A c B d x y wr) (hu : Dig w' u (remD x y)) (hb : Below wr.heap.size wr w') (hq : 0 < q) : 0 < y ∧ ∃ C r f, u = .slice C r f ∧ r ≤ q ∧ r ≤ f ∧ f ≤ 9223372036854775807 ∧ GcdRel w G q r B d C f y (x % y) w' := by
  obtain ⟨h1, h2, h3, h4⟩ := h
  have hy : 0 < y := by
    rcases Nat.eq_zero_or_pos y with h0 | h0
    · have := h2.1; rw [h0] at this; simp [dg_zero] at this; omega
    · exact h0
  obtain ⟨C, r, f, rfl, hc⟩ := hu
  unfold remD at hc
  rw [if_neg (by omega)] at hc
  refine ⟨hy, C, r, f, rfl, ?_, hc.2.1, hc.2.2.1, h2.keep hb, hc, ?_, h4.trans (hb.mono h4.size)⟩
  · rw [← hc.1, ← h2.1]
    exact dg_len_mono (Nat.le_of_lt (Nat.mod_lt _ hy))
  · rw [← h3, Nat.gcd_comm, ← Nat.gcd_rec, Nat.gcd_comm]
theorem gcd_clone {w wr w1 : World} {G p : Nat} {A : Option Addr} {c : Nat} {B : Option Addr} {d x y : Nat} (h : GcdRel w G p 0 A c B d x y wr) (z1 : Row w1 wr.heap.size (dg x)) (z2 : Below wr.heap.size wr w1) : RetDig w (dg G) (.returned (.slice (some ⟨wr.heap.size, 0, none⟩) p p)) w1 := by
  obtain ⟨h1, h2, h3, h4⟩ := h
  have hy : y = 0 := dg_nil_iff.1 (List.eq_nil_of_length_eq_zero h2.1)
  rw [hy, Nat.gcd_zero_right] at h3
  subst h3
  have := z1.rd0 (digs_dg x) (Nat.le_refl _) (by have := h1.1; have := h1.2.1; have := h1.2.2.1; omega)
  rw [h1.1] at this
  exact ⟨_, rfl, ⟨_, _, _, rfl, this⟩, h4.trans (z2.mono h4.size)⟩
theorem below_drewN {B : Nat} {a w : World} (h : Below B a w) (k : Nat) : Below B a (w.drewN k) := ⟨h.os, h.tape, h.output, h.size, h.block⟩
theorem gcd_rec2 {x y G : Nat} (h : Nat.gcd x y = G) : Nat.gcd y (x % y) = G := by rw [← h, Nat.gcd_comm, ← Nat.gcd_rec, Nat.gcd_comm]
theorem rd_small {w : World} {A : Option Addr} {p c x : Nat} (h : Rd w A p c (dg x)) (hp : p ≤ 2) : x < 18446744073709551616 := by
  have := dg_len_lt x
  rw [h.1] at this
  have h2 := Nat.pow_le_pow_right (n := 4294967296) (by omega) hp
  omega
set_option maxHeartbeats 2000000 in
theorem gcd_any (A B : Option Addr) (n c m d : Nat) (xs ys : List Nat) (w : World) (ha : Rd w A n c xs) (hb : Rd w B m d ys) (hn : n ≤ 1099511627776) (hm : m ≤ 1099511627776) :
    Calls Tryz.prog 158 #[.slice A n c, .slice B m d] w (RetDig w (dg (Nat.gcd (val xs) (val ys)))) := by
  have ta := hid (trim_any A n c xs w ha)
  have tb := hid (trim_any B m d ys w hb)
  have la := dg_len_small ha.2.2.2.1
  have lb := dg_len_small hb.2.2.2.1
  rw [ha.1] at la
  rw [hb.1] at lb
  have ra := hid ha.trim
  have rb := hid hb.trim
  obtain ⟨x, hx⟩ : ∃ x, x = val xs := ⟨_, rfl⟩
  obtain ⟨y, hy⟩ : ∃ y, y = val ys := ⟨_, rfl⟩
  rw [← hx] at ta la ra ⊢
  rw [← hy] at tb lb rb ⊢
  clear ha hb hx hy
  obtain ⟨p, hp⟩ : ∃ p, p = (dg x).length := ⟨_, rfl⟩
  obtain ⟨q, hq⟩ : ∃ q, q = (dg y).length := ⟨_, rfl⟩
  rw [← hp] at ta la ra
  rw [← hq] at tb lb rb
  clear hp hq
  obtain ⟨G, hG⟩ : ∃ G, G = Nat.gcd x y := ⟨_, rfl⟩
  rw [← hG]
  have R0 := hid (show GcdRel w G p q A p B q x y w from ⟨ra.out, rb.out, hG.symm, Below.refl _ _⟩)
  clear hG
  go_enter Tryz.func158, Tryz.ntmps158
  go_wp2_with fail
  refine (ta.out).mono ?_
  rintro e w' ⟨rfl, rfl⟩
  go_wp2_with fail
  refine (tb.out).mono ?_
  rintro e w' ⟨rfl, rfl⟩
  go_wp2_with fail
  go_loopg [0, 1] y (fun k s0 s1 wr => ∃ (A : Option Addr) (p c : Nat) (B : Option Addr) (q d x y : Nat), p ≤ 1099511627776 ∧ q ≤ 1099511627776 ∧ p ≤ c ∧ q ≤ d ∧ c ≤ 9223372036854775807 ∧ d ≤ 9223372036854775807 ∧ s0 = .slice A p c ∧ s1 = .slice B q d ∧ y ≤ k ∧ Hid (GcdRel w G p q A c B d x y wr))
  case atStart => exact ⟨A, p, p, B, q, q, x, y, by omega, by omega, by omega, by omega, by omega, by omega, rfl, rfl, Nat.le_refl _, R0⟩
  case round =>
    clear ta tb ra rb R0 la lb hn hm
    obtain ⟨A, p, c, B, q, d, x, y, hp, hq, hpc, hqd, hcm, hdm, rfl, rfl, hyk, hz⟩ := hrel
    rcases Nat.eq_zero_or_pos q with rfl | hq0
    · go_wp2_with fail
      have cl := hid (clone_any A p c (dg x) wr hz.out.1 hp)
      refine (cl.out).mono ?_
      rintro e w1 ⟨rfl, z1, z2⟩
      have R := hid (gcd_clone hz.out z1 z2)
      clear z1 z2
      go_wp2_with fail
      go_ret
      exact R.out
    · rcases (by omega : ((p < q ∧ 2 < q) ∨ (q ≤ p ∧ 2 < p)) ∨ ((p < q ∧ q ≤ 2) ∨ (q ≤ p ∧ p ≤ 2))) with h | h
      · have dm := divMod_any A B p c q d (dg x) (dg y) wr hz.out.1 hz.out.2.1 hp hq
        rw [val_dg, val_dg] at dm
        have DM := hid dm
        clear dm
        rcases h with ⟨h1, h2⟩ | ⟨h1, h2⟩
        all_goals
          go_wp2_with fail
          refine (DM.out).mono ?_
          rintro e w1 ⟨v, u, rfl, z1, z2, z3⟩
          obtain ⟨hy, C, r, f, rfl, z4, z5, z6, z7⟩ := gcd_step hz.out z2 z3 hq0
          have Z := hid z7
          clear z1 z2 z3 z7
          go_wp2_with fail
          go_roundg (x % y)
          case measure => exact Nat.lt_of_lt_of_le (Nat.mod_lt _ hy) hyk
          case rel => exact ⟨B, q, d, C, r, f, y, x % y, by omega, by omega, by omega, by omega, by omega, by omega, rfl, rfl, Nat.le_refl _, Z⟩
      · have hx64 := rd_small hz.out.1 (by omega)
        have hy64 := rd_small hz.out.2.1 (by omega)
        have ux := uint_small A p c (dg x) wr hz.out.1 (by rw [val_dg, hz.out.1.1]; omega)
        have uy := uint_small B q d (dg y) wr hz.out.2.1 (by rw [val_dg, hz.out.2.1.1]; omega)
        rw [val_dg] at ux uy
        have UX := hid ux
        have UY := hid uy
        have ff := hid (fun (r : Nat) (w1 : World) (h : r < 18446744073709551616) => from_any r w1 h)
        clear ux uy
        have HG := hid hz.out.2.2.1
        have HB := hid hz.out.2.2.2
        clear hz hyk
        rcases h with ⟨h1, h2⟩ | ⟨h1, h2⟩
        all_goals
          go_wp2_with fail
          refine (UX.out).mono ?_
          rintro e w1 ⟨rfl, rfl⟩
          go_wp2_with fail
          refine (UY.out).mono ?_
          rintro e w1 ⟨rfl, rfl⟩
          go_wp2_with fail
          obtain ⟨wo, rfl⟩ : ∃ wo : World, wo = wr := ⟨_, rfl⟩
          go_loopg [8, 10] y (fun k s0 s1 wi => ∃ x y : Nat, x < 18446744073709551616 ∧ y < 18446744073709551616 ∧ s0 = .int .u64 x ∧ s1 = .int .u64 y ∧ y ≤ k ∧ Hid (Nat.gcd x y = G ∧ Below w.heap.size w wi ∧ True))
          case atStart => exact ⟨x, y, hx64, hy64, rfl, rfl, Nat.le_refl _, hid ⟨HG.out, HB.out, trivial⟩⟩
          case round =>
            clear UX UY hx64 hy64 HG HB
            obtain ⟨x, y, hx, hy, rfl, rfl, hyk, hz⟩ := hrel
            rcases Nat.eq_zero_or_pos y with rfl | hy0
            · have F := hid (ff.out x wr hx)
              go_wp2_with fail
              refine (F.out).mono ?_
              rintro e w3 ⟨u, rfl, u1, u2⟩
              have U1 := hid u1
              have U2 := hid u2
              clear u1 u2
              go_wp2_with fail
              go_ret
              obtain ⟨g1, g2, _⟩ := hz.out
              rw [Nat.gcd_zero_right] at g1
              subst g1
              exact ⟨_, rfl, U1.out, g2.trans (U2.out.mono g2.size)⟩
            · go_wp2_with fail
              go_quiet (fail)
              go_wp2_with fail
              go_roundg (x % y)
              case measure => exact Nat.lt_of_lt_of_le (Nat.mod_lt _ hy0) hyk
              case rel =>
                have hm := Nat.mod_lt x hy0
                exact ⟨y, x % y, hy, by omega, rfl, by rw [Int.natCast_emod], Nat.le_refl _, hid ⟨gcd_rec2 hz.out.1, below_drewN hz.out.2.1 _, trivial⟩⟩
end Go.Proofs.YtdbccidlnhjfhaaGreatDoor
