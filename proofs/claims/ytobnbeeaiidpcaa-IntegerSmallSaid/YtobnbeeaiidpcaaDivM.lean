/- Contracts: DivMod, Gcd of package natural. -/
import Derived.Test.YtobnbeeaiidpcaaDivL
namespace Go.Proofs.Ytobnbeeaiidpcaa
open Go.RowKit

/-- The call returns two lists of digits and a code. -/
def Ret3 (w : World) (xs ys : List Nat) (k : Int) (e : Ending) (w' : World) : Prop := ∃ v u, e = .returned (.tuple #[v, u, .int .i64 k]) ∧ Dig w' v xs ∧ Dig w' u ys ∧ Below w.heap.size w w'
def quoD (x y : Nat) : List Nat := if y = 0 then [] else dg (x / y)
def remD (x y : Nat) : List Nat := if y = 0 then [] else dg (x % y)
def divE (y : Nat) : Int := if y = 0 then 2 else 0

theorem cmpN_lt {a b : Nat} (h : a < b) : cmpN a b = -1 := by unfold cmpN; rw [if_pos h]
theorem cmpN_ge {a b : Nat} (h : b ≤ a) : 0 ≤ cmpN a b := by unfold cmpN; rw [if_neg (by omega)]; split <;> omega
theorem full_ge {x n : Nat} (hn : (dg x).length = n) (hp : 0 < n) : 4294967296 ^ (n - 1) ≤ x := by
  rcases full_dg x with h | h
  · rw [h] at hn; simp at hn; omega
  · have := full_lower h
    rwa [val_dg, hn] at this
theorem dig_single {x v : Nat} (h : (dg x).length = 1) (hv : v = (dg x).getD 0 0) : x = v := by
  have h1 := val_two (val_dg x) (by omega)
  rw [h1, hv]
  have : (dg x).getD 1 0 = 0 := by rw [List.getD_eq_getElem?_getD, List.getElem?_eq_none (by omega)]; rfl
  rw [this, Nat.mul_zero, Nat.add_zero]

theorem short_end {w wr w3 : World} {R n t r : Nat} {ds : List Nat} (h : DivRel wr R n t ds 0 r w3) (hl : n ≤ ds.length) (hl2 : ds.length ≤ n) (hb : Below R w wr) (hR : w.heap.size ≤ R := by exact Nat.le_refl _) :
    ∃ zs, Row w3 R zs ∧ Digs zs ∧ zs.length = n ∧ val zs = val ds / t ∧ r = val ds % t ∧ Below w.heap.size w w3 ∧ r < t := by
  obtain ⟨zs, z1, z2, z3, _, z5, z6, z7⟩ := h
  have e1 : seg ds 0 (n - 0) = ds := by unfold seg; rw [List.drop_zero, List.take_of_length_le (by omega)]
  have e2 : seg zs 0 (n - 0) = zs := by unfold seg; rw [List.drop_zero, List.take_of_length_le (by omega)]
  rw [e1, e2] at z5
  refine ⟨zs, z1, z3, by omega, ?_, ?_, (hb.mono hR).trans (z7.below (Nat.le_trans (Nat.le_refl _) hb.size) (fun k hk => by omega)), z6⟩
  · rw [z5, Nat.mul_comm, Nat.mul_add_div (by omega), Nat.div_eq_of_lt z6, Nat.add_zero]
  · rw [z5, Nat.mul_comm, Nat.mul_add_mod, Nat.mod_eq_of_lt z6]

set_option maxRecDepth 100000 in
set_option maxHeartbeats 1000000 in
theorem divMod_any (A B : Option Addr) (n c m d : Nat) (xs ys : List Nat) (w : World) (ha : Rd w A n c xs) (hb : Rd w B m d ys) (hn : n ≤ 1099511627776) (_hm : m ≤ 1099511627776) :
    Calls Try.prog 128 #[.slice A n c, .slice B m d] w (Ret3 w (quoD (val xs) (val ys)) (remD (val xs) (val ys)) (divE (val ys))) := by
  have ta := hid (trim_any A n c xs w ha)
  have tb := hid (trim_any B m d ys w hb)
  have la := dg_len_small ha.2.2.2.1
  have lb := dg_len_small hb.2.2.2.1
  rw [ha.1] at la
  rw [hb.1] at lb
  have ra := ha.trim
  have rb := hb.trim
  obtain ⟨x, hx⟩ : ∃ x, x = val xs := ⟨_, rfl⟩
  obtain ⟨y, hy⟩ : ∃ y, y = val ys := ⟨_, rfl⟩
  rw [← hx] at ta la ra ⊢
  rw [← hy] at tb lb rb ⊢
  clear ha hb hx hy
  obtain ⟨p, hp⟩ : ∃ p, p = (dg x).length := ⟨_, rfl⟩
  obtain ⟨q, hq⟩ : ∃ q, q = (dg y).length := ⟨_, rfl⟩
  have cc := cmp_any A B _ _ _ _ _ _ w ra rb
  have cl := hid (clone_any A _ _ _ w ra (by omega))
  rw [val_dg, val_dg] at cc
  rw [← hp] at ta la ra cc cl
  rw [← hq] at tb lb rb cc
  have RA := hid ra
  have RB := hid rb
  rcases Nat.eq_zero_or_pos y with h0 | hy0
  · subst h0
    obtain rfl : q = 0 := by rw [hq]; rfl
    unfold quoD remD divE
    rw [if_pos rfl, if_pos rfl, if_pos rfl]
    clear hq ra rb cc cl
    go_enter Try.func128, Try.ntmps128
    go_wp2_with fail
    refine (ta.out).mono ?_
    rintro e w' ⟨rfl, rfl⟩
    go_wp2_with fail
    refine (tb.out).mono ?_
    rintro e w' ⟨rfl, rfl⟩
    go_wp2_with fail
    go_ret3
    exact ⟨_, _, rfl, Dig.nil _, Dig.nil _, Below.refl _ _⟩
  · have hq0 : 0 < q := by rw [hq]; exact dg_len_pos hy0
    have hQ : quoD x y = dg (x / y) := by unfold quoD; rw [if_neg (by omega)]
    have hR : remD x y = dg (x % y) := by unfold remD; rw [if_neg (by omega)]
    have hE : divE y = 0 := by unfold divE; rw [if_neg (by omega)]
    rw [hQ, hR, hE]
    clear hQ hR hE
    rcases Nat.lt_or_ge x y with hlt | hge
    · rw [cmpN_lt hlt] at cc
      have CC := hid cc
      have V := hid (show x / y = 0 ∧ x % y = x from ⟨Nat.div_eq_of_lt hlt, Nat.mod_eq_of_lt hlt⟩)
      have HP := hid hp
      clear ra rb cc hp hq
      go_enter Try.func128, Try.ntmps128
      go_wp2_with fail
      refine (ta.out).mono ?_
      rintro e w' ⟨rfl, rfl⟩
      go_wp2_with fail
      refine (tb.out).mono ?_
      rintro e w' ⟨rfl, rfl⟩
      go_wp2_with fail
      refine (CC.out).mono ?_
      rintro e w' ⟨rfl, rfl⟩
      go_wp2_with fail
      refine (cl.out).mono ?_
      rintro e w1 ⟨rfl, z1, z2⟩
      have Z := hid (show Row w1 w.heap.size (dg x) ∧ Below w.heap.size w w1 from ⟨z1, z2⟩)
      clear z1 z2
      go_wp2_with fail
      go_ret3
      obtain ⟨z1, z2⟩ := Z.out
      rw [V.out.1, V.out.2]
      have := z1.rd0 (digs_dg x) (Nat.le_refl _) (by have := HP.out; omega)
      rw [← HP.out] at this
      exact ⟨_, _, rfl, Dig.nil _, ⟨_, _, _, rfl, this⟩, z2⟩
    · have c0 := cmpN_ge hge
      obtain ⟨z, hz⟩ : ∃ z, z = cmpN x y := ⟨_, rfl⟩
      rw [← hz] at cc c0
      have CC := hid cc
      by_cases h1 : q = 1
      · subst h1
        obtain ⟨b, o, hB, hlt, hc⟩ := RB.out.2.2.2.2 (by omega)
        have hcell := hc 0 (by omega)
        obtain ⟨v, hv⟩ : ∃ v, v = (dg y).getD 0 0 := ⟨_, rfl⟩
        obtain rfl : y = v := dig_single hq.symm hv
        rw [← hv] at hcell
        have hyb : y < 4294967296 := by rw [hv]; exact (digs_dg y).get 0
        have dd := hid (fun (w1 : World) (h : Row w1 w.heap.size (dg x)) => divDigit_any w.heap.size p p y (dg x) w1 h (digs_dg x) (by omega) (Nat.le_refl _) (by omega) hy0 hyb)
        have HP := hid hp
        have ff := hid (fun (r : Nat) (w1 : World) (h : r < y) => from_any r w1 (by omega))
        subst hB
        clear ra rb cc hz hc hv hp hq
        go_enter Try.func128, Try.ntmps128
        go_wp2_with fail
        refine (ta.out).mono ?_
        rintro e w' ⟨rfl, rfl⟩
        go_wp2_with fail
        refine (tb.out).mono ?_
        rintro e w' ⟨rfl, rfl⟩
        go_wp2_with fail
        refine (CC.out).mono ?_
        rintro e w' ⟨rfl, rfl⟩
        go_wp2_with fail
        refine (cl.out).mono ?_
        rintro e w1 ⟨rfl, z1, z2⟩
        have hcell1 : w1.cell? ⟨b, o, none⟩ = some (.int .u32 y) := by rw [z2.cell (p := ⟨b, o, none⟩) hlt]; exact hcell
        have Z1 := hid z1
        have Z2 := hid z2
        clear z1 z2 hcell
        go_wp2_with fail
        refine (dd.out w1 Z1.out).mono ?_
        rintro e w2 ⟨r, rfl, hr⟩
        have HR := hid (short_end (n := p) hr (Nat.le_of_eq HP.out) (Nat.le_of_eq HP.out.symm) Z2.out)
        clear hr
        go_wp2_with fail
        obtain ⟨zs, v1, v2, v3, v4, v5, v6, v7⟩ := HR.out
        rw [val_dg] at v4 v5
        have T1 := hid (trim_row v1 v2 v3 (by omega))
        rw [v4] at T1
        refine (T1.out).mono ?_
        rintro e w' ⟨rfl, rfl⟩
        have F := hid (ff.out r w2 v7)
        have D1 := hid (show Dig w2 (.slice (some ⟨w.heap.size, 0, none⟩) (dg (x / y)).length (dg (x / y)).length) (dg (x / y)) from ⟨_, _, _, rfl, by rw [← v4]; exact (v1.rd0 v2 (Nat.le_refl _) (by omega)).trim⟩)
        have B1 := hid v6
        have E1 := hid v5
        clear v1 v2 v3 v4 v5 v6 v7
        go_wp2_with fail
        refine (F.out).mono ?_
        rintro e w3 ⟨u, rfl, u1, u2⟩
        have U1 := hid u1
        have U2 := hid u2
        clear u1 u2
        go_wp2_with fail
        go_ret3
        exact ⟨_, _, rfl, D1.out.keep U2.out, by rw [← E1.out]; exact U1.out, B1.out.trans (U2.out.mono B1.out.size)⟩
      · have hpq : q ≤ p := by rw [hp, hq]; exact dg_len_mono hge
        have dl := divLong_any A B p p q q (dg x) (dg y) w RA.out RB.out (by omega) hq0 hpq (by rw [val_dg]; exact full_ge hq.symm hq0)
        rw [val_dg, val_dg] at dl
        have DL := hid dl
        have hq1 : ((q : Int) == 1) = false := by rw [beq_eq_false_iff_ne]; omega
        have hq2 : 1 < q := by omega
        clear ra rb cc hz dl hp hq h1
        go_enter Try.func128, Try.ntmps128
        go_wp2_with fail
        refine (ta.out).mono ?_
        rintro e w' ⟨rfl, rfl⟩
        go_wp2_with fail
        refine (tb.out).mono ?_
        rintro e w' ⟨rfl, rfl⟩
        go_wp2_with fail
        refine (CC.out).mono ?_
        rintro e w' ⟨rfl, rfl⟩
        go_wp2_with fail
        refine (DL.out).mono ?_
        rintro e w1 ⟨v, u, rfl, h1, h2, h3⟩
        have H1 := hid h1
        have H2 := hid h2
        have H3 := hid h3
        clear h1 h2 h3
        go_wp2_with fail
        go_ret3
        exact ⟨_, _, rfl, H1.out, H2.out, H3.out⟩

end Go.Proofs.Ytobnbeeaiidpcaa
