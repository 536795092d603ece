/- The contract of combine. -/
import Derived.Test.YtobnbeeaiidpcaaSum
namespace Go.Proofs.Ytobnbeeaiidpcaa
open Go.RowKit

def CombPost (T : Step) (w : World) (s g ob oo on_ : Nat) (xs ys ds : List Nat) (e : Ending) (w' : World) : Prop :=
  e = .returned (.tuple #[]) ∧ ∃ zs, Row w' ob zs ∧ Part T s xs ys ds oo on_ zs ∧ One w' g (T.st s xs ys on_) ∧ Upd (fun i => i = ob ∨ i = g) w w'

set_option maxHeartbeats 1000000 in
set_option maxRecDepth 100000 in
theorem combine_any (T : Step) (hT : Ok T) (F g h t s ob oo on_ oc n c m d : Nat) (A B : Option Addr) (xs ys ds : List Nat) (w : World) (hFF : F = 136 ∨ F = 138) (hF : Clos T F g h t) (hgh : g ≠ h) (hs : s < 4294967296)
    (hg : One w g s) (hh : One w h t) (hr : Row w ob ds) (ho : oo + on_ ≤ ds.length) (hoc : on_ ≤ oc) (hom : oc ≤ 9223372036854775807)
    (ha : Rd w A n c xs) (hb : Rd w B m d ys) (sa : Src A n ob oo) (sb : Src B m ob oo) :
    Calls Try.prog 135 #[.slice (some ⟨ob, oo, none⟩) on_ oc, .slice A n c, .slice B m d, .func (Fn.func F) #[] #[.pointer (some ⟨g, 0, none⟩), .pointer (some ⟨h, 0, none⟩)]] w (CombPost T w s g ob oo on_ xs ys ds) := by
  rcases hFF with rfl | rfl
  all_goals
    have HA := hid ha
    have HB := hid hb
    have HG := hid hg
    have HH := hid hh
    have HR := hid hr
    have HF := hid hF
    have SA := hid sa
    have SB := hid sb
    have HT := hid hT
    have GH := hid hgh
    clear ha hb hg hh hr hF sa sb hT hgh
    go_enter Try.func135, Try.ntmps135
    go_wp2_with fail
    go_loopw [11] (fun i wr => ∃ k : Nat, k ≤ on_ ∧ i = .int .i64 k ∧ Hid (∃ zs, Row wr ob zs ∧ Part T s xs ys ds oo k zs ∧ One wr g (T.st s xs ys k) ∧ Upd (fun i => i = ob ∨ i = g) w wr)) (fun i _ => on_ - (intOf i).toNat)
    case atStart => exact ⟨0, Nat.zero_le _, rfl, hid ⟨ds, HR.out, Part.zero _ _ _ _ _ _, HG.out, Upd.refl _ _⟩⟩
    case round =>
      obtain ⟨k, hk, rfl, hz⟩ := hrel
      rcases Nat.lt_or_ge k on_ with hlt | hge
      · obtain ⟨zs, z1, z2, z3, z4⟩ := hz.out
        have cx := hid (digit_cell A n c k (xs.getD k 0) wr HA.out.2.1 HA.out.2.2.1 (fun hi => src_cell HA.out SA.out HR.out HG.out z1 z2 z4 hi) (fun hi => by have := HA.out.1; simp [List.getD, List.getElem?_eq_none (by omega : xs.length ≤ k)]) (HA.out.2.2.2.1.get k))
        have cy := hid (digit_cell B m d k (ys.getD k 0) wr HB.out.2.1 HB.out.2.2.1 (fun hi => src_cell HB.out SB.out HR.out HG.out z1 z2 z4 hi) (fun hi => by have := HB.out.1; simp [List.getD, List.getElem?_eq_none (by omega : ys.length ≤ k)]) (HB.out.2.2.2.1.get k))
        have zh : One wr h t := Blk.upd HH.out z4 (fun e => by
          have h1 := GH.out
          have h2 := HR.out.ne_one HH.out
          omega)
        have cf := hid (HF.out (T.st s xs ys k) (xs.getD k 0) (ys.getD k 0) wr (HT.out.st hs HA.out.2.2.2.1 HB.out.2.2.2.1 k) (HA.out.2.2.2.1.get k) (HB.out.2.2.2.1.get k) z3 zh)
        have hob := z1.ne_one z3
        have Z1 := hid z1
        have Z2 := hid z2
        have Z4 := hid z4
        have OB := hid hob
        obtain ⟨x, hx⟩ : ∃ x, x = xs.getD k 0 := ⟨_, rfl⟩
        obtain ⟨y, hy⟩ : ∃ y, y = ys.getD k 0 := ⟨_, rfl⟩
        rw [← hx] at cx cf
        rw [← hy] at cy cf
        have HX := hid hx
        have HY := hid hy
        clear z1 z2 z3 z4 zh hob hx hy
        go_wp2_with fail
        refine (cx.out).mono ?_
        rintro e w' ⟨rfl, rfl⟩
        go_wp2_with fail
        refine (cy.out).mono ?_
        rintro e w' ⟨rfl, rfl⟩
        go_wp2_with fail
        refine (cf.out).mono ?_
        rintro e w1 ⟨rfl, y3, y4, y5⟩
        have y1 : Row w1 ob zs := Blk.upd Z1.out y4 OB.out
        have hlen : oo + k < zs.length := by have := Z2.out.1; omega
        have hcell := y1.cell hlen
        have hfree := Blk.free y1 (oo + k)
        have Y1 := hid y1
        have Y3 := hid y3
        have Y4 := hid y4
        obtain ⟨v0, hv0⟩ : ∃ v0, v0 = zs.getD (oo + k) 0 := ⟨_, rfl⟩
        rw [← hv0] at hcell
        clear y1 y3 y4 y5 hv0
        go_wp2_with fail
        go_roundw
        case rel =>
          refine ⟨k + 1, by omega, by go_num, hid ⟨zs.set (oo + k) (T.out s xs ys k), ?_, Z2.out.next (by have := Z2.out.1; omega), ?_, ?_⟩⟩
          · have := Y1.out.set_ (oo + k) (T.dg (T.st s xs ys k) x y)
            rw [HX.out, HY.out] at this ⊢
            exact this
          · have := Blk.far (g := ob) (i := oo + k) Y3.out (fun e => OB.out e.symm) (.int .u32 (T.dg (T.st s xs ys k) x y : Nat))
            rw [HX.out, HY.out] at this ⊢
            exact this
          · exact (Z4.out.trans (Y4.out.mono fun i _ hi => .inr hi)).setCell ob (oo + k) (fun _ => .inl rfl) _
        case measure => simp [intOf]; omega
      · go_wp2_with fail
        go_end0
        obtain rfl : k = on_ := by omega
        exact ⟨rfl, hz.out⟩

end Go.Proofs.Ytobnbeeaiidpcaa
