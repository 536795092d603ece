/- Contracts: DivMod of the specification of layer 1. -/
import Derived.Test.YtlgdlabhaehdpaaRef7
namespace Go.Proofs.Ytlgdlabhaehdpaa
open Go.RowKit

def DRel (w : World) (Qb : Nat) (A : Option Addr) (n c : Nat) (xs : List Nat) (B : Option Addr) (m d y k R : Nat) (v : Value) (qs : List Nat) (wr : World) : Prop :=
  DEnv w Qb qs A n c xs B m d y wr ∧ Digs qs ∧ qs.length = n ∧ LongBit (val xs) y k (val qs) R ∧ Dig wr v (dg R) ∧ New (Qb + 1) v
theorem rd_old {w : World} {A : Option Addr} {n c base : Nat} {xs : List Nat} (h : Rd w A n c xs) (hb : w.heap.size ≤ base) : ∀ b o, 0 < n → A = some ⟨b, o, none⟩ → b ≠ base := by
  intro b o hn hA
  obtain ⟨b', o', hA', hlt, _⟩ := h.2.2.2.2 hn
  rw [hA] at hA'
  injection hA' with e
  injection e with e1 _ _
  omega
theorem new_apart {v : Value} {base : Nat} (h : New (base + 1) v) : ∀ A n c b o, v = .slice A n c → 0 < n → A = some ⟨b, o, none⟩ → b ≠ base := by
  intro A n c b o hv _ hA
  subst hv hA
  have : base + 1 ≤ b := h b rfl
  omega
theorem dRel_less {w wr w' : World} {Qb : Nat} {A : Option Addr} {n c : Nat} {xs : List Nat} {B : Option Addr} {m d y p R : Nat} {v u : Value} {qs : List Nat} (h : DRel w Qb A n c xs B m d y (p + 1) R v qs wr) (hb : Below wr.heap.size wr w') (hQ : Qb < wr.heap.size)
    (hu : Dig w' u (dg (R + R + val xs / 2 ^ p % 2))) (hn : New wr.heap.size u) (hlt : R + R + val xs / 2 ^ p % 2 < y) : DRel w Qb A n c xs B m d y p (R + R + val xs / 2 ^ p % 2) u qs w' := by
  obtain ⟨h1, h2, h3, h4, h5, h6⟩ := h
  exact ⟨h1.keep hb, h2, h3, longBit_less h4 hlt, hu, hn.mono (by omega)⟩
theorem dRel_more {w wr w' : World} {Qb : Nat} {A : Option Addr} {n c : Nat} {xs : List Nat} {B : Option Addr} {m d y p R : Nat} {v u : Value} {qs : List Nat} (h : DRel w Qb A n c xs B m d y (p + 1) R v qs wr) (hb : Below wr.heap.size wr w') (hQ : Qb < wr.heap.size) (hy0 : 0 < y) (hp : p < 32 * n)
    (hA : ∀ b o, 0 < n → A = some ⟨b, o, none⟩ → b ≠ Qb) (hB : ∀ b o, 0 < m → B = some ⟨b, o, none⟩ → b ≠ Qb)
    (hu : Dig w' u (dg (R + R + val xs / 2 ^ p % 2 - y))) (hn : New wr.heap.size u) (hge : y ≤ R + R + val xs / 2 ^ p % 2) :
    ∃ x, Row w' Qb qs ∧ qs.length = n ∧ qs.getD (p / 32) 0 = x ∧ x < 4294967296 ∧ bits .or .u32 (x : Int) ((2 ^ (p % 32) : Nat) : Int) = ((x + 2 ^ (p % 32) : Nat) : Int) ∧ x + 2 ^ (p % 32) < 4294967296 ∧
      DRel w Qb A n c xs B m d y p (R + R + val xs / 2 ^ p % 2 - y) u (qs.set (p / 32) (x + 2 ^ (p % 32))) (w'.setCell ⟨Qb, p / 32, none⟩ (.int .u32 (x + 2 ^ (p % 32) : Nat))) := by
  obtain ⟨h1, h2, h3, h4, h5, h6⟩ := h
  obtain ⟨e1, e2⟩ := longBit_more hy0 h4 hge
  have hr : p % 32 < 32 := Nat.mod_lt _ (by omega)
  have hpq : 32 * (p / 32) + (p % 32 + 1) = p + 1 := by omega
  have hf := digit_free h2 (p / 32) (p % 32) hr (by rw [hpq]; exact e2)
  obtain ⟨o1, o2⟩ := or_bit (h2.get (p / 32)) hr hf
  have hl : p / 32 < qs.length := by omega
  have h1' := h1.keep hb
  refine ⟨_, h1'.row, h3, rfl, h2.get _, o1, o2, ⟨?_, digs_set h2 o2, by simp [h3], ?_, ?_, hn.mono (by omega)⟩⟩
  · exact h1'.store hA hB _ _
  · have e := val_set (us := qs) (p := p / 32) (v := qs.getD (p / 32) 0 + 2 ^ (p % 32)) hl
    have e3 : val (qs.set (p / 32) (qs.getD (p / 32) 0 + 2 ^ (p % 32))) = val qs + 2 ^ p := by
      have e4 : 2 ^ p = 4294967296 ^ (p / 32) * 2 ^ (p % 32) := by rw [← pow32]; congr 1; omega
      rw [Nat.mul_add, ← e4] at e
      omega
    rw [e3]
    exact e1
  · exact dig_store _ hu (new_apart (hn.mono (by omega)))

theorem wrap_scale32 {e t : Nat} (ht : t = 2 ^ e) (h : t < 4294967296) : (2 : Int) ^ e % 4294967296 = (t : Int) := by
  have e1 : ((2 : Int) ^ e) = ((2 ^ e : Nat) : Int) := by simp
  rw [e1, ← ht]
  omega
theorem dRel_drew {w wr : World} {Qb : Nat} {A : Option Addr} {n c : Nat} {xs : List Nat} {B : Option Addr} {m d y k R : Nat} {v : Value} {qs : List Nat} (h : DRel w Qb A n c xs B m d y k R v qs wr) : DRel w Qb A n c xs B m d y k R v qs wr.drew :=
  ⟨⟨h.1.row, h.1.a, h.1.b, h.1.below.drew, h.1.old⟩, h.2.1, h.2.2.1, h.2.2.2.1, h.2.2.2.2.1, h.2.2.2.2.2⟩

end Go.Proofs.Ytlgdlabhaehdpaa
