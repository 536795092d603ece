/- Decimal texts; contracts: Text of package natural. -/
import Derived.Test.YthbogaindaflpaaGreatDoorByt
namespace Go.Proofs.YthbogaindaflpaaGreatDoor
open Go.RowKit

def ch (d : Nat) : UInt8 := UInt8.ofNat (48 + d)
theorem ch_nat {d : Nat} (h : d < 10) : (ch d).toNat = 48 + d := by unfold ch; rw [UInt8.toNat_ofNat']; omega
/-- The text of a value. -/
def tx (n : Nat) : List UInt8 := if n = 0 then [48] else ((dd n).map ch).reverse
def RetStr (w : World) (l : List UInt8) (e : Ending) (w' : World) : Prop := e = .returned (.string ⟨l.toArray⟩) ∧ Below w.heap.size w w'

theorem own_upd {w w' : World} {base e rb n : Nat} {v : Value} {xs : List Value} (h : w.ownsRow base e 1 v n xs) (hu : Upd (fun i => i = rb) w w') (hb : rb < base) : w'.ownsRow base e 1 v n xs := by
  refine ⟨h.1, ?_⟩
  rcases h.2 with h0 | ⟨g, cap, cur, h1, h2, h3, h4⟩
  · exact .inl h0
  · have hg : g < w.heap.size := by
      rcases Nat.lt_or_ge g w.heap.size with h5 | h5
      · exact h5
      · rw [Array.getElem?_eq_none h5] at h3; cases h3
    exact .inr ⟨g, cap, cur, h1, h2, (hu.block g hg (by omega)).trans h3, h4⟩
theorem pow10_bound {x n k : Nat} (h1 : x < 4294967296 ^ n) (h2 : 10 ^ k ≤ x) : k ≤ 10 * n := by
  rcases Nat.lt_or_ge (10 * n) k with h | h
  · exfalso
    have h3 : 4294967296 ^ n ≤ (10 ^ 10) ^ n := Nat.pow_le_pow_left (by omega) n
    rw [← Nat.pow_mul] at h3
    have h4 := Nat.pow_le_pow_right (n := 10) (by omega) (Nat.le_of_lt h)
    omega
  · exact h

def TxtRel (w : World) (rb base n x : Nat) (zs : List Nat) (L : Nat) (Ls : List Nat) (v : Value) (wr : World) : Prop :=
  Row wr rb zs ∧ Digs zs ∧ zs.length = n ∧ L ≤ n ∧ (∀ j, L ≤ j → zs.getD j 0 = 0) ∧ wr.ownsRow base 5 1 v Ls.length ((Ls.map ch).map bc) ∧ Decs_t Ls ∧ val10 Ls + 10 ^ Ls.length * val zs = x ∧ Below w.heap.size w wr ∧ base ≤ wr.heap.size ∧ (Ls = [] ∨ L = (dg (val zs)).length) ∧ Ls.length ≤ 10 * n + 9
def TxtIn (w : World) (rb base r : Nat) (zs Ls : List Nat) (t c : Nat) (Ls2 : List Nat) (v : Value) (wr : World) : Prop :=
  Row wr rb zs ∧ wr.ownsRow base 5 1 v (Ls.length + t) (((Ls ++ Ls2).map ch).map bc) ∧ Ls2.length = t ∧ Decs_t Ls2 ∧ val10 Ls2 + 10 ^ t * c = r ∧ Below w.heap.size w wr ∧ base ≤ wr.heap.size

theorem txt_len {w wr : World} {rb base n x L : Nat} {zs Ls : List Nat} {v : Value} (h : TxtRel w rb base n x zs L Ls v wr) (hx : x < 4294967296 ^ n) (hL : 0 < L) : Ls.length ≤ 10 * n := by
  obtain ⟨_, h2, _, _, _, _, _, h8, _, _, h11, _⟩ := h
  rcases h11 with rfl | h11
  · simp
  · have hp : 0 < val zs := by
      rcases Nat.eq_zero_or_pos (val zs) with h0 | h0
      · rw [h0] at h11; simp [dg_zero] at h11; omega
      · exact h0
    refine pow10_bound hx ?_
    have := Nat.le_mul_of_pos_right (10 ^ Ls.length) hp
    omega
theorem seg_all {zs : List Nat} {L : Nat} (hz : ∀ j, L ≤ j → zs.getD j 0 = 0) : val (seg zs 0 L) = val zs := by
  unfold seg
  rw [List.drop_zero]
  exact dg_take hz
/-- Behind the division of the rest. -/
theorem txt_div {w wr w' : World} {rb base n x L r : Nat} {zs Ls : List Nat} {v : Value} (h : TxtRel w rb base n x zs L Ls v wr) (hd : DivRel wr rb L 1000000000 zs 0 r w') (hrb : rb < base) (hw : w.heap.size ≤ rb) (hn : n ≤ 1099511627776) :
    ∃ us, TxtIn w rb base r us Ls 0 r [] v w' ∧ Digs us ∧ us.length = n ∧ (∀ j, L ≤ j → us.getD j 0 = 0) ∧ val zs = val us * 1000000000 + r ∧ r < 1000000000 ∧ Rd w' (some ⟨rb, 0, none⟩) L L (seg us 0 L) ∧ val (seg us 0 L) = val us := by
  obtain ⟨h1, h2, h3, h4, h5, h6, h7, h8, h9, h10, h11, h12⟩ := h
  obtain ⟨us, u1, u2, u3, u4, u5, u6, u7⟩ := hd
  have hz : ∀ j, L ≤ j → us.getD j 0 = 0 := fun j hj => by rw [u4 j (.inr hj), h5 j hj]
  rw [Nat.sub_zero, seg_all h5, seg_all hz] at u5
  have hrd := u1.rd u3 (o := 0) (n := L) (c := L) (by omega) (Nat.le_refl _) (by omega)
  exact ⟨us, ⟨u1, by rw [List.append_nil, Nat.add_zero]; exact own_upd h6 u7 hrb, rfl, Decs_t.nil, by simp [val10], h9.trans (u7.below h9.size (fun k hk => by omega)), Nat.le_trans h10 u7.size⟩, u3, by omega, hz, u5, u6, hrd, seg_all hz⟩
theorem txt_in {w wr w' : World} {rb base r t c : Nat} {us Ls Ls2 : List Nat} {v v' : Value} {o : Obj} (h : TxtIn w rb base r us Ls t c Ls2 v wr) (hrb : rb < base) (hw : w.heap.size ≤ rb)
    (h1 : w'.ownsRow base 5 1 v' (Ls.length + t + 1) (((Ls ++ Ls2).map ch).map bc ++ [bc (ch (c % 10))])) (h2 : (wr.alloc o).grownBy w' v.ownBlock) : TxtIn w rb base r us Ls (t + 1) (c / 10) (Ls2 ++ [c % 10]) v' w' := by
  obtain ⟨g1, g2, g3, g4, g5, g6, g7⟩ := h
  have hb : Below base wr w' := ((Below.refl base wr).alloc g7 o).grown h2 (by simp; omega) (fun k hk => (g2.lt k hk).1)
  refine ⟨Blk.below g1 hb hrb, ?_, by simp [g3], g4.append (Decs_t.cons (Nat.mod_lt _ (by omega)) Decs_t.nil), ?_, g6.trans (hb.mono (by omega)), Nat.le_trans g7 hb.size⟩
  · rw [← List.append_assoc, List.map_append, List.map_append]
    exact h1
  · rw [val_snoc_t, g3, Nat.pow_succ, Nat.mul_assoc]
    have e : c % 10 + 10 * (c / 10) = c := by omega
    have e2 := congrArg (10 ^ t * ·) e
    simp only [Nat.mul_add] at e2
    omega
theorem txt_out {w wr : World} {rb base n x L r c : Nat} {zs us Ls Ls2 : List Nat} {v : Value} (h : TxtIn w rb base r us Ls 9 c Ls2 v wr) (hud : Digs us) (hul : us.length = n) (_hz : ∀ j, L ≤ j → us.getD j 0 = 0) (hr : val zs = val us * 1000000000 + r) (hr2 : r < 1000000000) (hx : val10 Ls + 10 ^ Ls.length * val zs = x) (hLs : Decs_t Ls) (hlen0 : Ls.length ≤ 10 * n) :
    TxtRel w rb base n x us (dg (val us)).length (Ls ++ Ls2) v wr := by
  obtain ⟨g1, g2, g3, g4, g5, g6, g7⟩ := h
  have hc : c = 0 := by
    rcases Nat.eq_zero_or_pos c with h0 | h0
    · exact h0
    · have : 10 ^ 9 * 1 ≤ 10 ^ 9 * c := Nat.mul_le_mul_left _ h0
      omega
  subst hc
  rw [Nat.mul_zero, Nat.add_zero] at g5
  have hlen := dg_len_small hud
  refine ⟨g1, hud, hul, by omega, dg_getD_zero, ?_, hLs.append g4, ?_, g6, g7, .inr rfl, by rw [List.length_append, g3]; omega⟩
  · rw [List.length_append, g3]; exact g2
  · rw [val_append_t, List.length_append, g3, g5, Nat.pow_add]
    rw [← hx, hr, Nat.mul_add, Nat.mul_comm (val us), ← Nat.mul_assoc, show (10 : Nat) ^ 9 = 1000000000 from rfl]
    omega
theorem txt_end {Ls : List Nat} {k x : Nat} (hd : Decs_t Ls) (hk : k ≤ Ls.length) (hz : ∀ j, k ≤ j → Ls.getD j 0 = 0) (hf : k = 0 ∨ Ls.getD (k - 1) 0 ≠ 0) (hx : val10 Ls = x) : (k = 0 ∧ tx x = [48]) ∨ (0 < k ∧ tx x = ((Ls.map ch).take k).reverse) := by
  have h := take_is_dg_t hd hk hz hf
  rw [hx] at h
  rcases Nat.eq_zero_or_pos k with h0 | h0
  · subst h0
    left
    have : x = 0 := dg_nil_iff_t.1 (by rw [← h]; rfl)
    exact ⟨rfl, by unfold tx; rw [if_pos this]⟩
  · right
    refine ⟨h0, ?_⟩
    have hx0 : x ≠ 0 := fun e => by
      rw [e, dg_zero_t] at h
      have h3 : (Ls.take k).length = 0 := by rw [h]; rfl
      rw [List.length_take] at h3
      omega
    unfold tx
    rw [if_neg hx0, ← h, List.map_take]
theorem txt_dec {zs us : List Nat} {L r : Nat} (h : val zs = val us * 1000000000 + r) (hL : 0 < L) (hz : ∀ j, L ≤ j → us.getD j 0 = 0) (hd : Digs us) : val us + (dg (val us)).length < val zs + L := by
  have h1 : (dg (val us)).length ≤ L := by
    have h3 := val_lt (hd.take L)
    rw [dg_take hz] at h3
    have h4 := dg_len_le h3
    rw [List.length_take] at h4
    omega
  rcases Nat.eq_zero_or_pos (val us) with h0 | h0
  · rw [h0] at h ⊢
    simp [dg_zero]
    omega
  · omega
theorem map_getD_ch {Ls : List Nat} {k : Nat} (hk : k < Ls.length) : (Ls.map ch).getD k 0 = ch (Ls.getD k 0) := by
  simp [List.getD, List.getElem?_eq_getElem hk]

theorem txt_zero {w wr : World} {rb base n x : Nat} {zs Ls : List Nat} {v : Value} (h : TxtRel w rb base n x zs 0 Ls v wr) (hn : n ≤ 1099511627776) : ∃ N A c, v = .slice A N c ∧ N = Ls.length ∧ BRd wr A N c (Ls.map ch) ∧ Decs_t Ls ∧ val10 Ls = x ∧ Below w.heap.size w wr ∧ N ≤ 10995116277770 := by
  obtain ⟨h1, h2, h3, h4, h5, h6, h7, h8, h9, h10, h11, h12⟩ := h
  have h0 : val zs = 0 := by
    have := dg_take (xs := zs) (k := 0) h5
    rw [← this]; simp [val]
  rw [h0, Nat.mul_zero, Nat.add_zero] at h8
  obtain ⟨A, c, hv, hr⟩ := own_brd (l := Ls.map ch) (by rw [List.length_map]; exact h6)
  rw [List.length_map] at hv hr
  exact ⟨_, A, c, hv, rfl, hr, h7, h8, h9, by omega⟩
theorem conv_bytes {w : World} {A : Option Addr} {n c : Nat} {l : List UInt8} (h : BRd w A n c l) (hn : 0 < n) : (convert 151 9 (.slice A n c)).run Tryz.prog w = .ok (.string ⟨l.toArray⟩) w := by
  obtain ⟨h1, h2, h3, h4⟩ := h
  obtain ⟨b, o, hA, hlt, hc⟩ := h4 hn
  subst hA h1
  refine run_convert_bytes_back w _ _ 5 ⟨b, o, none⟩ c l Tryz.underlying151 Tryz.underlying5 Tryz.underlying9 fun j hj => ?_
  have h5 := hc j hj
  have e : (⟨b, o, none⟩ : Addr).add j = ⟨b, o + j, none⟩ := by unfold Addr.add; split <;> simp_all
  rw [e, h5]
  simp [bc, List.getD, List.getElem?_eq_getElem hj]

end Go.Proofs.YthbogaindaflpaaGreatDoor
