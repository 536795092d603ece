/- Exs: QO, Sml, Ex, Ex2 in one text. -/
import Derived.Test.YtdbccidlnhjfhaaGreatDoorLinC
import Derived.Maps.AppendAt
import Derived.OwnWalk
import Derived.Deep.DeepCutAuto
import Derived.Test.YtdbccidlnhjfhaaGreatDoorDuaA
import Derived.Test.YtdbccidlnhjfhaaGreatDoorDuaB
namespace Go.Proofs.YtdbccidlnhjfhaaGreatDoor
open Go.RowKit
set_option maxRecDepth 100000
theorem tri_get {X Y Z : List Value} {n : Nat} (hX : X.length = n * 3) (hY : Y.length = 3) (i r : Nat) (hr : r < 3) : (X ++ Y ++ Z)[i * 3 + r]? = if i < n then X[i * 3 + r]? else if i = n then Y[r]? else Z[(i - n - 1) * 3 + r]? := by
  split
  · rename_i h
    rw [List.append_assoc, List.getElem?_append_left (by omega)]
  · rename_i h
    split
    · rename_i h2
      subst h2
      rw [List.append_assoc, List.getElem?_append_right (by omega), List.getElem?_append_left (by omega), hX, Nat.add_sub_cancel_left]
    · rename_i h2
      rw [List.getElem?_append_right (by rw [List.length_append]; omega), List.length_append, hX, hY]
      congr 1
      omega
theorem addr_add0 (b j : Nat) : (⟨b, 0, none⟩ : Addr).add j = ⟨b, j, none⟩ := by unfold Addr.add; split <;> simp_all
theorem zeroCells_rats (n : Nat) : Builtin.zeroCells #[.bool false, .slice none 0 0, .slice none 0 0] n = (qzs n).toArray := by
  rw [← madeCells_rats]
  apply Array.ext
  · simp [size_zeroCells, size_madeCells]
  · intro i h1 h2
    have h3 : i < n * 3 := by simpa [size_madeCells] using h2
    have : i % 3 = 0 ∨ i % 3 = 1 ∨ i % 3 = 2 := by omega
    rcases this with h | h | h <;> simp [Builtin.zeroCells, madeCells, h]
def QO (w : World) (base : Nat) (v : Value) (n k : Nat) (qs : Nat → Rat) : Prop := (v = .slice none 0 0 ∧ n = 0) ∨ ∃ g cap, v = .slice (some ⟨g, 0, none⟩) n cap ∧ base ≤ g ∧ n ≤ cap ∧ cap ≤ maxLen ∧ ∃ ps, QB w g cap k ps ∧ ∀ i, i < n → ps i = qs i
theorem QO.keep {w w' : World} {base : Nat} {v : Value} {n k : Nat} {qs : Nat → Rat} (h : QO w base v n k qs) (b : Below w.heap.size w w') : QO w' base v n k qs := by
  rcases h with h | ⟨g, cap, h1, h2, h3, h4, h5⟩
  · exact .inl h
  · obtain ⟨ps, h5, h6⟩ := h5
    exact .inr ⟨g, cap, h1, h2, h3, h4, ps, h5.keep b, h6⟩
theorem QO.lt {w : World} {base : Nat} {v : Value} {n k : Nat} {qs : Nat → Rat} (h : QO w base v n k qs) : ∀ j, v.ownBlock = some j → base ≤ j ∧ j < w.heap.size := by
  intro j hj
  rcases h with ⟨rfl, _⟩ | ⟨g, cap, rfl, h2, h3, h4, h5⟩
  · cases hj
  · simp [Value.ownBlock] at hj
    subst hj
    obtain ⟨ps, h5, _⟩ := h5
    exact ⟨h2, h5.lt⟩
theorem QO.qs {w : World} {base : Nat} {v : Value} {n k : Nat} {qs : Nat → Rat} (h : QO w base v n k qs) (hk : 1 ≤ k) : ∃ A c, v = .slice A n c ∧ Qs w A n c k qs := by
  rcases h with ⟨rfl, h0⟩ | ⟨g, cap, rfl, h2, h3, h4, h5⟩
  · exact ⟨none, 0, by rw [h0], by omega, by omega, hk, fun hn => absurd hn (by omega)⟩
  · have hc : cap ≤ 9223372036854775807 := by unfold maxLen at h4; exact h4
    obtain ⟨ps, h5, h6⟩ := h5
    obtain ⟨_, _, _, q⟩ := h5.qs hc hk
    refine ⟨_, _, rfl, h3, hc, hk, fun hn => ?_⟩
    obtain ⟨b, o, e, hl, hcell⟩ := q (by omega)
    exact ⟨b, o, e, hl, fun j hj => by
      obtain ⟨g, A, n', c, D, m, d, e0, e1, e2, e3⟩ := hcell j (by omega)
      exact ⟨g, A, n', c, D, m, d, e0, e1, e2, by rw [← h6 j hj]; exact e3⟩⟩
theorem QO.start (w : World) (k : Nat) (qs : Nat → Rat) : QO (w.alloc (.cells #[] 41)) w.heap.size (.slice (some ⟨w.heap.size, 0, none⟩) 0 0) 0 k qs :=
  .inr ⟨w.heap.size, 0, rfl, Nat.le_refl _, Nat.le_refl _, by unfold maxLen; omega, qs, ⟨[], Blk.new w [] _, rfl, fun i hi => absurd hi (by omega)⟩, fun _ _ => rfl⟩
theorem frv_blk {w w' : World} {g0 t n : Nat} {cs : List Value} {g : Bool} {A : Option Addr} {n' c : Nat} {D : Option Addr} {m d k : Nat} {q : Rat} (h : FrV w g A n' c D m d k q) (K : Blk w g0 cs t) (hl : cs.length = n * 3) (hc : ∀ i, i < n → ∃ (g : Bool) (A : Option Addr) (n' c : Nat) (D : Option Addr) (m d : Nat), cs[i * 3]? = some (.bool g) ∧ cs[i * 3 + 1]? = some (.slice A n' c) ∧ cs[i * 3 + 2]? = some (.slice D m d)) (hs : w.heap.size ≤ w'.heap.size) (hb : ∀ j, j < w.heap.size → j ≠ g0 → w'.heap[j]? = w.heap[j]?) : FrV w' g A n' c D m d k q := by
  have far : ∀ {B : Option Addr} {y z : Nat} {zs : List Nat}, Rd w B y z zs → Rd w' B y z zs := fun {B y z zs} r => by
    obtain ⟨r1, r2, r3, r4, r5⟩ := r
    refine ⟨r1, r2, r3, r4, fun hn => ?_⟩
    obtain ⟨e, o, hA, hlt, hcc⟩ := r5 hn
    have hne : e ≠ g0 := by
      rintro rfl
      have h6 := hcc 0 hn
      rw [Blk.cell K (o + 0)] at h6
      exact qb_plain hl hc _ _ h6
    exact ⟨e, o, hA, Nat.lt_of_lt_of_le hlt hs, fun j hj => (World.cell?_of_block (hb e hlt hne)).trans (hcc j hj)⟩
  obtain ⟨xs, ds, f1, f2, f3, f4, f5, f6⟩ := h
  exact ⟨xs, ds, far f1, f2, far f3, f4, f5, f6⟩
theorem run_append_rat {w : World} {ty base : Nat} {v : Value} {n k : Nat} {qs : Nat → Rat} (hown : QO w base v n k qs) {g0 : Nat} {g : Bool} {A : Option Addr} {n' c : Nat} {D : Option Addr} {m d : Nat} {q : Rat} (K0 : Blk w g0 [.bool g, .slice A n' c, .slice D m d] 41) (f : FrV w g A n' c D m d k q) (hn : n ≤ 1000000) (hbase : base ≤ w.heap.size) :
    ∃ v' w', (Builtin.append_ #[32, 32] ty #[v, .slice (some ⟨g0, 0, none⟩) 1 1]).run Tryz.prog w = .ok v' w' ∧ QO w' base v' (n + 1) k (fun j => if j = n then q else qs j) ∧ w.grownBy w' v.ownBlock ∧ ∃ g1 cap, v' = .slice (some ⟨g1, 0, none⟩) (n + 1) cap := by
  obtain ⟨i, hi, hzz⟩ := Option.map_eq_some_iff.1 Tryz.infoRat
  simp only [Prod.mk.injEq] at hzz
  obtain ⟨hz, hsz, hby⟩ := hzz
  have ht : Tryz.prog.underlying 32 = some (.slice 41) := by kernel_rfl
  have hk1 : 1 ≤ k := f.one
  have hnews : ∀ j u, [Value.bool g, .slice A n' c, .slice D m d][j]? = some u → w.cell? ((⟨g0, 0, none⟩ : Addr).add j) = some u := fun j u hj => by rw [addr_add0, K0.cell]; exact hj
  have made : ∀ (w' : World) (X : List Value) (cap : Nat), X.length = n * 3 → n < cap → Below w.heap.size w w' → Blk w' w.heap.size (X ++ [.bool g, .slice A n' c, .slice D m d] ++ qzs (cap - (n + 1))) 41 → (∀ j, j < n → ∃ g A n' c D m d, X[j * 3]? = some (.bool g) ∧ X[j * 3 + 1]? = some (.slice A n' c) ∧ X[j * 3 + 2]? = some (.slice D m d) ∧ FrV w g A n' c D m d k (qs j)) → QB w' w.heap.size cap k (fun j => if j = n then q else if j < n then qs j else 0) := fun w' X cap hX hc hb hB hq => by
    refine ⟨_, hB, by rw [List.length_append, List.length_append, hX, qzs_len]; simp; omega, fun j hj => ?_⟩
    have e0 := tri_get (Z := qzs (cap - (n + 1))) hX (Y := [Value.bool g, .slice A n' c, .slice D m d]) rfl j 0 (by omega)
    have e1 := tri_get (Z := qzs (cap - (n + 1))) hX (Y := [Value.bool g, .slice A n' c, .slice D m d]) rfl j 1 (by omega)
    have e2 := tri_get (Z := qzs (cap - (n + 1))) hX (Y := [Value.bool g, .slice A n' c, .slice D m d]) rfl j 2 (by omega)
    rw [Nat.add_zero] at e0
    by_cases h1 : j < n
    · rw [if_pos h1] at e0 e1 e2
      obtain ⟨ga, Aa, na, ca, Da, ma, da, q0, q1, q2, q3⟩ := hq j h1
      refine ⟨ga, Aa, na, ca, Da, ma, da, e0.trans q0, e1.trans q1, e2.trans q2, ?_⟩
      show FrV w' ga Aa na ca Da ma da k (if j = n then q else if j < n then qs j else 0)
      rw [if_neg (by omega), if_pos h1]
      exact q3.keep hb
    · rw [if_neg h1] at e0 e1 e2
      by_cases h2 : j = n
      · rw [if_pos h2] at e0 e1 e2
        refine ⟨g, A, n', c, D, m, d, e0, e1, e2, ?_⟩
        show FrV w' g A n' c D m d k (if j = n then q else if j < n then qs j else 0)
        rw [if_pos h2]
        exact f.keep hb
      · rw [if_neg h2] at e0 e1 e2
        have z := qzs_get (n := cap - (n + 1)) (i := j - n - 1) (by omega)
        refine ⟨false, none, 0, 0, none, 0, 0, e0.trans z.1, e1.trans z.2.1, e2.trans z.2.2, ?_⟩
        show FrV w' false none 0 0 none 0 0 k (if j = n then q else if j < n then qs j else 0)
        rw [if_neg h2, if_neg h1]
        exact FrV.zero _ hk1
  rcases hown with ⟨rfl, rfl⟩ | ⟨gb, cap, rfl, hgb, hnc, hcm, ps, ⟨cs, hB, hl, hc⟩, hp⟩
  · have hr := Go.run_append_nil (P := Tryz.prog) w 32 ty 41 i _ ht hi hz ⟨g0, 0, none⟩ 1 1 [.bool g, .slice A n' c, .slice D m d] (by rw [hsz]; rfl) hnews (by omega) (by omega) (by rw [hby]; omega)
    have hge := grownCap_ge w 1 0 41
    have hle := grownCap_le_maxLen w 1 0 41 (by unfold maxLen; omega)
    rw [show (Value.agg #[.bool false, .slice none 0 0, .slice none 0 0]).cells = #[.bool false, .slice none 0 0, .slice none 0 0] by rfl, zeroCells_rats] at hr
    obtain ⟨cp, hcp⟩ : ∃ cp, cp = grownCap w 1 0 41 := ⟨_, rfl⟩
    rw [← hcp] at hr hge hle
    have Q := made (w.drew.alloc (.cells ([Value.bool g, .slice A n' c, .slice D m d].toArray ++ (qzs (cp - 1)).toArray) 41)) [] cp rfl hge (bx_alloc (bx_drew (bx_refl w)) _) (by
      have := heap_alloc_new w.drew (.cells ([Value.bool g, .slice A n' c, .slice D m d].toArray ++ (qzs (cp - 1)).toArray) 41)
      unfold Blk
      rw [List.append_toArray] at this ⊢
      exact this) (fun j hj => absurd hj (by omega))
    exact ⟨_, _, hr, .inr ⟨_, _, rfl, hbase, hge, hle, _, Q, fun j hj => by
      show (if j = 0 then q else if j < 0 then qs j else 0) = if j = 0 then q else qs j
      rw [if_pos (by omega), if_pos (by omega)]⟩, ⟨rfl, rfl, rfl, by simp, fun j hj _ => Below.heap_alloc w.drew _ j hj⟩, _, _, rfl⟩
  · have hpl : ∀ i, i < cap → ∃ (g : Bool) (A : Option Addr) (n' c : Nat) (D : Option Addr) (m d : Nat), cs[i * 3]? = some (.bool g) ∧ cs[i * 3 + 1]? = some (.slice A n' c) ∧ cs[i * 3 + 2]? = some (.slice D m d) := fun i hi => by
      obtain ⟨g, A, n', c, D, m, d, h0, h1, h2, _⟩ := hc i hi
      exact ⟨g, A, n', c, D, m, d, h0, h1, h2⟩
    by_cases hroom : n + 1 ≤ cap
    · have hr := run_append_room (P := Tryz.prog) w 32 ty 41 i ht hi gb n cap cs.toArray hB ⟨g0, 0, none⟩ 1 1 [.bool g, .slice A n' c, .slice D m d] (by rw [hsz]; rfl) hnews (by
        intro u hu
        simp only [List.mem_cons, List.not_mem_nil, or_false] at hu
        rcases hu with rfl | rfl | rfl <;> rfl) hroom (by rw [hsz]; simp; omega)
      rw [hsz] at hr
      simp only [List.length_cons, List.length_nil] at hr
      obtain ⟨W', hW'⟩ : ∃ W', W' = w.setRow gb (cs.take (n * 3) ++ [Value.bool g, .slice A n' c, .slice D m d] ++ cs.drop (n * 3 + (0 + 1 + 1 + 1))).toArray := ⟨_, rfl⟩
      rw [← hW'] at hr
      have hsz' : W'.heap.size = w.heap.size := by rw [hW']; simp [World.setRow]
      have hoth : ∀ j, j < w.heap.size → j ≠ gb → W'.heap[j]? = w.heap[j]? := fun j _ hj => by rw [hW']; exact setRow_other w gb j _ hj
      have hB' : Blk W' gb (cs.take (n * 3) ++ [Value.bool g, .slice A n' c, .slice D m d] ++ cs.drop (n * 3 + 3)) 41 := by rw [hW']; exact setRow_heap w gb cs.toArray _ 41 _ hB
      have hX : (cs.take (n * 3)).length = n * 3 := by rw [List.length_take]; omega
      refine ⟨_, W', hr, .inr ⟨gb, cap, rfl, hgb, hroom, hcm, fun j => if j = n then q else ps j, ⟨_, hB', by rw [List.length_append, List.length_append, hX, List.length_drop]; simp; omega, fun j hj => ?_⟩, fun j hj => ?_⟩, ⟨by rw [hW']; rfl, by rw [hW']; rfl, by rw [hW']; rfl, by omega, fun j hj hne => hoth j hj (fun e => hne (by simp [Value.ownBlock, e]))⟩, _, _, rfl⟩
      · have e0 := tri_get (Z := cs.drop (n * 3 + 3)) hX (Y := [Value.bool g, .slice A n' c, .slice D m d]) rfl j 0 (by omega)
        have e1 := tri_get (Z := cs.drop (n * 3 + 3)) hX (Y := [Value.bool g, .slice A n' c, .slice D m d]) rfl j 1 (by omega)
        have e2 := tri_get (Z := cs.drop (n * 3 + 3)) hX (Y := [Value.bool g, .slice A n' c, .slice D m d]) rfl j 2 (by omega)
        rw [Nat.add_zero] at e0
        by_cases h2 : j = n
        · rw [if_neg (by omega), if_pos h2] at e0 e1 e2
          refine ⟨g, A, n', c, D, m, d, e0, e1, e2, ?_⟩
          show FrV W' g A n' c D m d k (if j = n then q else ps j)
          rw [if_pos h2]
          exact frv_blk f hB hl hpl (by omega) hoth
        · obtain ⟨ga, Aa, na, ca, Da, ma, da, q0, q1, q2, q3⟩ := hc j hj
          have old : ∀ r, r < 3 → (cs.take (n * 3) ++ [Value.bool g, .slice A n' c, .slice D m d] ++ cs.drop (n * 3 + 3))[j * 3 + r]? = cs[j * 3 + r]? := fun r hr => by
            rw [tri_get hX rfl j r hr]
            by_cases h1 : j < n
            · rw [if_pos h1, List.getElem?_take, if_pos (by omega)]
            · rw [if_neg h1, if_neg h2, List.getElem?_drop, show n * 3 + 3 + ((j - n - 1) * 3 + r) = j * 3 + r by omega]
          refine ⟨ga, Aa, na, ca, Da, ma, da, (old 0 (by omega)).trans q0, (old 1 (by omega)).trans q1, (old 2 (by omega)).trans q2, ?_⟩
          show FrV W' ga Aa na ca Da ma da k (if j = n then q else ps j)
          rw [if_neg h2]
          exact frv_blk q3 hB hl hpl (by omega) hoth
      · show (if j = n then q else ps j) = if j = n then q else qs j
        by_cases h : j = n
        · rw [if_pos h, if_pos h]
        · rw [if_neg h, if_neg h, hp j (by omega)]
    · have hncap : n = cap := by omega
      have hX : (cs.take (n * 3)).length = n * 3 := by rw [List.length_take]; omega
      have holds : ∀ j u, (cs.take (n * 3))[j]? = some u → w.cell? ((⟨gb, 0, none⟩ : Addr).add j) = some u := fun j u hj => by
        rw [addr_add0, hB.cell]
        rw [List.getElem?_take] at hj
        split at hj
        · exact hj
        · cases hj
      have hr := Go.run_append_grow (P := Tryz.prog) w 32 ty 41 i _ ht hi hz ⟨gb, 0, none⟩ n cap (cs.take (n * 3)) (by rw [hsz]; exact hX) holds ⟨g0, 0, none⟩ 1 1 [.bool g, .slice A n' c, .slice D m d] (by rw [hsz]; rfl) hnews (by omega) (by omega) (by rw [hby]; exact growslice_fits (by omega) (by omega))
      have hge := grownCap_ge w (n + 1) cap 41
      have hle := grownCap_le_maxLen w (n + 1) cap 41 (by unfold maxLen; omega)
      rw [show (Value.agg #[.bool false, .slice none 0 0, .slice none 0 0]).cells = #[.bool false, .slice none 0 0, .slice none 0 0] by rfl, zeroCells_rats] at hr
      obtain ⟨cp, hcp⟩ : ∃ cp, cp = grownCap w (n + 1) cap 41 := ⟨_, rfl⟩
      rw [← hcp] at hr hge hle
      have Q := made (w.drew.alloc (.cells ((cs.take (n * 3)).toArray ++ [Value.bool g, .slice A n' c, .slice D m d].toArray ++ (qzs (cp - (n + 1))).toArray) 41)) (cs.take (n * 3)) cp hX hge (bx_alloc (bx_drew (bx_refl w)) _) (by
        have := heap_alloc_new w.drew (.cells ((cs.take (n * 3)).toArray ++ [Value.bool g, .slice A n' c, .slice D m d].toArray ++ (qzs (cp - (n + 1))).toArray) 41)
        unfold Blk
        simp only [List.append_toArray] at this ⊢
        exact this) (fun j hj => by
        obtain ⟨ga, Aa, na, ca, Da, ma, da, q0, q1, q2, q3⟩ := hc j (by omega)
        refine ⟨ga, Aa, na, ca, Da, ma, da, ?_, ?_, ?_, by rw [← hp j hj]; exact q3⟩
        · rw [List.getElem?_take, if_pos (by omega)]; exact q0
        · rw [List.getElem?_take, if_pos (by omega)]; exact q1
        · rw [List.getElem?_take, if_pos (by omega)]; exact q2)
      exact ⟨_, _, hr, .inr ⟨_, _, rfl, hbase, hge, hle, _, Q, fun j hj => by
        show (if j = n then q else if j < n then qs j else 0) = if j = n then q else qs j
        by_cases h : j = n
        · rw [if_pos h, if_pos h]
        · rw [if_neg h, if_neg h, if_pos (by omega)]⟩, ⟨rfl, rfl, rfl, by simp, fun j hj _ => Below.heap_alloc w.drew _ j hj⟩, _, _, rfl⟩
def fewP (vn rn : Nat) (nm : Nat → ByteArray) (tn : Nat → Nat) (a b : Nat) : Bool := decide (∀ i, i < rn → tn i ≤ 2 * a ∧ (nm i).size ≤ 100) && (decide (vn ≤ a) && decide (rn ≤ b))
set_option maxHeartbeats 4000000 in
theorem rfewp (V0 : Option Addr) (vn vc : Nat) (R0 : Option Addr) (rn rc : Nat) (nm : Nat → ByteArray) (gr ki bo : Nat → Int) (TA : Nat → Option Addr) (tn tc : Nat → Nat) (v cf : Nat → Nat → Int) (a b : Nat) (w : World) (_hv : vn ≤ 9223372036854775807) (hR : Rs w R0 rn rc nm gr ki bo TA tn tc v cf) (hnm : ∀ j, j < rn → (nm j).size ≤ 9223372036854775807) (ha : a ≤ 1000) (_hb : b ≤ 1000) :
    Calls Tryz.prog 11 #[.agg #[.slice V0 vn vc, .slice R0 rn rc], .int .i64 (a : Int), .int .i64 (b : Int)] w (RetB w (fewP vn rn nm tn a b)) := by
  have h1 := hR.1
  have h2 := hR.2.1
  obtain ⟨W0, hW⟩ : ∃ W, W = w.alloc (.cells #[.slice V0 vn vc, .slice R0 rn rc] 25) := ⟨_, rfl⟩
  have B0 := bx_alloc (bx_refl w) (.cells #[.slice V0 vn vc, .slice R0 rn rc] 25)
  have K0 := Blk.new w [.slice V0 vn vc, .slice R0 rn rc] 25
  change Blk (w.alloc (.cells #[.slice V0 vn vc, .slice R0 rn rc] 25)) _ _ _ at K0
  rw [← hW] at B0 K0
  obtain ⟨r, hr⟩ : ∃ r, r = fewP vn rn nm tn a b := ⟨_, rfl⟩
  rw [← hr]
  have HR := hid hr
  have HQ := hid hR
  have HN := hid hnm
  obtain ⟨z0, z1⟩ := blk_two K0
  have ST := hid (show AllP w [.slice V0 vn vc, .slice R0 rn rc] (fun i => tn i ≤ 2 * a ∧ (nm i).size ≤ 100) 0 W0 from ⟨fun i hi => absurd hi (by omega), B0, K0⟩)
  clear hR hr hnm B0 K0
  go_enter Tryz.func11, Tryz.ntmps11
  go_upto_region 1 with fail
  rw [← hW]
  clear hW
  go_wp2_with fail
  go_loopw [7] (fun i wr => ∃ j : Nat, j ≤ rn ∧ i = .int .i64 j ∧ Hid (AllP w [.slice V0 vn vc, .slice R0 rn rc] (fun i => tn i ≤ 2 * a ∧ (nm i).size ≤ 100) j wr)) (fun i _ => rn - (intOf i).toNat)
  case atStart => exact ⟨0, Nat.zero_le _, rfl, ST⟩
  case round =>
    clear ST z0 z1
    obtain ⟨j, hj, rfl, hz⟩ := hrel
    obtain ⟨z0, z1⟩ := blk_two hz.out.2.2
    rcases Nat.lt_or_ge j rn with hlt | hge
    · obtain ⟨bb, o, rfl, hbb, hcell⟩ := HQ.out.2.2.2 (by omega)
      obtain ⟨_, _, _, hTs⟩ := HQ.out.2.2.1 j hlt
      have x0 := cell_bx (hcell j hlt).1 hz.out.2.1
      have x3 := cell_bx (hcell j hlt).2.2.2.1 hz.out.2.1
      have m1 : tn j ≤ 9223372036854775807 := Nat.le_trans hTs.1 hTs.2.1
      have m2 := HN.out j hlt
      have NO := hid (fun (h : ¬(tn j ≤ 2 * a ∧ (nm j).size ≤ 100)) => vld_no (by rw [HR.out]; unfold fewP; rw [decide_eq_false fun g => h (g j hlt)]; rfl : r = false) hz.out.2.1)
      have YE := hid (fun (h : tn j ≤ 2 * a ∧ (nm j).size ≤ 100) => AllP.next hz.out h (bx_refl wr))
      obtain ⟨x, hx⟩ : ∃ x, x = tn j := ⟨_, rfl⟩
      obtain ⟨s, hs⟩ : ∃ s, s = nm j := ⟨_, rfl⟩
      rw [← hx, ← hs] at NO
      have YE := hid (fun (h : x ≤ 2 * a ∧ s.size ≤ 100) => YE.out (by rw [← hx, ← hs]; exact h))
      rw [← hx] at x3 m1
      rw [← hs] at x0 m2
      clear hz HQ HR HN hcell hTs hx hs
      by_cases g1 : 2 * a < x
      · have t1 : decide ((2 : Int) * (a : Int) < (x : Int)) = true := decide_eq_true (by omega)
        have NN := hid (NO.out (by omega))
        clear NO YE
        go_wp2_with fail
        go_ret
        exact NN.out
      · have t1 : decide ((2 : Int) * (a : Int) < (x : Int)) = false := decide_eq_false (by omega)
        by_cases g2 : 100 < s.size
        · have t2 : decide ((100 : Int) < (s.size : Int)) = true := decide_eq_true (by omega)
          have NN := hid (NO.out (by omega))
          clear NO YE
          go_wp2_with fail
          go_ret
          exact NN.out
        · have t2 : decide ((100 : Int) < (s.size : Int)) = false := decide_eq_false (by omega)
          have ZZ := hid (YE.out ⟨by omega, by omega⟩)
          clear NO YE
          go_wp2_with fail
          go_roundw
          case rel => exact ⟨j + 1, by omega, by go_num, ZZ⟩
          case measure => simp [intOf]; omega
    · obtain rfl : j = rn := by omega
      have H2 := hid (show r = (decide (vn ≤ a) && decide (j ≤ b)) by rw [HR.out]; unfold fewP; rw [decide_eq_true hz.out.1, Bool.true_and])
      have BB := hid hz.out.2.1
      clear HQ hz HR HN
      by_cases g1 : vn ≤ a
      · have t1 : decide ((vn : Int) ≤ (a : Int)) = true := decide_eq_true (by omega)
        have H3 := hid (show r = decide (j ≤ b) by rw [H2.out, decide_eq_true g1, Bool.true_and])
        clear H2
        go_wp2_with fail
        go_ret
        exact (show RetB w r (.returned (.bool (decide (j ≤ b)))) wr from ⟨by rw [H3.out], BB.out⟩)
      · have t1 : decide ((vn : Int) ≤ (a : Int)) = false := decide_eq_false (by omega)
        have H3 := hid (show r = false by rw [H2.out, decide_eq_false g1, Bool.false_and])
        clear H2
        go_wp2_with fail
        go_ret
        exact vld_no H3.out BB.out
theorem QO.congr {w : World} {base : Nat} {v : Value} {n k : Nat} {qs ps : Nat → Rat} (h : QO w base v n k qs) (e : ∀ i, i < n → qs i = ps i) : QO w base v n k ps := by
  rcases h with h | ⟨g, cap, h1, h2, h3, h4, rs, h5, h6⟩
  · exact .inl h
  · exact .inr ⟨g, cap, h1, h2, h3, h4, rs, h5, fun i hi => (h6 i hi).trans (e i hi)⟩
theorem wpList_append_rat {w : World} {ops : Array Oper} {rest : List Oper} {o : Oper} {a : Act} {Q : Exit → Act → World → Prop} (hgd : o.guard = none) (s x : Operand) (ho : o.op = .call { callee := .builtin .append, args := #[s, x], argTypes := #[32, 32] })
    (base : Nat) (v : Value) (n k : Nat) (qs : Nat → Rat) (hs : a.eval s = v) (hown : QO w base v n k qs) (g0 : Nat) (hx : a.eval x = .slice (some ⟨g0, 0, none⟩) 1 1) {g : Bool} {A : Option Addr} {n' c : Nat} {D : Option Addr} {m d : Nat} {q : Rat} (K0 : Blk w g0 [.bool g, .slice A n' c, .slice D m d] 41) (f : FrV w g A n' c D m d k q) (hn : n ≤ 1000000) (hbase : base ≤ w.heap.size)
    (h : ∀ w' g1 cap, QO w' base (.slice (some ⟨g1, 0, none⟩) (n + 1) cap) (n + 1) k (fun j => if j = n then q else qs j) → w.grownBy w' v.ownBlock → wpList Tryz.prog ops Q rest (a.put o.dst (.slice (some ⟨g1, 0, none⟩) (n + 1) cap)) w') : wpList Tryz.prog ops Q (o :: rest) a w := by
  refine wpList_plain hgd fun K hK => ?_
  obtain ⟨v', w', hr, h2, h3, g1, cap, rfl⟩ := run_append_rat (ty := o.type) hown K0 f hn hbase
  unfold Oper.wp execOp
  simp only [ho, resolve, invoke, builtin, Sem.run_bind, Sem.run_pure, Result.andThen_ok, List.map_toArray, List.map_cons, List.map_nil, hs, hx, hr]
  exact hK _ _ (h w' g1 cap h2 h3)
def RetQs (w : World) (n k : Nat) (qs : Nat → Rat) (e : Ending) (w' : World) : Prop := ∃ A c, e = .returned (.slice A n c) ∧ Qs w' A n c k qs ∧ Below w.heap.size w w'
structure PIn (w : World) (u : Value) (n k : Nat) (qs : Nat → Rat) (W : World) : Prop where
  bel : Below w.heap.size w W
  own : QO W w.heap.size u n k qs
theorem PIn.keep {w W W' : World} {u : Value} {n k : Nat} {qs : Nat → Rat} (h : PIn w u n k qs W) (b : Below W.heap.size W W') : PIn w u n k qs W' := ⟨bx_call h.bel b, h.own.keep b⟩
theorem PIn.grow {w W W' : World} {u u' : Value} {n m k : Nat} {qs ps : Nat → Rat} (h : PIn w u n k qs W) (ho : QO W' w.heap.size u' m k ps) (hg : W.grownBy W' u.ownBlock) : PIn w u' m k ps W' := by
  have hlt := h.own.lt
  have hs := h.bel.size
  refine ⟨⟨hg.os.trans h.bel.os, hg.tape.trans h.bel.tape, hg.output.trans h.bel.output, Nat.le_trans h.bel.size hg.size, fun j hj => ?_⟩, ho⟩
  rw [hg.block j (by omega) (fun e => by have := (hlt j e.symm).1; omega)]
  exact h.bel.block j hj
set_option maxHeartbeats 4000000 in
theorem rints (A : Option Addr) (n c : Nat) (zs : Nat → Int) (w : World) (hI : Il w A n c zs) (hz : ∀ j, j < n → -9223372036854775808 ≤ zs j ∧ zs j ≤ 9223372036854775807) (hn : n ≤ 1000) :
    Calls Tryz.prog 54 #[.slice A n c] w (RetQs w n 2 (fun i => (zs i : Rat))) := by
  have h1 := hI.1
  have h2 := hI.2.1
  have ST := hid (show PIn w (.slice (some ⟨w.heap.size, 0, none⟩) 0 0) 0 2 (fun i => (zs i : Rat)) (w.alloc (.cells #[] 41)) from ⟨bx_alloc (bx_refl w) _, QO.start w 2 _⟩)
  have HI := hid hI
  have HZ := hid hz
  clear hI hz
  go_enter Tryz.func54, Tryz.ntmps54
  go_wp2_with fail
  go_loopw [3, 4] (fun u i wr => ∃ j : Nat, j ≤ n ∧ i = .int .i64 j ∧ (∃ A0 c0, u = .slice A0 j c0) ∧ Hid (PIn w u j 2 (fun i => (zs i : Rat)) wr)) (fun _ i _ => n - (intOf i).toNat)
  case atStart => exact ⟨0, Nat.zero_le _, rfl, ⟨_, _, rfl⟩, ST⟩
  case round =>
    clear ST
    obtain ⟨j, hj, rfl, ⟨A0, c0, rfl⟩, hz⟩ := hrel
    rcases Nat.lt_or_ge j n with hlt | hge
    · obtain ⟨b, o, rfl, hb, hcell⟩ := HI.out.2.2 (by omega)
      have x0 := cell_bx (hcell j hlt) hz.out.bel
      obtain ⟨z1, z2⟩ := HZ.out j hlt
      obtain ⟨z, hzz⟩ : ∃ z, z = zs j := ⟨_, rfl⟩
      rw [← hzz] at x0 z1 z2
      have FR := hid (vrfrom z wr z1 z2)
      have NX := hid (fun (w' : World) (g1 cap : Nat) (W : World) (B : Below wr.heap.size wr W) (q : QO w' w.heap.size (.slice (some ⟨g1, 0, none⟩) (j + 1) cap) (j + 1) 2 (fun i => if i = j then (z : Rat) else (zs i : Rat))) (hg : W.grownBy w' (Value.slice A0 j c0).ownBlock) => (show PIn w (.slice (some ⟨g1, 0, none⟩) (j + 1) cap) (j + 1) 2 (fun i => (zs i : Rat)) w' from (hz.out.keep B).grow (q.congr fun i hi => by
        show (if i = j then (z : Rat) else (zs i : Rat)) = (zs i : Rat)
        by_cases e : i = j
        · rw [if_pos e, hzz, e]
        · rw [if_neg e]) hg))
      have OW := hid (fun (W : World) (B : Below wr.heap.size wr W) => (hz.out.keep B).own)
      have LE := hid hz.out.bel.size
      clear hz HI HZ hcell hzz
      go_wp2_with fail
      refine (FR.out).mono ?_
      rintro e w1 ⟨A1, n1, c1, D1, m1, d1, rfl, r, b1⟩
      obtain ⟨gg, hgg⟩ : ∃ g, g = sg (z : Rat).num := ⟨_, rfl⟩
      have rv := r.v
      rw [← hgg] at rv ⊢
      have KN := hid (Blk.new w1 [.bool gg, .slice A1 n1 c1, .slice D1 m1 d1] 41)
      have BN := hid (bx_alloc b1 (.cells #[.bool gg, .slice A1 n1 c1, .slice D1 m1 d1] 41))
      have FV := hid (rv.keep (bx_alloc (bx_refl w1) (.cells #[.bool gg, .slice A1 n1 c1, .slice D1 m1 d1] 41)))
      have OV := hid (OW.out _ BN.out)
      have LV := hid (Nat.le_trans LE.out BN.out.size)
      have NV := hid (fun (w' : World) (g1 cap : Nat) q hg => NX.out w' g1 cap _ BN.out q hg)
      have hn9 : j ≤ 1000000 := by omega
      clear r rv b1 hgg FR OW LE NX BN
      go_wp2_with (at_builtin; refine wpList_append_rat rfl (.tmp 12) (.tmp 18) rfl w.heap.size (.slice A0 j c0) j 2 _ rfl OV.out w1.heap.size rfl KN.out FV.out hn9 LV.out ?_; intro w2 g1 cap q hg; have ZZ := hid (NV.out w2 g1 cap q hg); clear q hg)
      clear KN FV OV LV NV
      go_roundw
      case rel => exact ⟨j + 1, by omega, by go_num, ⟨_, _, rfl⟩, ZZ⟩
      case measure => simp [intOf]; omega
    · obtain rfl : j = n := by omega
      obtain ⟨A2, c2, e2, q2⟩ := hz.out.own.qs (by omega)
      have YY := hid (show RetQs w j 2 (fun i => (zs i : Rat)) (.returned (.slice A0 j c0)) wr from ⟨A2, c2, by rw [e2], q2, hz.out.bel⟩)
      clear hz HI HZ q2 e2
      go_wp2_with fail
      go_ret
      exact YY.out
def zN (_ : Nat) : Int := 1
end Go.Proofs.YtdbccidlnhjfhaaGreatDoor
