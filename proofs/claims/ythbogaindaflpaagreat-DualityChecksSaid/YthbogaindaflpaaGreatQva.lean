/- Qva: Qv, Va5, Late in one text. -/
import Derived.Test.YthbogaindaflpaaGreatExs
import Derived.Maps.AppendAt
import Derived.OwnWalk
import Derived.Deep.DeepCutAuto
import Derived.Test.YthbogaindaflpaaGreatAwk6
import Derived.BigQuiet
import Derived.Deep.RegionHeld
namespace Go.Proofs.YthbogaindaflpaaGreat
open Go.RowKit
set_option maxRecDepth 100000
def Fv (w : World) (g : Bool) (A : Option Addr) (n c : Nat) (D : Option Addr) (m d k : Nat) (q : Rat) : Prop := g = sg q.num ∧ FrL w A n c D m d k q
theorem Fv.keep {w w' : World} {g : Bool} {A : Option Addr} {n c : Nat} {D : Option Addr} {m d k : Nat} {q : Rat} (h : Fv w g A n c D m d k q) (b : Below w.heap.size w w') : Fv w' g A n c D m d k q := ⟨h.1, h.2.keep b⟩
theorem Fv.one {w : World} {g : Bool} {A : Option Addr} {n c : Nat} {D : Option Addr} {m d k : Nat} {q : Rat} (h : Fv w g A n c D m d k q) : 1 ≤ k := h.2.2.2.2.2
theorem Fv.zero (w : World) {k : Nat} (hk : 1 ≤ k) : Fv w false none 0 0 none 0 0 k 0 := ⟨rfl, frl_zero w hk⟩
def Qv (w : World) (A : Option Addr) (n c k : Nat) (qs : Nat → Rat) : Prop := n ≤ c ∧ c ≤ 9223372036854775807 ∧ 1 ≤ k ∧ (0 < n → ∃ b o, A = some ⟨b, o, none⟩ ∧ b < w.heap.size ∧ ∀ j, j < n → ∃ g A' n' c' D' m' d', w.cell? ⟨b, o + j * 3, none⟩ = some (.bool g) ∧ w.cell? ⟨b, o + j * 3 + 1, none⟩ = some (.slice A' n' c') ∧ w.cell? ⟨b, o + j * 3 + 2, none⟩ = some (.slice D' m' d') ∧ Fv w g A' n' c' D' m' d' k (qs j))
theorem Qv.qs {w : World} {A : Option Addr} {n c k : Nat} {qs : Nat → Rat} (h : Qv w A n c k qs) : Qs w A n c k qs := by
  refine ⟨h.1, h.2.1, h.2.2.1, fun hn => ?_⟩
  obtain ⟨b, o, h1, h2, h3⟩ := h.2.2.2 hn
  refine ⟨b, o, h1, h2, fun j hj => ?_⟩
  obtain ⟨g, A', n', c', D', m', d', e0, e1, e2, e3⟩ := h3 j hj
  exact ⟨g, A', n', c', D', m', d', e0, e1, e2, by rw [e3.1]; exact e3.2.v⟩
def QBv (w : World) (b n k : Nat) (qs : Nat → Rat) : Prop := ∃ cs : List Value, Blk w b cs 31 ∧ cs.length = n * 3 ∧ ∀ i, i < n → ∃ g A n' c D m d, cs[i * 3]? = some (.bool g) ∧ cs[i * 3 + 1]? = some (.slice A n' c) ∧ cs[i * 3 + 2]? = some (.slice D m d) ∧ Fv w g A n' c D m d k (qs i)
theorem QBv.keep {w w' : World} {b n k : Nat} {qs : Nat → Rat} (h : QBv w b n k qs) (hb : Below w.heap.size w w') : QBv w' b n k qs := by
  obtain ⟨cs, hB, hl, hc⟩ := h
  refine ⟨cs, hB.keep hb, hl, fun i hi => ?_⟩
  obtain ⟨g, A, n', c, D, m, d, h0, h1, h2, h3⟩ := hc i hi
  exact ⟨g, A, n', c, D, m, d, h0, h1, h2, h3.keep hb⟩
theorem QBv.lt {w : World} {b n k : Nat} {qs : Nat → Rat} (h : QBv w b n k qs) : b < w.heap.size := by
  obtain ⟨cs, hB, _⟩ := h
  exact hB.lt
theorem QBv.get {w : World} {b n k : Nat} {qs : Nat → Rat} (h : QBv w b n k qs) {i : Nat} (hi : i < n) : ∃ g A n' c D m d, w.cell? ⟨b, i * 3, none⟩ = some (.bool g) ∧ w.cell? ⟨b, i * 3 + 1, none⟩ = some (.slice A n' c) ∧ w.cell? ⟨b, i * 3 + 2, none⟩ = some (.slice D m d) ∧ Fv w g A n' c D m d k (qs i) := by
  obtain ⟨cs, hB, hl, hc⟩ := h
  obtain ⟨g, A, n', c, D, m, d, h0, h1, h2, h3⟩ := hc i hi
  exact ⟨g, A, n', c, D, m, d, by rw [hB.cell]; exact h0, by rw [hB.cell]; exact h1, by rw [hB.cell]; exact h2, h3⟩
theorem QBv.qs {w : World} {b n k : Nat} {qs : Nat → Rat} (h : QBv w b n k qs) (hn : n ≤ 9223372036854775807) (hk : 1 ≤ k) : Qv w (some ⟨b, 0, none⟩) n n k qs := by
  refine ⟨Nat.le_refl _, hn, hk, fun _ => ⟨b, 0, rfl, h.lt, fun j hj => ?_⟩⟩
  obtain ⟨g, A, n', c, D, m, d, h0, h1, h2, h3⟩ := h.get hj
  exact ⟨g, A, n', c, D, m, d, by rw [Nat.zero_add]; exact h0, by rw [Nat.zero_add]; exact h1, by rw [Nat.zero_add]; exact h2, h3⟩
def QOv (w : World) (base : Nat) (v : Value) (n k : Nat) (qs : Nat → Rat) : Prop := (v = .slice none 0 0 ∧ n = 0) ∨ ∃ g cap, v = .slice (some ⟨g, 0, none⟩) n cap ∧ base ≤ g ∧ n ≤ cap ∧ cap ≤ maxLen ∧ ∃ ps, QBv w g cap k ps ∧ ∀ i, i < n → ps i = qs i
theorem QOv.keep {w w' : World} {base : Nat} {v : Value} {n k : Nat} {qs : Nat → Rat} (h : QOv w base v n k qs) (b : Below w.heap.size w w') : QOv w' base v n k qs := by
  rcases h with h | ⟨g, cap, h1, h2, h3, h4, h5⟩
  · exact .inl h
  · obtain ⟨ps, h5, h6⟩ := h5
    exact .inr ⟨g, cap, h1, h2, h3, h4, ps, h5.keep b, h6⟩
theorem QOv.lt {w : World} {base : Nat} {v : Value} {n k : Nat} {qs : Nat → Rat} (h : QOv w base v n k qs) : ∀ j, v.ownBlock = some j → base ≤ j ∧ j < w.heap.size := by
  intro j hj
  rcases h with ⟨rfl, _⟩ | ⟨g, cap, rfl, h2, h3, h4, h5⟩
  · cases hj
  · simp [Value.ownBlock] at hj
    subst hj
    obtain ⟨ps, h5, _⟩ := h5
    exact ⟨h2, h5.lt⟩
theorem QOv.qs {w : World} {base : Nat} {v : Value} {n k : Nat} {qs : Nat → Rat} (h : QOv w base v n k qs) (hk : 1 ≤ k) : ∃ A c, v = .slice A n c ∧ Qv w A n c k qs := by
  rcases h with ⟨rfl, h0⟩ | ⟨g, cap, rfl, h2, h3, h4, h5⟩
  · exact ⟨none, 0, by rw [h0], by omega, by omega, hk, fun hn => absurd hn (by omega)⟩
  · have hc : cap ≤ 9223372036854775807 := by unfold maxLen at h4; exact h4
    obtain ⟨ps, h5, h6⟩ := h5
    obtain ⟨_, _, _, q⟩ := h5.qs hc hk
    refine ⟨_, _, rfl, h3, hc, hk, fun hn => ?_⟩
    obtain ⟨b, o, e, hl, hcell⟩ := q (by omega)
    exact ⟨b, o, e, hl, fun j hj => by
      obtain ⟨g, A, n', c, D, m, d, e0, e1, e2, e3⟩ := hcell j (by omega)
      exact ⟨g, A, n', c, D, m, d, e0, e1, e2, by rw [← h6 j hj]; exact e3⟩⟩
theorem QOv.start (w : World) (k : Nat) (qs : Nat → Rat) : QOv (w.alloc (.cells #[] 31)) w.heap.size (.slice (some ⟨w.heap.size, 0, none⟩) 0 0) 0 k qs :=
  .inr ⟨w.heap.size, 0, rfl, Nat.le_refl _, Nat.le_refl _, by unfold maxLen; omega, qs, ⟨[], Blk.new w [] _, rfl, fun i hi => absurd hi (by omega)⟩, fun _ _ => rfl⟩
theorem fv_blk {w w' : World} {g0 t n : Nat} {cs : List Value} {g : Bool} {A : Option Addr} {n' c : Nat} {D : Option Addr} {m d k : Nat} {q : Rat} (h : Fv w g A n' c D m d k q) (K : Blk w g0 cs t) (hl : cs.length = n * 3) (hc : ∀ i, i < n → ∃ (g : Bool) (A : Option Addr) (n' c : Nat) (D : Option Addr) (m d : Nat), cs[i * 3]? = some (.bool g) ∧ cs[i * 3 + 1]? = some (.slice A n' c) ∧ cs[i * 3 + 2]? = some (.slice D m d)) (hs : w.heap.size ≤ w'.heap.size) (hb : ∀ j, j < w.heap.size → j ≠ g0 → w'.heap[j]? = w.heap[j]?) : Fv w' g A n' c D m d k q := by
  have far : ∀ {B : Option Addr} {y z : Nat} {zs : List Nat}, Rd w B y z zs → Rd w' B y z zs := fun {B y z zs} r => by
    obtain ⟨r1, r2, r3, r4, r5⟩ := r
    refine ⟨r1, r2, r3, r4, fun hn => ?_⟩
    obtain ⟨e, o, hA, hlt, hcc⟩ := r5 hn
    have hne : e ≠ g0 := by
      rintro rfl
      have h6 := hcc 0 hn
      rw [Blk.cell K (o + 0)] at h6
      exact qb_plain hl hc _ _ h6
    exact ⟨e, o, hA, Nat.lt_of_lt_of_le hlt hs, fun j hj => (World.cell?_of_block (hb e hlt hne)).trans (hcc j hj)⟩
  obtain ⟨f0, f1, f2, f3, f4, f5⟩ := h
  exact ⟨f0, far f1, f2, far f3, f4, f5⟩
theorem run_append_val {w : World} {ty base : Nat} {v : Value} {n k : Nat} {qs : Nat → Rat} (hown : QOv w base v n k qs) {g0 : Nat} {g : Bool} {A : Option Addr} {n' c : Nat} {D : Option Addr} {m d : Nat} {q : Rat} (K0 : Blk w g0 [.bool g, .slice A n' c, .slice D m d] 31) (f : Fv w g A n' c D m d k q) (hn : n ≤ 1000000) (hbase : base ≤ w.heap.size) :
    ∃ v' w', (Builtin.append_ #[32, 32] ty #[v, .slice (some ⟨g0, 0, none⟩) 1 1]).run Tryz.prog w = .ok v' w' ∧ QOv w' base v' (n + 1) k (fun j => if j = n then q else qs j) ∧ w.grownBy w' v.ownBlock ∧ ∃ g1 cap, v' = .slice (some ⟨g1, 0, none⟩) (n + 1) cap := by
  obtain ⟨i, hi, hzz⟩ := Option.map_eq_some_iff.1 Tryz.infoRat
  simp only [Prod.mk.injEq] at hzz
  obtain ⟨hz, hsz, hby⟩ := hzz
  have ht : Tryz.prog.underlying 32 = some (.slice 31) := by kernel_rfl
  have hk1 : 1 ≤ k := f.one
  have hnews : ∀ j u, [Value.bool g, .slice A n' c, .slice D m d][j]? = some u → w.cell? ((⟨g0, 0, none⟩ : Addr).add j) = some u := fun j u hj => by rw [addr_add0, K0.cell]; exact hj
  have made : ∀ (w' : World) (X : List Value) (cap : Nat), X.length = n * 3 → n < cap → Below w.heap.size w w' → Blk w' w.heap.size (X ++ [.bool g, .slice A n' c, .slice D m d] ++ qzs (cap - (n + 1))) 31 → (∀ j, j < n → ∃ g A n' c D m d, X[j * 3]? = some (.bool g) ∧ X[j * 3 + 1]? = some (.slice A n' c) ∧ X[j * 3 + 2]? = some (.slice D m d) ∧ Fv w g A n' c D m d k (qs j)) → QBv w' w.heap.size cap k (fun j => if j = n then q else if j < n then qs j else 0) := fun w' X cap hX hc hb hB hq => by
    refine ⟨_, hB, by rw [List.length_append, List.length_append, hX, qzs_len]; simp; omega, fun j hj => ?_⟩
    have e0 := tri_get (Z := qzs (cap - (n + 1))) hX (Y := [Value.bool g, .slice A n' c, .slice D m d]) rfl j 0 (by omega)
    have e1 := tri_get (Z := qzs (cap - (n + 1))) hX (Y := [Value.bool g, .slice A n' c, .slice D m d]) rfl j 1 (by omega)
    have e2 := tri_get (Z := qzs (cap - (n + 1))) hX (Y := [Value.bool g, .slice A n' c, .slice D m d]) rfl j 2 (by omega)
    rw [Nat.add_zero] at e0
    by_cases h1 : j < n
    · rw [if_pos h1] at e0 e1 e2
      obtain ⟨ga, Aa, na, ca, Da, ma, da, q0, q1, q2, q3⟩ := hq j h1
      refine ⟨ga, Aa, na, ca, Da, ma, da, e0.trans q0, e1.trans q1, e2.trans q2, ?_⟩
      show Fv w' ga Aa na ca Da ma da k (if j = n then q else if j < n then qs j else 0)
      rw [if_neg (by omega), if_pos h1]
      exact q3.keep hb
    · rw [if_neg h1] at e0 e1 e2
      by_cases h2 : j = n
      · rw [if_pos h2] at e0 e1 e2
        refine ⟨g, A, n', c, D, m, d, e0, e1, e2, ?_⟩
        show Fv w' g A n' c D m d k (if j = n then q else if j < n then qs j else 0)
        rw [if_pos h2]
        exact f.keep hb
      · rw [if_neg h2] at e0 e1 e2
        have z := qzs_get (n := cap - (n + 1)) (i := j - n - 1) (by omega)
        refine ⟨false, none, 0, 0, none, 0, 0, e0.trans z.1, e1.trans z.2.1, e2.trans z.2.2, ?_⟩
        show Fv w' false none 0 0 none 0 0 k (if j = n then q else if j < n then qs j else 0)
        rw [if_neg h2, if_neg h1]
        exact Fv.zero _ hk1
  rcases hown with ⟨rfl, rfl⟩ | ⟨gb, cap, rfl, hgb, hnc, hcm, ps, ⟨cs, hB, hl, hc⟩, hp⟩
  · have hr := Go.run_append_nil (P := Tryz.prog) w 32 ty 31 i _ ht hi hz ⟨g0, 0, none⟩ 1 1 [.bool g, .slice A n' c, .slice D m d] (by rw [hsz]; rfl) hnews (by omega) (by omega) (by rw [hby]; omega)
    have hge := grownCap_ge w 1 0 31
    have hle := grownCap_le_maxLen w 1 0 31 (by unfold maxLen; omega)
    rw [show (Value.agg #[.bool false, .slice none 0 0, .slice none 0 0]).cells = #[.bool false, .slice none 0 0, .slice none 0 0] by rfl, zeroCells_rats] at hr
    obtain ⟨cp, hcp⟩ : ∃ cp, cp = grownCap w 1 0 31 := ⟨_, rfl⟩
    rw [← hcp] at hr hge hle
    have Q := made (w.drew.alloc (.cells ([Value.bool g, .slice A n' c, .slice D m d].toArray ++ (qzs (cp - 1)).toArray) 31)) [] cp rfl hge (bx_alloc (bx_drew (bx_refl w)) _) (by
      have := heap_alloc_new w.drew (.cells ([Value.bool g, .slice A n' c, .slice D m d].toArray ++ (qzs (cp - 1)).toArray) 31)
      unfold Blk
      rw [List.append_toArray] at this ⊢
      exact this) (fun j hj => absurd hj (by omega))
    exact ⟨_, _, hr, .inr ⟨_, _, rfl, hbase, hge, hle, _, Q, fun j hj => by
      show (if j = 0 then q else if j < 0 then qs j else 0) = if j = 0 then q else qs j
      rw [if_pos (by omega), if_pos (by omega)]⟩, ⟨rfl, rfl, rfl, by simp, fun j hj _ => Below.heap_alloc w.drew _ j hj⟩, _, _, rfl⟩
  · have hpl : ∀ i, i < cap → ∃ (g : Bool) (A : Option Addr) (n' c : Nat) (D : Option Addr) (m d : Nat), cs[i * 3]? = some (.bool g) ∧ cs[i * 3 + 1]? = some (.slice A n' c) ∧ cs[i * 3 + 2]? = some (.slice D m d) := fun i hi => by
      obtain ⟨g, A, n', c, D, m, d, h0, h1, h2, _⟩ := hc i hi
      exact ⟨g, A, n', c, D, m, d, h0, h1, h2⟩
    by_cases hroom : n + 1 ≤ cap
    · have hr := run_append_room (P := Tryz.prog) w 32 ty 31 i ht hi gb n cap cs.toArray hB ⟨g0, 0, none⟩ 1 1 [.bool g, .slice A n' c, .slice D m d] (by rw [hsz]; rfl) hnews (by
        intro u hu
        simp only [List.mem_cons, List.not_mem_nil, or_false] at hu
        rcases hu with rfl | rfl | rfl <;> rfl) hroom (by rw [hsz]; simp; omega)
      rw [hsz] at hr
      simp only [List.length_cons, List.length_nil] at hr
      obtain ⟨W', hW'⟩ : ∃ W', W' = w.setRow gb (cs.take (n * 3) ++ [Value.bool g, .slice A n' c, .slice D m d] ++ cs.drop (n * 3 + (0 + 1 + 1 + 1))).toArray := ⟨_, rfl⟩
      rw [← hW'] at hr
      have hsz' : W'.heap.size = w.heap.size := by rw [hW']; simp [World.setRow]
      have hoth : ∀ j, j < w.heap.size → j ≠ gb → W'.heap[j]? = w.heap[j]? := fun j _ hj => by rw [hW']; exact setRow_other w gb j _ hj
      have hB' : Blk W' gb (cs.take (n * 3) ++ [Value.bool g, .slice A n' c, .slice D m d] ++ cs.drop (n * 3 + 3)) 31 := by rw [hW']; exact setRow_heap w gb cs.toArray _ 31 _ hB
      have hX : (cs.take (n * 3)).length = n * 3 := by rw [List.length_take]; omega
      refine ⟨_, W', hr, .inr ⟨gb, cap, rfl, hgb, hroom, hcm, fun j => if j = n then q else ps j, ⟨_, hB', by rw [List.length_append, List.length_append, hX, List.length_drop]; simp; omega, fun j hj => ?_⟩, fun j hj => ?_⟩, ⟨by rw [hW']; rfl, by rw [hW']; rfl, by rw [hW']; rfl, by omega, fun j hj hne => hoth j hj (fun e => hne (by simp [Value.ownBlock, e]))⟩, _, _, rfl⟩
      · have e0 := tri_get (Z := cs.drop (n * 3 + 3)) hX (Y := [Value.bool g, .slice A n' c, .slice D m d]) rfl j 0 (by omega)
        have e1 := tri_get (Z := cs.drop (n * 3 + 3)) hX (Y := [Value.bool g, .slice A n' c, .slice D m d]) rfl j 1 (by omega)
        have e2 := tri_get (Z := cs.drop (n * 3 + 3)) hX (Y := [Value.bool g, .slice A n' c, .slice D m d]) rfl j 2 (by omega)
        rw [Nat.add_zero] at e0
        by_cases h2 : j = n
        · rw [if_neg (by omega), if_pos h2] at e0 e1 e2
          refine ⟨g, A, n', c, D, m, d, e0, e1, e2, ?_⟩
          show Fv W' g A n' c D m d k (if j = n then q else ps j)
          rw [if_pos h2]
          exact fv_blk f hB hl hpl (by omega) hoth
        · obtain ⟨ga, Aa, na, ca, Da, ma, da, q0, q1, q2, q3⟩ := hc j hj
          have old : ∀ r, r < 3 → (cs.take (n * 3) ++ [Value.bool g, .slice A n' c, .slice D m d] ++ cs.drop (n * 3 + 3))[j * 3 + r]? = cs[j * 3 + r]? := fun r hr => by
            rw [tri_get hX rfl j r hr]
            by_cases h1 : j < n
            · rw [if_pos h1, List.getElem?_take, if_pos (by omega)]
            · rw [if_neg h1, if_neg h2, List.getElem?_drop, show n * 3 + 3 + ((j - n - 1) * 3 + r) = j * 3 + r by omega]
          refine ⟨ga, Aa, na, ca, Da, ma, da, (old 0 (by omega)).trans q0, (old 1 (by omega)).trans q1, (old 2 (by omega)).trans q2, ?_⟩
          show Fv W' ga Aa na ca Da ma da k (if j = n then q else ps j)
          rw [if_neg h2]
          exact fv_blk q3 hB hl hpl (by omega) hoth
      · show (if j = n then q else ps j) = if j = n then q else qs j
        by_cases h : j = n
        · rw [if_pos h, if_pos h]
        · rw [if_neg h, if_neg h, hp j (by omega)]
    · have hncap : n = cap := by omega
      have hX : (cs.take (n * 3)).length = n * 3 := by rw [List.length_take]; omega
      have holds : ∀ j u, (cs.take (n * 3))[j]? = some u → w.cell? ((⟨gb, 0, none⟩ : Addr).add j) = some u := fun j u hj => by
        rw [addr_add0, hB.cell]
        rw [List.getElem?_take] at hj
        split at hj
        · exact hj
        · cases hj
      have hr := Go.run_append_grow (P := Tryz.prog) w 32 ty 31 i _ ht hi hz ⟨gb, 0, none⟩ n cap (cs.take (n * 3)) (by rw [hsz]; exact hX) holds ⟨g0, 0, none⟩ 1 1 [.bool g, .slice A n' c, .slice D m d] (by rw [hsz]; rfl) hnews (by omega) (by omega) (by rw [hby]; exact growslice_fits (by omega) (by omega))
      have hge := grownCap_ge w (n + 1) cap 31
      have hle := grownCap_le_maxLen w (n + 1) cap 31 (by unfold maxLen; omega)
      rw [show (Value.agg #[.bool false, .slice none 0 0, .slice none 0 0]).cells = #[.bool false, .slice none 0 0, .slice none 0 0] by rfl, zeroCells_rats] at hr
      obtain ⟨cp, hcp⟩ : ∃ cp, cp = grownCap w (n + 1) cap 31 := ⟨_, rfl⟩
      rw [← hcp] at hr hge hle
      have Q := made (w.drew.alloc (.cells ((cs.take (n * 3)).toArray ++ [Value.bool g, .slice A n' c, .slice D m d].toArray ++ (qzs (cp - (n + 1))).toArray) 31)) (cs.take (n * 3)) cp hX hge (bx_alloc (bx_drew (bx_refl w)) _) (by
        have := heap_alloc_new w.drew (.cells ((cs.take (n * 3)).toArray ++ [Value.bool g, .slice A n' c, .slice D m d].toArray ++ (qzs (cp - (n + 1))).toArray) 31)
        unfold Blk
        simp only [List.append_toArray] at this ⊢
        exact this) (fun j hj => by
        obtain ⟨ga, Aa, na, ca, Da, ma, da, q0, q1, q2, q3⟩ := hc j (by omega)
        refine ⟨ga, Aa, na, ca, Da, ma, da, ?_, ?_, ?_, by rw [← hp j hj]; exact q3⟩
        · rw [List.getElem?_take, if_pos (by omega)]; exact q0
        · rw [List.getElem?_take, if_pos (by omega)]; exact q1
        · rw [List.getElem?_take, if_pos (by omega)]; exact q2)
      exact ⟨_, _, hr, .inr ⟨_, _, rfl, hbase, hge, hle, _, Q, fun j hj => by
        show (if j = n then q else if j < n then qs j else 0) = if j = n then q else qs j
        by_cases h : j = n
        · rw [if_pos h, if_pos h]
        · rw [if_neg h, if_neg h, if_pos (by omega)]⟩, ⟨rfl, rfl, rfl, by simp, fun j hj _ => Below.heap_alloc w.drew _ j hj⟩, _, _, rfl⟩
theorem QOv.congr {w : World} {base : Nat} {v : Value} {n k : Nat} {qs ps : Nat → Rat} (h : QOv w base v n k qs) (e : ∀ i, i < n → qs i = ps i) : QOv w base v n k ps := by
  rcases h with h | ⟨g, cap, h1, h2, h3, h4, rs, h5, h6⟩
  · exact .inl h
  · exact .inr ⟨g, cap, h1, h2, h3, h4, rs, h5, fun i hi => (h6 i hi).trans (e i hi)⟩
theorem wpList_append_val {w : World} {ops : Array Oper} {rest : List Oper} {o : Oper} {a : Act} {Q : Exit → Act → World → Prop} (hgd : o.guard = none) (s x : Operand) (ho : o.op = .call { callee := .builtin .append, args := #[s, x], argTypes := #[32, 32] })
    (base : Nat) (v : Value) (n k : Nat) (qs : Nat → Rat) (hs : a.eval s = v) (hown : QOv w base v n k qs) (g0 : Nat) (hx : a.eval x = .slice (some ⟨g0, 0, none⟩) 1 1) {g : Bool} {A : Option Addr} {n' c : Nat} {D : Option Addr} {m d : Nat} {q : Rat} (K0 : Blk w g0 [.bool g, .slice A n' c, .slice D m d] 31) (f : Fv w g A n' c D m d k q) (hn : n ≤ 1000000) (hbase : base ≤ w.heap.size)
    (h : ∀ w' g1 cap, QOv w' base (.slice (some ⟨g1, 0, none⟩) (n + 1) cap) (n + 1) k (fun j => if j = n then q else qs j) → w.grownBy w' v.ownBlock → wpList Tryz.prog ops Q rest (a.put o.dst (.slice (some ⟨g1, 0, none⟩) (n + 1) cap)) w') : wpList Tryz.prog ops Q (o :: rest) a w := by
  refine wpList_plain hgd fun K hK => ?_
  obtain ⟨v', w', hr, h2, h3, g1, cap, rfl⟩ := run_append_val (ty := o.type) hown K0 f hn hbase
  unfold Oper.wp execOp
  simp only [ho, resolve, invoke, builtin, Sem.run_bind, Sem.run_pure, Result.andThen_ok, List.map_toArray, List.map_cons, List.map_nil, hs, hx, hr]
  exact hK _ _ (h w' g1 cap h2 h3)
def RetQv (w : World) (n k : Nat) (qs : Nat → Rat) (e : Ending) (w' : World) : Prop := ∃ A c, e = .returned (.slice A n c) ∧ QOv w' w.heap.size (.slice A n c) n k qs ∧ Below w.heap.size w w'
structure PVn (w : World) (u : Value) (n k : Nat) (qs : Nat → Rat) (W : World) : Prop where
  bel : Below w.heap.size w W
  own : QOv W w.heap.size u n k qs
theorem PVn.keep {w W W' : World} {u : Value} {n k : Nat} {qs : Nat → Rat} (h : PVn w u n k qs W) (b : Below W.heap.size W W') : PVn w u n k qs W' := ⟨bx_call h.bel b, h.own.keep b⟩
theorem PVn.grow {w W W' : World} {u u' : Value} {n m k : Nat} {qs ps : Nat → Rat} (h : PVn w u n k qs W) (ho : QOv W' w.heap.size u' m k ps) (hg : W.grownBy W' u.ownBlock) : PVn w u' m k ps W' := by
  have hlt := h.own.lt
  have hs := h.bel.size
  refine ⟨⟨hg.os.trans h.bel.os, hg.tape.trans h.bel.tape, hg.output.trans h.bel.output, Nat.le_trans h.bel.size hg.size, fun j hj => ?_⟩, ho⟩
  rw [hg.block j (by omega) (fun e => by have := (hlt j e.symm).1; omega)]
  exact h.bel.block j hj
set_option maxHeartbeats 4000000 in
theorem rfixed (A : Option Addr) (n c k : Nat) (qs : Nat → Rat) (w : World) (hI : Qs w A n c k qs) (hn : n ≤ 1000) (hk : k ≤ 274877906943) :
    Calls Tryz.prog 26 #[.slice A n c] w (RetQv w n k qs) := by
  have h1 := hI.1
  have h2 := hI.2.1
  have ST := hid (show PVn w (.slice (some ⟨w.heap.size, 0, none⟩) 0 0) 0 k qs (w.alloc (.cells #[] 31)) from ⟨bx_alloc (bx_refl w) _, QOv.start w k _⟩)
  have HI := hid hI
  clear hI
  go_enter Tryz.func26, Tryz.ntmps26
  go_wp2_with fail
  go_loopw [3, 4] (fun u i wr => ∃ j : Nat, j ≤ n ∧ i = .int .i64 j ∧ (∃ A0 c0, u = .slice A0 j c0) ∧ Hid (PVn w u j k qs wr)) (fun _ i _ => n - (intOf i).toNat)
  case atStart => exact ⟨0, Nat.zero_le _, rfl, ⟨_, _, rfl⟩, ST⟩
  case round =>
    clear ST
    obtain ⟨j, hj, rfl, ⟨A0, c0, rfl⟩, hz⟩ := hrel
    rcases Nat.lt_or_ge j n with hlt | hge
    · obtain ⟨b, o, rfl, hb, hcell⟩ := HI.out.2.2.2 (by omega)
      obtain ⟨ge, Ae, ne, ce, De, me, de, e0, e1, e2, fe⟩ := hcell j hlt
      have x0 := cell_bx e0 hz.out.bel
      have x1 := cell_bx e1 hz.out.bel
      have x2 := cell_bx e2 hz.out.bel
      have NX := hid (fun (w' : World) (g1 cap : Nat) (W : World) (B : Below wr.heap.size wr W) (q : QOv w' w.heap.size (.slice (some ⟨g1, 0, none⟩) (j + 1) cap) (j + 1) k (fun i => if i = j then qs j else qs i)) (hg : W.grownBy w' (Value.slice A0 j c0).ownBlock) => (show PVn w (.slice (some ⟨g1, 0, none⟩) (j + 1) cap) (j + 1) k qs w' from (hz.out.keep B).grow (q.congr fun i hi => by
        show (if i = j then qs j else qs i) = qs i
        by_cases e : i = j
        · rw [if_pos e, e]
        · rw [if_neg e]) hg))
      have FR := hid (vrfix ge Ae ne ce De me de k (qs j) wr (fe.keep hz.out.bel) hk)
      obtain ⟨z, hzz⟩ : ∃ z, z = qs j := ⟨_, rfl⟩
      rw [← hzz] at FR NX
      have OW := hid (fun (W : World) (B : Below wr.heap.size wr W) => (hz.out.keep B).own)
      have LE := hid hz.out.bel.size
      clear hz HI hcell hzz e0 e1 e2 fe
      go_wp2_with fail
      refine (FR.out).mono ?_
      rintro e w1 ⟨A1, n1, c1, D1, m1, d1, rfl, r, b1⟩
      obtain ⟨gg, hgg⟩ : ∃ g, g = sg z.num := ⟨_, rfl⟩
      rw [← hgg]
      have KN := hid (Blk.new w1 [.bool gg, .slice A1 n1 c1, .slice D1 m1 d1] 31)
      have BN := hid (bx_alloc b1 (.cells #[.bool gg, .slice A1 n1 c1, .slice D1 m1 d1] 31))
      have FV := hid (show Fv (w1.alloc (.cells #[.bool gg, .slice A1 n1 c1, .slice D1 m1 d1] 31)) gg A1 n1 c1 D1 m1 d1 k z from ⟨hgg, r.keep (bx_alloc (bx_refl w1) (.cells #[.bool gg, .slice A1 n1 c1, .slice D1 m1 d1] 31))⟩)
      have OV := hid (OW.out _ BN.out)
      have LV := hid (Nat.le_trans LE.out BN.out.size)
      have NV := hid (fun (w' : World) (g1 cap : Nat) q hg => NX.out w' g1 cap _ BN.out q hg)
      have hn9 : j ≤ 1000000 := by omega
      clear r b1 hgg FR OW LE NX BN x0 x1 x2
      go_wp2_with (at_builtin; refine wpList_append_val rfl (.tmp 12) (.tmp 18) rfl w.heap.size (.slice A0 j c0) j k _ rfl OV.out w1.heap.size rfl KN.out FV.out hn9 LV.out ?_; intro w2 g1 cap q hg; have ZZ := hid (NV.out w2 g1 cap q hg); clear q hg)
      clear KN FV OV LV NV
      go_roundw
      case rel => exact ⟨j + 1, by omega, by go_num, ⟨_, _, rfl⟩, ZZ⟩
      case measure => simp [intOf]; omega
    · obtain rfl : j = n := by omega
      have YY := hid (show RetQv w j k qs (.returned (.slice A0 j c0)) wr from ⟨A0, c0, rfl, hz.out.own, hz.out.bel⟩)
      clear hz HI
      go_wp2_with fail
      go_ret
      exact YY.out
set_option maxHeartbeats 4000000 in
theorem rvalid_v (g : Bool) (A : Option Addr) (n c : Nat) (D : Option Addr) (m d k : Nat) (q : Rat) (w : World) (h : Fv w g A n c D m d k q) (hk : k ≤ 274877906943) :
    Calls Tryz.prog 54 #[.agg #[.bool g, .slice A n c, .slice D m d]] w (RetB w true) := by
  obtain ⟨W0, hW⟩ : ∃ W, W = w.alloc (.cells #[.bool g, .slice A n c, .slice D m d] 31) := ⟨_, rfl⟩
  have B0 := bx_alloc (bx_refl w) (.cells #[.bool g, .slice A n c, .slice D m d] 31)
  have K0 := Blk.new w [.bool g, .slice A n c, .slice D m d] 31
  change Blk (w.alloc (.cells #[.bool g, .slice A n c, .slice D m d] 31)) _ _ _ at K0
  rw [← hW] at B0 K0
  have HF := hid (h.2.keep B0)
  have hg := h.1
  have KB := hid K0
  have BB := hid B0
  clear h B0 K0
  subst hg
  have FX := hid (fun (W : World) (L : FrL W A n c D m d k q) => vrfix (sg q.num) A n c D m d k q W L.v hk)
  obtain ⟨gg, hgg⟩ : ∃ g, g = sg q.num := ⟨_, rfl⟩
  have SM := hid (fun (W : World) (L : FrL W A n c D m d k q) (A1 : Option Addr) (n1 c1 : Nat) (D1 : Option Addr) (m1 d1 : Nat) (M : FrL W A1 n1 c1 D1 m1 d1 k q) => vsame_refl L M)
  rw [← hgg] at SM FX KB hW ⊢
  have HG := hid hgg
  clear hgg
  go_enter Tryz.func54, Tryz.ntmps54
  go_upto_region 1 with fail
  rw [← hW]
  clear hW
  (try simp only [List.append_eq, List.cons_append, List.nil_append])
  refine wp_region_noPanic ?_
  refine wp_region_held_drew (S := (fun W => W.cell? ⟨w.heap.size, 0, none⟩ = some (.bool gg) ∧ W.cell? ⟨w.heap.size, 1, none⟩ = some (.slice A n c) ∧ W.cell? ⟨w.heap.size, 2, none⟩ = some (.slice D m d))) (by kernel_rfl) ?_ (fun hH => ?_)
  exact (blk_three KB.out)
  have bd := bx_drew (bx_refl W0)
  obtain ⟨E0, hW0⟩ : ∃ W, W = W0.drew := ⟨_, rfl⟩
  rw [← hW0] at bd hH ⊢
  clear hW0
  have K1 := hid (KB.out.keep bd)
  have F1 := hid (HF.out.keep bd)
  have B1 := hid (bx_call BB.out bd)
  clear bd KB HF BB
  refine tk 0 hH ?_
  (try simp only [Act.put, gy0, gy1, gy2])
  refine tk 1 hH ?_
  (try simp only [Act.put, gy0, gy1, gy2])
  refine wpAnyH_ready (rs := [2]) (by kernel_rfl) (by simp) ?_
  refine rdy (fun K hK => ?_) AllReadyH.nil
  go_simp
  refine (FX.out _ F1.out).mono ?_
  rintro e v2 ⟨A1, n1, c1, D1, m1, d1, rfl, r, b⟩
  have K2 := hid (K1.out.keep b)
  have F2 := hid (F1.out.keep b)
  have B2 := hid (bx_call B1.out b)
  have R2 := hid r
  rw [← HG.out]
  clear r b hH K1 F1 B1
  (try go_wp2_with fail)
  refine hK.out _ _ ?_ (fun hH => ?_)
  exact (blk_three K2.out)
  clear hK K
  (try simp only [Act.put, gy0, gy1, gy2])
  refine wpAnyH_ready (rs := [3]) (by kernel_rfl) (by simp) ?_
  refine rdy (fun K hK => ?_) AllReadyH.nil
  go_simp
  refine (SM.out _ F2.out A1 n1 c1 D1 m1 d1 R2.out).mono ?_
  rintro e v3 ⟨rfl, b⟩
  have K3 := hid (K2.out.keep b)
  have B3 := hid (bx_call B2.out b)
  clear b hH K2 F2 B2 R2
  (try go_wp2_with fail)
  refine hK.out _ _ ?_ (fun hH => ?_)
  exact (blk_three K3.out)
  clear hK K
  (try simp only [Act.put, gy0, gy1, gy2])
  refine tk 4 hH ?_
  (try simp only [Act.put, gy0, gy1, gy2])
  refine wpAnyH_done (by kernel_rfl) ?_ _
  refine NoPanic.normal ?_
  clear hH
  have HP := hid (vld_yes rfl B3.out : RetB w true (.returned (.bool true)) _)
  clear K3 B3 FX SM
  go_wp2_with fail
  go_ret
  exact HP.out
set_option maxHeartbeats 4000000 in
theorem rvalid5 (A : Option Addr) (n c k : Nat) (qs : Nat → Rat) (a : Nat) (w : World) (hI : Qv w A n c k qs) (hk : k ≤ 274877906943) :
    Calls Tryz.prog 55 #[.slice A n c, .int .i64 (a : Int)] w (RetB w (decide (n = a))) := by
  have h1 := hI.1
  have h2 := hI.2.1
  have ST := hid (bx_refl w)
  obtain ⟨r, hr⟩ : ∃ r, r = decide (n = a) := ⟨_, rfl⟩
  rw [← hr]
  have er := hid hr
  have HI := hid hI
  clear hI hr
  go_enter Tryz.func55, Tryz.ntmps55
  go_wp2_with fail
  go_loopw [5] (fun i wr => ∃ j : Nat, j ≤ n ∧ i = .int .i64 j ∧ Hid (Below w.heap.size w wr)) (fun i _ => n - (intOf i).toNat)
  case atStart => exact ⟨0, Nat.zero_le _, rfl, ST⟩
  case round =>
    clear ST
    obtain ⟨j, hj, rfl, hz⟩ := hrel
    rcases Nat.lt_or_ge j n with hlt | hge
    · obtain ⟨b, o, rfl, hb, hcell⟩ := HI.out.2.2.2 (by omega)
      obtain ⟨ge, Ae, ne, ce, De, me, de, e0, e1, e2, fe⟩ := hcell j hlt
      have x0 := cell_bx e0 hz.out
      have x1 := cell_bx e1 hz.out
      have x2 := cell_bx e2 hz.out
      have VA := hid (rvalid_v ge Ae ne ce De me de k (qs j) wr (fe.keep hz.out) hk)
      clear hcell e0 e1 e2 fe HI er
      go_wp2_with fail
      refine (VA.out).mono ?_
      rintro e w1 ⟨rfl, b1⟩
      have ZZ := hid (bx_call hz.out b1)
      clear VA b1 hz x0 x1 x2
      go_wp2_with fail
      go_roundw
      case rel => exact ⟨j + 1, by omega, by go_num, ZZ⟩
      case measure => simp [intOf]; omega
    · obtain rfl : j = n := by omega
      by_cases e : j = a
      · have t1 : ((j : Int) == (a : Int)) = true := beq_iff_eq.2 (by omega)
        have EE := hid (vld_yes (by rw [er.out, decide_eq_true e] : r = true) hz.out)
        subst e
        clear HI er hz
        go_wp2_with fail
        go_ret
        exact EE.out
      · have t1 : ((j : Int) == (a : Int)) = false := beq_eq_false_iff_ne.2 (by omega)
        have t2 : decide ((j : Int) = (a : Int)) = false := decide_eq_false (by omega)
        have t3 : decide (j = a) = false := decide_eq_false e
        have EE := hid (vld_no (by rw [er.out, decide_eq_false e] : r = false) hz.out)
        have E0 := hid e
        clear HI er hz e
        go_wp2_with fail
        go_ret
        exact EE.out
section
variable {P : Program} {md : Region.Mode} {ops : Array Oper} {Q : Exit → Act → World → Prop} {S : World → Prop} {t : Nat}
def Till (P : Program) (md : Region.Mode) (ops : Array Oper) (Q : Exit → Act → World → Prop) (S : World → Prop) (t : Nat) : Nat → Array Bool → Act → World → Prop
  | 0, l, a, w => Region.ready md ops l = [] ∧ Q .normal a w
  | n + 1, l, a, w => (Region.ready md ops l = [] → Q .normal a w) ∧ ∀ i, i ∈ Region.ready md ops l → wpOp P ops Q i (fun a' w' => ((l.setIfInBounds i true).getD t true = false → S w') ∧ Till P md ops Q S t n (l.setIfInBounds i true) a' w') a w
theorem till_any : ∀ (n : Nat) (l : Array Bool) (a : Act) (w : World), Till P md ops Q S t n l a w → wpAny P md ops Q n l a w
  | 0, _, _, _, h => h
  | n + 1, _, _, _, h => ⟨h.1, fun i hi => wpOp_mono (fun a' w' h' => till_any n _ a' w' h'.2) (h.2 i hi)⟩
theorem till_first {i : Nat} {oi ot : Oper} {v : Value} (hi : ops[i]? = some oi) (hsel : Region.noSelect ops = true) (ht : ops[t]? = some ot) (hwait : (ot.after.any fun e => Region.binds md e && e.on == i) = true)
    (hQ : ∀ c a w, Q (.panic c) (a.put oi.dst v) w → Q (.panic c) a w) :
    ∀ (n : Nat) (l : Array Bool) (a : Act) (w : World), (∀ j oj, ops[j]? = some oj → j ≠ i → l.getD j true = false → (∀ e ∈ oj.after, Region.binds md e = true → e.on ≠ i) → oi.apart ops oj = true) →
      l.getD t true = false → i ∈ Region.ready md ops l → YieldsIf P ops S oi v a → S w → Till P md ops Q S t n (l.setIfInBounds i true) (a.put oi.dst v) w → Till P md ops Q S t (n + 1) l a w := by
  intro n
  induction n with
  | zero =>
    intro l a w _ ht0 hr hy hS H
    refine ⟨fun h => (by rw [h] at hr; cases hr), fun j hj => ?_⟩
    by_cases e : j = i
    · subst e
      exact hy.wpOp hi hS ⟨fun _ => hS, H⟩
    · have := ready_mono hj e
      rw [H.1] at this
      cases this
  | succ n ih =>
    intro l a w hfree ht0 hr hy hS H
    refine ⟨fun h => (by rw [h] at hr; cases hr), fun j hj => ?_⟩
    by_cases e : j = i
    · subst e
      exact hy.wpOp hi hS ⟨fun _ => hS, H⟩
    · have h1 := H.2 j (ready_mono hj e)
      obtain ⟨hjun, oj, hoj, hall⟩ := mem_ready.1 hj
      have h0 := (mem_ready.1 hr).1
      have hil : l.getD i false = false := by
        rcases Nat.lt_or_ge i l.size with h' | h'
        · simp [h'] at h0 ⊢
          exact h0
        · simp [Array.getElem?_eq_none h'] at h0
      have hti : t ≠ i := by
        rintro rfl
        obtain ⟨e, he, h2⟩ := Array.any_eq_true'.1 hwait
        rw [Bool.and_eq_true] at h2
        obtain ⟨_, o, ho, hall'⟩ := mem_ready.1 hr
        rw [ht, Option.some.injEq] at ho
        subst ho
        have h3 := hall' e he h2.1
        rw [show e.on = t by simpa using h2.2, hil] at h3
        cases h3
      have hno : ∀ e ∈ oj.after, Region.binds md e = true → e.on ≠ i := fun e he hb heq => by
        have h1 := hall e he hb
        rw [heq, hil] at h1
        cases h1
      have hjt : j ≠ t := by
        rintro rfl
        rw [ht, Option.some.injEq] at hoj
        subst hoj
        obtain ⟨e, he, h2⟩ := Array.any_eq_true'.1 hwait
        rw [Bool.and_eq_true] at h2
        exact hno e he h2.1 (by simpa using h2.2)
      have h2 := wpOp_putIf hoj (hfree j oj hoj e hjun hno) (fun cs b => Region.noSelect_spec hsel i oi cs b hi) (fun cs b => Region.noSelect_spec hsel j oj cs b hoj) hQ hy h1
      have tj : (l.setIfInBounds j true).getD t true = false := by rw [getD_set_ne true hjt]; exact ht0
      refine wpOp_mono (fun a' w' h3 => ?_) h2
      have hs' : S w' := h3.2.1 (by rw [getD_set_ne true hjt, getD_set_ne true (Ne.symm hti)]; exact ht0)
      refine ⟨fun _ => hs', ih (l.setIfInBounds j true) a' w' (fun k ok hk hki hun hn => hfree k ok hk hki (by
        by_cases hjk : j = k
        · subst hjk
          exact hjun
        · rw [getD_set_ne true hjk] at hun
          exact hun) hn) tj (ready_mono hr (Ne.symm e)) h3.1 hs' ?_⟩
      rw [Array.setIfInBounds_comm _ _ e]
      exact h3.2.2
theorem ltk (i : Nat) {oi ot : Oper} {v : Value} {fuel : Nat} {l : Array Bool} {a : Act} {w : World} (hS : S w) (h : Till P md ops Q S t fuel (l.setIfInBounds i true) (a.put oi.dst v) w)
    (hi : ops[i]? = some oi := by (simp only [gx0, gx1, gx2]; rfl)) (ht : ops[t]? = some ot := by (simp only [gx0, gx1, gx2]; rfl)) (hs : Region.noSelect ops = true := by kernel_rfl) (hf : Region.free md ops l i = true := by kernel_rfl) (hr : (Region.ready md ops l).contains i = true := by kernel_rfl)
    (hwait : (ot.after.any fun e => Region.binds md e && e.on == i) = true := by kernel_rfl) (ht0 : l.getD t true = false := by kernel_rfl)
    (hQ : ∀ c a w, Q (.panic c) (a.put oi.dst v) w → Q (.panic c) a w := by exact fun _ _ _ h => h) (hw : Region.wanted oi (yielded ops a.tmps) = true := by rfl)
    (hy : ∀ w, S w → (execOp a.eval oi).run P w = .ok (.value v) w := by (intro w hSw; (try dsimp only at hSw); first | (go_simp; done) | (go_simp; with_reducible rfl) | (go_simp; decide))) : Till P md ops Q S t (fuel + 1) l a w :=
  till_first hi hs ht hwait hQ fuel l a w (Region.free_spec hi hf) ht0 (by simpa using hr) (.inl ⟨hw, hy⟩) hS h
theorem lone (i : Nat) {o : Oper} {fuel : Nat} {l : Array Bool} {a : Act} {w : World}
    (h : ∀ K' : Act → World → Prop, Shut (∀ a w, ((l.setIfInBounds i true).getD t true = false → S w) → Till P md ops Q S t fuel (l.setIfInBounds i true) a w → K' a w) → if Region.wanted o (yielded ops a.tmps) = true then Oper.wp P o a w K' Q else K' (a.put o.dst undef) w)
    (hr : Region.ready md ops l = [i] := by kernel_rfl) (ho : ops[i]? = some o := by (simp only [gx0, gx1, gx2]; rfl)) : Till P md ops Q S t (fuel + 1) l a w := by
  refine ⟨fun h0 => (by rw [hr] at h0; cases h0), fun j hj => ?_⟩
  rw [hr, List.mem_singleton] at hj
  subst hj
  exact wpOp_step ho (fun K' hK => h K' (fun a w h1 h2 => hK a w ⟨h1, h2⟩))
theorem ldone {l : Array Bool} {a : Act} {w : World} (h : Q .normal a w) (hr : Region.ready md ops l = [] := by kernel_rfl) : ∀ n, Till P md ops Q S t n l a w
  | 0 => ⟨hr, h⟩
  | _ + 1 => ⟨fun _ => h, by rw [hr]; simp⟩
theorem lbegin {id : Nat} {a : Act} {w : World} (hm : P.follows .mixedOrders = true) (hS : S w.drew)
    (h : S w.drew → Till P .any ops Q S t ops.size (Array.replicate ops.size false) a w.drew) : (Code.region id ops true).wp P Q a w :=
  wp_region_any hm (till_any _ _ _ _ (h hS))
end
end Go.Proofs.YthbogaindaflpaaGreat
