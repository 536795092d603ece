/- LinC: Wd1, QB, Val1, Val2, Col0, Col1, Cmb1, Vio in one text. -/
import Derived.Test.YtdbccidlnhjfhaaGreatDoorLinB
import Derived.Test.YtdbccidlnhjfhaaGreatDoorLinA
import Derived.Deep.DeepCutAuto
import Derived.BigQuiet
import Derived.Maps.AppendAt
import Derived.OwnWalk
namespace Go.Proofs.YtdbccidlnhjfhaaGreatDoor
open Go.RowKit
set_option maxRecDepth 100000
def rowV (vn : Nat) (tn : Nat) (v cf : Nat → Int) (x : Nat → Rat) : Rat := sumN (fun t => (cf t : Rat) * atQ vn x (v t)) tn
def rowC (v cf : Nat → Int) (i j : Nat) : Nat → List (Int × Int)
  | 0 => []
  | t + 1 => rowC v cf i j t ++ (if v t = (j : Int) then [((i : Int), cf t)] else [])
def QB (w : World) (b n k : Nat) (qs : Nat → Rat) : Prop := ∃ cs : List Value, Blk w b cs 41 ∧ cs.length = n * 3 ∧ ∀ i, i < n → ∃ g A n' c D m d, cs[i * 3]? = some (.bool g) ∧ cs[i * 3 + 1]? = some (.slice A n' c) ∧ cs[i * 3 + 2]? = some (.slice D m d) ∧ FrV w g A n' c D m d k (qs i)
theorem QB.keep {w w' : World} {b n k : Nat} {qs : Nat → Rat} (h : QB w b n k qs) (hb : Below w.heap.size w w') : QB w' b n k qs := by
  obtain ⟨cs, hB, hl, hc⟩ := h
  refine ⟨cs, hB.keep hb, hl, fun i hi => ?_⟩
  obtain ⟨g, A, n', c, D, m, d, h0, h1, h2, h3⟩ := hc i hi
  exact ⟨g, A, n', c, D, m, d, h0, h1, h2, h3.keep hb⟩
theorem QB.lt {w : World} {b n k : Nat} {qs : Nat → Rat} (h : QB w b n k qs) : b < w.heap.size := by
  obtain ⟨cs, hB, _⟩ := h
  exact hB.lt
theorem QB.get {w : World} {b n k : Nat} {qs : Nat → Rat} (h : QB w b n k qs) {i : Nat} (hi : i < n) : ∃ g A n' c D m d, w.cell? ⟨b, i * 3, none⟩ = some (.bool g) ∧ w.cell? ⟨b, i * 3 + 1, none⟩ = some (.slice A n' c) ∧ w.cell? ⟨b, i * 3 + 2, none⟩ = some (.slice D m d) ∧ FrV w g A n' c D m d k (qs i) := by
  obtain ⟨cs, hB, hl, hc⟩ := h
  obtain ⟨g, A, n', c, D, m, d, h0, h1, h2, h3⟩ := hc i hi
  exact ⟨g, A, n', c, D, m, d, by rw [hB.cell]; exact h0, by rw [hB.cell]; exact h1, by rw [hB.cell]; exact h2, h3⟩
theorem QB.qs {w : World} {b n k : Nat} {qs : Nat → Rat} (h : QB w b n k qs) (hn : n ≤ 9223372036854775807) (hk : 1 ≤ k) : Qs w (some ⟨b, 0, none⟩) n n k qs := by
  refine ⟨Nat.le_refl _, hn, hk, fun _ => ⟨b, 0, rfl, h.lt, fun j hj => ?_⟩⟩
  obtain ⟨g, A, n', c, D, m, d, h0, h1, h2, h3⟩ := h.get hj
  exact ⟨g, A, n', c, D, m, d, by rw [Nat.zero_add]; exact h0, by rw [Nat.zero_add]; exact h1, by rw [Nat.zero_add]; exact h2, h3⟩
theorem qb_plain {n : Nat} {cs : List Value} (hl : cs.length = n * 3) (hc : ∀ i, i < n → ∃ (g : Bool) (A : Option Addr) (n' c : Nat) (D : Option Addr) (m d : Nat), cs[i * 3]? = some (.bool g) ∧ cs[i * 3 + 1]? = some (.slice A n' c) ∧ cs[i * 3 + 2]? = some (.slice D m d)) : ∀ (j x : Nat), cs[j]? ≠ some (.int .u32 (x : Int)) := by
  intro j x e
  have hj : j < cs.length := by
    rcases Nat.lt_or_ge j cs.length with h1 | h1
    · exact h1
    · rw [List.getElem?_eq_none h1] at e; cases e
  obtain ⟨g, A, n', c, D, m, d, h0, h1, h2⟩ := hc (j / 3) (by omega)
  have : j = j / 3 * 3 ∨ j = j / 3 * 3 + 1 ∨ j = j / 3 * 3 + 2 := by omega
  rcases this with h | h | h
  · rw [← h, e] at h0; cases h0
  · rw [← h, e] at h1; cases h1
  · rw [← h, e] at h2; cases h2
def qzs : Nat → List Value
  | 0 => []
  | n + 1 => .bool false :: .slice none 0 0 :: .slice none 0 0 :: qzs n
theorem qzs_len (n : Nat) : (qzs n).length = n * 3 := by
  induction n with
  | zero => rfl
  | succ n ih => show (qzs n).length + 1 + 1 + 1 = _; rw [ih]; omega
theorem qzs_get {n i : Nat} (h : i < n) : (qzs n)[i * 3]? = some (.bool false) ∧ (qzs n)[i * 3 + 1]? = some (.slice none 0 0) ∧ (qzs n)[i * 3 + 2]? = some (.slice none 0 0) := by
  induction n generalizing i with
  | zero => omega
  | succ n ih =>
    rcases i with _ | i
    · exact ⟨rfl, rfl, rfl⟩
    · have := ih (i := i) (by omega)
      rw [Nat.succ_mul]
      exact this
theorem madeCells_rats (n : Nat) : madeCells #[.bool false, .slice none 0 0, .slice none 0 0] (n * 3) = (qzs n).toArray := by
  apply Array.ext
  · simp [size_madeCells, qzs_len]
  · intro i h1 h2
    have hn : i < n * 3 := by simpa [size_madeCells] using h1
    have e := qzs_get (n := n) (i := i / 3) (by omega)
    have hi : i < (qzs n).length := by rw [qzs_len]; exact hn
    have : i = i / 3 * 3 ∨ i = i / 3 * 3 + 1 ∨ i = i / 3 * 3 + 2 := by omega
    have key : (qzs n)[i]? = some ((madeCells #[.bool false, .slice none 0 0, .slice none 0 0] (n * 3))[i]) := by
      rcases this with h | h | h
      · have e0 := e.1
        rw [← h] at e0
        rw [e0]
        have : i % 3 = 0 := by omega
        simp [madeCells, this]
      · have e0 := e.2.1
        rw [← h] at e0
        rw [e0]
        have : i % 3 = 1 := by omega
        simp [madeCells, this]
      · have e0 := e.2.2
        rw [← h] at e0
        rw [e0]
        have : i % 3 = 2 := by omega
        simp [madeCells, this]
    rw [List.getElem?_eq_getElem hi] at key
    injection key with key
    rw [← key]
    simp
theorem Tryz.infoRat : (Tryz.prog.info? 41).map (fun i => (i.zero, i.size, i.bytes)) = some (some (.agg #[.bool false, .slice none 0 0, .slice none 0 0]), 3, 56) := by kernel_rfl
def inR (z : Int) : Prop := -1099511627776 ≤ z ∧ z ≤ 1099511627776
instance (z : Int) : Decidable (inR z) := by unfold inR; infer_instance
set_option maxHeartbeats 2000000 in
theorem vinrange (b n : Nat) (z : Nat → Int) (w : World) (hn : n ≤ 9223372036854775807) (hc : ∀ j, j < n → w.cell? ⟨b, j, none⟩ = some (.int .i64 (z j))) :
    Calls Tryz.prog 55 #[.slice (some ⟨b, 0, none⟩) n n] w (RetB w (decide (∀ j, j < n → inR (z j)))) := by
  have HC := hid hc
  clear hc
  go_enter Tryz.func55, Tryz.ntmps55
  go_wp2_with fail
  go_loopw [7] (fun i wr => ∃ j : Nat, j ≤ n ∧ i = .int .i64 j ∧ Hid ((∀ i, i < j → inR (z i)) ∧ Below w.heap.size w wr)) (fun i _ => n - (intOf i).toNat)
  case atStart => exact ⟨0, Nat.zero_le _, rfl, hid ⟨fun i hi => absurd hi (by omega), bx_refl w⟩⟩
  case round =>
    obtain ⟨j, hj, rfl, hz⟩ := hrel
    rcases Nat.lt_or_ge j n with hlt | hge
    · have x0 := HC.out j hlt
      have x1 : wr.cell? ⟨b, j, none⟩ = some (.int .i64 (z j)) := cell_bx x0 hz.out.2
      have NO := hid (fun (h : ¬inR (z j)) => (⟨by rw [decide_eq_false fun g => h (g j hlt)], hz.out.2⟩ : RetB w (decide (∀ j, j < n → inR (z j))) (.returned (.bool false)) wr))
      have YE := hid (fun (h : inR (z j)) => (⟨fun i hi => by
        rcases Nat.lt_or_ge i j with h1 | h1
        · exact hz.out.1 i h1
        · obtain rfl : i = j := by omega
          exact h, hz.out.2⟩ : (∀ i, i < j + 1 → inR (z i)) ∧ Below w.heap.size w wr))
      obtain ⟨y, hy⟩ : ∃ y, y = z j := ⟨_, rfl⟩
      have NY := hid (fun (h : ¬inR y) => NO.out (by rw [← hy]; exact h))
      have YY := hid (fun (h : inR y) => YE.out (by rw [← hy]; exact h))
      rw [← hy] at x1
      clear x0 HC hz NO YE hy
      by_cases h1 : y < -1099511627776
      · have t1 : decide (y < -1099511627776) = true := decide_eq_true h1
        have NN := hid (NY.out (fun h => by unfold inR at h; omega))
        clear NY YY
        go_wp2_with fail
        go_ret
        exact NN.out
      · have t1 : decide (y < -1099511627776) = false := decide_eq_false h1
        by_cases h2 : 1099511627776 < y
        · have t2 : decide (1099511627776 < y) = true := decide_eq_true h2
          have NN := hid (NY.out (fun h => by unfold inR at h; omega))
          clear NY YY
          go_wp2_with fail
          go_ret
          exact NN.out
        · have t2 : decide (1099511627776 < y) = false := decide_eq_false h2
          have ZZ := hid (YY.out (by unfold inR; omega))
          clear NY YY
          go_wp2_with fail
          go_roundw
          case rel => exact ⟨j + 1, by omega, by go_num, ZZ⟩
          case measure => simp [intOf]; omega
    · obtain rfl : j = n := by omega
      have YY := hid (⟨by rw [decide_eq_true hz.out.1], hz.out.2⟩ : RetB w (decide (∀ i, i < j → inR (z i))) (.returned (.bool true)) wr)
      clear HC hz
      go_wp2_with fail
      go_ret
      exact YY.out
def chOk (c : UInt8) : Prop := 32 ≤ c.toNat ∧ c.toNat ≤ 126
instance (c : UInt8) : Decidable (chOk c) := by unfold chOk; infer_instance
def nmB (s : ByteArray) : Bool := decide (∀ c, c ∈ s.data.toList → chOk c) && decide (s.size ≤ 80)
theorem mem_byte {s : ByteArray} {j : Nat} (h : j < s.size) : s[j] ∈ s.data.toList := by
  rw [show s[j] = s.data.toList[j]'(by simpa using h) from rfl]
  exact List.getElem_mem _
theorem mem_take_succ {s : ByteArray} {j : Nat} (h : j < s.size) {P : UInt8 → Prop} (hp : ∀ c, c ∈ s.data.toList.take j → P c) (hj : P s[j]) : ∀ c, c ∈ s.data.toList.take (j + 1) → P c := by
  intro c hc
  rw [List.take_succ_eq_append_getElem (by simpa using h)] at hc
  rcases List.mem_append.1 hc with h1 | h1
  · exact hp c h1
  · rw [List.mem_singleton] at h1
    subst h1
    exact hj
set_option maxHeartbeats 2000000 in
theorem vname (s : ByteArray) (w : World) (hs : s.size ≤ 9223372036854775807) :
    Calls Tryz.prog 98 #[.string s] w (RetB w (nmB s)) := by
  go_enter Tryz.func98, Tryz.ntmps98
  go_wp2_with fail
  go_loopw [6] (fun i wr => ∃ j : Nat, j ≤ s.size ∧ i = .int .i64 j ∧ Hid ((∀ c, c ∈ s.data.toList.take j → chOk c) ∧ Below w.heap.size w wr)) (fun i _ => s.size - (intOf i).toNat)
  case atStart => exact ⟨0, Nat.zero_le _, rfl, hid ⟨(fun c hc => by cases hc), bx_refl w⟩⟩
  case round =>
    obtain ⟨j, hj, rfl, hz⟩ := hrel
    rcases Nat.lt_or_ge j s.size with hlt | hge
    · have NO := hid (fun (h : ¬chOk s[j]) => (⟨by unfold nmB; rw [decide_eq_false fun g => h (g s[j] (mem_byte hlt)), Bool.false_and], hz.out.2⟩ : RetB w (nmB s) (.returned (.bool false)) wr))
      have YE := hid (fun (h : chOk s[j]) => (⟨mem_take_succ hlt hz.out.1 h, hz.out.2⟩ : (∀ c, c ∈ s.data.toList.take (j + 1) → chOk c) ∧ Below w.heap.size w wr))
      clear hz
      by_cases h1 : (s[j].toNat : Int) < 32
      · have t1 : decide ((s[j].toNat : Int) < 32) = true := decide_eq_true h1
        have NN := hid (NO.out (fun h => by unfold chOk at h; omega))
        clear NO YE
        go_wp2_with fail
        go_ret
        exact NN.out
      · have t1 : decide ((s[j].toNat : Int) < 32) = false := decide_eq_false h1
        by_cases h2 : 126 < (s[j].toNat : Int)
        · have t2 : decide (126 < (s[j].toNat : Int)) = true := decide_eq_true h2
          have NN := hid (NO.out (fun h => by unfold chOk at h; omega))
          clear NO YE
          go_wp2_with fail
          go_ret
          exact NN.out
        · have t2 : decide (126 < (s[j].toNat : Int)) = false := decide_eq_false h2
          have ZZ := hid (YE.out (by unfold chOk; omega))
          clear NO YE
          go_wp2_with fail
          go_roundw
          case rel => exact ⟨j + 1, by omega, by go_num, ZZ⟩
          case measure => simp [intOf]; omega
    · obtain rfl : j = s.size := by omega
      have YY := hid (⟨by unfold nmB; rw [decide_eq_true (fun c hc => hz.out.1 c (by rw [List.take_of_length_le (by simp)]; exact hc)), Bool.true_and], hz.out.2⟩ : RetB w (nmB s) (.returned (.bool (decide (s.size ≤ 80)))) wr)
      by_cases h3 : s.size ≤ 80
      · have t3 : decide ((s.size : Int) ≤ 80) = true := decide_eq_true (by omega)
        rw [decide_eq_true h3] at YY
        clear hz
        go_wp2_with fail
        go_ret
        exact YY.out
      · have t3 : decide ((s.size : Int) ≤ 80) = false := decide_eq_false (by omega)
        rw [decide_eq_false h3] at YY
        clear hz
        go_wp2_with fail
        go_ret
        exact YY.out
def prevV (v : Nat → Int) : Nat → Int
  | 0 => -1
  | t + 1 => v t
def tmOk (vn : Nat) (p v c : Int) : Prop := p < v ∧ v < vn ∧ c ≠ 0 ∧ inR c
instance (vn : Nat) (p v c : Int) : Decidable (tmOk vn p v c) := by unfold tmOk; infer_instance
def tmsB (vn tn : Nat) (v cf : Nat → Int) : Bool := decide (∀ t, t < tn → tmOk vn (prevV v t) (v t) (cf t))
theorem all_one {n : Nat} {z : Nat → Int} {c : Int} (hn : n = 1) (h : z 0 = c) : decide (∀ j, j < n → inR (z j)) = decide (inR c) := by
  refine decide_eq_decide.2 ⟨fun g => h ▸ g 0 (by omega), fun g j hj => ?_⟩
  obtain rfl : j = 0 := by omega
  rw [h]
  exact g
theorem cell_one {w : World} {q t : Nat} {c : Int} (k : Blk w q [.int .i64 c] t) : ∀ i, i < 1 → w.cell? ⟨q, i, none⟩ = some (.int .i64 ((fun _ : Nat => c) i)) := fun i hi => by
  obtain rfl : i = 0 := by omega
  exact Blk.cell k 0
theorem vinrange1 (q : Nat) (c : Int) (w : World) (k : Blk w q [.int .i64 c] 2) : Calls Tryz.prog 55 #[.slice (some ⟨q, 0, none⟩) 1 1] w (RetB w (decide (inR c))) := by
  obtain ⟨n, hn⟩ : ∃ n : Nat, n = 1 := ⟨1, rfl⟩
  have := vinrange q n (fun _ => c) w (by omega) (fun i hi => cell_one k i (by omega))
  rw [all_one hn rfl] at this
  subst hn
  exact this
set_option maxHeartbeats 2000000 in
theorem vterms (TA : Option Addr) (tn tc vn : Nat) (v cf : Nat → Int) (w : World) (hT : Ts w TA tn tc v cf) (_hvn : vn ≤ 9223372036854775807) :
    Calls Tryz.prog 99 #[.slice TA tn tc, .int .i64 vn] w (RetB w (tmsB vn tn v cf)) := by
  have hc := hT.1
  have hc2 := hT.2.1
  have HT := hid hT
  clear hT
  go_enter Tryz.func99, Tryz.ntmps99
  go_wp2_with fail
  go_loopw [5, 10] (fun l i wr => ∃ j : Nat, j ≤ tn ∧ i = .int .i64 j ∧ l = .int .i64 (prevV v j) ∧ Hid ((∀ t, t < j → tmOk vn (prevV v t) (v t) (cf t)) ∧ Below w.heap.size w wr)) (fun _ i _ => tn - (intOf i).toNat)
  case atStart => exact ⟨0, Nat.zero_le _, rfl, rfl, hid ⟨fun i hi => absurd hi (by omega), bx_refl w⟩⟩
  case round =>
    obtain ⟨j, hj, rfl, rfl, hz⟩ := hrel
    rcases Nat.lt_or_ge j tn with hlt | hge
    · obtain ⟨b, o, rfl, hb, hcell⟩ := HT.out.2.2.2 (by omega)
      obtain ⟨⟨l1, l2⟩, l3, l4⟩ := HT.out.2.2.1 j hlt
      have x0 := cell_bx (hcell j hlt).1 hz.out.2
      have x1 := cell_bx (hcell j hlt).2 hz.out.2
      have NO := hid (fun (W : World) (B : Below wr.heap.size wr W) (h : ¬tmOk vn (prevV v j) (v j) (cf j)) => (⟨by unfold tmsB; rw [decide_eq_false fun g => h (g j hlt)], bx_call hz.out.2 B⟩ : RetB w (tmsB vn tn v cf) (.returned (.bool false)) W))
      have YE := hid (fun (W : World) (B : Below wr.heap.size wr W) (h : tmOk vn (prevV v j) (v j) (cf j)) => (⟨fun i hi => by
        rcases Nat.lt_or_ge i j with h1 | h1
        · exact hz.out.1 i h1
        · obtain rfl : i = j := by omega
          exact h, bx_call hz.out.2 B⟩ : (∀ t, t < j + 1 → tmOk vn (prevV v t) (v t) (cf t)) ∧ Below w.heap.size w W))
      obtain ⟨p, hp⟩ : ∃ p, p = prevV v j := ⟨_, rfl⟩
      have hnx : prevV v (j + 1) = v j := rfl
      have HN := hid hnx
      obtain ⟨V, hV⟩ : ∃ V, V = v j := ⟨_, rfl⟩
      obtain ⟨C, hC⟩ : ∃ C, C = cf j := ⟨_, rfl⟩
      rw [← hp, ← hV, ← hC] at NO YE
      rw [← hV] at x0 l1 l2 HN
      rw [← hC] at x1 l3 l4
      rw [← hp]
      have B1 := bx_alloc (bx_refl wr) (.cells #[.int .i64 V, .int .i64 C] 94)
      have KT := hid (Blk.new wr [.int .i64 V, .int .i64 C] 94)
      have BB := hid B1
      clear hz HT hcell hp hV hC B1 hnx
      by_cases h1 : V ≤ p
      · have t1 : decide (V ≤ p) = true := decide_eq_true h1
        have NN := hid (NO.out _ BB.out (fun h => by unfold tmOk at h; omega))
        clear NO YE BB KT
        go_wp2_with fail
        go_ret
        exact NN.out
      · have t1 : decide (V ≤ p) = false := decide_eq_false h1
        by_cases h2 : (vn : Int) ≤ V
        · have t2 : decide ((vn : Int) ≤ V) = true := decide_eq_true h2
          have NN := hid (NO.out _ BB.out (fun h => by unfold tmOk at h; omega))
          clear NO YE BB KT
          go_wp2_with fail
          go_ret
          exact NN.out
        · have t2 : decide ((vn : Int) ≤ V) = false := decide_eq_false h2
          by_cases h3 : C = 0
          · have t3 : (C == 0) = true := beq_iff_eq.2 h3
            have NN := hid (NO.out _ BB.out (fun h => by unfold tmOk at h; omega))
            have H3 := hid h3
            clear NO YE BB KT h3
            go_wp2_with fail
            go_ret
            exact NN.out
          · have t3 : (C == 0) = false := beq_eq_false_iff_ne.2 h3
            have CA := hid (fun (W : World) (q : Nat) (k : Blk W q [.int .i64 C] 2) => vinrange1 q C W k)
            have K2 := hid (blk_new1 wr (.cells #[.int .i64 V, .int .i64 C] 94) [.int .i64 C] 2)
            have C2 := hid (CA.out _ _ K2.out)
            have B2 := hid (bx_alloc BB.out (.cells #[.int .i64 C] 2))
            have KT2 := hid ((Blk.alloc KT.out (.cells #[.int .i64 C] 2)))
            clear CA K2 KT BB
            go_wp2_with fail
            refine (C2.out).mono ?_
            rintro e w1 ⟨rfl, b2⟩
            have z0 := (blk_two (KT2.out.keep b2)).1
            have B3 := hid (bx_call B2.out b2)
            clear C2 KT2 B2 b2
            by_cases h4 : inR C
            · rw [decide_eq_true h4]
              have ZZ := hid (YE.out _ B3.out ⟨by omega, by omega, h3, h4⟩)
              clear NO YE B3
              go_wp2_with fail
              go_roundw
              case rel => exact ⟨j + 1, by omega, by go_num, by rw [HN.out], ZZ⟩
              case measure => simp [intOf]; omega
            · rw [decide_eq_false h4]
              have NN := hid (NO.out _ B3.out (fun h => h4 h.2.2.2))
              clear NO YE B3
              go_wp2_with fail
              go_ret
              exact NN.out
    · obtain rfl : j = tn := by omega
      have YY := hid (⟨by unfold tmsB; rw [decide_eq_true hz.out.1], hz.out.2⟩ : RetB w (tmsB vn j v cf) (.returned (.bool true)) wr)
      clear HT hz
      go_wp2_with fail
      go_ret
      exact YY.out
def rowB (vn : Nat) (nm : ByteArray) (gr ki bo : Int) (tn : Nat) (v cf : Nat → Int) : Bool := (((decide (0 ≤ ki ∧ ki ≤ 2) && decide (0 ≤ gr ∧ gr ≤ 60)) && decide (inR bo)) && nmB nm) && tmsB vn tn v cf
set_option maxHeartbeats 4000000 in
theorem vrow (nm : ByteArray) (gr ki bo : Int) (TA : Option Addr) (tn tc vn : Nat) (v cf : Nat → Int) (w : World) (hT : Ts w TA tn tc v cf) (hnm : nm.size ≤ 9223372036854775807) (hvn : vn ≤ 9223372036854775807) :
    Calls Tryz.prog 56 #[.agg #[.string nm, .int .i64 gr, .int .i64 ki, .slice TA tn tc, .int .i64 bo], .int .i64 vn] w (RetB w (rowB vn nm gr ki bo tn v cf)) := by
  obtain ⟨W0, hW⟩ : ∃ W, W = w.alloc (.cells #[.string nm, .int .i64 gr, .int .i64 ki, .slice TA tn tc, .int .i64 bo] 77) := ⟨_, rfl⟩
  have B0 := bx_alloc (bx_refl w) (.cells #[.string nm, .int .i64 gr, .int .i64 ki, .slice TA tn tc, .int .i64 bo] 77)
  have K0 := Blk.new w [.string nm, .int .i64 gr, .int .i64 ki, .slice TA tn tc, .int .i64 bo] 77
  change Blk (w.alloc (.cells #[.string nm, .int .i64 gr, .int .i64 ki, .slice TA tn tc, .int .i64 bo] 77)) _ _ _ at K0
  rw [← hW] at B0 K0
  have BB := hid B0
  have KK := hid K0
  have IR := hid (fun (W : World) (q : Nat) (k : Blk W q [.int .i64 bo] 2) => vinrange1 q bo W k)
  have NM := hid (fun (W : World) => vname nm W hnm)
  have TM := hid (fun (W : World) (b : Below w.heap.size w W) => vterms TA tn tc vn v cf W (hT.keep b) hvn)
  obtain ⟨y0, y1, y2, y3, y4⟩ := blk_five K0
  obtain ⟨b3, hb3⟩ : ∃ b, b = decide (inR bo) := ⟨_, rfl⟩
  obtain ⟨b4, hb4⟩ : ∃ b, b = nmB nm := ⟨_, rfl⟩
  obtain ⟨b5, hb5⟩ : ∃ b, b = tmsB vn tn v cf := ⟨_, rfl⟩
  have er : rowB vn nm gr ki bo tn v cf = ((((decide (0 ≤ ki ∧ ki ≤ 2) && decide (0 ≤ gr ∧ gr ≤ 60)) && b3) && b4) && b5) := by rw [hb3, hb4, hb5]; rfl
  rw [er]
  rw [← hb3] at IR
  rw [← hb4] at NM
  rw [← hb5] at TM
  clear B0 K0 hT hnm hb3 hb4 hb5 er
  by_cases hk : 0 ≤ ki ∧ ki ≤ 2
  · rw [decide_eq_true hk, Bool.true_and]
    have hgo : ki = 0 ∨ ki = 1 ∨ ki = 2 := by omega
    have HG := hid hgo
    clear hgo hk
    by_cases h1 : gr < 0
    · have t1 : decide (gr < 0) = true := decide_eq_true h1
      rw [decide_eq_false (show ¬(0 ≤ gr ∧ gr ≤ 60) by omega)]
      simp only [Bool.false_and]
      rcases HG.out with rfl | rfl | rfl
      all_goals
        go_enter Tryz.func56, Tryz.ntmps56
        go_upto_region 1 with fail
        rw [← hW]
        clear hW IR NM TM
        go_wp2_with fail
        go_ret
        exact ⟨rfl, BB.out⟩
    · have t1 : decide (gr < 0) = false := decide_eq_false h1
      by_cases h2 : 60 < gr
      · have t2 : decide (60 < gr) = true := decide_eq_true h2
        rw [decide_eq_false (show ¬(0 ≤ gr ∧ gr ≤ 60) by omega)]
        simp only [Bool.false_and]
        rcases HG.out with rfl | rfl | rfl
        all_goals
          go_enter Tryz.func56, Tryz.ntmps56
          go_upto_region 1 with fail
          rw [← hW]
          clear hW IR NM TM
          go_wp2_with fail
          go_ret
          exact ⟨rfl, BB.out⟩
      · have t2 : decide (60 < gr) = false := decide_eq_false h2
        rw [decide_eq_true (show 0 ≤ gr ∧ gr ≤ 60 by omega)]
        simp only [Bool.true_and]
        have KB := hid (Blk.new W0 [.int .i64 bo] 2)
        have I1 := hid (IR.out _ _ KB.out)
        have B1 := hid (bx_call BB.out (bx_alloc (bx_refl W0) (.cells #[.int .i64 bo] 2)))
        have K1 := hid (Blk.alloc KK.out (.cells #[.int .i64 bo] 2))
        clear IR KB
        rcases HG.out with rfl | rfl | rfl
        all_goals
          go_enter Tryz.func56, Tryz.ntmps56
          go_upto_region 1 with fail
          rw [← hW]
          clear hW
          go_wp2_with fail
          refine (I1.out).mono ?_
          rintro e w1 ⟨rfl, b⟩
          have B2 := hid (bx_call B1.out b)
          have K2 := hid (K1.out.keep b)
          obtain ⟨z0, z1, z2, z3, z4⟩ := blk_five K2.out
          have N2 := hid (NM.out w1)
          clear I1 B1 K1 b y0 y1 y2 y3 y4 NM
          cases b3
          · clear TM N2
            go_wp2_with fail
            go_ret
            exact ⟨rfl, B2.out⟩
          · go_wp2_with fail
            refine (N2.out).mono ?_
            rintro e w2 ⟨rfl, b⟩
            have B3 := hid (bx_call B2.out b)
            have K3 := hid (K2.out.keep b)
            obtain ⟨z0, z1, z2, z3, z4⟩ := blk_five K3.out
            have T3 := hid (TM.out w2 B3.out)
            clear N2 TM b B2 K2
            cases b4
            · clear T3
              go_wp2_with fail
              go_ret
              exact ⟨rfl, B3.out⟩
            · go_wp2_with fail
              refine (T3.out).mono ?_
              rintro e w3 ⟨rfl, b⟩
              have B4 := hid (bx_call B3.out b)
              clear T3 b B3
              go_wp2_with fail
              go_ret
              exact ⟨rfl, B4.out⟩
  · rw [decide_eq_false hk]
    simp only [Bool.false_and]
    have n0 : (ki != 0) = true := bne_iff_ne.2 (by omega)
    have n1 : (ki != 1) = true := bne_iff_ne.2 (by omega)
    have n2 : (ki != 2) = true := bne_iff_ne.2 (by omega)
    have m0 : decide (ki = 0) = false := decide_eq_false (by omega)
    have m1 : decide (ki = 1) = false := decide_eq_false (by omega)
    have m2 : decide (ki = 2) = false := decide_eq_false (by omega)
    have HK := hid hk
    clear hk
    go_enter Tryz.func56, Tryz.ntmps56
    go_upto_region 1 with fail
    rw [← hW]
    clear hW IR NM TM
    go_wp2_with fail
    go_ret
    exact ⟨rfl, BB.out⟩
def varOk (lo up : Int) (op : Bool) (co : Int) : Prop := (inR lo ∧ inR up ∧ inR co) ∧ (op = true → up = 0)
instance (lo up : Int) (op : Bool) (co : Int) : Decidable (varOk lo up op co) := by unfold varOk; infer_instance
def vldB (vn rn : Nat) (lo up : Nat → Int) (op : Nat → Bool) (co : Nat → Int) (nm : Nat → ByteArray) (gr ki bo : Nat → Int) (tn : Nat → Nat) (v cf : Nat → Nat → Int) : Bool := (decide (vn ≤ 400 ∧ rn ≤ 4000) && decide (∀ j, j < vn → varOk (lo j) (up j) (op j) (co j))) && decide (∀ j, j < rn → rowB vn (nm j) (gr j) (ki j) (bo j) (tn j) (v j) (cf j) = true)
def three (x y z : Int) (i : Nat) : Int := if i = 0 then x else if i = 1 then y else z
theorem all_three {n : Nat} (hn : n = 3) (x y z : Int) : decide (∀ j, j < n → inR (three x y z j)) = decide (inR x ∧ inR y ∧ inR z) := by
  refine decide_eq_decide.2 ⟨fun g => ⟨g 0 (by omega), g 1 (by omega), g 2 (by omega)⟩, fun g j hj => ?_⟩
  have : j = 0 ∨ j = 1 ∨ j = 2 := by omega
  rcases this with rfl | rfl | rfl
  · exact g.1
  · exact g.2.1
  · exact g.2.2
theorem vinrange3 (q : Nat) (x y z : Int) (w : World) (k : Blk w q [.int .i64 x, .int .i64 y, .int .i64 z] 2) : Calls Tryz.prog 55 #[.slice (some ⟨q, 0, none⟩) 3 3] w (RetB w (decide (inR x ∧ inR y ∧ inR z))) := by
  obtain ⟨n, hn⟩ : ∃ n : Nat, n = 3 := ⟨3, rfl⟩
  have := vinrange q n (three x y z) w (by omega) (fun i hi => by
    have : i = 0 ∨ i = 1 ∨ i = 2 := by omega
    rcases this with rfl | rfl | rfl
    · exact Blk.cell k 0
    · exact Blk.cell k 1
    · exact Blk.cell k 2)
  rw [all_three hn] at this
  subst hn
  exact this
theorem vld_no {w W : World} {b : Bool} (h : b = false) (B : Below w.heap.size w W) : RetB w b (.returned (.bool false)) W := ⟨by rw [h], B⟩
theorem vld_yes {w W : World} {b : Bool} (h : b = true) (B : Below w.heap.size w W) : RetB w b (.returned (.bool true)) W := ⟨by rw [h], B⟩
def AllP (w : World) (cs : List Value) (P : Nat → Prop) (j : Nat) (W : World) : Prop := (∀ i, i < j → P i) ∧ Below w.heap.size w W ∧ Blk W w.heap.size cs 25
theorem AllP.next {w W W' : World} {cs : List Value} {P : Nat → Prop} {j : Nat} (h : AllP w cs P j W) (hj : P j) (b : Below W.heap.size W W') : AllP w cs P (j + 1) W' := ⟨fun i hi => by
  rcases Nat.lt_or_ge i j with h1 | h1
  · exact h.1 i h1
  · obtain rfl : i = j := by omega
    exact hj, bx_call h.2.1 b, h.2.2.keep b⟩
set_option maxHeartbeats 8000000 in
theorem vvalidp (V0 : Option Addr) (vn vc : Nat) (R0 : Option Addr) (rn rc : Nat) (lo up : Nat → Int) (op it : Nat → Bool) (co : Nat → Int) (nm : Nat → ByteArray) (gr ki bo : Nat → Int) (TA : Nat → Option Addr) (tn tc : Nat → Nat) (v cf : Nat → Nat → Int) (w : World) (hT : Vs w V0 vn vc lo up op it co) (hR : Rs w R0 rn rc nm gr ki bo TA tn tc v cf) (hnm : ∀ j, j < rn → (nm j).size ≤ 9223372036854775807) :
    Calls Tryz.prog 12 #[.agg #[.slice V0 vn vc, .slice R0 rn rc]] w (RetB w (vldB vn rn lo up op co nm gr ki bo tn v cf)) := by
  have hc := hT.1
  have hc2 := hT.2.1
  have hd := hR.1
  have hd2 := hR.2.1
  obtain ⟨W0, hW⟩ : ∃ W, W = w.alloc (.cells #[.slice V0 vn vc, .slice R0 rn rc] 25) := ⟨_, rfl⟩
  have B0 := bx_alloc (bx_refl w) (.cells #[.slice V0 vn vc, .slice R0 rn rc] 25)
  have K0 := Blk.new w [.slice V0 vn vc, .slice R0 rn rc] 25
  change Blk (w.alloc (.cells #[.slice V0 vn vc, .slice R0 rn rc] 25)) _ _ _ at K0
  rw [← hW] at B0 K0
  obtain ⟨r, hr⟩ : ∃ r, r = vldB vn rn lo up op co nm gr ki bo tn v cf := ⟨_, rfl⟩
  rw [← hr]
  have ST := hid (show AllP w [.slice V0 vn vc, .slice R0 rn rc] (fun j => varOk (lo j) (up j) (op j) (co j)) 0 W0 from ⟨fun i hi => absurd hi (by omega), B0, K0⟩)
  have HT := hid hT
  have HR := hid hR
  have HN := hid hnm
  have HE := hid hr
  obtain ⟨z0, z1⟩ := blk_two K0
  have BB := hid B0
  clear hT hR hnm hr B0 K0
  by_cases h1 : 400 < vn
  · have t1 : decide ((400 : Int) < (vn : Int)) = true := decide_eq_true (by omega)
    have NN := hid (vld_no (by rw [HE.out]; unfold vldB; rw [decide_eq_false (show ¬(vn ≤ 400 ∧ rn ≤ 4000) by omega)]; rfl : r = false) BB.out)
    clear HT HR HN HE BB ST
    go_enter Tryz.func12, Tryz.ntmps12
    go_upto_region 1 with fail
    rw [← hW]
    clear hW
    go_wp2_with fail
    go_ret
    exact NN.out
  have t1 : decide ((400 : Int) < (vn : Int)) = false := decide_eq_false (by omega)
  by_cases h2 : 4000 < rn
  · have t2 : decide ((4000 : Int) < (rn : Int)) = true := decide_eq_true (by omega)
    have NN := hid (vld_no (by rw [HE.out]; unfold vldB; rw [decide_eq_false (show ¬(vn ≤ 400 ∧ rn ≤ 4000) by omega)]; rfl : r = false) BB.out)
    clear HT HR HN HE BB ST
    go_enter Tryz.func12, Tryz.ntmps12
    go_upto_region 1 with fail
    rw [← hW]
    clear hW
    go_wp2_with fail
    go_ret
    exact NN.out
  have t2 : decide ((4000 : Int) < (rn : Int)) = false := decide_eq_false (by omega)
  have h3 : vn ≤ 400 ∧ rn ≤ 4000 := by omega
  have HE2 := hid (show r = (decide (∀ j, j < vn → varOk (lo j) (up j) (op j) (co j)) && decide (∀ j, j < rn → rowB vn (nm j) (gr j) (ki j) (bo j) (tn j) (v j) (cf j) = true)) by rw [HE.out]; unfold vldB; rw [decide_eq_true h3, Bool.true_and])
  clear HE BB h3
  go_enter Tryz.func12, Tryz.ntmps12
  go_upto_region 1 with fail
  rw [← hW]
  clear hW
  go_wp2_with fail
  go_loopw [20] (fun i wr => ∃ j : Nat, j ≤ vn ∧ i = .int .i64 j ∧ Hid (AllP w [.slice V0 vn vc, .slice R0 rn rc] (fun j => varOk (lo j) (up j) (op j) (co j)) j wr)) (fun i _ => vn - (intOf i).toNat)
  case atStart => exact ⟨0, Nat.zero_le _, rfl, ST⟩
  case round =>
    clear ST z0 z1 t1 t2
    obtain ⟨j, hj, rfl, hz⟩ := hrel
    rcases Nat.lt_or_ge j vn with hlt | hge
    · obtain ⟨b, o, rfl, hb, hcell⟩ := HT.out.2.2.2 (by omega)
      obtain ⟨⟨l1, l2⟩, ⟨u1, u2⟩, c1, c2⟩ := HT.out.2.2.1 j hlt
      have x0 := cell_bx (hcell j hlt).1 hz.out.2.1
      have x1 := cell_bx (hcell j hlt).2.1 hz.out.2.1
      have x2 := cell_bx (hcell j hlt).2.2.1 hz.out.2.1
      have x3 := cell_bx (hcell j hlt).2.2.2.1 hz.out.2.1
      have x4 := cell_bx (hcell j hlt).2.2.2.2 hz.out.2.1
      have NO := hid (fun (W : World) (B : Below wr.heap.size wr W) (h : ¬varOk (lo j) (up j) (op j) (co j)) => vld_no (by rw [HE2.out, decide_eq_false fun g => h (g j hlt)]; rfl : r = false) (bx_call hz.out.2.1 B))
      have YE := hid (fun (W : World) (B : Below wr.heap.size wr W) (h : varOk (lo j) (up j) (op j) (co j)) => AllP.next hz.out h B)
      obtain ⟨L, hL⟩ : ∃ L, L = lo j := ⟨_, rfl⟩
      obtain ⟨U, hU⟩ : ∃ U, U = up j := ⟨_, rfl⟩
      obtain ⟨O, hO⟩ : ∃ O, O = op j := ⟨_, rfl⟩
      obtain ⟨C, hC⟩ : ∃ C, C = co j := ⟨_, rfl⟩
      obtain ⟨I, hI⟩ : ∃ I, I = it j := ⟨_, rfl⟩
      rw [← hL, ← hU, ← hO, ← hC] at NO
      have YE := hid (fun (W : World) (B : Below wr.heap.size wr W) (h : varOk L U O C) => YE.out W B (by rw [← hL, ← hU, ← hO, ← hC]; exact h))
      rw [← hL] at x0 l1 l2
      rw [← hU] at x1 u1 u2
      rw [← hO] at x2
      rw [← hI] at x3
      rw [← hC] at x4 c1 c2
      have K1 := hid ((Blk.new wr [.int .i64 L, .int .i64 U, .bool O, .bool I, .int .i64 C] 60).alloc (.cells #[.int .i64 L, .int .i64 U, .int .i64 C] 2))
      have K2 := hid (blk_new1 wr (.cells #[.int .i64 L, .int .i64 U, .bool O, .bool I, .int .i64 C] 60) [.int .i64 L, .int .i64 U, .int .i64 C] 2)
      have B2 := hid (bx_alloc (bx_alloc (bx_refl wr) (.cells #[.int .i64 L, .int .i64 U, .bool O, .bool I, .int .i64 C] 60)) (.cells #[.int .i64 L, .int .i64 U, .int .i64 C] 2))
      have CA := hid (fun (W : World) (q : Nat) (k : Blk W q [.int .i64 L, .int .i64 U, .int .i64 C] 2) => vinrange3 q L U C W k)
      have C2 := hid (CA.out _ _ K2.out)
      clear hz HT hcell hL hU hO hC hI HR HN HE2 CA K2
      go_wp2_with fail
      refine (C2.out).mono ?_
      rintro e w1 ⟨rfl, b1⟩
      have K3 := K1.out.keep b1
      have B3 := hid (bx_call B2.out b1)
      obtain ⟨y0, y1, y2, y3, y4⟩ := blk_five K3
      clear C2 b1 K1 B2 K3 x0 x1 x2 x3 x4
      by_cases g1 : inR L ∧ inR U ∧ inR C
      · rw [decide_eq_true g1]
        cases O
        · have ZZ := hid (YE.out _ B3.out ⟨g1, fun h => by cases h⟩)
          clear NO YE B3
          go_wp2_with fail
          go_roundw
          case rel => exact ⟨j + 1, by omega, by go_num, ZZ⟩
          case measure => simp [intOf]; omega
        · by_cases g2 : U = 0
          · have ZZ := hid (YE.out _ B3.out ⟨g1, fun _ => g2⟩)
            have G2 := hid g2
            subst g2
            clear NO YE B3
            go_wp2_with fail
            go_roundw
            case rel => exact ⟨j + 1, by omega, by go_num, ZZ⟩
            case measure => simp [intOf]; omega
          · have t4 : (U != 0) = true := bne_iff_ne.2 g2
            have t5 : decide (U = 0) = false := decide_eq_false g2
            have NN := hid (NO.out _ B3.out (fun h => g2 (h.2 rfl)))
            have G2 := hid g2
            clear NO YE B3 g2
            go_wp2_with fail
            go_ret
            exact NN.out
      · rw [decide_eq_false g1]
        have NN := hid (NO.out _ B3.out (fun h => g1 h.1))
        clear NO YE B3
        go_wp2_with fail
        go_ret
        exact NN.out
    · obtain rfl : j = vn := by omega
      have HE3 := hid (show r = decide (∀ i, i < rn → rowB j (nm i) (gr i) (ki i) (bo i) (tn i) (v i) (cf i) = true) by rw [HE2.out, decide_eq_true hz.out.1, Bool.true_and])
      have S2 := hid (show AllP w [.slice V0 j vc, .slice R0 rn rc] (fun i => rowB j (nm i) (gr i) (ki i) (bo i) (tn i) (v i) (cf i) = true) 0 wr from ⟨fun i hi => absurd hi (by omega), hz.out.2⟩)
      obtain ⟨z0, z1⟩ := blk_two hz.out.2.2
      clear hz HT HE2 hge hj
      go_wp2_with fail
      obtain ⟨wo, rfl⟩ : ∃ wo : World, wo = wr := ⟨_, rfl⟩
      go_loopw [46] (fun i wr => ∃ k : Nat, k ≤ rn ∧ i = .int .i64 k ∧ Hid (AllP w [.slice V0 j vc, .slice R0 rn rc] (fun i => rowB j (nm i) (gr i) (ki i) (bo i) (tn i) (v i) (cf i) = true) k wr)) (fun i _ => rn - (intOf i).toNat)
      case atStart => exact ⟨0, Nat.zero_le _, rfl, S2⟩
      case round =>
        clear S2 z0 z1
        obtain ⟨k, hk, rfl, hz⟩ := hrel
        rcases Nat.lt_or_ge k rn with hlt | hge
        · obtain ⟨b, o, rfl, hb, hcell⟩ := HR.out.2.2.2 (by omega)
          obtain ⟨_, _, _, hTs⟩ := HR.out.2.2.1 k hlt
          have x0 := cell_bx (hcell k hlt).1 hz.out.2.1
          have x1 := cell_bx (hcell k hlt).2.1 hz.out.2.1
          have x2 := cell_bx (hcell k hlt).2.2.1 hz.out.2.1
          have x3 := cell_bx (hcell k hlt).2.2.2.1 hz.out.2.1
          have x4 := cell_bx (hcell k hlt).2.2.2.2 hz.out.2.1
          have B1 := bx_alloc (bx_refl wr) (.cells #[.string (nm k), .int .i64 (gr k), .int .i64 (ki k), .slice (TA k) (tn k) (tc k), .int .i64 (bo k)] 77)
          have RW := hid (vrow (nm k) (gr k) (ki k) (bo k) (TA k) (tn k) (tc k) j (v k) (cf k) _ (hTs.keep (bx_call hz.out.2.1 B1)) (HN.out k hlt) (by omega))
          obtain ⟨z0, z1⟩ := blk_two (hz.out.2.2.keep B1)
          obtain ⟨y0, y1⟩ := blk_two hz.out.2.2
          have NO := hid (fun (W : World) (B : Below wr.heap.size wr W) (h : ¬rowB j (nm k) (gr k) (ki k) (bo k) (tn k) (v k) (cf k) = true) => vld_no (by rw [HE3.out, decide_eq_false fun g => h (g k hlt)] : r = false) (bx_call hz.out.2.1 B))
          have YE := hid (fun (W : World) (B : Below wr.heap.size wr W) (h : rowB j (nm k) (gr k) (ki k) (bo k) (tn k) (v k) (cf k) = true) => AllP.next hz.out h B)
          obtain ⟨q, hq⟩ : ∃ q, q = rowB j (nm k) (gr k) (ki k) (bo k) (tn k) (v k) (cf k) := ⟨_, rfl⟩
          rw [← hq] at RW NO
          have YE := hid (fun (W : World) (B : Below wr.heap.size wr W) (h : q = true) => YE.out W B (by rw [← hq]; exact h))
          have BB := hid B1
          clear hz HR HN HE3 hcell hTs B1 hq
          go_wp2_with fail
          refine (RW.out).mono ?_
          rintro e w1 ⟨rfl, b1⟩
          have B2 := hid (bx_call BB.out b1)
          clear RW BB b1 x0 x1 x2 x3 x4 z0 z1 y0 y1
          cases q
          · have NN := hid (NO.out _ B2.out (by decide))
            clear NO YE B2
            go_wp2_with fail
            go_ret
            exact NN.out
          · have ZZ := hid (YE.out _ B2.out rfl)
            clear NO YE B2
            go_wp2_with fail
            go_roundw
            case rel => exact ⟨k + 1, by omega, by go_num, ZZ⟩
            case measure => simp [intOf]; omega
        · obtain rfl : k = rn := by omega
          have YY := hid (vld_yes (by rw [HE3.out, decide_eq_true hz.out.1] : r = true) hz.out.2.1)
          clear HR HN hz HE3
          go_wp2_with fail
          go_ret
          exact YY.out
theorem addr_add (b j : Nat) : (⟨b, 0, none⟩ : Addr).add j = ⟨b, j, none⟩ := by unfold Addr.add; split <;> simp_all
section
variable {w W W' : World} {cs : List Value} {rb bn bl Cb B vn K mm : Nat} {A : Option Addr} {n c : Nat} {L : Nat → List (Int × Int)} {f : Nat → Rat}
end
theorem atQ_atQ (vn n : Nat) (qs : Nat → Rat) (z : Int) : atQ (min vn n) qs z = atQ vn (fun i : Nat => atQ n qs (i : Int)) z := by
  unfold atQ
  by_cases h : 0 ≤ z ∧ z < vn
  · rw [if_pos h]
    by_cases h2 : z < n
    · rw [if_pos (by omega)]
      show _ = if 0 ≤ ((z.toNat : Nat) : Int) ∧ ((z.toNat : Nat) : Int) < n then qs ((z.toNat : Nat) : Int).toNat else 0
      rw [if_pos (by omega), Int.toNat_natCast]
    · rw [if_neg (by omega)]
      show _ = if 0 ≤ ((z.toNat : Nat) : Int) ∧ ((z.toNat : Nat) : Int) < n then qs ((z.toNat : Nat) : Int).toNat else 0
      rw [if_neg (by omega)]
  · rw [if_neg h, if_neg (by omega)]
def vio (h : Nat → Bool) : Nat → List Nat
  | 0 => []
  | i + 1 => vio h i ++ (if h i = true then [] else [i])
theorem vio_len (h : Nat → Bool) (n : Nat) : (vio h n).length ≤ n := by
  induction n with
  | zero => exact Nat.le_refl _
  | succ n ih =>
    show (vio h n ++ _).length ≤ _
    rw [List.length_append]
    split
    · show _ + 0 ≤ _; omega
    · show _ + 1 ≤ _; omega
def ints (l : List Nat) : List Value := l.map fun i : Nat => Value.int .i64 (i : Int)
theorem ints_append (l m : List Nat) : ints (l ++ m) = ints l ++ ints m := by unfold ints; rw [List.map_append]
def Il (w : World) (A : Option Addr) (n c : Nat) (f : Nat → Int) : Prop := n ≤ c ∧ c ≤ 9223372036854775807 ∧ (0 < n → ∃ b o, A = some ⟨b, o, none⟩ ∧ b < w.heap.size ∧ ∀ j, j < n → w.cell? ⟨b, o + j, none⟩ = some (.int .i64 (f j)))
def RetL (w : World) (l : List Nat) (e : Ending) (w' : World) : Prop := ∃ A c, e = .returned (.slice A l.length c) ∧ Il w' A l.length c (fun j => ((l.getD j 0 : Nat) : Int)) ∧ Below w.heap.size w w'
theorem own_ints {w : World} {base : Nat} {v : Value} {l : List Nat} (h : w.ownsRow base 3 1 v l.length (ints l)) : ∃ A c, v = .slice A l.length c ∧ Il w A l.length c (fun j => ((l.getD j 0 : Nat) : Int)) := by
  rcases h.2 with ⟨rfl, h0⟩ | ⟨g, cap, cur, rfl, hb, hg, hn, hc, hcs, hcur⟩
  · refine ⟨none, 0, by rw [h0], ?_⟩
    rw [h0]
    exact ⟨Nat.le_refl _, by omega, fun hk => absurd hk (by omega)⟩
  · refine ⟨some ⟨g, 0, none⟩, cap, rfl, hn, by unfold maxLen at hc; exact hc, fun _ => ⟨g, 0, rfl, (Array.getElem?_eq_some_iff.1 hg).1, fun k hk => ?_⟩⟩
    have := h.cells (g := g) rfl k (.int .i64 ((l.getD k 0 : Nat) : Int)) (by simp [ints, List.getD, List.getElem?_eq_getElem hk])
    rw [addr_add] at this
    rw [Nat.zero_add]; exact this
theorem Tryz.infoInt : ∃ i, Tryz.prog.info? 3 = some i ∧ i.zero = some (.int .i64 0) ∧ i.size = 1 ∧ i.bytes = 8 := info_parts (by kernel_rfl)
theorem wpList_append_idx {w : World} {ops : Array Oper} {rest : List Oper} {o : Oper} {a : Act} {Q : Exit → Act → World → Prop} (hgd : o.guard = none) (s x : Operand) (ho : o.op = .call { callee := .builtin .append, args := #[s, x], argTypes := #[45, 45] })
    (base : Nat) (v : Value) (l : List Nat) (hs : a.eval s = v) (hown : w.ownsRow base 3 1 v l.length (ints l)) (g j : Nat) (hx : a.eval x = .slice (some ⟨g, 0, none⟩) 1 1) (hg : Blk w g [.int .i64 (j : Int)] 3) (hl : l.length + 1 ≤ 1000000000) (hbase : base ≤ w.heap.size)
    (h : ∀ v' w', w'.ownsRow base 3 1 v' (l ++ [j]).length (ints (l ++ [j])) → w.grownBy w' v.ownBlock → wpList Tryz.prog ops Q rest (a.put o.dst v') w') : wpList Tryz.prog ops Q (o :: rest) a w := by
  obtain ⟨i0, hi, hz0, hz1, hz2⟩ := Tryz.infoInt
  refine wpList_append_own w hgd s x 45 ho base 3 i0 (.int .i64 0) 1 8 (by kernel_rfl) hi hz0 hz1 hz2 rfl (by decide) v l.length (ints l) hs hown ⟨g, 0, none⟩ 1 1 [.int .i64 (j : Int)] hx rfl (fun k u hk => by rw [addr_add, hg.cell]; exact hk) (fun u hu => by
    simp only [List.mem_cons, List.not_mem_nil, or_false] at hu
    subst hu; rfl) (by unfold maxLen; omega) (by omega) hbase (fun v' w' h2 h3 _ => h v' w' ?_ h3)
  rw [ints_append, List.length_append]
  exact h2
structure ViP (w : World) (cs : List Value) (bn bl B mm : Nat) (A : Option Addr) (n c : Nat) (v : Value) (l : List Nat) (W : World) : Prop where
  bel : Below w.heap.size w W
  box : Blk W w.heap.size cs 25
  kn : Blk W bn [.int .i64 mm] 3
  kl : Blk W bl [.slice A n c] 32
  own : W.ownsRow B 3 1 v l.length (ints l)
  le : B ≤ W.heap.size
theorem own_keep {W W' : World} {B : Nat} {t s : Nat} {v : Value} {n : Nat} {xs : List Value} (h : W.ownsRow B t s v n xs) (b : Below W.heap.size W W') : W'.ownsRow B t s v n xs := by
  refine ⟨h.1, ?_⟩
  rcases h.2 with hn | ⟨g, cap, cur, rfl, hb, hg, rest⟩
  · exact .inl hn
  · exact .inr ⟨g, cap, cur, rfl, hb, (b.block g (Array.getElem?_eq_some_iff.1 hg).1).trans hg, rest⟩
section
variable {w W W' : World} {cs : List Value} {bn bl B mm : Nat} {A : Option Addr} {n c : Nat} {v : Value} {l : List Nat}
theorem ViP.keep (h : ViP w cs bn bl B mm A n c v l W) (b : Below W.heap.size W W') : ViP w cs bn bl B mm A n c v l W' :=
  ⟨bx_call h.bel b, h.box.keep b, h.kn.keep b, h.kl.keep b, own_keep h.own b, Nat.le_trans h.le b.size⟩
theorem ViP.grow (h : ViP w cs bn bl B mm A n c v l W) (h1 : w.heap.size < B) (h2 : bn < B) (h3 : bl < B) {v' : Value} {m : List Nat} (ho : W'.ownsRow B 3 1 v' m.length (ints m)) (hg : W.grownBy W' v.ownBlock) : ViP w cs bn bl B mm A n c v' m W' := by
  have hlt := h.own.lt
  have far : ∀ k, k < B → some k ≠ v.ownBlock := fun k hk e => by have := (hlt k e.symm).1; omega
  have hs := h.le
  refine ⟨⟨hg.os.trans h.bel.os, hg.tape.trans h.bel.tape, hg.output.trans h.bel.output, Nat.le_trans h.bel.size hg.size, fun k hk => ?_⟩, (hg.block _ h.box.lt (far _ h1)).trans h.box, (hg.block _ h.kn.lt (far _ h2)).trans h.kn, (hg.block _ h.kl.lt (far _ h3)).trans h.kl, ho, Nat.le_trans h.le hg.size⟩
  rw [hg.block k (by omega) (far k (by omega))]
  exact h.bel.block k hk
end
set_option maxHeartbeats 8000000 in
theorem vviolated (V0 : Option Addr) (vn vc : Nat) (R0 : Option Addr) (rn rc : Nat) (nm : Nat → ByteArray) (gr ki bo : Nat → Int) (TA : Nat → Option Addr) (tn tc : Nat → Nat) (v cf : Nat → Nat → Int) (A : Option Addr) (n c k : Nat) (qs : Nat → Rat) (w : World) (_hvn : vn ≤ 9223372036854775807) (hR : Rs w R0 rn rc nm gr ki bo TA tn tc v cf) (m : Nat) (htn : ∀ i, i < rn → tn i ≤ m) (hrn : rn ≤ 1000000) (hQ : Qs w A n c k qs) (hK : m * (k + 3) + 1 + (k + 4) ≤ 274877906941) :
    Calls Tryz.prog 24 #[.agg #[.slice V0 vn vc, .slice R0 rn rc], .slice A n c] w (RetL w (vio (fun i => holdB (ki i) (bo i) (rowV vn (tn i) (v i) (cf i) (fun i : Nat => atQ n qs (i : Int)))) rn)) := by
  have hd := hR.1
  have hd2 := hR.2.1
  have hqn : n ≤ 9223372036854775807 := Nat.le_trans hQ.1 hQ.2.1
  have hk1 := hQ.2.2.1
  obtain ⟨mm, hmm⟩ : ∃ mm, mm = min vn n := ⟨_, rfl⟩
  have hmn : mm ≤ n := by omega
  obtain ⟨W0, hW⟩ : ∃ W, W = w.alloc (.cells #[.slice V0 vn vc, .slice R0 rn rc] 25) := ⟨_, rfl⟩
  have B0 := bx_alloc (bx_refl w) (.cells #[.slice V0 vn vc, .slice R0 rn rc] 25)
  have K0 := Blk.new w [.slice V0 vn vc, .slice R0 rn rc] 25
  have hz : w.heap.size < W0.heap.size := by rw [hW]; simp
  change Blk (w.alloc (.cells #[.slice V0 vn vc, .slice R0 rn rc] 25)) _ _ _ at K0
  rw [← hW] at B0 K0
  obtain ⟨z0, z1⟩ := blk_two K0
  have EL := hid (velem A n c vn mm W0 hqn hmm)
  obtain ⟨H, hH⟩ : ∃ H : Nat → Bool, H = fun i => holdB (ki i) (bo i) (rowV vn (tn i) (v i) (cf i) (fun i : Nat => atQ n qs (i : Int))) := ⟨_, rfl⟩
  rw [← hH]
  have HH := hid (fun i => (show H i = holdB (ki i) (bo i) (sumN (fun t => (cf i t : Rat) * atQ mm qs (v i t)) (tn i)) by
    rw [hH, hmm]
    show holdB _ _ (rowV _ _ _ _ _) = _
    unfold rowV
    rw [sumN_congr fun t _ => by rw [← atQ_atQ vn n qs (v i t)]]))
  have HR := hid hR
  have HT := hid htn
  have HQ := hid hQ
  have BB := hid B0
  have KK := hid K0
  clear hR htn hQ B0 K0 hmm hH
  go_enter Tryz.func24, Tryz.ntmps24
  go_upto_region 1 with fail
  rw [← hW]
  clear hW
  go_wp2_with fail
  refine (EL.out).mono ?_
  rintro e W1 ⟨bn, bl, rfl, kn, kl, _, _, b⟩
  have hbn := kn.lt
  have hbl := kl.lt
  have hws : w.heap.size < W1.heap.size := Nat.lt_of_lt_of_le hz b.size
  have K1 := KK.out.keep b
  have ST := hid (show ViP w [.slice V0 vn vc, .slice R0 rn rc] bn bl W1.heap.size mm A n c (.slice (some ⟨W1.heap.size, 0, none⟩) 0 0) (vio H 0) (W1.alloc (.cells #[] 3)) from
    ⟨bx_alloc (bx_call BB.out b) _, K1.alloc _, kn.alloc _, kl.alloc _, ⟨by simp [vio, ints], .inr ⟨W1.heap.size, 0, #[], rfl, Nat.le_refl _, heap_alloc_new W1 _, by simp [vio], by unfold maxLen; omega, by simp, by simp [vio, ints]⟩⟩, by simp⟩)
  obtain ⟨z0, z1⟩ := blk_two (K1.alloc (.cells #[] 3))
  clear EL kn kl b BB KK K1 hz
  unfold El
  go_wp2_with fail
  go_loopw [6, 18] (fun u i wr => ∃ j : Nat, j ≤ rn ∧ i = .int .i64 j ∧ Hid (ViP w [.slice V0 vn vc, .slice R0 rn rc] bn bl W1.heap.size mm A n c u (vio H j) wr)) (fun _ i _ => rn - (intOf i).toNat)
  case atStart => exact ⟨0, Nat.zero_le _, rfl, ST⟩
  case round =>
    clear ST z0 z1
    obtain ⟨j, hj, rfl, hz⟩ := hrel
    rcases Nat.lt_or_ge j rn with hlt | hge
    · obtain ⟨b, o, rfl, hb, hcell⟩ := HR.out.2.2.2 (by omega)
      obtain ⟨_, ⟨o1, o2⟩, _, hTs⟩ := HR.out.2.2.1 j hlt
      have x0 := cell_bx (hcell j hlt).1 hz.out.bel
      have x1 := cell_bx (hcell j hlt).2.1 hz.out.bel
      have x2 := cell_bx (hcell j hlt).2.2.1 hz.out.bel
      have x3 := cell_bx (hcell j hlt).2.2.2.1 hz.out.bel
      have x4 := cell_bx (hcell j hlt).2.2.2.2 hz.out.bel
      have htm := HT.out j hlt
      have hsz : tn j * (k + 3) + 1 ≤ m * (k + 3) + 1 := Nat.add_le_add_right (Nat.mul_le_mul_right _ htm) 1
      obtain ⟨W3, hW3⟩ : ∃ W, W = wr.alloc (.cells #[.string (nm j), .int .i64 (gr j), .int .i64 (ki j), .slice (TA j) (tn j) (tc j), .int .i64 (bo j)] 77) := ⟨_, rfl⟩
      have B1 := bx_alloc (bx_refl wr) (.cells #[.string (nm j), .int .i64 (gr j), .int .i64 (ki j), .slice (TA j) (tn j) (tc j), .int .i64 (bo j)] 77)
      have KT := Blk.new wr [.string (nm j), .int .i64 (gr j), .int .i64 (ki j), .slice (TA j) (tn j) (tc j), .int .i64 (bo j)] 77
      change Blk (wr.alloc (.cells #[.string (nm j), .int .i64 (gr j), .int .i64 (ki j), .slice (TA j) (tn j) (tc j), .int .i64 (bo j)] 77)) _ _ _ at KT
      rw [← hW3] at B1 KT
      have Z3 := hz.out.keep B1
      have VP := hid Z3
      have q := HH.out j
      obtain ⟨S, hS⟩ : ∃ S, S = sumN (fun t => (cf j t : Rat) * atQ mm qs (v j t)) (tn j) := ⟨_, rfl⟩
      have SM := hid (fun (W : World) (b : Below W3.heap.size W3 W) => (show Calls Tryz.prog 66 #[.slice (TA j) (tn j) (tc j), El bn bl] W (RetV W S (tn j * (k + 3) + 1)) by
        rw [hS]
        exact vsum (TA j) (tn j) (tc j) (v j) (cf j) A n c k mm bn bl qs W (hTs.keep (Z3.keep b).bel) (HQ.out.keep (Z3.keep b).bel) (Z3.keep b).kn (Z3.keep b).kl hmn (by omega)))
      rw [← hS] at q
      have SA := hid (fun (W : World) (g1 : Bool) (A1 : Option Addr) (n1 c1 : Nat) (D1 : Option Addr) (m1 d1 : Nat) (r : FrV W g1 A1 n1 c1 D1 m1 d1 (tn j * (k + 3) + 1) S) => (show Calls Tryz.prog 71 #[.agg #[.string (nm j), .int .i64 (gr j), .int .i64 (ki j), .slice (TA j) (tn j) (tc j), .int .i64 (bo j)], .agg #[.bool g1, .slice A1 n1 c1, .slice D1 m1 d1]] W (RetB W (H j)) by
        rw [q]
        exact vsatisfied (nm j) (gr j) (ki j) (bo j) (TA j) (tn j) (tc j) g1 A1 n1 c1 D1 m1 d1 (tn j * (k + 3) + 1) S W o1 o2 r (by omega)))
      have hvl := vio_len H j
      have VY := hid (fun (h : H j = true) => (show vio H (j + 1) = vio H j by show vio H j ++ _ = _; rw [if_pos h, List.append_nil]))
      have VN := hid (fun (h : H j = false) => (show vio H (j + 1) = vio H j ++ [j] by show vio H j ++ _ = _; rw [if_neg (by rw [h]; decide)]))
      obtain ⟨y0, y1, y2, y3, y4⟩ := blk_five KT
      obtain ⟨hv, hhv⟩ : ∃ h, h = H j := ⟨_, rfl⟩
      rw [← hhv] at SA VY VN
      obtain ⟨L, hL⟩ : ∃ L, L = vio H j := ⟨_, rfl⟩
      obtain ⟨L2, hL2⟩ : ∃ L, L = vio H (j + 1) := ⟨_, rfl⟩
      rw [← hL] at VP hvl VY VN
      rw [← hL2] at VY VN
      have LL := hid hL2
      clear hz B1 KT HR HT HQ HH hcell hTs htm q hS hhv hL hL2 Z3 hsz
      unfold El at SM
      go_upto_region 6 with fail
      rw [← hW3]
      clear hW3 x0 x1 x2 x3 x4
      go_region_held3 (fun W => W.cell? ⟨wr.heap.size, 0, none⟩ = some (.string (nm j)) ∧ W.cell? ⟨wr.heap.size, 1, none⟩ = some (.int .i64 (gr j)) ∧ W.cell? ⟨wr.heap.size, 2, none⟩ = some (.int .i64 (ki j)) ∧ W.cell? ⟨wr.heap.size, 3, none⟩ = some (.slice (TA j) (tn j) (tc j)) ∧ W.cell? ⟨wr.heap.size, 4, none⟩ = some (.int .i64 (bo j)))
        (refine ⟨?_, ?_, ?_, ?_, ?_⟩ <;> repeat' (first | with_reducible assumption | with_reducible refine cell_dr ?_))
        (first
          | (go_at_call 71; refine (SA.out v1 g1 A1 n1 c1 D1 m1 d1 R1.out).mono ?_; rintro e v2 ⟨rfl, b⟩; have t0 := cell_bx s0 b; have t1 := cell_bx s1 b; have t2 := cell_bx s2 b; have t3 := cell_bx s3 b; have t4 := cell_bx s4 b; have X2 := hid (bx_call X1.out b); clear b)
          | (go_at_call 66; refine (SM.out _ (bx_drew (bx_refl _))).mono ?_; rintro e v1 ⟨g1, A1, n1, c1, D1, m1, d1, rfl, r, b⟩; have s0 := cell_bx (cell_dr y0) b; have s1 := cell_bx (cell_dr y1) b; have s2 := cell_bx (cell_dr y2) b; have s3 := cell_bx (cell_dr y3) b; have s4 := cell_bx (cell_dr y4) b; have R1 := hid r; have X1 := hid (bx_call (bx_drew (bx_refl _)) b); clear b r))
      clear y0 y1 y2 y3 y4 SM SA
      cases hv
      · have hL2 := VN.out rfl
        have P2 := VP.out.keep X2.out
        have KN := hid (Blk.new v2 [.int .i64 (j : Int)] 3)
        have P3 := hid (P2.keep (bx_alloc (bx_refl v2) (.cells #[.int .i64 (j : Int)] 3)))
        have hl9 : L.length + 1 ≤ 1000000000 := by omega
        have OW := hid P3.out.own
        have LE := hid P3.out.le
        have GW := hid (fun (v' : Value) (w1 : World) (ho : w1.ownsRow W1.heap.size 3 1 v' (L ++ [j]).length (ints (L ++ [j]))) (hg : (v2.alloc (.cells #[.int .i64 (j : Int)] 3)).grownBy w1 u6.ownBlock) => (show ViP w [.slice V0 vn vc, .slice (some ⟨b, o, none⟩) rn rc] bn bl W1.heap.size mm A n c v' (vio H (j + 1)) w1 by rw [← LL.out, VN.out rfl]; exact P3.out.grow hws hbn hbl ho hg))
        clear VP VY VN LL hL2 P2 P3 X2 t0 t1 t2 t3 t4
        go_wp2_with (at_builtin; refine wpList_append_idx rfl (.tmp 30) (.tmp 32) rfl W1.heap.size u6 L rfl OW.out v2.heap.size j rfl KN.out hl9 LE.out ?_; intro v' w1 ho hg; have ZZ := hid (GW.out v' w1 ho hg); clear ho hg)
        clear OW LE GW KN
        go_roundw
        case rel => exact ⟨j + 1, by omega, by go_num, ZZ⟩
        case measure => simp [intOf]; omega
      · have ZZ := hid (show ViP w [.slice V0 vn vc, .slice (some ⟨b, o, none⟩) rn rc] bn bl W1.heap.size mm A n c u6 (vio H (j + 1)) v2 by rw [← LL.out, VY.out rfl]; exact VP.out.keep X2.out)
        clear VP VY VN LL X2 t0 t1 t2 t3 t4
        go_wp2_with fail
        go_roundw
        case rel => exact ⟨j + 1, by omega, by go_num, ZZ⟩
        case measure => simp [intOf]; omega
    · obtain rfl : j = rn := by omega
      obtain ⟨A2, c2, hu, hI⟩ := own_ints hz.out.own
      subst hu
      have YY : RetL w (vio H j) (.returned (.slice A2 (vio H j).length c2)) wr := ⟨_, _, rfl, hI, hz.out.bel⟩
      have YH := hid YY
      clear hz HR HT HQ HH hI YY
      go_wp2_with fail
      exact bodyPost_ret (v := .slice A2 (vio H j).length c2) (by simp [results, Tryz.results24, go_sem]) rfl YH.out
end Go.Proofs.YtdbccidlnhjfhaaGreatDoor
