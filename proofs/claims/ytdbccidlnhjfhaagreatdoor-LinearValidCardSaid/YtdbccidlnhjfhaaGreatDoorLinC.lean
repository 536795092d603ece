/- LinC: Wd1, QB, Val1, Val2, Col0, Col1, Cmb1, Vio in one text. -/
import Derived.Test.YtdbccidlnhjfhaaGreatDoorLinB
import Derived.Test.YtdbccidlnhjfhaaGreatDoorLinA
import Derived.Deep.DeepCutAuto
import Derived.BigQuiet
import Derived.Maps.AppendAt
import Derived.OwnWalk
namespace Go.Proofs.YtdbccidlnhjfhaaGreatDoor
open Go.RowKit
set_option maxRecDepth 100000
theorem sgnQ_neg' {q : Rat} : sgnQ q < 0 ↔ q < 0 := by
  unfold sgnQ; split
  · simp_all
  · split <;> simp_all
theorem sgnQ_pos' {q : Rat} : 0 < sgnQ q ↔ 0 < q := by
  unfold sgnQ; split
  · constructor
    · intro h; omega
    · intro h; grind
  · split <;> simp_all
theorem sumN_add (f g : Nat → Rat) (n : Nat) : sumN (fun j => f j + g j) n = sumN f n + sumN g n := by
  induction n with
  | zero => show (0 : Rat) = 0 + 0; grind
  | succ n ih => show sumN (fun j => f j + g j) n + (f n + g n) = _; rw [ih]; show _ = sumN f n + f n + (sumN g n + g n); grind
theorem sumN_mul (c : Rat) (f : Nat → Rat) (n : Nat) : sumN (fun j => c * f j) n = c * sumN f n := by
  induction n with
  | zero => show (0 : Rat) = c * 0; grind
  | succ n ih => show sumN (fun j => c * f j) n + c * f n = c * (sumN f n + f n); rw [ih]; grind
theorem sumN_le {f g : Nat → Rat} {n : Nat} (h : ∀ j, j < n → f j ≤ g j) : sumN f n ≤ sumN g n := by
  induction n with
  | zero => exact Rat.le_refl
  | succ n ih =>
    show sumN f n + f n ≤ sumN g n + g n
    have h1 := ih fun j hj => h j (by omega)
    have h2 := h n (by omega)
    grind
def cmbA (rn : Nat) (tn : Nat → Nat) (v cf : Nat → Nat → Int) (y : Nat → Rat) (j : Nat) : Rat := sumN (fun i => sumN (fun t => if v i t = (j : Int) then (cf i t : Rat) * y i else 0) (tn i)) rn
def cmbB (rn : Nat) (bo : Nat → Int) (y : Nat → Rat) : Rat := sumN (fun i => (bo i : Rat) * y i) rn
def rowV (vn : Nat) (tn : Nat) (v cf : Nat → Int) (x : Nat → Rat) : Rat := sumN (fun t => (cf t : Rat) * atQ vn x (v t)) tn
theorem end_le {op : Bool} {lo up : Int} {d x : Rat} (hw : within op lo up x) (hs : ¬(sgnQ d < 0 ∧ op = true)) : ((endZ d lo up : Int) : Rat) * d ≤ d * x := by
  have a1 := @sgnQ_neg' d
  have b1 := @sgnQ_neg' (x - (lo : Rat))
  have b2 := @sgnQ_pos' (x - (up : Rat))
  unfold within at hw
  unfold endZ
  split
  · rename_i h
    have ho : op = false := by cases op; rfl; exact absurd ⟨h, rfl⟩ hs
    have h1 : ¬0 < x - (up : Rat) := fun k => hw.2 ⟨ho, b2.2 k⟩
    have h2 := a1.1 h
    have h3 := Rat.mul_nonneg (a := -d) (b := (up : Rat) - x) (by grind) (by grind)
    grind
  · rename_i h
    have h1 : ¬x - (lo : Rat) < 0 := fun k => hw.1 (b1.2 k)
    have h2 : ¬d < 0 := fun k => h (a1.2 k)
    have h3 := Rat.mul_nonneg (a := d) (b := x - (lo : Rat)) (by grind) (by grind)
    grind
theorem lst_le {vn : Nat} {lo up : Nat → Int} {op : Nat → Bool} {d x : Nat → Rat} (hl : lstB vn lo up op d = true) (hw : ∀ j, j < vn → within (op j) (lo j) (up j) (x j)) : lstV vn lo up op d ≤ sumN (fun j => d j * x j) vn := by
  unfold lstV
  rw [if_pos hl]
  unfold lstB at hl
  rw [Bool.and_eq_true] at hl
  have hs : shut vn op d := of_decide_eq_true hl.2
  exact sumN_le fun j hj => end_le (hw j hj) (hs j hj)
def rowC (v cf : Nat → Int) (i j : Nat) : Nat → List (Int × Int)
  | 0 => []
  | t + 1 => rowC v cf i j t ++ (if v t = (j : Int) then [((i : Int), cf t)] else [])
def colC (tn : Nat → Nat) (v cf : Nat → Nat → Int) (j : Nat) : Nat → List (Int × Int)
  | 0 => []
  | i + 1 => colC tn v cf j i ++ rowC (v i) (cf i) i j (tn i)
def lsum (l : List (Int × Int)) (y : Int → Rat) : Rat := sumN (fun k => ((l.getD k (0, 0)).2 : Rat) * y (l.getD k (0, 0)).1) l.length
theorem sumN_split (f : Nat → Rat) (a b : Nat) : sumN f (a + b) = sumN f a + sumN (fun j => f (a + j)) b := by
  induction b with
  | zero => show sumN f a = sumN f a + 0; grind
  | succ b ih => show sumN f (a + b) + f (a + b) = sumN f a + (sumN (fun j => f (a + j)) b + f (a + b)); rw [ih]; grind
theorem lsum_append (l m : List (Int × Int)) (y : Int → Rat) : lsum (l ++ m) y = lsum l y + lsum m y := by
  unfold lsum
  rw [List.length_append, sumN_split]
  congr 1
  · refine sumN_congr fun k hk => ?_
    rw [List.getD_eq_getElem?_getD, List.getElem?_append_left hk, ← List.getD_eq_getElem?_getD]
  · refine sumN_congr fun k _ => ?_
    show (((l ++ m).getD (l.length + k) (0, 0)).2 : Rat) * y ((l ++ m).getD (l.length + k) (0, 0)).1 = _
    rw [List.getD_eq_getElem?_getD, List.getElem?_append_right (by omega), Nat.add_sub_cancel_left, ← List.getD_eq_getElem?_getD]
theorem lsum_nil (y : Int → Rat) : lsum [] y = 0 := rfl
theorem lsum_one (a c : Int) (y : Int → Rat) : lsum [(a, c)] y = (c : Rat) * y a := by
  show 0 + (c : Rat) * y a = _; grind
theorem rowC_sum (v cf : Nat → Int) (i j t : Nat) (y : Int → Rat) : lsum (rowC v cf i j t) y = sumN (fun t => if v t = (j : Int) then (cf t : Rat) * y (i : Int) else 0) t := by
  induction t with
  | zero => rfl
  | succ t ih =>
    show lsum (rowC v cf i j t ++ _) y = sumN _ t + _
    rw [lsum_append, ih]
    congr 1
    show lsum (if v t = (j : Int) then [((i : Int), cf t)] else []) y = if v t = (j : Int) then (cf t : Rat) * y (i : Int) else 0
    split
    · exact lsum_one _ _ _
    · exact lsum_nil _
theorem colC_sum (tn : Nat → Nat) (v cf : Nat → Nat → Int) (j n : Nat) (y : Int → Rat) : lsum (colC tn v cf j n) y = cmbA n tn v cf (fun i => y (i : Int)) j := by
  induction n with
  | zero => rfl
  | succ n ih =>
    show lsum (colC tn v cf j n ++ _) y = sumN _ n + _
    rw [lsum_append, ih, rowC_sum]
    rfl
theorem rowC_len (v cf : Nat → Int) (i j t : Nat) : (rowC v cf i j t).length ≤ t := by
  induction t with
  | zero => exact Nat.le_refl _
  | succ t ih =>
    show (rowC v cf i j t ++ _).length ≤ _
    rw [List.length_append]
    split
    · show _ + 1 ≤ _; omega
    · show _ + 0 ≤ _; omega
theorem colC_len {tn : Nat → Nat} {v cf : Nat → Nat → Int} {j n m : Nat} (h : ∀ i, i < n → tn i ≤ m) : (colC tn v cf j n).length ≤ n * m := by
  induction n with
  | zero => exact Nat.zero_le _
  | succ n ih =>
    show (colC tn v cf j n ++ _).length ≤ _
    rw [List.length_append, Nat.succ_mul]
    have h1 := ih fun i hi => h i (by omega)
    have h2 := rowC_len (v n) (cf n) n j (tn n)
    have h3 := h n (by omega)
    omega
theorem rowC_mem {v cf : Nat → Int} {i j t : Nat} {p : Int × Int} (h : p ∈ rowC v cf i j t) : p.1 = (i : Int) ∧ ∃ s, s < t ∧ p.2 = cf s := by
  induction t with
  | zero => cases h
  | succ t ih =>
    rcases List.mem_append.1 (show p ∈ rowC v cf i j t ++ (if v t = (j : Int) then [((i : Int), cf t)] else []) from h) with h1 | h1
    · obtain ⟨h2, s, hs, h3⟩ := ih h1
      exact ⟨h2, s, by omega, h3⟩
    · split at h1
      · rw [List.mem_singleton] at h1
        subst h1
        exact ⟨rfl, t, by omega, rfl⟩
      · cases h1
theorem colC_mem {tn : Nat → Nat} {v cf : Nat → Nat → Int} {j n : Nat} {p : Int × Int} (h : p ∈ colC tn v cf j n) : ∃ i s, i < n ∧ s < tn i ∧ p.1 = (i : Int) ∧ p.2 = cf i s := by
  induction n with
  | zero => cases h
  | succ n ih =>
    rcases List.mem_append.1 (show p ∈ colC tn v cf j n ++ rowC (v n) (cf n) n j (tn n) from h) with h1 | h1
    · obtain ⟨i, s, h2, h3⟩ := ih h1
      exact ⟨i, s, by omega, h3⟩
    · obtain ⟨h2, s, h3, h4⟩ := rowC_mem h1
      exact ⟨n, s, by omega, h3, h2, h4⟩
def QB (w : World) (b n k : Nat) (qs : Nat → Rat) : Prop := ∃ cs : List Value, Blk w b cs 41 ∧ cs.length = n * 3 ∧ ∀ i, i < n → ∃ g A n' c D m d, cs[i * 3]? = some (.bool g) ∧ cs[i * 3 + 1]? = some (.slice A n' c) ∧ cs[i * 3 + 2]? = some (.slice D m d) ∧ FrV w g A n' c D m d k (qs i)
theorem QB.keep {w w' : World} {b n k : Nat} {qs : Nat → Rat} (h : QB w b n k qs) (hb : Below w.heap.size w w') : QB w' b n k qs := by
  obtain ⟨cs, hB, hl, hc⟩ := h
  refine ⟨cs, hB.keep hb, hl, fun i hi => ?_⟩
  obtain ⟨g, A, n', c, D, m, d, h0, h1, h2, h3⟩ := hc i hi
  exact ⟨g, A, n', c, D, m, d, h0, h1, h2, h3.keep hb⟩
theorem QB.lt {w : World} {b n k : Nat} {qs : Nat → Rat} (h : QB w b n k qs) : b < w.heap.size := by
  obtain ⟨cs, hB, _⟩ := h
  exact hB.lt
theorem QB.get {w : World} {b n k : Nat} {qs : Nat → Rat} (h : QB w b n k qs) {i : Nat} (hi : i < n) : ∃ g A n' c D m d, w.cell? ⟨b, i * 3, none⟩ = some (.bool g) ∧ w.cell? ⟨b, i * 3 + 1, none⟩ = some (.slice A n' c) ∧ w.cell? ⟨b, i * 3 + 2, none⟩ = some (.slice D m d) ∧ FrV w g A n' c D m d k (qs i) := by
  obtain ⟨cs, hB, hl, hc⟩ := h
  obtain ⟨g, A, n', c, D, m, d, h0, h1, h2, h3⟩ := hc i hi
  exact ⟨g, A, n', c, D, m, d, by rw [hB.cell]; exact h0, by rw [hB.cell]; exact h1, by rw [hB.cell]; exact h2, h3⟩
theorem QB.qs {w : World} {b n k : Nat} {qs : Nat → Rat} (h : QB w b n k qs) (hn : n ≤ 9223372036854775807) (hk : 1 ≤ k) : Qs w (some ⟨b, 0, none⟩) n n k qs := by
  refine ⟨Nat.le_refl _, hn, hk, fun _ => ⟨b, 0, rfl, h.lt, fun j hj => ?_⟩⟩
  obtain ⟨g, A, n', c, D, m, d, h0, h1, h2, h3⟩ := h.get hj
  exact ⟨g, A, n', c, D, m, d, by rw [Nat.zero_add]; exact h0, by rw [Nat.zero_add]; exact h1, by rw [Nat.zero_add]; exact h2, h3⟩
theorem qb_plain {n : Nat} {cs : List Value} (hl : cs.length = n * 3) (hc : ∀ i, i < n → ∃ (g : Bool) (A : Option Addr) (n' c : Nat) (D : Option Addr) (m d : Nat), cs[i * 3]? = some (.bool g) ∧ cs[i * 3 + 1]? = some (.slice A n' c) ∧ cs[i * 3 + 2]? = some (.slice D m d)) : ∀ (j x : Nat), cs[j]? ≠ some (.int .u32 (x : Int)) := by
  intro j x e
  have hj : j < cs.length := by
    rcases Nat.lt_or_ge j cs.length with h1 | h1
    · exact h1
    · rw [List.getElem?_eq_none h1] at e; cases e
  obtain ⟨g, A, n', c, D, m, d, h0, h1, h2⟩ := hc (j / 3) (by omega)
  have : j = j / 3 * 3 ∨ j = j / 3 * 3 + 1 ∨ j = j / 3 * 3 + 2 := by omega
  rcases this with h | h | h
  · rw [← h, e] at h0; cases h0
  · rw [← h, e] at h1; cases h1
  · rw [← h, e] at h2; cases h2
def qzs : Nat → List Value
  | 0 => []
  | n + 1 => .bool false :: .slice none 0 0 :: .slice none 0 0 :: qzs n
theorem qzs_len (n : Nat) : (qzs n).length = n * 3 := by
  induction n with
  | zero => rfl
  | succ n ih => show (qzs n).length + 1 + 1 + 1 = _; rw [ih]; omega
theorem qzs_get {n i : Nat} (h : i < n) : (qzs n)[i * 3]? = some (.bool false) ∧ (qzs n)[i * 3 + 1]? = some (.slice none 0 0) ∧ (qzs n)[i * 3 + 2]? = some (.slice none 0 0) := by
  induction n generalizing i with
  | zero => omega
  | succ n ih =>
    rcases i with _ | i
    · exact ⟨rfl, rfl, rfl⟩
    · have := ih (i := i) (by omega)
      rw [Nat.succ_mul]
      exact this
theorem madeCells_rats (n : Nat) : madeCells #[.bool false, .slice none 0 0, .slice none 0 0] (n * 3) = (qzs n).toArray := by
  apply Array.ext
  · simp [size_madeCells, qzs_len]
  · intro i h1 h2
    have hn : i < n * 3 := by simpa [size_madeCells] using h1
    have e := qzs_get (n := n) (i := i / 3) (by omega)
    have hi : i < (qzs n).length := by rw [qzs_len]; exact hn
    have : i = i / 3 * 3 ∨ i = i / 3 * 3 + 1 ∨ i = i / 3 * 3 + 2 := by omega
    have key : (qzs n)[i]? = some ((madeCells #[.bool false, .slice none 0 0, .slice none 0 0] (n * 3))[i]) := by
      rcases this with h | h | h
      · have e0 := e.1
        rw [← h] at e0
        rw [e0]
        have : i % 3 = 0 := by omega
        simp [madeCells, this]
      · have e0 := e.2.1
        rw [← h] at e0
        rw [e0]
        have : i % 3 = 1 := by omega
        simp [madeCells, this]
      · have e0 := e.2.2
        rw [← h] at e0
        rw [e0]
        have : i % 3 = 2 := by omega
        simp [madeCells, this]
    rw [List.getElem?_eq_getElem hi] at key
    injection key with key
    rw [← key]
    simp
theorem Tryz.infoRat : (Tryz.prog.info? 41).map (fun i => (i.zero, i.size, i.bytes)) = some (some (.agg #[.bool false, .slice none 0 0, .slice none 0 0]), 3, 56) := by kernel_rfl
theorem run_make_rats (n : Nat) (h : n ≤ 1000000) (W : World) :
    (Instr.makeSlice 32 (.int .i64 (n : Int)) (.int .i64 (n : Int))).run Tryz.prog W = .ok (.slice (some ⟨W.heap.size, 0, none⟩) n n) (W.alloc (.cells (qzs n).toArray 41)) := by
  obtain ⟨i, hi, hzz⟩ := Option.map_eq_some_iff.1 Tryz.infoRat
  simp only [Prod.mk.injEq] at hzz
  obtain ⟨hz, hs, hb⟩ := hzz
  have hr := run_make (P := Tryz.prog) W 32 41 i _ (by kernel_rfl) hi hz .i64 .i64 (n : Int) (n : Int) (by omega) (Int.le_refl _) (by rw [hb]; omega) (by omega)
  simp only [Int.toNat_natCast, hs] at hr
  rw [show (Value.agg #[.bool false, .slice none 0 0, .slice none 0 0]).cells = #[.bool false, .slice none 0 0, .slice none 0 0] by rfl, madeCells_rats] at hr
  exact hr
def inR (z : Int) : Prop := -1099511627776 ≤ z ∧ z ≤ 1099511627776
instance (z : Int) : Decidable (inR z) := by unfold inR; infer_instance
set_option maxHeartbeats 2000000 in
theorem vinrange (b n : Nat) (z : Nat → Int) (w : World) (hn : n ≤ 9223372036854775807) (hc : ∀ j, j < n → w.cell? ⟨b, j, none⟩ = some (.int .i64 (z j))) :
    Calls Tryz.prog 55 #[.slice (some ⟨b, 0, none⟩) n n] w (RetB w (decide (∀ j, j < n → inR (z j)))) := by
  have HC := hid hc
  clear hc
  go_enter Tryz.func55, Tryz.ntmps55
  go_wp2_with fail
  go_loopw [7] (fun i wr => ∃ j : Nat, j ≤ n ∧ i = .int .i64 j ∧ Hid ((∀ i, i < j → inR (z i)) ∧ Below w.heap.size w wr)) (fun i _ => n - (intOf i).toNat)
  case atStart => exact ⟨0, Nat.zero_le _, rfl, hid ⟨fun i hi => absurd hi (by omega), bx_refl w⟩⟩
  case round =>
    obtain ⟨j, hj, rfl, hz⟩ := hrel
    rcases Nat.lt_or_ge j n with hlt | hge
    · have x0 := HC.out j hlt
      have x1 : wr.cell? ⟨b, j, none⟩ = some (.int .i64 (z j)) := cell_bx x0 hz.out.2
      have NO := hid (fun (h : ¬inR (z j)) => (⟨by rw [decide_eq_false fun g => h (g j hlt)], hz.out.2⟩ : RetB w (decide (∀ j, j < n → inR (z j))) (.returned (.bool false)) wr))
      have YE := hid (fun (h : inR (z j)) => (⟨fun i hi => by
        rcases Nat.lt_or_ge i j with h1 | h1
        · exact hz.out.1 i h1
        · obtain rfl : i = j := by omega
          exact h, hz.out.2⟩ : (∀ i, i < j + 1 → inR (z i)) ∧ Below w.heap.size w wr))
      obtain ⟨y, hy⟩ : ∃ y, y = z j := ⟨_, rfl⟩
      have NY := hid (fun (h : ¬inR y) => NO.out (by rw [← hy]; exact h))
      have YY := hid (fun (h : inR y) => YE.out (by rw [← hy]; exact h))
      rw [← hy] at x1
      clear x0 HC hz NO YE hy
      by_cases h1 : y < -1099511627776
      · have t1 : decide (y < -1099511627776) = true := decide_eq_true h1
        have NN := hid (NY.out (fun h => by unfold inR at h; omega))
        clear NY YY
        go_wp2_with fail
        go_ret
        exact NN.out
      · have t1 : decide (y < -1099511627776) = false := decide_eq_false h1
        by_cases h2 : 1099511627776 < y
        · have t2 : decide (1099511627776 < y) = true := decide_eq_true h2
          have NN := hid (NY.out (fun h => by unfold inR at h; omega))
          clear NY YY
          go_wp2_with fail
          go_ret
          exact NN.out
        · have t2 : decide (1099511627776 < y) = false := decide_eq_false h2
          have ZZ := hid (YY.out (by unfold inR; omega))
          clear NY YY
          go_wp2_with fail
          go_roundw
          case rel => exact ⟨j + 1, by omega, by go_num, ZZ⟩
          case measure => simp [intOf]; omega
    · obtain rfl : j = n := by omega
      have YY := hid (⟨by rw [decide_eq_true hz.out.1], hz.out.2⟩ : RetB w (decide (∀ i, i < j → inR (z i))) (.returned (.bool true)) wr)
      clear HC hz
      go_wp2_with fail
      go_ret
      exact YY.out
def chOk (c : UInt8) : Prop := 32 ≤ c.toNat ∧ c.toNat ≤ 126
instance (c : UInt8) : Decidable (chOk c) := by unfold chOk; infer_instance
def nmB (s : ByteArray) : Bool := decide (∀ c, c ∈ s.data.toList → chOk c) && decide (s.size ≤ 80)
theorem mem_byte {s : ByteArray} {j : Nat} (h : j < s.size) : s[j] ∈ s.data.toList := by
  rw [show s[j] = s.data.toList[j]'(by simpa using h) from rfl]
  exact List.getElem_mem _
theorem mem_take_succ {s : ByteArray} {j : Nat} (h : j < s.size) {P : UInt8 → Prop} (hp : ∀ c, c ∈ s.data.toList.take j → P c) (hj : P s[j]) : ∀ c, c ∈ s.data.toList.take (j + 1) → P c := by
  intro c hc
  rw [List.take_succ_eq_append_getElem (by simpa using h)] at hc
  rcases List.mem_append.1 hc with h1 | h1
  · exact hp c h1
  · rw [List.mem_singleton] at h1
    subst h1
    exact hj
set_option maxHeartbeats 2000000 in
theorem vname (s : ByteArray) (w : World) (hs : s.size ≤ 9223372036854775807) :
    Calls Tryz.prog 98 #[.string s] w (RetB w (nmB s)) := by
  go_enter Tryz.func98, Tryz.ntmps98
  go_wp2_with fail
  go_loopw [6] (fun i wr => ∃ j : Nat, j ≤ s.size ∧ i = .int .i64 j ∧ Hid ((∀ c, c ∈ s.data.toList.take j → chOk c) ∧ Below w.heap.size w wr)) (fun i _ => s.size - (intOf i).toNat)
  case atStart => exact ⟨0, Nat.zero_le _, rfl, hid ⟨(fun c hc => by cases hc), bx_refl w⟩⟩
  case round =>
    obtain ⟨j, hj, rfl, hz⟩ := hrel
    rcases Nat.lt_or_ge j s.size with hlt | hge
    · have NO := hid (fun (h : ¬chOk s[j]) => (⟨by unfold nmB; rw [decide_eq_false fun g => h (g s[j] (mem_byte hlt)), Bool.false_and], hz.out.2⟩ : RetB w (nmB s) (.returned (.bool false)) wr))
      have YE := hid (fun (h : chOk s[j]) => (⟨mem_take_succ hlt hz.out.1 h, hz.out.2⟩ : (∀ c, c ∈ s.data.toList.take (j + 1) → chOk c) ∧ Below w.heap.size w wr))
      clear hz
      by_cases h1 : (s[j].toNat : Int) < 32
      · have t1 : decide ((s[j].toNat : Int) < 32) = true := decide_eq_true h1
        have NN := hid (NO.out (fun h => by unfold chOk at h; omega))
        clear NO YE
        go_wp2_with fail
        go_ret
        exact NN.out
      · have t1 : decide ((s[j].toNat : Int) < 32) = false := decide_eq_false h1
        by_cases h2 : 126 < (s[j].toNat : Int)
        · have t2 : decide (126 < (s[j].toNat : Int)) = true := decide_eq_true h2
          have NN := hid (NO.out (fun h => by unfold chOk at h; omega))
          clear NO YE
          go_wp2_with fail
          go_ret
          exact NN.out
        · have t2 : decide (126 < (s[j].toNat : Int)) = false := decide_eq_false h2
          have ZZ := hid (YE.out (by unfold chOk; omega))
          clear NO YE
          go_wp2_with fail
          go_roundw
          case rel => exact ⟨j + 1, by omega, by go_num, ZZ⟩
          case measure => simp [intOf]; omega
    · obtain rfl : j = s.size := by omega
      have YY := hid (⟨by unfold nmB; rw [decide_eq_true (fun c hc => hz.out.1 c (by rw [List.take_of_length_le (by simp)]; exact hc)), Bool.true_and], hz.out.2⟩ : RetB w (nmB s) (.returned (.bool (decide (s.size ≤ 80)))) wr)
      by_cases h3 : s.size ≤ 80
      · have t3 : decide ((s.size : Int) ≤ 80) = true := decide_eq_true (by omega)
        rw [decide_eq_true h3] at YY
        clear hz
        go_wp2_with fail
        go_ret
        exact YY.out
      · have t3 : decide ((s.size : Int) ≤ 80) = false := decide_eq_false (by omega)
        rw [decide_eq_false h3] at YY
        clear hz
        go_wp2_with fail
        go_ret
        exact YY.out
def prevV (v : Nat → Int) : Nat → Int
  | 0 => -1
  | t + 1 => v t
def tmOk (vn : Nat) (p v c : Int) : Prop := p < v ∧ v < vn ∧ c ≠ 0 ∧ inR c
instance (vn : Nat) (p v c : Int) : Decidable (tmOk vn p v c) := by unfold tmOk; infer_instance
def tmsB (vn tn : Nat) (v cf : Nat → Int) : Bool := decide (∀ t, t < tn → tmOk vn (prevV v t) (v t) (cf t))
theorem all_one {n : Nat} {z : Nat → Int} {c : Int} (hn : n = 1) (h : z 0 = c) : decide (∀ j, j < n → inR (z j)) = decide (inR c) := by
  refine decide_eq_decide.2 ⟨fun g => h ▸ g 0 (by omega), fun g j hj => ?_⟩
  obtain rfl : j = 0 := by omega
  rw [h]
  exact g
theorem cell_one {w : World} {q t : Nat} {c : Int} (k : Blk w q [.int .i64 c] t) : ∀ i, i < 1 → w.cell? ⟨q, i, none⟩ = some (.int .i64 ((fun _ : Nat => c) i)) := fun i hi => by
  obtain rfl : i = 0 := by omega
  exact Blk.cell k 0
theorem vinrange1 (q : Nat) (c : Int) (w : World) (k : Blk w q [.int .i64 c] 2) : Calls Tryz.prog 55 #[.slice (some ⟨q, 0, none⟩) 1 1] w (RetB w (decide (inR c))) := by
  obtain ⟨n, hn⟩ : ∃ n : Nat, n = 1 := ⟨1, rfl⟩
  have := vinrange q n (fun _ => c) w (by omega) (fun i hi => cell_one k i (by omega))
  rw [all_one hn rfl] at this
  subst hn
  exact this
set_option maxHeartbeats 2000000 in
theorem vterms (TA : Option Addr) (tn tc vn : Nat) (v cf : Nat → Int) (w : World) (hT : Ts w TA tn tc v cf) (_hvn : vn ≤ 9223372036854775807) :
    Calls Tryz.prog 99 #[.slice TA tn tc, .int .i64 vn] w (RetB w (tmsB vn tn v cf)) := by
  have hc := hT.1
  have hc2 := hT.2.1
  have HT := hid hT
  clear hT
  go_enter Tryz.func99, Tryz.ntmps99
  go_wp2_with fail
  go_loopw [5, 10] (fun l i wr => ∃ j : Nat, j ≤ tn ∧ i = .int .i64 j ∧ l = .int .i64 (prevV v j) ∧ Hid ((∀ t, t < j → tmOk vn (prevV v t) (v t) (cf t)) ∧ Below w.heap.size w wr)) (fun _ i _ => tn - (intOf i).toNat)
  case atStart => exact ⟨0, Nat.zero_le _, rfl, rfl, hid ⟨fun i hi => absurd hi (by omega), bx_refl w⟩⟩
  case round =>
    obtain ⟨j, hj, rfl, rfl, hz⟩ := hrel
    rcases Nat.lt_or_ge j tn with hlt | hge
    · obtain ⟨b, o, rfl, hb, hcell⟩ := HT.out.2.2.2 (by omega)
      obtain ⟨⟨l1, l2⟩, l3, l4⟩ := HT.out.2.2.1 j hlt
      have x0 := cell_bx (hcell j hlt).1 hz.out.2
      have x1 := cell_bx (hcell j hlt).2 hz.out.2
      have NO := hid (fun (W : World) (B : Below wr.heap.size wr W) (h : ¬tmOk vn (prevV v j) (v j) (cf j)) => (⟨by unfold tmsB; rw [decide_eq_false fun g => h (g j hlt)], bx_call hz.out.2 B⟩ : RetB w (tmsB vn tn v cf) (.returned (.bool false)) W))
      have YE := hid (fun (W : World) (B : Below wr.heap.size wr W) (h : tmOk vn (prevV v j) (v j) (cf j)) => (⟨fun i hi => by
        rcases Nat.lt_or_ge i j with h1 | h1
        · exact hz.out.1 i h1
        · obtain rfl : i = j := by omega
          exact h, bx_call hz.out.2 B⟩ : (∀ t, t < j + 1 → tmOk vn (prevV v t) (v t) (cf t)) ∧ Below w.heap.size w W))
      obtain ⟨p, hp⟩ : ∃ p, p = prevV v j := ⟨_, rfl⟩
      have hnx : prevV v (j + 1) = v j := rfl
      have HN := hid hnx
      obtain ⟨V, hV⟩ : ∃ V, V = v j := ⟨_, rfl⟩
      obtain ⟨C, hC⟩ : ∃ C, C = cf j := ⟨_, rfl⟩
      rw [← hp, ← hV, ← hC] at NO YE
      rw [← hV] at x0 l1 l2 HN
      rw [← hC] at x1 l3 l4
      rw [← hp]
      have B1 := bx_alloc (bx_refl wr) (.cells #[.int .i64 V, .int .i64 C] 94)
      have KT := hid (Blk.new wr [.int .i64 V, .int .i64 C] 94)
      have BB := hid B1
      clear hz HT hcell hp hV hC B1 hnx
      by_cases h1 : V ≤ p
      · have t1 : decide (V ≤ p) = true := decide_eq_true h1
        have NN := hid (NO.out _ BB.out (fun h => by unfold tmOk at h; omega))
        clear NO YE BB KT
        go_wp2_with fail
        go_ret
        exact NN.out
      · have t1 : decide (V ≤ p) = false := decide_eq_false h1
        by_cases h2 : (vn : Int) ≤ V
        · have t2 : decide ((vn : Int) ≤ V) = true := decide_eq_true h2
          have NN := hid (NO.out _ BB.out (fun h => by unfold tmOk at h; omega))
          clear NO YE BB KT
          go_wp2_with fail
          go_ret
          exact NN.out
        · have t2 : decide ((vn : Int) ≤ V) = false := decide_eq_false h2
          by_cases h3 : C = 0
          · have t3 : (C == 0) = true := beq_iff_eq.2 h3
            have NN := hid (NO.out _ BB.out (fun h => by unfold tmOk at h; omega))
            have H3 := hid h3
            clear NO YE BB KT h3
            go_wp2_with fail
            go_ret
            exact NN.out
          · have t3 : (C == 0) = false := beq_eq_false_iff_ne.2 h3
            have CA := hid (fun (W : World) (q : Nat) (k : Blk W q [.int .i64 C] 2) => vinrange1 q C W k)
            have K2 := hid (blk_new1 wr (.cells #[.int .i64 V, .int .i64 C] 94) [.int .i64 C] 2)
            have C2 := hid (CA.out _ _ K2.out)
            have B2 := hid (bx_alloc BB.out (.cells #[.int .i64 C] 2))
            have KT2 := hid ((Blk.alloc KT.out (.cells #[.int .i64 C] 2)))
            clear CA K2 KT BB
            go_wp2_with fail
            refine (C2.out).mono ?_
            rintro e w1 ⟨rfl, b2⟩
            have z0 := (blk_two (KT2.out.keep b2)).1
            have B3 := hid (bx_call B2.out b2)
            clear C2 KT2 B2 b2
            by_cases h4 : inR C
            · rw [decide_eq_true h4]
              have ZZ := hid (YE.out _ B3.out ⟨by omega, by omega, h3, h4⟩)
              clear NO YE B3
              go_wp2_with fail
              go_roundw
              case rel => exact ⟨j + 1, by omega, by go_num, by rw [HN.out], ZZ⟩
              case measure => simp [intOf]; omega
            · rw [decide_eq_false h4]
              have NN := hid (NO.out _ B3.out (fun h => h4 h.2.2.2))
              clear NO YE B3
              go_wp2_with fail
              go_ret
              exact NN.out
    · obtain rfl : j = tn := by omega
      have YY := hid (⟨by unfold tmsB; rw [decide_eq_true hz.out.1], hz.out.2⟩ : RetB w (tmsB vn j v cf) (.returned (.bool true)) wr)
      clear HT hz
      go_wp2_with fail
      go_ret
      exact YY.out
def rowB (vn : Nat) (nm : ByteArray) (gr ki bo : Int) (tn : Nat) (v cf : Nat → Int) : Bool := (((decide (0 ≤ ki ∧ ki ≤ 2) && decide (0 ≤ gr ∧ gr ≤ 60)) && decide (inR bo)) && nmB nm) && tmsB vn tn v cf
set_option maxHeartbeats 4000000 in
theorem vrow (nm : ByteArray) (gr ki bo : Int) (TA : Option Addr) (tn tc vn : Nat) (v cf : Nat → Int) (w : World) (hT : Ts w TA tn tc v cf) (hnm : nm.size ≤ 9223372036854775807) (hvn : vn ≤ 9223372036854775807) :
    Calls Tryz.prog 56 #[.agg #[.string nm, .int .i64 gr, .int .i64 ki, .slice TA tn tc, .int .i64 bo], .int .i64 vn] w (RetB w (rowB vn nm gr ki bo tn v cf)) := by
  obtain ⟨W0, hW⟩ : ∃ W, W = w.alloc (.cells #[.string nm, .int .i64 gr, .int .i64 ki, .slice TA tn tc, .int .i64 bo] 77) := ⟨_, rfl⟩
  have B0 := bx_alloc (bx_refl w) (.cells #[.string nm, .int .i64 gr, .int .i64 ki, .slice TA tn tc, .int .i64 bo] 77)
  have K0 := Blk.new w [.string nm, .int .i64 gr, .int .i64 ki, .slice TA tn tc, .int .i64 bo] 77
  change Blk (w.alloc (.cells #[.string nm, .int .i64 gr, .int .i64 ki, .slice TA tn tc, .int .i64 bo] 77)) _ _ _ at K0
  rw [← hW] at B0 K0
  have BB := hid B0
  have KK := hid K0
  have IR := hid (fun (W : World) (q : Nat) (k : Blk W q [.int .i64 bo] 2) => vinrange1 q bo W k)
  have NM := hid (fun (W : World) => vname nm W hnm)
  have TM := hid (fun (W : World) (b : Below w.heap.size w W) => vterms TA tn tc vn v cf W (hT.keep b) hvn)
  obtain ⟨y0, y1, y2, y3, y4⟩ := blk_five K0
  obtain ⟨b3, hb3⟩ : ∃ b, b = decide (inR bo) := ⟨_, rfl⟩
  obtain ⟨b4, hb4⟩ : ∃ b, b = nmB nm := ⟨_, rfl⟩
  obtain ⟨b5, hb5⟩ : ∃ b, b = tmsB vn tn v cf := ⟨_, rfl⟩
  have er : rowB vn nm gr ki bo tn v cf = ((((decide (0 ≤ ki ∧ ki ≤ 2) && decide (0 ≤ gr ∧ gr ≤ 60)) && b3) && b4) && b5) := by rw [hb3, hb4, hb5]; rfl
  rw [er]
  rw [← hb3] at IR
  rw [← hb4] at NM
  rw [← hb5] at TM
  clear B0 K0 hT hnm hb3 hb4 hb5 er
  by_cases hk : 0 ≤ ki ∧ ki ≤ 2
  · rw [decide_eq_true hk, Bool.true_and]
    have hgo : ki = 0 ∨ ki = 1 ∨ ki = 2 := by omega
    have HG := hid hgo
    clear hgo hk
    by_cases h1 : gr < 0
    · have t1 : decide (gr < 0) = true := decide_eq_true h1
      rw [decide_eq_false (show ¬(0 ≤ gr ∧ gr ≤ 60) by omega)]
      simp only [Bool.false_and]
      rcases HG.out with rfl | rfl | rfl
      all_goals
        go_enter Tryz.func56, Tryz.ntmps56
        go_upto_region 1 with fail
        rw [← hW]
        clear hW IR NM TM
        go_wp2_with fail
        go_ret
        exact ⟨rfl, BB.out⟩
    · have t1 : decide (gr < 0) = false := decide_eq_false h1
      by_cases h2 : 60 < gr
      · have t2 : decide (60 < gr) = true := decide_eq_true h2
        rw [decide_eq_false (show ¬(0 ≤ gr ∧ gr ≤ 60) by omega)]
        simp only [Bool.false_and]
        rcases HG.out with rfl | rfl | rfl
        all_goals
          go_enter Tryz.func56, Tryz.ntmps56
          go_upto_region 1 with fail
          rw [← hW]
          clear hW IR NM TM
          go_wp2_with fail
          go_ret
          exact ⟨rfl, BB.out⟩
      · have t2 : decide (60 < gr) = false := decide_eq_false h2
        rw [decide_eq_true (show 0 ≤ gr ∧ gr ≤ 60 by omega)]
        simp only [Bool.true_and]
        have KB := hid (Blk.new W0 [.int .i64 bo] 2)
        have I1 := hid (IR.out _ _ KB.out)
        have B1 := hid (bx_call BB.out (bx_alloc (bx_refl W0) (.cells #[.int .i64 bo] 2)))
        have K1 := hid (Blk.alloc KK.out (.cells #[.int .i64 bo] 2))
        clear IR KB
        rcases HG.out with rfl | rfl | rfl
        all_goals
          go_enter Tryz.func56, Tryz.ntmps56
          go_upto_region 1 with fail
          rw [← hW]
          clear hW
          go_wp2_with fail
          refine (I1.out).mono ?_
          rintro e w1 ⟨rfl, b⟩
          have B2 := hid (bx_call B1.out b)
          have K2 := hid (K1.out.keep b)
          obtain ⟨z0, z1, z2, z3, z4⟩ := blk_five K2.out
          have N2 := hid (NM.out w1)
          clear I1 B1 K1 b y0 y1 y2 y3 y4 NM
          cases b3
          · clear TM N2
            go_wp2_with fail
            go_ret
            exact ⟨rfl, B2.out⟩
          · go_wp2_with fail
            refine (N2.out).mono ?_
            rintro e w2 ⟨rfl, b⟩
            have B3 := hid (bx_call B2.out b)
            have K3 := hid (K2.out.keep b)
            obtain ⟨z0, z1, z2, z3, z4⟩ := blk_five K3.out
            have T3 := hid (TM.out w2 B3.out)
            clear N2 TM b B2 K2
            cases b4
            · clear T3
              go_wp2_with fail
              go_ret
              exact ⟨rfl, B3.out⟩
            · go_wp2_with fail
              refine (T3.out).mono ?_
              rintro e w3 ⟨rfl, b⟩
              have B4 := hid (bx_call B3.out b)
              clear T3 b B3
              go_wp2_with fail
              go_ret
              exact ⟨rfl, B4.out⟩
  · rw [decide_eq_false hk]
    simp only [Bool.false_and]
    have n0 : (ki != 0) = true := bne_iff_ne.2 (by omega)
    have n1 : (ki != 1) = true := bne_iff_ne.2 (by omega)
    have n2 : (ki != 2) = true := bne_iff_ne.2 (by omega)
    have m0 : decide (ki = 0) = false := decide_eq_false (by omega)
    have m1 : decide (ki = 1) = false := decide_eq_false (by omega)
    have m2 : decide (ki = 2) = false := decide_eq_false (by omega)
    have HK := hid hk
    clear hk
    go_enter Tryz.func56, Tryz.ntmps56
    go_upto_region 1 with fail
    rw [← hW]
    clear hW IR NM TM
    go_wp2_with fail
    go_ret
    exact ⟨rfl, BB.out⟩
def varOk (lo up : Int) (op : Bool) (co : Int) : Prop := (inR lo ∧ inR up ∧ inR co) ∧ (op = true → up = 0)
instance (lo up : Int) (op : Bool) (co : Int) : Decidable (varOk lo up op co) := by unfold varOk; infer_instance
def vldB (vn rn : Nat) (lo up : Nat → Int) (op : Nat → Bool) (co : Nat → Int) (nm : Nat → ByteArray) (gr ki bo : Nat → Int) (tn : Nat → Nat) (v cf : Nat → Nat → Int) : Bool := (decide (vn ≤ 400 ∧ rn ≤ 4000) && decide (∀ j, j < vn → varOk (lo j) (up j) (op j) (co j))) && decide (∀ j, j < rn → rowB vn (nm j) (gr j) (ki j) (bo j) (tn j) (v j) (cf j) = true)
def three (x y z : Int) (i : Nat) : Int := if i = 0 then x else if i = 1 then y else z
theorem all_three {n : Nat} (hn : n = 3) (x y z : Int) : decide (∀ j, j < n → inR (three x y z j)) = decide (inR x ∧ inR y ∧ inR z) := by
  refine decide_eq_decide.2 ⟨fun g => ⟨g 0 (by omega), g 1 (by omega), g 2 (by omega)⟩, fun g j hj => ?_⟩
  have : j = 0 ∨ j = 1 ∨ j = 2 := by omega
  rcases this with rfl | rfl | rfl
  · exact g.1
  · exact g.2.1
  · exact g.2.2
theorem vinrange3 (q : Nat) (x y z : Int) (w : World) (k : Blk w q [.int .i64 x, .int .i64 y, .int .i64 z] 2) : Calls Tryz.prog 55 #[.slice (some ⟨q, 0, none⟩) 3 3] w (RetB w (decide (inR x ∧ inR y ∧ inR z))) := by
  obtain ⟨n, hn⟩ : ∃ n : Nat, n = 3 := ⟨3, rfl⟩
  have := vinrange q n (three x y z) w (by omega) (fun i hi => by
    have : i = 0 ∨ i = 1 ∨ i = 2 := by omega
    rcases this with rfl | rfl | rfl
    · exact Blk.cell k 0
    · exact Blk.cell k 1
    · exact Blk.cell k 2)
  rw [all_three hn] at this
  subst hn
  exact this
theorem vld_no {w W : World} {b : Bool} (h : b = false) (B : Below w.heap.size w W) : RetB w b (.returned (.bool false)) W := ⟨by rw [h], B⟩
theorem vld_yes {w W : World} {b : Bool} (h : b = true) (B : Below w.heap.size w W) : RetB w b (.returned (.bool true)) W := ⟨by rw [h], B⟩
def AllP (w : World) (cs : List Value) (P : Nat → Prop) (j : Nat) (W : World) : Prop := (∀ i, i < j → P i) ∧ Below w.heap.size w W ∧ Blk W w.heap.size cs 25
theorem AllP.next {w W W' : World} {cs : List Value} {P : Nat → Prop} {j : Nat} (h : AllP w cs P j W) (hj : P j) (b : Below W.heap.size W W') : AllP w cs P (j + 1) W' := ⟨fun i hi => by
  rcases Nat.lt_or_ge i j with h1 | h1
  · exact h.1 i h1
  · obtain rfl : i = j := by omega
    exact hj, bx_call h.2.1 b, h.2.2.keep b⟩
set_option maxHeartbeats 8000000 in
theorem vvalidp (V0 : Option Addr) (vn vc : Nat) (R0 : Option Addr) (rn rc : Nat) (lo up : Nat → Int) (op it : Nat → Bool) (co : Nat → Int) (nm : Nat → ByteArray) (gr ki bo : Nat → Int) (TA : Nat → Option Addr) (tn tc : Nat → Nat) (v cf : Nat → Nat → Int) (w : World) (hT : Vs w V0 vn vc lo up op it co) (hR : Rs w R0 rn rc nm gr ki bo TA tn tc v cf) (hnm : ∀ j, j < rn → (nm j).size ≤ 9223372036854775807) :
    Calls Tryz.prog 12 #[.agg #[.slice V0 vn vc, .slice R0 rn rc]] w (RetB w (vldB vn rn lo up op co nm gr ki bo tn v cf)) := by
  have hc := hT.1
  have hc2 := hT.2.1
  have hd := hR.1
  have hd2 := hR.2.1
  obtain ⟨W0, hW⟩ : ∃ W, W = w.alloc (.cells #[.slice V0 vn vc, .slice R0 rn rc] 25) := ⟨_, rfl⟩
  have B0 := bx_alloc (bx_refl w) (.cells #[.slice V0 vn vc, .slice R0 rn rc] 25)
  have K0 := Blk.new w [.slice V0 vn vc, .slice R0 rn rc] 25
  change Blk (w.alloc (.cells #[.slice V0 vn vc, .slice R0 rn rc] 25)) _ _ _ at K0
  rw [← hW] at B0 K0
  obtain ⟨r, hr⟩ : ∃ r, r = vldB vn rn lo up op co nm gr ki bo tn v cf := ⟨_, rfl⟩
  rw [← hr]
  have ST := hid (show AllP w [.slice V0 vn vc, .slice R0 rn rc] (fun j => varOk (lo j) (up j) (op j) (co j)) 0 W0 from ⟨fun i hi => absurd hi (by omega), B0, K0⟩)
  have HT := hid hT
  have HR := hid hR
  have HN := hid hnm
  have HE := hid hr
  obtain ⟨z0, z1⟩ := blk_two K0
  have BB := hid B0
  clear hT hR hnm hr B0 K0
  by_cases h1 : 400 < vn
  · have t1 : decide ((400 : Int) < (vn : Int)) = true := decide_eq_true (by omega)
    have NN := hid (vld_no (by rw [HE.out]; unfold vldB; rw [decide_eq_false (show ¬(vn ≤ 400 ∧ rn ≤ 4000) by omega)]; rfl : r = false) BB.out)
    clear HT HR HN HE BB ST
    go_enter Tryz.func12, Tryz.ntmps12
    go_upto_region 1 with fail
    rw [← hW]
    clear hW
    go_wp2_with fail
    go_ret
    exact NN.out
  have t1 : decide ((400 : Int) < (vn : Int)) = false := decide_eq_false (by omega)
  by_cases h2 : 4000 < rn
  · have t2 : decide ((4000 : Int) < (rn : Int)) = true := decide_eq_true (by omega)
    have NN := hid (vld_no (by rw [HE.out]; unfold vldB; rw [decide_eq_false (show ¬(vn ≤ 400 ∧ rn ≤ 4000) by omega)]; rfl : r = false) BB.out)
    clear HT HR HN HE BB ST
    go_enter Tryz.func12, Tryz.ntmps12
    go_upto_region 1 with fail
    rw [← hW]
    clear hW
    go_wp2_with fail
    go_ret
    exact NN.out
  have t2 : decide ((4000 : Int) < (rn : Int)) = false := decide_eq_false (by omega)
  have h3 : vn ≤ 400 ∧ rn ≤ 4000 := by omega
  have HE2 := hid (show r = (decide (∀ j, j < vn → varOk (lo j) (up j) (op j) (co j)) && decide (∀ j, j < rn → rowB vn (nm j) (gr j) (ki j) (bo j) (tn j) (v j) (cf j) = true)) by rw [HE.out]; unfold vldB; rw [decide_eq_true h3, Bool.true_and])
  clear HE BB h3
  go_enter Tryz.func12, Tryz.ntmps12
  go_upto_region 1 with fail
  rw [← hW]
  clear hW
  go_wp2_with fail
  go_loopw [20] (fun i wr => ∃ j : Nat, j ≤ vn ∧ i = .int .i64 j ∧ Hid (AllP w [.slice V0 vn vc, .slice R0 rn rc] (fun j => varOk (lo j) (up j) (op j) (co j)) j wr)) (fun i _ => vn - (intOf i).toNat)
  case atStart => exact ⟨0, Nat.zero_le _, rfl, ST⟩
  case round =>
    clear ST z0 z1 t1 t2
    obtain ⟨j, hj, rfl, hz⟩ := hrel
    rcases Nat.lt_or_ge j vn with hlt | hge
    · obtain ⟨b, o, rfl, hb, hcell⟩ := HT.out.2.2.2 (by omega)
      obtain ⟨⟨l1, l2⟩, ⟨u1, u2⟩, c1, c2⟩ := HT.out.2.2.1 j hlt
      have x0 := cell_bx (hcell j hlt).1 hz.out.2.1
      have x1 := cell_bx (hcell j hlt).2.1 hz.out.2.1
      have x2 := cell_bx (hcell j hlt).2.2.1 hz.out.2.1
      have x3 := cell_bx (hcell j hlt).2.2.2.1 hz.out.2.1
      have x4 := cell_bx (hcell j hlt).2.2.2.2 hz.out.2.1
      have NO := hid (fun (W : World) (B : Below wr.heap.size wr W) (h : ¬varOk (lo j) (up j) (op j) (co j)) => vld_no (by rw [HE2.out, decide_eq_false fun g => h (g j hlt)]; rfl : r = false) (bx_call hz.out.2.1 B))
      have YE := hid (fun (W : World) (B : Below wr.heap.size wr W) (h : varOk (lo j) (up j) (op j) (co j)) => AllP.next hz.out h B)
      obtain ⟨L, hL⟩ : ∃ L, L = lo j := ⟨_, rfl⟩
      obtain ⟨U, hU⟩ : ∃ U, U = up j := ⟨_, rfl⟩
      obtain ⟨O, hO⟩ : ∃ O, O = op j := ⟨_, rfl⟩
      obtain ⟨C, hC⟩ : ∃ C, C = co j := ⟨_, rfl⟩
      obtain ⟨I, hI⟩ : ∃ I, I = it j := ⟨_, rfl⟩
      rw [← hL, ← hU, ← hO, ← hC] at NO
      have YE := hid (fun (W : World) (B : Below wr.heap.size wr W) (h : varOk L U O C) => YE.out W B (by rw [← hL, ← hU, ← hO, ← hC]; exact h))
      rw [← hL] at x0 l1 l2
      rw [← hU] at x1 u1 u2
      rw [← hO] at x2
      rw [← hI] at x3
      rw [← hC] at x4 c1 c2
      have K1 := hid ((Blk.new wr [.int .i64 L, .int .i64 U, .bool O, .bool I, .int .i64 C] 60).alloc (.cells #[.int .i64 L, .int .i64 U, .int .i64 C] 2))
      have K2 := hid (blk_new1 wr (.cells #[.int .i64 L, .int .i64 U, .bool O, .bool I, .int .i64 C] 60) [.int .i64 L, .int .i64 U, .int .i64 C] 2)
      have B2 := hid (bx_alloc (bx_alloc (bx_refl wr) (.cells #[.int .i64 L, .int .i64 U, .bool O, .bool I, .int .i64 C] 60)) (.cells #[.int .i64 L, .int .i64 U, .int .i64 C] 2))
      have CA := hid (fun (W : World) (q : Nat) (k : Blk W q [.int .i64 L, .int .i64 U, .int .i64 C] 2) => vinrange3 q L U C W k)
      have C2 := hid (CA.out _ _ K2.out)
      clear hz HT hcell hL hU hO hC hI HR HN HE2 CA K2
      go_wp2_with fail
      refine (C2.out).mono ?_
      rintro e w1 ⟨rfl, b1⟩
      have K3 := K1.out.keep b1
      have B3 := hid (bx_call B2.out b1)
      obtain ⟨y0, y1, y2, y3, y4⟩ := blk_five K3
      clear C2 b1 K1 B2 K3 x0 x1 x2 x3 x4
      by_cases g1 : inR L ∧ inR U ∧ inR C
      · rw [decide_eq_true g1]
        cases O
        · have ZZ := hid (YE.out _ B3.out ⟨g1, fun h => by cases h⟩)
          clear NO YE B3
          go_wp2_with fail
          go_roundw
          case rel => exact ⟨j + 1, by omega, by go_num, ZZ⟩
          case measure => simp [intOf]; omega
        · by_cases g2 : U = 0
          · have ZZ := hid (YE.out _ B3.out ⟨g1, fun _ => g2⟩)
            have G2 := hid g2
            subst g2
            clear NO YE B3
            go_wp2_with fail
            go_roundw
            case rel => exact ⟨j + 1, by omega, by go_num, ZZ⟩
            case measure => simp [intOf]; omega
          · have t4 : (U != 0) = true := bne_iff_ne.2 g2
            have t5 : decide (U = 0) = false := decide_eq_false g2
            have NN := hid (NO.out _ B3.out (fun h => g2 (h.2 rfl)))
            have G2 := hid g2
            clear NO YE B3 g2
            go_wp2_with fail
            go_ret
            exact NN.out
      · rw [decide_eq_false g1]
        have NN := hid (NO.out _ B3.out (fun h => g1 h.1))
        clear NO YE B3
        go_wp2_with fail
        go_ret
        exact NN.out
    · obtain rfl : j = vn := by omega
      have HE3 := hid (show r = decide (∀ i, i < rn → rowB j (nm i) (gr i) (ki i) (bo i) (tn i) (v i) (cf i) = true) by rw [HE2.out, decide_eq_true hz.out.1, Bool.true_and])
      have S2 := hid (show AllP w [.slice V0 j vc, .slice R0 rn rc] (fun i => rowB j (nm i) (gr i) (ki i) (bo i) (tn i) (v i) (cf i) = true) 0 wr from ⟨fun i hi => absurd hi (by omega), hz.out.2⟩)
      obtain ⟨z0, z1⟩ := blk_two hz.out.2.2
      clear hz HT HE2 hge hj
      go_wp2_with fail
      obtain ⟨wo, rfl⟩ : ∃ wo : World, wo = wr := ⟨_, rfl⟩
      go_loopw [46] (fun i wr => ∃ k : Nat, k ≤ rn ∧ i = .int .i64 k ∧ Hid (AllP w [.slice V0 j vc, .slice R0 rn rc] (fun i => rowB j (nm i) (gr i) (ki i) (bo i) (tn i) (v i) (cf i) = true) k wr)) (fun i _ => rn - (intOf i).toNat)
      case atStart => exact ⟨0, Nat.zero_le _, rfl, S2⟩
      case round =>
        clear S2 z0 z1
        obtain ⟨k, hk, rfl, hz⟩ := hrel
        rcases Nat.lt_or_ge k rn with hlt | hge
        · obtain ⟨b, o, rfl, hb, hcell⟩ := HR.out.2.2.2 (by omega)
          obtain ⟨_, _, _, hTs⟩ := HR.out.2.2.1 k hlt
          have x0 := cell_bx (hcell k hlt).1 hz.out.2.1
          have x1 := cell_bx (hcell k hlt).2.1 hz.out.2.1
          have x2 := cell_bx (hcell k hlt).2.2.1 hz.out.2.1
          have x3 := cell_bx (hcell k hlt).2.2.2.1 hz.out.2.1
          have x4 := cell_bx (hcell k hlt).2.2.2.2 hz.out.2.1
          have B1 := bx_alloc (bx_refl wr) (.cells #[.string (nm k), .int .i64 (gr k), .int .i64 (ki k), .slice (TA k) (tn k) (tc k), .int .i64 (bo k)] 77)
          have RW := hid (vrow (nm k) (gr k) (ki k) (bo k) (TA k) (tn k) (tc k) j (v k) (cf k) _ (hTs.keep (bx_call hz.out.2.1 B1)) (HN.out k hlt) (by omega))
          obtain ⟨z0, z1⟩ := blk_two (hz.out.2.2.keep B1)
          obtain ⟨y0, y1⟩ := blk_two hz.out.2.2
          have NO := hid (fun (W : World) (B : Below wr.heap.size wr W) (h : ¬rowB j (nm k) (gr k) (ki k) (bo k) (tn k) (v k) (cf k) = true) => vld_no (by rw [HE3.out, decide_eq_false fun g => h (g k hlt)] : r = false) (bx_call hz.out.2.1 B))
          have YE := hid (fun (W : World) (B : Below wr.heap.size wr W) (h : rowB j (nm k) (gr k) (ki k) (bo k) (tn k) (v k) (cf k) = true) => AllP.next hz.out h B)
          obtain ⟨q, hq⟩ : ∃ q, q = rowB j (nm k) (gr k) (ki k) (bo k) (tn k) (v k) (cf k) := ⟨_, rfl⟩
          rw [← hq] at RW NO
          have YE := hid (fun (W : World) (B : Below wr.heap.size wr W) (h : q = true) => YE.out W B (by rw [← hq]; exact h))
          have BB := hid B1
          clear hz HR HN HE3 hcell hTs B1 hq
          go_wp2_with fail
          refine (RW.out).mono ?_
          rintro e w1 ⟨rfl, b1⟩
          have B2 := hid (bx_call BB.out b1)
          clear RW BB b1 x0 x1 x2 x3 x4 z0 z1 y0 y1
          cases q
          · have NN := hid (NO.out _ B2.out (by decide))
            clear NO YE B2
            go_wp2_with fail
            go_ret
            exact NN.out
          · have ZZ := hid (YE.out _ B2.out rfl)
            clear NO YE B2
            go_wp2_with fail
            go_roundw
            case rel => exact ⟨k + 1, by omega, by go_num, ZZ⟩
            case measure => simp [intOf]; omega
        · obtain rfl : k = rn := by omega
          have YY := hid (vld_yes (by rw [HE3.out, decide_eq_true hz.out.1] : r = true) hz.out.2.1)
          clear HR HN hz HE3
          go_wp2_with fail
          go_ret
          exact YY.out
def tcells (l : List (Int × Int)) : List Value := l.flatMap fun p => [.int .i64 p.1, .int .i64 p.2]
theorem tcells_append (l m : List (Int × Int)) : tcells (l ++ m) = tcells l ++ tcells m := List.flatMap_append
theorem tcells_get (l : List (Int × Int)) {k : Nat} (h : k < l.length) : (tcells l)[k * 2]? = some (.int .i64 (l.getD k (0, 0)).1) ∧ (tcells l)[k * 2 + 1]? = some (.int .i64 (l.getD k (0, 0)).2) := by
  induction l generalizing k with
  | nil => exact absurd h (Nat.not_lt_zero _)
  | cons p l ih =>
    rcases k with _ | k
    · exact ⟨rfl, rfl⟩
    · have := ih (k := k) (by rw [List.length_cons] at h; omega)
      rw [Nat.succ_mul]
      exact this
def ColsP (w : World) (B vn : Nat) (T S : TypeId) (L : Nat → List (Int × Int)) : Prop :=
  ∃ vals : List Value, vals.length = vn ∧ Blk w B vals S ∧ (∀ j, j < vn → ∃ v, vals[j]? = some v ∧ w.ownsRow (B + 1) T 2 v (L j).length (tcells (L j))) ∧
    (∀ i j v u g, i < vn → j < vn → i ≠ j → vals[i]? = some v → vals[j]? = some u → v.ownBlock = some g → u.ownBlock ≠ some g)
theorem ColsP.keep {w w' : World} {B vn : Nat} {T S : TypeId} {L : Nat → List (Int × Int)} (h : ColsP w B vn T S L) (b : Below w.heap.size w w') : ColsP w' B vn T S L := by
  obtain ⟨vals, hl, hB, ho, hd⟩ := h
  refine ⟨vals, hl, (b.block B hB.lt).trans hB, fun j hj => ?_, hd⟩
  obtain ⟨v, hv, hw⟩ := ho j hj
  refine ⟨v, hv, hw.1, ?_⟩
  rcases hw.2 with hn | ⟨g, cap, cur, rfl, hb, hg, rest⟩
  · exact .inl hn
  · exact .inr ⟨g, cap, cur, rfl, hb, (b.block g (Array.getElem?_eq_some_iff.1 hg).1).trans hg, rest⟩
theorem ownsRow_far {w : World} {base : Nat} {e : TypeId} {size : Nat} {v : Value} {n : Nat} {xs : List Value} (h : w.ownsRow base e size v n xs) {a : Addr} (ha : a.block < base) (u : Value) : (w.setCell a u).ownsRow base e size v n xs := ownsRow_setCell_below h ha u
theorem ColsP.next {w w0 w1 : World} {B vn : Nat} {T S : TypeId} {L : Nat → List (Int × Int)} {vals : List Value} {j : Nat} {v v' : Value} {p : Int × Int} (hl : vals.length = vn) (hB : Blk w B vals S) (ho : ∀ j, j < vn → ∃ v, vals[j]? = some v ∧ w.ownsRow (B + 1) T 2 v (L j).length (tcells (L j)))
    (hd : ∀ i j v u g, i < vn → j < vn → i ≠ j → vals[i]? = some v → vals[j]? = some u → v.ownBlock = some g → u.ownBlock ≠ some g) (hj : j < vn) (hv : vals[j]? = some v)
    (b : Below w.heap.size w w0) (hown : w1.ownsRow (B + 1) T 2 v' ((L j).length + 1) (tcells (L j) ++ [.int .i64 p.1, .int .i64 p.2])) (hg : w0.grownBy w1 v.ownBlock) (hat : v'.ownBlock = v.ownBlock ∨ v'.ownBlock = some w0.heap.size) :
    ColsP (w1.setCell ⟨B, j, none⟩ v') B vn T S (fun i => if i = j then L i ++ [p] else L i) := by
  obtain ⟨v0, hv0, hw0⟩ := ho j hj
  rw [hv] at hv0
  injection hv0 with hv0
  subst hv0
  have hvB : v.ownBlock ≠ some B := fun e => by have := (hw0.lt B e).1; omega
  have hB1 : Blk w1 B vals S := (hg.block B (Nat.lt_of_lt_of_le hB.lt b.size) (Ne.symm hvB)).trans ((b.block B hB.lt).trans hB)
  refine ⟨vals.set j v', by rw [List.length_set]; exact hl, hB1.set_ j v', fun i hi => ?_, fun i k x u g hi hk hik hx hu hg1 => ?_⟩
  · by_cases hij : i = j
    · subst hij
      refine ⟨v', by rw [List.getElem?_set_self (by omega)], ?_⟩
      show World.ownsRow _ _ _ _ _ (if i = i then L i ++ [p] else L i).length (tcells (if i = i then L i ++ [p] else L i))
      rw [if_pos rfl, List.length_append, tcells_append]
      exact ownsRow_far hown (Nat.lt_succ_self _) v'
    · obtain ⟨u, hu, hw⟩ := ho i hi
      refine ⟨u, by rw [List.getElem?_set_ne (Ne.symm hij)]; exact hu, ?_⟩
      show World.ownsRow _ _ _ _ _ (if i = j then L i ++ [p] else L i).length (tcells (if i = j then L i ++ [p] else L i))
      rw [if_neg hij]
      refine ownsRow_far ?_ (Nat.lt_succ_self _) v'
      refine ⟨hw.1, ?_⟩
      rcases hw.2 with hn | ⟨g, cap, cur, rfl, hb, hgg, rest⟩
      · exact .inl hn
      · refine .inr ⟨g, cap, cur, rfl, hb, ?_, rest⟩
        have hlt := (Array.getElem?_eq_some_iff.1 hgg).1
        rw [hg.block g (Nat.lt_of_lt_of_le hlt b.size) (fun e => hd i j _ v g hi hj hij hu hv rfl e.symm), b.block g hlt]
        exact hgg
  · have old : ∀ (i : Nat) (x : Value) (g : Nat), i < vn → vals[i]? = some x → x.ownBlock = some g → g < w.heap.size := fun i x g hi hx e => by
      obtain ⟨y, hy, hw⟩ := ho i hi
      rw [hx] at hy
      injection hy with hy
      subst hy
      exact (hw.lt g e).2
    have bs := b.size
    by_cases hij : i = j
    · subst hij
      rw [List.getElem?_set_self (by omega)] at hx
      injection hx with hx
      subst hx
      rw [List.getElem?_set_ne hik] at hu
      rcases hat with h1 | h1
      · exact hd i k v u g hi hk hik hv hu (h1.symm.trans hg1)
      · intro e
        have := old k u g hk hu e
        rw [h1] at hg1
        injection hg1 with hg1
        omega
    · rw [List.getElem?_set_ne (Ne.symm hij)] at hx
      by_cases hkj : k = j
      · subst hkj
        rw [List.getElem?_set_self (by omega)] at hu
        injection hu with hu
        subst hu
        rcases hat with h1 | h1
        · rw [h1]; exact hd i k x v g hi hk hik hx hv hg1
        · intro e
          have := old i x g hi hx hg1
          rw [h1] at e
          injection e with e
          omega
      · rw [List.getElem?_set_ne (Ne.symm hkj)] at hu
        exact hd i k x u g hi hk hik hx hu hg1
def nils (n : Nat) : List Value := List.replicate n (.slice none 0 0)
theorem ColsP.start (w : World) (vn : Nat) (T S : TypeId) : ColsP (w.alloc (.cells (nils vn).toArray S)) w.heap.size vn T S (fun _ => []) := by
  refine ⟨nils vn, List.length_replicate .., heap_alloc_new w _, fun j hj => ⟨.slice none 0 0, by unfold nils; rw [List.getElem?_replicate, if_pos hj], World.ownsRow_nil _ _ _ _⟩, fun i j v u g hi hj _ hv _ hg => ?_⟩
  unfold nils at hv
  rw [List.getElem?_replicate, if_pos hi] at hv
  injection hv with hv
  subst hv
  cases hg
theorem addr_add (b j : Nat) : (⟨b, 0, none⟩ : Addr).add j = ⟨b, j, none⟩ := by unfold Addr.add; split <;> simp_all
theorem wp_append_term {w : World} {o : Oper} {a : Act} {K : Act → World → Prop} {Q : Exit → Act → World → Prop} (s x : Operand) (ho : o.op = .call { callee := .builtin .append, args := #[s, x], argTypes := #[33, 33] })
    (base : Nat) (v : Value) (l : List (Int × Int)) (hs : a.eval s = v) (hown : w.ownsRow base 94 2 v l.length (tcells l)) (g : Nat) (p : Int × Int) (hx : a.eval x = .slice (some ⟨g, 0, none⟩) 1 1) (hg : Blk w g [.int .i64 p.1, .int .i64 p.2] 94) (hl : l.length + 1 ≤ 1000000000) (hbase : base ≤ w.heap.size)
    (h : ∀ v' w', w'.ownsRow base 94 2 v' (l.length + 1) (tcells l ++ [.int .i64 p.1, .int .i64 p.2]) → w.grownBy w' v.ownBlock → (v'.ownBlock = v.ownBlock ∨ v'.ownBlock = some w.heap.size) → K (a.put o.dst v') w') : o.wp Tryz.prog a w K Q := by
  obtain ⟨i, hi, hzz⟩ := Option.map_eq_some_iff.1 Tryz.infoTerm
  simp only [Prod.mk.injEq] at hzz
  obtain ⟨hz, hsz, hb⟩ := hzz
  obtain ⟨v', w', hr, h2, h3, _, h5⟩ := run_append_own_at (P := Tryz.prog) w base 33 o.type 94 i _ 2 16 (by kernel_rfl) hi hz hsz hb rfl (by decide) v l.length (tcells l) hown ⟨g, 0, none⟩ 1 1 [.int .i64 p.1, .int .i64 p.2] rfl
    (fun j u hj => by rw [addr_add, hg.cell]; exact hj) (fun u hu => by
      simp only [List.mem_cons, List.not_mem_nil, or_false] at hu
      rcases hu with rfl | rfl <;> rfl) (by unfold maxLen; omega) (by omega) hbase
  unfold Oper.wp execOp
  simp only [ho, resolve, invoke, builtin, Sem.run_bind, Sem.run_pure, Result.andThen_ok, List.map_toArray, List.map_cons, List.map_nil, hs, hx, hr]
  exact h v' w' h2 h3 h5
theorem ColsP.congr {w : World} {B vn : Nat} {T S : TypeId} {L M : Nat → List (Int × Int)} (h : ColsP w B vn T S L) (e : ∀ j, j < vn → L j = M j) : ColsP w B vn T S M := by
  obtain ⟨vals, hl, hB, ho, hd⟩ := h
  refine ⟨vals, hl, hB, fun j hj => ?_, hd⟩
  obtain ⟨v, hv, hw⟩ := ho j hj
  exact ⟨v, hv, by rw [← e j hj]; exact hw⟩
theorem ColsP.get {w : World} {B vn : Nat} {S : TypeId} {L : Nat → List (Int × Int)} (h : ColsP w B vn 94 S L) {j : Nat} (hj : j < vn) (hb : ∀ p, p ∈ L j → (-9223372036854775808 ≤ p.1 ∧ p.1 ≤ 9223372036854775807) ∧ -9223372036854775808 ≤ p.2 ∧ p.2 ≤ 9223372036854775807) :
    ∃ A c, w.cell? ⟨B, j, none⟩ = some (.slice A (L j).length c) ∧ Ts w A (L j).length c (fun k => ((L j).getD k (0, 0)).1) (fun k => ((L j).getD k (0, 0)).2) := by
  obtain ⟨vals, hl, hB, ho, hd⟩ := h
  obtain ⟨v, hv, hw⟩ := ho j hj
  have hbd : ∀ k, k < (L j).length → (-9223372036854775808 ≤ ((L j).getD k (0, 0)).1 ∧ ((L j).getD k (0, 0)).1 ≤ 9223372036854775807) ∧ -9223372036854775808 ≤ ((L j).getD k (0, 0)).2 ∧ ((L j).getD k (0, 0)).2 ≤ 9223372036854775807 := fun k hk => hb _ (by
    rw [List.getD_eq_getElem?_getD, List.getElem?_eq_getElem hk]
    exact List.getElem_mem _)
  rcases hw.2 with ⟨rfl, h0⟩ | ⟨g, cap, cur, rfl, hb, hg, hn, hc, hcs, hcur⟩
  · refine ⟨none, 0, by rw [hB.cell, hv, h0], ?_⟩
    rw [h0]
    exact ⟨Nat.le_refl _, by omega, fun k hk => absurd hk (by omega), fun hk => absurd hk (by omega)⟩
  · refine ⟨some ⟨g, 0, none⟩, cap, by rw [hB.cell, hv], hn, by unfold maxLen at hc; exact hc, hbd, fun _ => ⟨g, 0, rfl, (Array.getElem?_eq_some_iff.1 hg).1, fun k hk => ?_⟩⟩
    have e := tcells_get (L j) hk
    have f := hw.cells (g := g) rfl
    constructor
    · have := f _ _ e.1
      rw [addr_add] at this
      rw [Nat.zero_add]; exact this
    · have := f _ _ e.2
      rw [addr_add] at this
      rw [Nat.zero_add]; exact this
theorem madeCells_nils (n : Nat) : madeCells #[.slice none 0 0] (n * 1) = (nils n).toArray := by
  unfold nils
  apply Array.ext
  · simp [size_madeCells]
  · intro i h1 h2
    have : i % 1 = 0 := by omega
    simp [madeCells, this]
theorem Tryz.infoTerms : (Tryz.prog.info? 33).map (fun i => (i.zero, i.size, i.bytes)) = some (some (.slice none 0 0), 1, 24) := by kernel_rfl
theorem run_make_cols (n : Nat) (h : n ≤ 1000000) (W : World) :
    (Instr.makeSlice 102 (.int .i64 (n : Int)) (.int .i64 (n : Int))).run Tryz.prog W = .ok (.slice (some ⟨W.heap.size, 0, none⟩) n n) (W.alloc (.cells (nils n).toArray 33)) := by
  obtain ⟨i, hi, hzz⟩ := Option.map_eq_some_iff.1 Tryz.infoTerms
  simp only [Prod.mk.injEq] at hzz
  obtain ⟨hz, hs, hb⟩ := hzz
  have hr := run_make (P := Tryz.prog) W 102 33 i _ (by kernel_rfl) hi hz .i64 .i64 (n : Int) (n : Int) (by omega) (Int.le_refl _) (by rw [hb]; omega) (by omega)
  simp only [Int.toNat_natCast, hs] at hr
  rw [show (Value.slice none 0 0).cells = #[.slice none 0 0] by rfl, madeCells_nils] at hr
  exact hr
def RetC (w : World) (vn : Nat) (L : Nat → List (Int × Int)) (e : Ending) (w' : World) : Prop := ∃ B, e = .returned (.slice (some ⟨B, 0, none⟩) vn vn) ∧ ColsP w' B vn 94 33 L ∧ w.heap.size ≤ B ∧ Below w.heap.size w w'
def CoP (w : World) (B : Nat) (cs : List Value) (vn : Nat) (L : Nat → List (Int × Int)) (W : World) : Prop := w.heap.size < B ∧ Below w.heap.size w W ∧ Blk W w.heap.size cs 25 ∧ ColsP W (B) vn 94 33 L
theorem CoP.keep {w W W' : World} {B : Nat} {cs : List Value} {vn : Nat} {L : Nat → List (Int × Int)} (h : CoP w B cs vn L W) (b : Below W.heap.size W W') : CoP w B cs vn L W' := ⟨h.1, bx_call h.2.1 b, h.2.2.1.keep b, h.2.2.2.keep b⟩
theorem CoP.congr {w W : World} {B : Nat} {cs : List Value} {vn : Nat} {L M : Nat → List (Int × Int)} (h : CoP w B cs vn L W) (e : ∀ j, j < vn → L j = M j) : CoP w B cs vn M W := ⟨h.1, h.2.1, h.2.2.1, h.2.2.2.congr e⟩
theorem CoP.append {w W : World} {B : Nat} {cs : List Value} {vn : Nat} {L : Nat → List (Int × Int)} (h : CoP w B cs vn L W) {j : Nat} (hj : j < vn) :
    ∃ v, W.cell? ⟨B, j, none⟩ = some v ∧ W.ownsRow (B + 1) 94 2 v (L j).length (tcells (L j)) ∧
      (∀ (k : Nat), v.ownBlock = some k → B + 1 ≤ k ∧ k < W.heap.size) ∧
      (∀ (W0 W1 : World) (v' : Value) (p : Int × Int), Below W.heap.size W W0 → W1.ownsRow (B + 1) 94 2 v' ((L j).length + 1) (tcells (L j) ++ [.int .i64 p.1, .int .i64 p.2]) → W0.grownBy W1 v.ownBlock → (v'.ownBlock = v.ownBlock ∨ v'.ownBlock = some W0.heap.size) →
        CoP w B cs vn (fun i => if i = j then L i ++ [p] else L i) (W1.setCell ⟨B, j, none⟩ v') ∧ W1.frozen? ⟨B, j, none⟩ = false ∧ W1.cell? ⟨B, j, none⟩ = some v) := by
  obtain ⟨h0, h1, h2, vals, hl, hB, ho, hd⟩ := h
  obtain ⟨v, hv, hw⟩ := ho j hj
  have hlt := hw.lt
  refine ⟨v, by rw [hB.cell]; exact hv, hw, hlt, fun W0 W1 v' p b hown hg hat => ?_⟩
  have nB : v.ownBlock ≠ some (B) := fun e => by have := (hlt _ e).1; omega
  have nP : v.ownBlock ≠ some w.heap.size := fun e => by have := (hlt _ e).1; omega
  have hB1 : Blk W1 (B) vals 33 := (hg.block _ (Nat.lt_of_lt_of_le hB.lt b.size) (Ne.symm nB)).trans (hB.keep b)
  have hP1 : Blk W1 w.heap.size cs 25 := (hg.block _ (Nat.lt_of_lt_of_le h2.lt b.size) (Ne.symm nP)).trans (h2.keep b)
  have bw : Below w.heap.size w W1 := by
    have := bx_call h1 b
    refine ⟨hg.os.trans this.os, hg.tape.trans this.tape, hg.output.trans this.output, Nat.le_trans this.size hg.size, fun k hk => ?_⟩
    rw [hg.block k (by have := this.size; omega) (fun e => by have := (hlt _ e.symm).1; omega)]
    exact this.block k hk
  exact ⟨⟨h0, bx_set bw (Nat.le_of_lt h0), hP1.far (by omega) _, ColsP.next hl hB ho hd hj hv b hown hg hat⟩, hB1.free _, by rw [hB1.cell]; exact hv⟩
theorem own_some {w : World} {base : Nat} {e : TypeId} {size : Nat} {v : Value} {n : Nat} {xs : List Value} (h : w.ownsRow base e size v (n + 1) xs) : ∃ g cap, v = .slice (some ⟨g, 0, none⟩) (n + 1) cap := by
  rcases h.2 with ⟨_, h0⟩ | ⟨g, cap, cur, rfl, _⟩
  · exact absurd h0 (by omega)
  · exact ⟨g, cap, rfl⟩
theorem CoP.lt {w W : World} {B : Nat} {cs : List Value} {vn : Nat} {L : Nat → List (Int × Int)} (h : CoP w B cs vn L W) : B < W.heap.size := by
  obtain ⟨_, _, _, vals, _, hB, _⟩ := h
  exact hB.lt
theorem rowC_step {v cf : Nat → Int} {i t j : Nat} : rowC v cf i j (t + 1) = rowC v cf i j t ++ (if v t = (j : Int) then [((i : Int), cf t)] else []) := rfl
set_option maxHeartbeats 8000000 in
theorem vcolumns (V0 : Option Addr) (vn vc : Nat) (R0 : Option Addr) (rn rc : Nat) (nm : Nat → ByteArray) (gr ki bo : Nat → Int) (TA : Nat → Option Addr) (tn tc : Nat → Nat) (v cf : Nat → Nat → Int) (w : World) (hvn : vn ≤ 1000000) (hR : Rs w R0 rn rc nm gr ki bo TA tn tc v cf) (m : Nat) (htn : ∀ i, i < rn → tn i ≤ m) (hm : rn * m + m ≤ 900000000) :
    Calls Tryz.prog 79 #[.agg #[.slice V0 vn vc, .slice R0 rn rc]] w (RetC w vn (fun j => colC tn v cf j rn)) := by
  have hd := hR.1
  have hd2 := hR.2.1
  obtain ⟨W0, hW⟩ : ∃ W, W = w.alloc (.cells #[.slice V0 vn vc, .slice R0 rn rc] 25) := ⟨_, rfl⟩
  have B0 := bx_alloc (bx_refl w) (.cells #[.slice V0 vn vc, .slice R0 rn rc] 25)
  have K0 := Blk.new w [.slice V0 vn vc, .slice R0 rn rc] 25
  have hz : w.heap.size < W0.heap.size := by rw [hW]; simp
  change Blk (w.alloc (.cells #[.slice V0 vn vc, .slice R0 rn rc] 25)) _ _ _ at K0
  rw [← hW] at B0 K0
  obtain ⟨z0, z1⟩ := blk_two K0
  have hmk := run_make_cols vn hvn
  have ST := hid (show CoP w W0.heap.size [.slice V0 vn vc, .slice R0 rn rc] vn (fun j => colC tn v cf j 0) (W0.alloc (.cells (nils vn).toArray 33)) from
    ⟨hz, bx_alloc B0 _, K0.alloc _, ColsP.start W0 vn 94 33⟩)
  obtain ⟨z2, z3⟩ := blk_two (K0.alloc (.cells (nils vn).toArray 33))
  have HR := hid hR
  have HT := hid htn
  clear hR htn hz B0 K0
  go_enter Tryz.func79, Tryz.ntmps79
  go_upto_region 1 with fail
  rw [← hW]
  clear hW
  go_wp2_with (with_reducible rw [hmk])
  clear z0 z1 z2 z3 hmk
  go_loopw [15] (fun i wr => ∃ j : Nat, j ≤ rn ∧ i = .int .i64 j ∧ Hid (CoP w W0.heap.size [.slice V0 vn vc, .slice R0 rn rc] vn (fun a => colC tn v cf a j) wr)) (fun i _ => rn - (intOf i).toNat)
  case atStart => exact ⟨0, Nat.zero_le _, rfl, ST⟩
  case round =>
    clear ST
    obtain ⟨j, hj, rfl, hz⟩ := hrel
    rcases Nat.lt_or_ge j rn with hlt | hge
    · obtain ⟨b, o, rfl, hb, hcell⟩ := HR.out.2.2.2 (by omega)
      obtain ⟨_, _, _, hTs⟩ := HR.out.2.2.1 j hlt
      have x0 := cell_bx (hcell j hlt).1 hz.out.2.1
      have x1 := cell_bx (hcell j hlt).2.1 hz.out.2.1
      have x2 := cell_bx (hcell j hlt).2.2.1 hz.out.2.1
      have x3 := cell_bx (hcell j hlt).2.2.2.1 hz.out.2.1
      have x4 := cell_bx (hcell j hlt).2.2.2.2 hz.out.2.1
      have B1 := bx_alloc (bx_refl wr) (.cells #[.string (nm j), .int .i64 (gr j), .int .i64 (ki j), .slice (TA j) (tn j) (tc j), .int .i64 (bo j)] 77)
      have S2 := hid (show CoP w W0.heap.size [.slice V0 vn vc, .slice (some ⟨b, o, none⟩) rn rc] vn (fun a => colC tn v cf a j ++ rowC (v j) (cf j) j a 0) _ from ((hz.out.keep B1).congr fun a _ => by
        show colC tn v cf a j = colC tn v cf a j ++ []
        rw [List.append_nil]))
      have TS := hid hTs
      have ht1 := hTs.1
      have ht2 := hTs.2.1
      have htm := HT.out j hlt
      have hlen : ∀ a, (colC tn v cf a j).length ≤ j * m := fun a => colC_len (fun i hi => HT.out i (by omega))
      have hjm : j * m ≤ rn * m := Nat.mul_le_mul_right _ hj
      have HL := hid (fun a t => (show t < tn j → (colC tn v cf a j ++ rowC (v j) (cf j) j a t).length + 1 ≤ 1000000000 by
        intro ht
        rw [List.length_append]
        have := hlen a
        have := rowC_len (v j) (cf j) j a t
        omega))
      have hjb : j ≤ 9223372036854775807 := by omega
      obtain ⟨W1, hW1⟩ : ∃ W, W = wr.alloc (.cells #[.string (nm j), .int .i64 (gr j), .int .i64 (ki j), .slice (TA j) (tn j) (tc j), .int .i64 (bo j)] 77) := ⟨_, rfl⟩
      have KR := Blk.new wr [.string (nm j), .int .i64 (gr j), .int .i64 (ki j), .slice (TA j) (tn j) (tc j), .int .i64 (bo j)] 77
      change Blk (wr.alloc (.cells #[.string (nm j), .int .i64 (gr j), .int .i64 (ki j), .slice (TA j) (tn j) (tc j), .int .i64 (bo j)] 77)) _ _ _ at KR
      rw [← hW1] at S2 KR
      obtain ⟨y0, y1, y2, y3, y4⟩ := blk_five KR
      clear hz hcell hTs B1 HR HT htm hlen hjm KR
      go_upto_region 5 with fail
      rw [← hW1]
      clear hW1 x0 x1 x2 x3 x4
      go_wp2_with fail
      clear y0 y1 y2 y3 y4
      go_loopw [23] (fun i wr => ∃ t : Nat, t ≤ tn j ∧ i = .int .i64 t ∧ Hid (CoP w W0.heap.size [.slice V0 vn vc, .slice (some ⟨b, o, none⟩) rn rc] vn (fun a => colC tn v cf a j ++ rowC (v j) (cf j) j a t) wr)) (fun i _ => tn j - (intOf i).toNat)
      case atStart => exact ⟨0, Nat.zero_le _, rfl, S2⟩
      case round =>
        clear S2
        obtain ⟨t, ht, rfl, hz⟩ := hrel
        rcases Nat.lt_or_ge t (tn j) with htl | htg
        · obtain ⟨b2, o2, hA, hb2, hc2⟩ := TS.out.2.2.2 (by omega)
          obtain ⟨⟨l1, l2⟩, l3, l4⟩ := TS.out.2.2.1 t htl
          have x0 := cell_bx (hc2 t htl).1 hz.out.2.1
          have x1 := cell_bx (hc2 t htl).2 hz.out.2.1
          have hln := HL.out
          have CN := hid (fun (a : Nat) (h : v j t ≠ (a : Int)) => (show colC tn v cf a j ++ rowC (v j) (cf j) j a t = colC tn v cf a j ++ rowC (v j) (cf j) j a (t + 1) by rw [rowC_step, if_neg h, List.append_nil]))
          have CY := hid (fun (a : Nat) (h : v j t = (a : Int)) => (show (colC tn v cf a j ++ rowC (v j) (cf j) j a t) ++ [((j : Int), cf j t)] = colC tn v cf a j ++ rowC (v j) (cf j) j a (t + 1) by rw [rowC_step, if_pos h, List.append_assoc]))
          have hln := fun a => HL.out a t htl
          obtain ⟨L, hL⟩ : ∃ L : Nat → List (Int × Int), L = fun a => colC tn v cf a j ++ rowC (v j) (cf j) j a t := ⟨_, rfl⟩
          obtain ⟨M, hM⟩ : ∃ M : Nat → List (Int × Int), M = fun a => colC tn v cf a j ++ rowC (v j) (cf j) j a (t + 1) := ⟨_, rfl⟩
          have CN2 := hid (fun (a : Nat) (h : v j t ≠ (a : Int)) => (show L a = M a by rw [hL, hM]; exact CN.out a h))
          have CY2 := hid (fun (a : Nat) (h : v j t = (a : Int)) => (show L a ++ [((j : Int), cf j t)] = M a by rw [hL, hM]; exact CY.out a h))
          have hln2 : ∀ a, (L a).length + 1 ≤ 1000000000 := fun a => by rw [hL]; exact hln a
          have HLN := hid hln2
          rw [← hL] at hz
          have MF := hid (fun (W : World) (h : CoP w W0.heap.size [.slice V0 vn vc, .slice (some ⟨b, o, none⟩) rn rc] vn M W) => (show CoP w W0.heap.size [.slice V0 vn vc, .slice (some ⟨b, o, none⟩) rn rc] vn (fun a => colC tn v cf a j ++ rowC (v j) (cf j) j a (t + 1)) W by rw [← hM]; exact h))
          obtain ⟨V, hV⟩ : ∃ V, V = v j t := ⟨_, rfl⟩
          obtain ⟨C, hC⟩ : ∃ C, C = cf j t := ⟨_, rfl⟩
          rw [← hV] at CN2 CY2 x0 l1 l2
          rw [← hC] at CY2 x1 l3 l4
          have BT := bx_alloc (bx_refl wr) (.cells #[.int .i64 V, .int .i64 C] 94)
          have KT := Blk.new wr [.int .i64 V, .int .i64 C] 94
          obtain ⟨Wt, hWt⟩ : ∃ W, W = wr.alloc (.cells #[.int .i64 V, .int .i64 C] 94) := ⟨_, rfl⟩
          change Blk (wr.alloc (.cells #[.int .i64 V, .int .i64 C] 94)) _ _ _ at KT
          have hsz : wr.heap.size < Wt.heap.size := by rw [hWt]; simp
          rw [← hWt] at BT KT
          have hB := CoP.lt hz.out
          have ZT := hid (CoP.keep hz.out BT)
          obtain ⟨c0, c1⟩ := blk_two KT
          obtain ⟨z0, _⟩ := blk_two ZT.out.2.2.1
          have ZR := hid hz.out
          have HBT := hid BT
          have OT := hid (fun (x : Value) (n : Nat) (xs : List Value) (h : wr.ownsRow (W0.heap.size + 1) 94 2 x n xs) => (show Wt.ownsRow (W0.heap.size + 1) 94 2 x n xs by rw [hWt]; exact h.alloc _))
          clear hz hL hM CN CY hln hln2 hV hC TS HL hc2 BT KT
          rw [hA]
          go_upto_region 8 with fail
          rw [← hWt]
          clear hWt x0 x1
          by_cases h1 : 0 ≤ V
          · have t1 : decide (0 ≤ V) = true := decide_eq_true h1
            by_cases h2 : V < (vn : Int)
            · have t2 : decide (V < (vn : Int)) = true := decide_eq_true h2
              obtain ⟨jv, rfl⟩ : ∃ jv : Nat, V = (jv : Int) := ⟨V.toNat, by omega⟩
              have hjv : jv < vn := by omega
              obtain ⟨vv, hv, hown, hlt2, NXT⟩ := CoP.append ZR.out hjv
              have CF := hid (fun a (_ : a < vn) => (show (if a = jv then L a ++ [((j : Int), C)] else L a) = M a by
                by_cases h : a = jv
                · rw [if_pos h]
                  exact CY2.out a (by rw [h])
                · rw [if_neg h]
                  exact CN2.out a (by omega)))
              have NX := hid NXT
              have OW := hid (OT.out _ _ _ hown)
              have LT := hid hlt2
              have hl9 := HLN.out jv
              have xd : Wt.drew.cell? ⟨W0.heap.size, jv, none⟩ = some vv := cell_dr (cell_bx hv HBT.out)
              have xa : (Wt.drew.alloc (.cells #[.int .i64 (j : Int), .int .i64 C] 94)).cell? ⟨W0.heap.size, jv, none⟩ = some vv := cell_al xd
              have xb : (Wt.alloc (.cells #[.int .i64 (j : Int), .int .i64 C] 94)).cell? ⟨W0.heap.size, jv, none⟩ = some vv := cell_al (cell_bx hv HBT.out)
              have xe : Wt.cell? ⟨W0.heap.size, jv, none⟩ = some vv := cell_bx hv HBT.out
              have hne : W0.heap.size ≠ Wt.heap.size := by omega
              clear CN2 CY2 HLN NXT hown hlt2 ZT ZR OT hv
              go_wp2_with fail
              clear t1 t2 h1 h2 z0
              refine wp_region_noPanic ?_
              refine wp_region_held_drew (S := (fun W => W.cell? ⟨wr.heap.size, 0, none⟩ = some (.int .i64 (jv : Int)) ∧ W.cell? ⟨wr.heap.size, 1, none⟩ = some (.int .i64 C))) (by kernel_rfl) ?_ (fun hH => ?_)
              · (try dsimp only); (refine ⟨?_, ?_⟩ <;> repeat' (first | with_reducible assumption | with_reducible refine cell_dr ?_ | with_reducible refine cell_al ?_ | with_reducible refine cell_fr ?_ (by omega)))
              refine tk 0 hH ?_
              (try simp only [Act.put, gy0, gy1, gy2])
              refine tk 1 hH ?_
              (try simp only [Act.put, gy0, gy1, gy2])
              refine tk 2 hH ?_
              (try simp only [Act.put, gy0, gy1, gy2])
              refine tk 3 hH ?_
              (try simp only [Act.put, gy0, gy1, gy2])
              refine tk 4 hH ?_
              (try simp only [Act.put, gy0, gy1, gy2])
              refine tk 5 hH ?_
              (try simp only [Act.put, gy0, gy1, gy2])
              refine tk 6 hH ?_
              (try simp only [Act.put, gy0, gy1, gy2])
              refine tk 8 hH ?_
              (try simp only [Act.put, gy0, gy1, gy2])
              refine tk 9 hH ?_
              (try simp only [Act.put, gy0, gy1, gy2])
              refine tk 10 hH ?_
              (try simp only [Act.put, gy0, gy1, gy2])
              refine tk 11 hH ?_
              (try simp only [Act.put, gy0, gy1, gy2])
              refine wpAnyH_ready (rs := [7, 12]) (by kernel_rfl) (by simp) ?_
              refine rdy (fun K hK => ?_) ?_
              go_simp
              refine hK.out _ _ ?_ (fun hH2 => ?_)
              · (try dsimp only); (refine ⟨?_, ?_⟩ <;> repeat' (first | with_reducible assumption | with_reducible refine cell_dr ?_ | with_reducible refine cell_al ?_ | with_reducible refine cell_fr ?_ (by omega)))
              clear hK K hH
              have hH := hH2
              clear hH2
              (try simp only [Act.put, gy0, gy1, gy2])
              refine wpAnyH_ready (rs := [12]) (by kernel_rfl) (by simp) ?_
              refine rdy (fun K hK => ?_) ?_
              go_simp
              refine hK.out _ _ ?_ (fun hH2 => ?_)
              · (try dsimp only); (refine ⟨?_, ?_⟩ <;> repeat' (first | with_reducible assumption | with_reducible refine cell_dr ?_ | with_reducible refine cell_al ?_ | with_reducible refine cell_fr ?_ (by omega)))
              clear hK K hH
              have hH := hH2
              clear hH2
              (try simp only [Act.put, gy0, gy1, gy2])
              refine wpAnyH_ready (rs := [13]) (by kernel_rfl) (by simp) ?_
              refine rdy (fun K hK => ?_) ?_
              (first | (rw [if_pos (by rfl)]; refine wp_append_term (.tmp 45) (.tmp 50) rfl (W0.heap.size + 1) vv (L jv) rfl (World.ownsRow.alloc (w := Wt.drew) OW.out _) Wt.heap.size ((j : Int), C) rfl (Blk.new Wt.drew [.int .i64 (j : Int), .int .i64 C] 94) hl9 (by simp; omega) ?_; intro v' w1 hown' hgrow hat; obtain ⟨P1, ff, fc⟩ := NX.out _ w1 v' ((j : Int), C) (bx_call HBT.out (bx_alloc (bx_drew (bx_refl Wt)) _)) hown' hgrow hat; obtain ⟨g1, cap, hv'⟩ := own_some hown'; subst hv'; have c0' := hgrow.cell (cell_al (o := .cells #[.int .i64 (j : Int), .int .i64 C] 94) (cell_dr c0)) (fun e => absurd (LT.out _ e.symm).2 (Nat.lt_irrefl _)); have c1' := hgrow.cell (cell_al (o := .cells #[.int .i64 (j : Int), .int .i64 C] 94) (cell_dr c1)) (fun e => absurd (LT.out _ e.symm).2 (Nat.lt_irrefl _)); have FIN := hid P1; clear hown' hat P1))
              refine hK.out _ _ ?_ (fun hH2 => ?_)
              · (try dsimp only); (refine ⟨?_, ?_⟩ <;> repeat' (first | with_reducible assumption | with_reducible refine cell_dr ?_ | with_reducible refine cell_al ?_ | with_reducible refine cell_fr ?_ (by omega)))
              clear hK K hH
              have hH := hH2
              clear hH2
              (try simp only [Act.put, gy0, gy1, gy2])
              refine tk 14 hH ?_
              (try simp only [Act.put, gy0, gy1, gy2])
              refine wpAnyH_ready (rs := [15]) (by kernel_rfl) (by simp) ?_
              refine rdy (fun K hK => ?_) ?_
              go_simp
              refine hK.out _ _ ?_ (fun hH2 => ?_)
              · (try dsimp only); (refine ⟨?_, ?_⟩ <;> repeat' (first | with_reducible assumption | with_reducible refine cell_dr ?_ | with_reducible refine cell_al ?_ | with_reducible refine cell_fr ?_ (by omega)))
              clear hK K hH
              have hH := hH2
              clear hH2
              (try simp only [Act.put, gy0, gy1, gy2])
              refine wpAnyH_done (by kernel_rfl) ?_ _
              refine NoPanic.normal ?_
              clear hH
              rotate_left
              exact AllReadyH.nil
              exact AllReadyH.nil
              exact AllReadyH.nil
              refine rdy (fun K hK => ?_) ?_
              go_simp
              refine hK.out _ _ ?_ (fun hH2 => ?_)
              · (try dsimp only); (refine ⟨?_, ?_⟩ <;> repeat' (first | with_reducible assumption | with_reducible refine cell_dr ?_ | with_reducible refine cell_al ?_ | with_reducible refine cell_fr ?_ (by omega)))
              clear hK K hH
              have hH := hH2
              clear hH2
              (try simp only [Act.put, gy0, gy1, gy2])
              refine wpAnyH_ready (rs := [7]) (by kernel_rfl) (by simp) ?_
              refine rdy (fun K hK => ?_) ?_
              go_simp
              refine hK.out _ _ ?_ (fun hH2 => ?_)
              · (try dsimp only); (refine ⟨?_, ?_⟩ <;> repeat' (first | with_reducible assumption | with_reducible refine cell_dr ?_ | with_reducible refine cell_al ?_ | with_reducible refine cell_fr ?_ (by omega)))
              clear hK K hH
              have hH := hH2
              clear hH2
              (try simp only [Act.put, gy0, gy1, gy2])
              refine wpAnyH_ready (rs := [13]) (by kernel_rfl) (by simp) ?_
              refine rdy (fun K hK => ?_) ?_
              (first | (rw [if_pos (by rfl)]; refine wp_append_term (.tmp 45) (.tmp 50) rfl (W0.heap.size + 1) vv (L jv) rfl (World.ownsRow.alloc (w := Wt.drew) OW.out _) Wt.heap.size ((j : Int), C) rfl (Blk.new Wt.drew [.int .i64 (j : Int), .int .i64 C] 94) hl9 (by simp; omega) ?_; intro v' w1 hown' hgrow hat; obtain ⟨P1, ff, fc⟩ := NX.out _ w1 v' ((j : Int), C) (bx_call HBT.out (bx_alloc (bx_drew (bx_refl Wt)) _)) hown' hgrow hat; obtain ⟨g1, cap, hv'⟩ := own_some hown'; subst hv'; have c0' := hgrow.cell (cell_al (o := .cells #[.int .i64 (j : Int), .int .i64 C] 94) (cell_dr c0)) (fun e => absurd (LT.out _ e.symm).2 (Nat.lt_irrefl _)); have c1' := hgrow.cell (cell_al (o := .cells #[.int .i64 (j : Int), .int .i64 C] 94) (cell_dr c1)) (fun e => absurd (LT.out _ e.symm).2 (Nat.lt_irrefl _)); have FIN := hid P1; clear hown' hat P1))
              refine hK.out _ _ ?_ (fun hH2 => ?_)
              · (try dsimp only); (refine ⟨?_, ?_⟩ <;> repeat' (first | with_reducible assumption | with_reducible refine cell_dr ?_ | with_reducible refine cell_al ?_ | with_reducible refine cell_fr ?_ (by omega)))
              clear hK K hH
              have hH := hH2
              clear hH2
              (try simp only [Act.put, gy0, gy1, gy2])
              refine tk 14 hH ?_
              (try simp only [Act.put, gy0, gy1, gy2])
              refine wpAnyH_ready (rs := [15]) (by kernel_rfl) (by simp) ?_
              refine rdy (fun K hK => ?_) ?_
              go_simp
              refine hK.out _ _ ?_ (fun hH2 => ?_)
              · (try dsimp only); (refine ⟨?_, ?_⟩ <;> repeat' (first | with_reducible assumption | with_reducible refine cell_dr ?_ | with_reducible refine cell_al ?_ | with_reducible refine cell_fr ?_ (by omega)))
              clear hK K hH
              have hH := hH2
              clear hH2
              (try simp only [Act.put, gy0, gy1, gy2])
              refine wpAnyH_done (by kernel_rfl) ?_ _
              refine NoPanic.normal ?_
              clear hH
              rotate_left
              exact AllReadyH.nil
              exact AllReadyH.nil
              exact AllReadyH.nil
              exact AllReadyH.nil
              all_goals
                have ZZ := hid (MF.out _ (FIN.out.congr CF.out))
                clear FIN MF CF NX OW LT HBT ff fc hgrow c0' c1'
                go_wp2_with fail
                go_roundw
                case rel => exact ⟨t + 1, by omega, by go_num, ZZ⟩
                case measure => simp [intOf]; omega
            · have t2 : decide (V < (vn : Int)) = false := decide_eq_false h2
              have ZZ := hid (MF.out _ (ZT.out.congr (fun a ha => CN2.out a (by omega))))
              clear CN2 CY2 ZT HLN MF ZR OT HBT
              go_wp2_with fail
              go_roundw
              case rel => exact ⟨t + 1, by omega, by go_num, ZZ⟩
              case measure => simp [intOf]; omega
          · have t1 : decide (0 ≤ V) = false := decide_eq_false h1
            have ZZ := hid (MF.out _ (ZT.out.congr (fun a _ => CN2.out a (by omega))))
            clear CN2 CY2 ZT HLN MF ZR OT HBT
            go_wp2_with fail
            go_roundw
            case rel => exact ⟨t + 1, by omega, by go_num, ZZ⟩
            case measure => simp [intOf]; omega
        · obtain rfl : t = tn j := by omega
          have ZZ := hid (show CoP w W0.heap.size [.slice V0 vn vc, .slice (some ⟨b, o, none⟩) rn rc] vn (fun a => colC tn v cf a (j + 1)) wr from hz.out)
          clear hz TS HL
          go_wp2_with fail
          go_roundw
          case rel => exact ⟨j + 1, by omega, by go_num, ZZ⟩
          case measure => simp [intOf]; omega
    · obtain rfl : j = rn := by omega
      have YY : RetC w vn (fun a => colC tn v cf a j) (.returned (.slice (some ⟨W0.heap.size, 0, none⟩) vn vn)) wr := ⟨_, rfl, hz.out.2.2.2, Nat.le_of_lt hz.out.1, hz.out.2.1⟩
      have YH := hid YY
      clear hz HR HT YY
      go_wp2_with fail
      exact bodyPost_ret (v := .slice (some ⟨W0.heap.size, 0, none⟩) vn vn) (by simp [results, Tryz.results79, go_sem]) rfl YH.out
theorem cmbA_congr {rn : Nat} {tn : Nat → Nat} {v cf : Nat → Nat → Int} {y z : Nat → Rat} (h : ∀ i, i < rn → y i = z i) (j : Nat) : cmbA rn tn v cf y j = cmbA rn tn v cf z j := by
  unfold cmbA
  exact sumN_congr fun i hi => by rw [h i hi]
theorem cmbB_congr {rn : Nat} {bo : Nat → Int} {y z : Nat → Rat} (h : ∀ i, i < rn → y i = z i) : cmbB rn bo y = cmbB rn bo z := by
  unfold cmbB
  exact sumN_congr fun i hi => by rw [h i hi]
theorem ColsP.far {w : World} {B vn g i : Nat} {T S : TypeId} {L : Nat → List (Int × Int)} (h : ColsP w B vn T S L) (hg : g < B) (u : Value) : ColsP (w.setCell ⟨g, i, none⟩ u) B vn T S L := by
  obtain ⟨vals, hl, hB, ho, hd⟩ := h
  refine ⟨vals, hl, hB.far (by omega) u, fun j hj => ?_, hd⟩
  obtain ⟨v, hv, hw⟩ := ho j hj
  exact ⟨v, hv, ownsRow_far hw (show g < B + 1 by omega) u⟩
section
variable {w W W' : World} {cs : List Value} {rb bn bl Cb B vn K mm : Nat} {A : Option Addr} {n c : Nat} {L : Nat → List (Int × Int)} {f : Nat → Rat}
end
set_option maxHeartbeats 2000000 in
theorem vcmb1 (pb : Nat) (V0 : Option Addr) (vn vc : Nat) (R0 : Option Addr) (rn rc : Nat) (nm : Nat → ByteArray) (gr ki bo : Nat → Int) (TA : Nat → Option Addr) (tn tc : Nat → Nat) (v cf : Nat → Nat → Int) (i : Nat) (w : World) (hi : i < rn) (hR : Rs w R0 rn rc nm gr ki bo TA tn tc v cf) (kp : Blk w pb [.slice V0 vn vc, .slice R0 rn rc] 25) :
    Calls Tryz.prog 80 #[.int .i64 (i : Int), .pointer (some ⟨pb, 0, none⟩)] w (RetI w (bo i)) := by
  obtain ⟨b, o, rfl, hb, hcell⟩ := hR.2.2.2 (by omega)
  obtain ⟨_, x1⟩ := blk_two kp
  have x2 := (hcell i hi).2.2.2.2
  have hc := hR.1
  have hc2 := hR.2.1
  clear hR kp hcell
  go_enter Tryz.func80, Tryz.ntmps80
  go_wp2_with fail
  go_ret
  exact ⟨rfl, bx_refl w⟩
theorem cmb1_cf (args : Array Value) (W : World) : Sem.run Tryz.prog (callFunc 80 args) W = .ok (.enter 80 args) W := by kernel_rfl
theorem atQ_atQ (vn n : Nat) (qs : Nat → Rat) (z : Int) : atQ (min vn n) qs z = atQ vn (fun i : Nat => atQ n qs (i : Int)) z := by
  unfold atQ
  by_cases h : 0 ≤ z ∧ z < vn
  · rw [if_pos h]
    by_cases h2 : z < n
    · rw [if_pos (by omega)]
      show _ = if 0 ≤ ((z.toNat : Nat) : Int) ∧ ((z.toNat : Nat) : Int) < n then qs ((z.toNat : Nat) : Int).toNat else 0
      rw [if_pos (by omega), Int.toNat_natCast]
    · rw [if_neg (by omega)]
      show _ = if 0 ≤ ((z.toNat : Nat) : Int) ∧ ((z.toNat : Nat) : Int) < n then qs ((z.toNat : Nat) : Int).toNat else 0
      rw [if_neg (by omega)]
  · rw [if_neg h, if_neg (by omega)]
def vio (h : Nat → Bool) : Nat → List Nat
  | 0 => []
  | i + 1 => vio h i ++ (if h i = true then [] else [i])
theorem vio_len (h : Nat → Bool) (n : Nat) : (vio h n).length ≤ n := by
  induction n with
  | zero => exact Nat.le_refl _
  | succ n ih =>
    show (vio h n ++ _).length ≤ _
    rw [List.length_append]
    split
    · show _ + 0 ≤ _; omega
    · show _ + 1 ≤ _; omega
theorem vio_nil {h : Nat → Bool} {n : Nat} : vio h n = [] ↔ ∀ i, i < n → h i = true := by
  induction n with
  | zero => exact ⟨fun _ i hi => absurd hi (by omega), fun _ => rfl⟩
  | succ n ih =>
    show vio h n ++ _ = [] ↔ _
    rw [List.append_eq_nil_iff, ih]
    constructor
    · rintro ⟨h1, h2⟩ i hi
      rcases Nat.lt_or_ge i n with h3 | h3
      · exact h1 i h3
      · obtain rfl : i = n := by omega
        split at h2
        · assumption
        · cases h2
    · intro h1
      exact ⟨fun i hi => h1 i (by omega), by rw [if_pos (h1 n (by omega))]⟩
def ints (l : List Nat) : List Value := l.map fun i : Nat => Value.int .i64 (i : Int)
theorem ints_append (l m : List Nat) : ints (l ++ m) = ints l ++ ints m := by unfold ints; rw [List.map_append]
def Il (w : World) (A : Option Addr) (n c : Nat) (f : Nat → Int) : Prop := n ≤ c ∧ c ≤ 9223372036854775807 ∧ (0 < n → ∃ b o, A = some ⟨b, o, none⟩ ∧ b < w.heap.size ∧ ∀ j, j < n → w.cell? ⟨b, o + j, none⟩ = some (.int .i64 (f j)))
def RetL (w : World) (l : List Nat) (e : Ending) (w' : World) : Prop := ∃ A c, e = .returned (.slice A l.length c) ∧ Il w' A l.length c (fun j => ((l.getD j 0 : Nat) : Int)) ∧ Below w.heap.size w w'
theorem own_ints {w : World} {base : Nat} {v : Value} {l : List Nat} (h : w.ownsRow base 3 1 v l.length (ints l)) : ∃ A c, v = .slice A l.length c ∧ Il w A l.length c (fun j => ((l.getD j 0 : Nat) : Int)) := by
  rcases h.2 with ⟨rfl, h0⟩ | ⟨g, cap, cur, rfl, hb, hg, hn, hc, hcs, hcur⟩
  · refine ⟨none, 0, by rw [h0], ?_⟩
    rw [h0]
    exact ⟨Nat.le_refl _, by omega, fun hk => absurd hk (by omega)⟩
  · refine ⟨some ⟨g, 0, none⟩, cap, rfl, hn, by unfold maxLen at hc; exact hc, fun _ => ⟨g, 0, rfl, (Array.getElem?_eq_some_iff.1 hg).1, fun k hk => ?_⟩⟩
    have := h.cells (g := g) rfl k (.int .i64 ((l.getD k 0 : Nat) : Int)) (by simp [ints, List.getD, List.getElem?_eq_getElem hk])
    rw [addr_add] at this
    rw [Nat.zero_add]; exact this
theorem Tryz.infoInt : ∃ i, Tryz.prog.info? 3 = some i ∧ i.zero = some (.int .i64 0) ∧ i.size = 1 ∧ i.bytes = 8 := info_parts (by kernel_rfl)
theorem wpList_append_idx {w : World} {ops : Array Oper} {rest : List Oper} {o : Oper} {a : Act} {Q : Exit → Act → World → Prop} (hgd : o.guard = none) (s x : Operand) (ho : o.op = .call { callee := .builtin .append, args := #[s, x], argTypes := #[45, 45] })
    (base : Nat) (v : Value) (l : List Nat) (hs : a.eval s = v) (hown : w.ownsRow base 3 1 v l.length (ints l)) (g j : Nat) (hx : a.eval x = .slice (some ⟨g, 0, none⟩) 1 1) (hg : Blk w g [.int .i64 (j : Int)] 3) (hl : l.length + 1 ≤ 1000000000) (hbase : base ≤ w.heap.size)
    (h : ∀ v' w', w'.ownsRow base 3 1 v' (l ++ [j]).length (ints (l ++ [j])) → w.grownBy w' v.ownBlock → wpList Tryz.prog ops Q rest (a.put o.dst v') w') : wpList Tryz.prog ops Q (o :: rest) a w := by
  obtain ⟨i0, hi, hz0, hz1, hz2⟩ := Tryz.infoInt
  refine wpList_append_own w hgd s x 45 ho base 3 i0 (.int .i64 0) 1 8 (by kernel_rfl) hi hz0 hz1 hz2 rfl (by decide) v l.length (ints l) hs hown ⟨g, 0, none⟩ 1 1 [.int .i64 (j : Int)] hx rfl (fun k u hk => by rw [addr_add, hg.cell]; exact hk) (fun u hu => by
    simp only [List.mem_cons, List.not_mem_nil, or_false] at hu
    subst hu; rfl) (by unfold maxLen; omega) (by omega) hbase (fun v' w' h2 h3 _ => h v' w' ?_ h3)
  rw [ints_append, List.length_append]
  exact h2
structure ViP (w : World) (cs : List Value) (bn bl B mm : Nat) (A : Option Addr) (n c : Nat) (v : Value) (l : List Nat) (W : World) : Prop where
  bel : Below w.heap.size w W
  box : Blk W w.heap.size cs 25
  kn : Blk W bn [.int .i64 mm] 3
  kl : Blk W bl [.slice A n c] 32
  own : W.ownsRow B 3 1 v l.length (ints l)
  le : B ≤ W.heap.size
theorem own_keep {W W' : World} {B : Nat} {t s : Nat} {v : Value} {n : Nat} {xs : List Value} (h : W.ownsRow B t s v n xs) (b : Below W.heap.size W W') : W'.ownsRow B t s v n xs := by
  refine ⟨h.1, ?_⟩
  rcases h.2 with hn | ⟨g, cap, cur, rfl, hb, hg, rest⟩
  · exact .inl hn
  · exact .inr ⟨g, cap, cur, rfl, hb, (b.block g (Array.getElem?_eq_some_iff.1 hg).1).trans hg, rest⟩
section
variable {w W W' : World} {cs : List Value} {bn bl B mm : Nat} {A : Option Addr} {n c : Nat} {v : Value} {l : List Nat}
theorem ViP.keep (h : ViP w cs bn bl B mm A n c v l W) (b : Below W.heap.size W W') : ViP w cs bn bl B mm A n c v l W' :=
  ⟨bx_call h.bel b, h.box.keep b, h.kn.keep b, h.kl.keep b, own_keep h.own b, Nat.le_trans h.le b.size⟩
theorem ViP.grow (h : ViP w cs bn bl B mm A n c v l W) (h1 : w.heap.size < B) (h2 : bn < B) (h3 : bl < B) {v' : Value} {m : List Nat} (ho : W'.ownsRow B 3 1 v' m.length (ints m)) (hg : W.grownBy W' v.ownBlock) : ViP w cs bn bl B mm A n c v' m W' := by
  have hlt := h.own.lt
  have far : ∀ k, k < B → some k ≠ v.ownBlock := fun k hk e => by have := (hlt k e.symm).1; omega
  have hs := h.le
  refine ⟨⟨hg.os.trans h.bel.os, hg.tape.trans h.bel.tape, hg.output.trans h.bel.output, Nat.le_trans h.bel.size hg.size, fun k hk => ?_⟩, (hg.block _ h.box.lt (far _ h1)).trans h.box, (hg.block _ h.kn.lt (far _ h2)).trans h.kn, (hg.block _ h.kl.lt (far _ h3)).trans h.kl, ho, Nat.le_trans h.le hg.size⟩
  rw [hg.block k (by omega) (far k (by omega))]
  exact h.bel.block k hk
end
set_option maxHeartbeats 8000000 in
theorem vviolated (V0 : Option Addr) (vn vc : Nat) (R0 : Option Addr) (rn rc : Nat) (nm : Nat → ByteArray) (gr ki bo : Nat → Int) (TA : Nat → Option Addr) (tn tc : Nat → Nat) (v cf : Nat → Nat → Int) (A : Option Addr) (n c k : Nat) (qs : Nat → Rat) (w : World) (_hvn : vn ≤ 9223372036854775807) (hR : Rs w R0 rn rc nm gr ki bo TA tn tc v cf) (m : Nat) (htn : ∀ i, i < rn → tn i ≤ m) (hrn : rn ≤ 1000000) (hQ : Qs w A n c k qs) (hK : m * (k + 3) + 1 + (k + 4) ≤ 274877906941) :
    Calls Tryz.prog 24 #[.agg #[.slice V0 vn vc, .slice R0 rn rc], .slice A n c] w (RetL w (vio (fun i => holdB (ki i) (bo i) (rowV vn (tn i) (v i) (cf i) (fun i : Nat => atQ n qs (i : Int)))) rn)) := by
  have hd := hR.1
  have hd2 := hR.2.1
  have hqn : n ≤ 9223372036854775807 := Nat.le_trans hQ.1 hQ.2.1
  have hk1 := hQ.2.2.1
  obtain ⟨mm, hmm⟩ : ∃ mm, mm = min vn n := ⟨_, rfl⟩
  have hmn : mm ≤ n := by omega
  obtain ⟨W0, hW⟩ : ∃ W, W = w.alloc (.cells #[.slice V0 vn vc, .slice R0 rn rc] 25) := ⟨_, rfl⟩
  have B0 := bx_alloc (bx_refl w) (.cells #[.slice V0 vn vc, .slice R0 rn rc] 25)
  have K0 := Blk.new w [.slice V0 vn vc, .slice R0 rn rc] 25
  have hz : w.heap.size < W0.heap.size := by rw [hW]; simp
  change Blk (w.alloc (.cells #[.slice V0 vn vc, .slice R0 rn rc] 25)) _ _ _ at K0
  rw [← hW] at B0 K0
  obtain ⟨z0, z1⟩ := blk_two K0
  have EL := hid (velem A n c vn mm W0 hqn hmm)
  obtain ⟨H, hH⟩ : ∃ H : Nat → Bool, H = fun i => holdB (ki i) (bo i) (rowV vn (tn i) (v i) (cf i) (fun i : Nat => atQ n qs (i : Int))) := ⟨_, rfl⟩
  rw [← hH]
  have HH := hid (fun i => (show H i = holdB (ki i) (bo i) (sumN (fun t => (cf i t : Rat) * atQ mm qs (v i t)) (tn i)) by
    rw [hH, hmm]
    show holdB _ _ (rowV _ _ _ _ _) = _
    unfold rowV
    rw [sumN_congr fun t _ => by rw [← atQ_atQ vn n qs (v i t)]]))
  have HR := hid hR
  have HT := hid htn
  have HQ := hid hQ
  have BB := hid B0
  have KK := hid K0
  clear hR htn hQ B0 K0 hmm hH
  go_enter Tryz.func24, Tryz.ntmps24
  go_upto_region 1 with fail
  rw [← hW]
  clear hW
  go_wp2_with fail
  refine (EL.out).mono ?_
  rintro e W1 ⟨bn, bl, rfl, kn, kl, _, _, b⟩
  have hbn := kn.lt
  have hbl := kl.lt
  have hws : w.heap.size < W1.heap.size := Nat.lt_of_lt_of_le hz b.size
  have K1 := KK.out.keep b
  have ST := hid (show ViP w [.slice V0 vn vc, .slice R0 rn rc] bn bl W1.heap.size mm A n c (.slice (some ⟨W1.heap.size, 0, none⟩) 0 0) (vio H 0) (W1.alloc (.cells #[] 3)) from
    ⟨bx_alloc (bx_call BB.out b) _, K1.alloc _, kn.alloc _, kl.alloc _, ⟨by simp [vio, ints], .inr ⟨W1.heap.size, 0, #[], rfl, Nat.le_refl _, heap_alloc_new W1 _, by simp [vio], by unfold maxLen; omega, by simp, by simp [vio, ints]⟩⟩, by simp⟩)
  obtain ⟨z0, z1⟩ := blk_two (K1.alloc (.cells #[] 3))
  clear EL kn kl b BB KK K1 hz
  unfold El
  go_wp2_with fail
  go_loopw [6, 18] (fun u i wr => ∃ j : Nat, j ≤ rn ∧ i = .int .i64 j ∧ Hid (ViP w [.slice V0 vn vc, .slice R0 rn rc] bn bl W1.heap.size mm A n c u (vio H j) wr)) (fun _ i _ => rn - (intOf i).toNat)
  case atStart => exact ⟨0, Nat.zero_le _, rfl, ST⟩
  case round =>
    clear ST z0 z1
    obtain ⟨j, hj, rfl, hz⟩ := hrel
    rcases Nat.lt_or_ge j rn with hlt | hge
    · obtain ⟨b, o, rfl, hb, hcell⟩ := HR.out.2.2.2 (by omega)
      obtain ⟨_, ⟨o1, o2⟩, _, hTs⟩ := HR.out.2.2.1 j hlt
      have x0 := cell_bx (hcell j hlt).1 hz.out.bel
      have x1 := cell_bx (hcell j hlt).2.1 hz.out.bel
      have x2 := cell_bx (hcell j hlt).2.2.1 hz.out.bel
      have x3 := cell_bx (hcell j hlt).2.2.2.1 hz.out.bel
      have x4 := cell_bx (hcell j hlt).2.2.2.2 hz.out.bel
      have htm := HT.out j hlt
      have hsz : tn j * (k + 3) + 1 ≤ m * (k + 3) + 1 := Nat.add_le_add_right (Nat.mul_le_mul_right _ htm) 1
      obtain ⟨W3, hW3⟩ : ∃ W, W = wr.alloc (.cells #[.string (nm j), .int .i64 (gr j), .int .i64 (ki j), .slice (TA j) (tn j) (tc j), .int .i64 (bo j)] 77) := ⟨_, rfl⟩
      have B1 := bx_alloc (bx_refl wr) (.cells #[.string (nm j), .int .i64 (gr j), .int .i64 (ki j), .slice (TA j) (tn j) (tc j), .int .i64 (bo j)] 77)
      have KT := Blk.new wr [.string (nm j), .int .i64 (gr j), .int .i64 (ki j), .slice (TA j) (tn j) (tc j), .int .i64 (bo j)] 77
      change Blk (wr.alloc (.cells #[.string (nm j), .int .i64 (gr j), .int .i64 (ki j), .slice (TA j) (tn j) (tc j), .int .i64 (bo j)] 77)) _ _ _ at KT
      rw [← hW3] at B1 KT
      have Z3 := hz.out.keep B1
      have VP := hid Z3
      have q := HH.out j
      obtain ⟨S, hS⟩ : ∃ S, S = sumN (fun t => (cf j t : Rat) * atQ mm qs (v j t)) (tn j) := ⟨_, rfl⟩
      have SM := hid (fun (W : World) (b : Below W3.heap.size W3 W) => (show Calls Tryz.prog 66 #[.slice (TA j) (tn j) (tc j), El bn bl] W (RetV W S (tn j * (k + 3) + 1)) by
        rw [hS]
        exact vsum (TA j) (tn j) (tc j) (v j) (cf j) A n c k mm bn bl qs W (hTs.keep (Z3.keep b).bel) (HQ.out.keep (Z3.keep b).bel) (Z3.keep b).kn (Z3.keep b).kl hmn (by omega)))
      rw [← hS] at q
      have SA := hid (fun (W : World) (g1 : Bool) (A1 : Option Addr) (n1 c1 : Nat) (D1 : Option Addr) (m1 d1 : Nat) (r : FrV W g1 A1 n1 c1 D1 m1 d1 (tn j * (k + 3) + 1) S) => (show Calls Tryz.prog 71 #[.agg #[.string (nm j), .int .i64 (gr j), .int .i64 (ki j), .slice (TA j) (tn j) (tc j), .int .i64 (bo j)], .agg #[.bool g1, .slice A1 n1 c1, .slice D1 m1 d1]] W (RetB W (H j)) by
        rw [q]
        exact vsatisfied (nm j) (gr j) (ki j) (bo j) (TA j) (tn j) (tc j) g1 A1 n1 c1 D1 m1 d1 (tn j * (k + 3) + 1) S W o1 o2 r (by omega)))
      have hvl := vio_len H j
      have VY := hid (fun (h : H j = true) => (show vio H (j + 1) = vio H j by show vio H j ++ _ = _; rw [if_pos h, List.append_nil]))
      have VN := hid (fun (h : H j = false) => (show vio H (j + 1) = vio H j ++ [j] by show vio H j ++ _ = _; rw [if_neg (by rw [h]; decide)]))
      obtain ⟨y0, y1, y2, y3, y4⟩ := blk_five KT
      obtain ⟨hv, hhv⟩ : ∃ h, h = H j := ⟨_, rfl⟩
      rw [← hhv] at SA VY VN
      obtain ⟨L, hL⟩ : ∃ L, L = vio H j := ⟨_, rfl⟩
      obtain ⟨L2, hL2⟩ : ∃ L, L = vio H (j + 1) := ⟨_, rfl⟩
      rw [← hL] at VP hvl VY VN
      rw [← hL2] at VY VN
      have LL := hid hL2
      clear hz B1 KT HR HT HQ HH hcell hTs htm q hS hhv hL hL2 Z3 hsz
      unfold El at SM
      go_upto_region 6 with fail
      rw [← hW3]
      clear hW3 x0 x1 x2 x3 x4
      go_region_held3 (fun W => W.cell? ⟨wr.heap.size, 0, none⟩ = some (.string (nm j)) ∧ W.cell? ⟨wr.heap.size, 1, none⟩ = some (.int .i64 (gr j)) ∧ W.cell? ⟨wr.heap.size, 2, none⟩ = some (.int .i64 (ki j)) ∧ W.cell? ⟨wr.heap.size, 3, none⟩ = some (.slice (TA j) (tn j) (tc j)) ∧ W.cell? ⟨wr.heap.size, 4, none⟩ = some (.int .i64 (bo j)))
        (refine ⟨?_, ?_, ?_, ?_, ?_⟩ <;> repeat' (first | with_reducible assumption | with_reducible refine cell_dr ?_))
        (first
          | (go_at_call 71; refine (SA.out v1 g1 A1 n1 c1 D1 m1 d1 R1.out).mono ?_; rintro e v2 ⟨rfl, b⟩; have t0 := cell_bx s0 b; have t1 := cell_bx s1 b; have t2 := cell_bx s2 b; have t3 := cell_bx s3 b; have t4 := cell_bx s4 b; have X2 := hid (bx_call X1.out b); clear b)
          | (go_at_call 66; refine (SM.out _ (bx_drew (bx_refl _))).mono ?_; rintro e v1 ⟨g1, A1, n1, c1, D1, m1, d1, rfl, r, b⟩; have s0 := cell_bx (cell_dr y0) b; have s1 := cell_bx (cell_dr y1) b; have s2 := cell_bx (cell_dr y2) b; have s3 := cell_bx (cell_dr y3) b; have s4 := cell_bx (cell_dr y4) b; have R1 := hid r; have X1 := hid (bx_call (bx_drew (bx_refl _)) b); clear b r))
      clear y0 y1 y2 y3 y4 SM SA
      cases hv
      · have hL2 := VN.out rfl
        have P2 := VP.out.keep X2.out
        have KN := hid (Blk.new v2 [.int .i64 (j : Int)] 3)
        have P3 := hid (P2.keep (bx_alloc (bx_refl v2) (.cells #[.int .i64 (j : Int)] 3)))
        have hl9 : L.length + 1 ≤ 1000000000 := by omega
        have OW := hid P3.out.own
        have LE := hid P3.out.le
        have GW := hid (fun (v' : Value) (w1 : World) (ho : w1.ownsRow W1.heap.size 3 1 v' (L ++ [j]).length (ints (L ++ [j]))) (hg : (v2.alloc (.cells #[.int .i64 (j : Int)] 3)).grownBy w1 u6.ownBlock) => (show ViP w [.slice V0 vn vc, .slice (some ⟨b, o, none⟩) rn rc] bn bl W1.heap.size mm A n c v' (vio H (j + 1)) w1 by rw [← LL.out, VN.out rfl]; exact P3.out.grow hws hbn hbl ho hg))
        clear VP VY VN LL hL2 P2 P3 X2 t0 t1 t2 t3 t4
        go_wp2_with (at_builtin; refine wpList_append_idx rfl (.tmp 30) (.tmp 32) rfl W1.heap.size u6 L rfl OW.out v2.heap.size j rfl KN.out hl9 LE.out ?_; intro v' w1 ho hg; have ZZ := hid (GW.out v' w1 ho hg); clear ho hg)
        clear OW LE GW KN
        go_roundw
        case rel => exact ⟨j + 1, by omega, by go_num, ZZ⟩
        case measure => simp [intOf]; omega
      · have ZZ := hid (show ViP w [.slice V0 vn vc, .slice (some ⟨b, o, none⟩) rn rc] bn bl W1.heap.size mm A n c u6 (vio H (j + 1)) v2 by rw [← LL.out, VY.out rfl]; exact VP.out.keep X2.out)
        clear VP VY VN LL X2 t0 t1 t2 t3 t4
        go_wp2_with fail
        go_roundw
        case rel => exact ⟨j + 1, by omega, by go_num, ZZ⟩
        case measure => simp [intOf]; omega
    · obtain rfl : j = rn := by omega
      obtain ⟨A2, c2, hu, hI⟩ := own_ints hz.out.own
      subst hu
      have YY : RetL w (vio H j) (.returned (.slice A2 (vio H j).length c2)) wr := ⟨_, _, rfl, hI, hz.out.bel⟩
      have YH := hid YY
      clear hz HR HT HQ HH hI YY
      go_wp2_with fail
      exact bodyPost_ret (v := .slice A2 (vio H j).length c2) (by simp [results, Tryz.results24, go_sem]) rfl YH.out
end Go.Proofs.YtdbccidlnhjfhaaGreatDoor
