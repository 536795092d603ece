/- The text of a sum. -/
import Derived.Test.YthbogaindaflpaaGreatDoorFmc
import Derived.Deep.DeepCutAuto
import Derived.BigQuiet
namespace Go.Proofs.YthbogaindaflpaaGreatDoor
open Go.RowKit

theorem own_off {w : World} {base e sz n g : Nat} {x : Value} {xs cs : List Value} {t : TypeId} (h : w.ownsRow base e sz x n xs) (h' : Blk w g cs t) (ht : t ≠ e) : some g ≠ x.ownBlock := by
  intro hx
  rcases h.2 with ⟨rfl, _⟩ | ⟨g', cap, cur, rfl, _, hg, _⟩
  · cases hx
  · simp only [Value.ownBlock, Option.some.injEq] at hx
    subst hx
    unfold Blk at h'
    rw [hg] at h'
    simp only [Option.some.injEq, Obj.cells.injEq] at h'
    exact ht h'.2.1.symm
theorem blk_grow {w w' : World} {base e sz n g : Nat} {x : Value} {xs cs : List Value} {t : TypeId} (h : w.ownsRow base e sz x n xs) (h' : Blk w g cs t) (ht : t ≠ e) (hg : w.grownBy w' x.ownBlock) : Blk w' g cs t := (hg.block g h'.lt (own_off h h' ht)).trans h'
/-- append of strings that were just laid out, to a list of the call's own. -/
theorem wp_app {w W : World} {B : Nat} {v : Value} {l : List ByteArray} {ops : Array Oper} {rest : List Oper} {o : Oper} {a : Act} {Q : Exit → Act → World → Prop} (S : Hid (SlP w B v l W)) (ys : List ByteArray) (hgd : o.guard = none) (s x : Operand) (ho : o.op = .call { callee := .builtin .append, args := #[s, x], argTypes := #[30, 30] }) (hs : a.eval s = v) (hx : a.eval x = .slice (some ⟨W.heap.size, 0, none⟩) ys.length ys.length) (hl : l.length + ys.length ≤ 1000000000)
    (h : ∀ v' w', Hid (SlP w B v' (l ++ ys) w') → Hid (∀ g cs t, t ≠ 9 → Blk W g cs t → Blk w' g cs t) → wpList Tryz.prog ops Q rest (a.put o.dst v') w') : wpList Tryz.prog ops Q (o :: rest) a (W.alloc (.cells (strs ys).toArray 9)) := by
  have S1 := S.out.keep (bx_alloc (bx_refl W) (.cells (strs ys).toArray 9))
  exact wpList_append_str hgd s x ho B v l hs S1.own W.heap.size ys.length ys rfl hx (Blk.new W _ _) hl S1.le (fun v' w' h1 h2 => h v' w' (hid (S1.grow h1 h2)) (hid fun g cs t ht k => blk_grow S1.own (k.alloc _) ht h2))
def absI (c : Int) : Int := if c < 0 then -c else c
def tpart (v cf : Nat → Int) (i : Nat) : List (List UInt8) := [opTx (decide ((i : Int) = 0)) (decide (cf i < 0))] ++ ((if absI (cf i) = 1 then [] else [Lib.itoa (absI (cf i)), [32]]) ++ [120 :: Lib.itoa (v i)])
def tparts (v cf : Nat → Int) : Nat → List (List UInt8)
  | 0 => []
  | n + 1 => tparts v cf n ++ tpart v cf n
def sumTx (tn : Nat) (v cf : Nat → Int) : List UInt8 := if tn = 0 then [48] else Lib.join (tparts v cf tn) []
theorem tpart_len (v cf : Nat → Int) (i : Nat) : (tpart v cf i).length ≤ 4 := by
  unfold tpart
  split <;> simp
theorem tparts_len (v cf : Nat → Int) (n : Nat) : (tparts v cf n).length ≤ 4 * n := by
  induction n with
  | zero => simp [tparts]
  | succ n ih =>
    have := tpart_len v cf n
    simp only [tparts, List.length_append]
    omega
theorem abs_max {c : Int} (h : -4611686018427387904 ≤ c ∧ c ≤ 4611686018427387904) : max c (wrap64 (-c)) = absI c := by
  have : wrap64 (-c) = -c := by
    unfold wrap64
    omega
  rw [this]
  unfold absI
  split <;> omega
theorem abs_lo {c : Int} (h : -4611686018427387904 ≤ c ∧ c ≤ 4611686018427387904) : -9223372036854775808 ≤ max c (wrap64 (-c)) := by
  rw [abs_max h]
  unfold absI
  split <;> omega
theorem abs_hi {c : Int} (h : -4611686018427387904 ≤ c ∧ c ≤ 4611686018427387904) : max c (wrap64 (-c)) ≤ 9223372036854775807 := by
  rw [abs_max h]
  unfold absI
  split <;> omega
/-- The strings of a sum so far. -/
structure TmP (w : World) (B : Nat) (v cf : Nat → Int) (j : Nat) (u : Value) (W : World) : Prop where
  ex : ∃ l, SlP w B u l W ∧ txs l = tparts v cf j ∧ ∀ x ∈ l, x.size ≤ 30

theorem tpart_mem {v cf : Nat → Int} {i : Nat} (hv : -9223372036854775808 ≤ v i ∧ v i ≤ 9223372036854775807) (hc : -4611686018427387904 ≤ cf i ∧ cf i ≤ 4611686018427387904) : ∀ x ∈ tpart v cf i, x.length ≤ 30 := by
  have h1 := Lib.itoa_length_le (v i) hv.1 hv.2
  have h2 := Lib.itoa_length_le (absI (cf i)) (by rw [← abs_max hc]; exact abs_lo hc) (by rw [← abs_max hc]; exact abs_hi hc)
  have h3 : (opTx (decide ((i : Int) = 0)) (decide (cf i < 0))).length ≤ 3 := by
    unfold opTx
    split <;> split <;> simp
  intro x hx
  unfold tpart at hx
  split at hx
  · simp only [List.nil_append, List.mem_append, List.mem_singleton] at hx
    rcases hx with rfl | rfl
    · omega
    · simp only [List.length_cons]
      omega
  · simp only [List.mem_append, List.mem_cons, List.not_mem_nil, or_false] at hx
    rcases hx with rfl | (rfl | rfl) | rfl
    · omega
    · omega
    · simp
    · simp only [List.length_cons]
      omega
theorem tm_step {w W : World} {B j : Nat} {u : Value} {v cf : Nat → Int} {l ms : List ByteArray} (S : SlP w B u (l ++ ms) W) (hL0 : txs l = tparts v cf j) (hL1 : ∀ x ∈ l, x.size ≤ 30) (hv : -9223372036854775808 ≤ v j ∧ v j ≤ 9223372036854775807) (hc : -4611686018427387904 ≤ cf j ∧ cf j ≤ 4611686018427387904) (hm : txs ms = tpart v cf j) : TmP w B v cf (j + 1) u W :=
  ⟨l ++ ms, S, by rw [txs_append, hL0, hm]; rfl, fun x hx => by
    rcases List.mem_append.1 hx with h | h
    · exact hL1 x h
    · have := tpart_mem hv hc x.data.toList (by rw [← hm]; unfold txs; exact List.mem_map.2 ⟨x, h, rfl⟩)
      rw [Array.length_toList] at this
      exact this⟩

set_option maxRecDepth 100000 in
set_option maxHeartbeats 8000000 in
theorem f_terms (A : Option Addr) (tn tc : Nat) (v cf : Nat → Int) (w : World) (hT : Ts w A tn tc v cf) (htn : tn ≤ 10000) (hcf : ∀ t, t < tn → -4611686018427387904 ≤ cf t ∧ cf t ≤ 4611686018427387904) (ht : Tab w) :
    Calls Tryz.prog 104 #[.slice A tn tc] w (RetTx w (sumTx tn v cf)) := by
  have h1 := hT.1
  have h2 := hT.2.1
  have HT := hid hT
  have HC := hid hcf
  have TB := hid ht
  have BR := hid (bx_refl w)
  clear hT hcf ht
  go_enter Tryz.func104, Tryz.ntmps104
  rcases Nat.eq_zero_or_pos tn with rfl | hpos
  · go_wp2_with fail
    go_ret
    exact ⟨_, rfl, rfl, BR.out⟩
  have t1 : ((tn : Int) == 0) = false := beq_eq_false_iff_ne.2 (by omega)
  have t2 : decide ((tn : Int) = 0) = false := decide_eq_false (by omega)
  have t3 : ¬tn = 0 := by omega
  have ST := hid (show TmP w w.heap.size v cf 0 (.slice (some ⟨w.heap.size, 0, none⟩) 0 0) (w.alloc (.cells #[] 9)) from ⟨[], SlP.start BR.out, rfl, fun x hx => by cases hx⟩)
  clear BR
  go_wp2_with fail
  clear t1 t2
  go_loopw [3, 13] (fun u i wr => ∃ j : Nat, j ≤ tn ∧ i = .int .i64 j ∧ Hid (TmP w w.heap.size v cf j u wr)) (fun _ i _ => tn - (intOf i).toNat)
  case atStart => exact ⟨0, Nat.zero_le _, rfl, ST⟩
  case round =>
    clear ST
    obtain ⟨j, hj, rfl, hz⟩ := hrel
    obtain ⟨l, S0, hl0, hl1⟩ := hz.out.ex
    have hS0 := hid S0
    have hll : l.length ≤ 4 * j := by
      have := tparts_len v cf j
      rw [← hl0] at this
      simpa [txs] using this
    have hL0 := hid hl0
    have hL1 := hid hl1
    clear hz S0 hl0 hl1
    rcases Nat.lt_or_ge j tn with hlt | hge
    · obtain ⟨b, o, rfl, hb, hcell⟩ := HT.out.2.2.2 (by omega)
      obtain ⟨x0, x1⟩ := hcell j hlt
      have c0 := cell_bx x0 hS0.out.bel
      have c1 := cell_bx x1 hS0.out.bel
      have hvj := hid ((HT.out.2.2.1 j hlt).1)
      have hcj := hid (HC.out j hlt)
      obtain ⟨vj, hv9⟩ : ∃ x, x = v j := ⟨_, rfl⟩
      obtain ⟨cj, hc9⟩ : ∃ x, x = cf j := ⟨_, rfl⟩
      have EV := hid hv9
      have EC := hid hc9
      rw [← hv9] at c0 hvj
      rw [← hc9] at c1 hcj
      clear HC x0 x1 hcell hv9 hc9
      go_wp2_with fail
      refine (f_op _ _ _).mono ?_
      rintro e' w' ⟨s, rfl, hs, hw⟩
      have S1 := hid (hS0.out.keep (bx_call (bx_alloc (bx_refl wr) _) hw))
      have K1 := hid (Blk.keep (Blk.new wr [.int .i64 vj, .int .i64 cj] 94) hw)
      clear hw
      go_wp2_with (at_builtin
                   go_loud (refine wp_app S1 [s] rfl (.tmp 18) (.tmp 25) rfl rfl rfl (by show l.length + 1 ≤ 1000000000; omega) ?_)
                   intro v1 w1 S2 K2
                   have B2 := hid (K2.out _ _ _ (by decide) K1.out)
                   obtain ⟨d0, d1⟩ := blk_two B2.out
                   clear K1 K2)
      · have hn : (max cj (wrap64 (-cj)) != 1) = true := by assumption
        refine (f_decimal _ _ (abs_lo hcj.out) (abs_hi hcj.out) (TB.out.keep S2.out.bel)).mono ?_
        rintro e' w3 ⟨s2, rfl, hs2, hw⟩
        have S3 := hid (S2.out.keep hw)
        have B3 := hid (B2.out.keep hw)
        clear B2 S2 d0 d1 hw
        go_wp2_with (at_builtin
                     refine wp_app S3 [s2, ⟨#[32]⟩] rfl (.tmp 35) (.tmp 38) rfl rfl rfl (by rw [List.length_append]; show l.length + 1 + 2 ≤ 1000000000; omega) ?_
                     intro v2 w4 S4 K4
                     have B4 := hid (K4.out _ _ _ (by decide) B3.out)
                     obtain ⟨d2, d3⟩ := blk_two B4.out
                     clear K4)
        refine (f_name _ _ hvj.out.1 hvj.out.2 (TB.out.keep S4.out.bel)).mono ?_
        rintro e' w5 ⟨s3, rfl, hs3, hw⟩
        have S5 := hid (S4.out.keep hw)
        clear hw
        go_wp2_with (at_builtin
                     refine wp_app S5 [s3] rfl (.tmp 40) (.tmp 44) rfl rfl rfl (by simp only [List.length_append, List.length_cons, List.length_nil]; omega) ?_
                     intro v3 w6 S6 K6
                     clear K6)
        have hne : ¬ absI cj = 1 := by
          rw [← abs_max hcj.out]
          simpa using hn
        refine ⟨⟨j + 1, by omega, rfl, hid (tm_step (by rw [List.append_assoc, List.append_assoc] at S6; exact S6.out) hL0.out hL1.out (by rw [← EV.out]; exact hvj.out) (by rw [← EC.out]; exact hcj.out) ?_)⟩, by show tn - ((j : Int) + 1).toNat < tn - (j : Int).toNat; omega⟩
        unfold tpart
        rw [← EV.out, ← EC.out, if_neg hne, ← abs_max hcj.out, ← hs2, ← hs3]
        show [s.data.toList, s2.data.toList, [32], s3.data.toList] = _
        rw [hs]
        rfl
      · have hn : (max cj (wrap64 (-cj)) != 1) = false := by assumption
        refine (f_name _ _ hvj.out.1 hvj.out.2 (TB.out.keep S2.out.bel)).mono ?_
        rintro e' w5 ⟨s3, rfl, hs3, hw⟩
        have S5 := hid (S2.out.keep hw)
        clear hw
        go_wp2_with (at_builtin
                     refine wp_app S5 [s3] rfl (.tmp 40) (.tmp 44) rfl rfl rfl (by simp only [List.length_append, List.length_cons, List.length_nil]; omega) ?_
                     intro v3 w6 S6 K6
                     clear K6)
        have hne : absI cj = 1 := by
          rw [← abs_max hcj.out]
          simpa using hn
        refine ⟨⟨j + 1, by omega, rfl, hid (tm_step (by rw [List.append_assoc] at S6; exact S6.out) hL0.out hL1.out (by rw [← EV.out]; exact hvj.out) (by rw [← EC.out]; exact hcj.out) ?_)⟩, by show tn - ((j : Int) + 1).toNat < tn - (j : Int).toNat; omega⟩
        unfold tpart
        rw [← EV.out, ← EC.out, if_pos hne, ← hs3]
        show [s.data.toList, s3.data.toList] = _
        rw [hs]
        rfl
    · obtain rfl : tn = j := by omega
      go_wp2_with fail
      refine (join_any hS0.out ⟨#[]⟩ (by omega) (fun x hx => Nat.le_trans (hL1.out x hx) (by decide)) (by decide)).mono ?_
      rintro e' w1 ⟨s, rfl, hs, hw⟩
      have b := hid (bx_call hS0.out.bel hw)
      have hs1 : s.data.toList = sumTx tn v cf := by
        unfold sumTx
        rw [if_neg t3, ← hL0.out]
        exact hs
      go_wp2_with fail
      go_ret
      exact ⟨_, rfl, hs1, b.out⟩

end Go.Proofs.YthbogaindaflpaaGreatDoor
