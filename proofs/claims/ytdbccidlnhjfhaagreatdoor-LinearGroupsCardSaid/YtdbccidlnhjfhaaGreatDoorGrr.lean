/- Groups of the specification. -/
import Derived.Test.YtdbccidlnhjfhaaGreatDoorGrl
import Derived.Deep.DeepCutAuto
import Derived.BigQuiet
namespace Go.Proofs.YtdbccidlnhjfhaaGreatDoor
open Go.RowKit
set_option maxRecDepth 100000
theorem Tryz.infoInt9 : (Tryz.prog.info? 3).map (fun i => (i.zero, i.size, i.bytes)) = some (some (.int .i64 0), 1, 8) := by kernel_rfl
def zs (l : List Int) : List Value := l.map (Value.int .i64)
structure RowI (E0 : World) (v : Value) (l : List Int) (o : Option (Nat × Int)) (W : World) : Prop where
  ow : ∃ B, OwP E0 B 3 1 v l.length (zs l) W
  nb : ∀ p, o = some p → Blk W p.1 [.int .i64 p.2] 3 ∧ v.ownBlock ≠ some p.1
section
variable {E0 W : World} {v : Value} {l : List Int} {o : Option (Nat × Int)}
theorem RowI.bel (h : RowI E0 v l o W) : Below E0.heap.size E0 W := by
  obtain ⟨B, h⟩ := h.ow
  exact h.bel
theorem ri_new (b : Below E0.heap.size E0 W) : OwP E0 W.heap.size 3 1 (.slice (some ⟨W.heap.size, 0, none⟩) 0 0) ([] : List Int).length (zs []) (W.alloc (.cells #[] 3)) :=
  ⟨bx_alloc b _, ⟨rfl, .inr ⟨W.heap.size, 0, #[], rfl, Nat.le_refl _, heap_alloc_new W _, Nat.le_refl _, by unfold maxLen; omega, rfl, rfl⟩⟩, b.size, by simp⟩
theorem ri_none (b : Below E0.heap.size E0 W) : RowI E0 (.slice (some ⟨W.heap.size, 0, none⟩) 0 0) [] none (W.alloc (.cells #[] 3)) := ⟨⟨_, ri_new b⟩, fun p h => by cases h⟩
theorem ri_some {p : Nat} {x : Int} (b : Below E0.heap.size E0 W) (k : Blk W p [.int .i64 x] 3) : RowI E0 (.slice (some ⟨W.heap.size, 0, none⟩) 0 0) [] (some (p, x)) (W.alloc (.cells #[] 3)) := ⟨⟨_, ri_new b⟩, fun q h => by
  cases h
  refine ⟨k.alloc _, fun e => ?_⟩
  simp only [Value.ownBlock, Option.some.injEq] at e
  have := k.lt
  omega⟩
theorem kb_new (W : World) (x : Int) : Blk (W.alloc (.cells #[.int .i64 x] 3)) W.heap.size [.int .i64 x] 3 := Blk.new W _ _
theorem ri_cell (h : RowI E0 v l none W) (x : Int) : RowI E0 v l (some (W.heap.size, x)) (W.alloc (.cells #[.int .i64 x] 3)) := by
  obtain ⟨B, h1⟩ := h.ow
  refine ⟨⟨B, h1.keep (bx_alloc (bx_refl W) _)⟩, fun q e => ?_⟩
  cases e
  exact ⟨kb_new W x, fun e => by have := (h1.own.lt _ e).2; omega⟩
theorem zs_one (m : List Int) : ∀ u ∈ zs m, u.oneCell' = true := by
  intro u hu
  obtain ⟨x, _, rfl⟩ := List.mem_map.1 hu
  rfl
theorem ri_src {ty : Nat} (h : RowI E0 v l o W) (m : List Int) {b q c : Nat} (hc : ∀ j x, m[j]? = some x → W.cell? ⟨b, q + j, none⟩ = some (.int .i64 x)) (hl : l.length + m.length ≤ 1000000) :
    ∃ v' w', (Builtin.append_ #[45, 45] ty #[v, .slice (some ⟨b, q, none⟩) m.length c]).run Tryz.prog W = .ok v' w' ∧ RowI E0 v' (l ++ m) o w' := by
  obtain ⟨B, h1⟩ := h.ow
  obtain ⟨i, hi, hz⟩ := Option.map_eq_some_iff.1 Tryz.infoInt9
  simp only [Prod.mk.injEq] at hz
  obtain ⟨z1, z2, z3⟩ := hz
  obtain ⟨v', w', hr, h2, h3, _, h5⟩ := run_append_own_at (P := Tryz.prog) (w := W) B 45 ty 3 i _ 1 8 (by kernel_rfl) hi z1 z2 z3 rfl (by omega) v l.length (zs l) h1.own ⟨b, q, none⟩ m.length c (zs m) (by unfold zs; simp) (fun j u hj => by
    unfold zs at hj
    rw [List.getElem?_map] at hj
    obtain ⟨x, hx, rfl⟩ := Option.map_eq_some_iff.1 hj
    rw [show (⟨b, q, none⟩ : Addr).add j = ⟨b, q + j, none⟩ by unfold Addr.add; split <;> simp_all]
    exact hc j x hx) (zs_one m) (by unfold maxLen; omega) (by omega) h1.le
  refine ⟨v', w', hr, ⟨B, ?_⟩, fun p e => ?_⟩
  · have e1 : zs (l ++ m) = zs l ++ zs m := by unfold zs; rw [List.map_append]
    rw [List.length_append, e1]
    exact h1.grow h2 h3
  · obtain ⟨k1, k2⟩ := h.nb p e
    refine ⟨(h3.block p.1 k1.lt (fun e => k2 e.symm)).trans k1, fun e9 => ?_⟩
    rcases h5 with h5 | h5
    · rw [h5] at e9; exact k2 e9
    · rw [h5] at e9
      have := k1.lt
      simp only [Option.some.injEq] at e9
      omega
theorem ri_push {ty p : Nat} {x : Int} (h : RowI E0 v l (some (p, x)) W) (hl : l.length + 1 ≤ 1000000) :
    ∃ v' w', (Builtin.append_ #[45, 45] ty #[v, .slice (some ⟨p, 0, none⟩) 1 1]).run Tryz.prog W = .ok v' w' ∧ RowI E0 v' (l ++ [x]) (some (p, x)) w' :=
  ri_src h [x] (b := p) (q := 0) (c := 1) (fun j y hj => by
    rw [Nat.zero_add, (h.nb _ rfl).1.cell]
    rcases j with _ | j
    · simp at hj; subst hj; rfl
    · simp at hj) hl
end
theorem grp_insert {l : List Int} {k : Nat} {g : Int} (hp : l.Pairwise (· < ·)) (hk : k ≤ l.length) (h1 : ∀ j, j < k → l.getD j 0 < g) (h2 : k < l.length → ¬ l.getD k 0 < g) (hn : ¬ g ∈ l) : (l.take k ++ [g] ++ l.drop k).Pairwise (· < ·) ∧ ∀ x, x ∈ l.take k ++ [g] ++ l.drop k ↔ x = g ∨ x ∈ l := by
  have gd : ∀ j (hj : j < l.length), l.getD j 0 = l[j] := fun j hj => by rw [List.getD_eq_getElem?_getD, List.getElem?_eq_getElem hj]; rfl
  have tk : ∀ x ∈ l.take k, x < g := fun x hx => by
    obtain ⟨j, hj, rfl⟩ := List.getElem_of_mem hx
    rw [List.length_take] at hj
    rw [List.getElem_take, ← gd j (by omega)]
    exact h1 j (by omega)
  have dk : ∀ x ∈ l.drop k, g < x := fun x hx => by
    obtain ⟨j, hj, rfl⟩ := List.getElem_of_mem hx
    rw [List.length_drop] at hj
    rw [List.getElem_drop]
    have a := h2 (by omega)
    rw [gd k (by omega)] at a
    have b : l[k] ≤ l[k + j] := by
      rcases Nat.eq_zero_or_pos j with h | h
      · subst h; exact Int.le_refl _
      · exact Int.le_of_lt (List.pairwise_iff_getElem.1 hp k (k + j) (by omega) (by omega) (by omega))
    have c : l[k] ≠ g := fun e => hn (by rw [← e]; exact List.getElem_mem _)
    omega
  have hs : (l.take k ++ l.drop k).Pairwise (· < ·) := by rw [List.take_append_drop]; exact hp
  obtain ⟨p1, p2, p3⟩ := List.pairwise_append.1 hs
  refine ⟨List.pairwise_append.2 ⟨List.pairwise_append.2 ⟨p1, List.pairwise_singleton _ _, fun a ha b hb => by rw [List.mem_singleton.1 hb]; exact tk a ha⟩, p2, fun a ha b hb => ?_⟩, fun x => ?_⟩
  · rcases List.mem_append.1 ha with h | h
    · exact p3 a h b hb
    · rw [List.mem_singleton.1 h]; exact dk b hb
  · have e : x ∈ l ↔ x ∈ l.take k ∨ x ∈ l.drop k := by rw [← List.mem_append, List.take_append_drop]
    rw [List.mem_append, List.mem_append, List.mem_singleton, e]
    constructor
    · rintro ((h | h) | h)
      · exact .inr (.inl h)
      · exact .inl h
      · exact .inr (.inr h)
    · rintro (h | h | h)
      · exact .inl (.inr h)
      · exact .inl (.inl h)
      · exact .inr h
theorem has_mem (l : List Int) (x : Int) : hasB l.length (fun j => l.getD j 0) x = true ↔ x ∈ l := by
  unfold hasB
  rw [decide_eq_true_iff]
  constructor
  · rintro ⟨k, hk, rfl⟩
    show l.getD k 0 ∈ l
    rw [List.getD_eq_getElem?_getD, List.getElem?_eq_getElem hk]
    exact List.getElem_mem hk
  · intro h
    obtain ⟨k, hk, e⟩ := List.getElem_of_mem h
    exact ⟨k, hk, by show l.getD k 0 = x; rw [List.getD_eq_getElem?_getD, List.getElem?_eq_getElem hk]; exact e⟩
theorem own_il1 {w : World} {base : Nat} {x : Value} {l : List Int} (h : w.ownsRow base 3 1 x l.length (zs l)) (hp : 0 < l.length) : ∃ g c, x = .slice (some ⟨g, 0, none⟩) l.length c ∧ Il w (some ⟨g, 0, none⟩) l.length c (fun j => l.getD j 0) := by
  obtain ⟨A, c, rfl, hi⟩ := own_il (l := l) h
  rcases h.2 with ⟨e, _⟩ | ⟨g', cap, cur, e, _⟩
  · simp only [Value.slice.injEq] at e
    omega
  · cases e
    exact ⟨_, _, rfl, hi⟩
theorem il_take {w W : World} {l : List Int} {b q c : Nat} (h : Il w (some ⟨b, q, none⟩) l.length c (fun j => l.getD j 0)) (B : Below w.heap.size w W) (k : Nat) : ∀ (j : Nat) (x : Int), (l.take k)[j]? = some x → W.cell? ⟨b, q + j, none⟩ = some (.int .i64 x) := by
  intro j x hx
  obtain ⟨hj, rfl⟩ := List.getElem?_eq_some_iff.1 hx
  rw [List.length_take] at hj
  obtain ⟨b', q', e, _, hc⟩ := (il_keep h B).2.2 (by omega)
  cases e
  rw [hc j (by omega), List.getElem_take]
  show some (Value.int .i64 (l.getD j 0)) = _
  rw [List.getD_eq_getElem?_getD, List.getElem?_eq_getElem (by omega)]
  rfl
theorem il_drop {w W : World} {l : List Int} {b q c : Nat} (h : Il w (some ⟨b, q, none⟩) l.length c (fun j => l.getD j 0)) (B : Below w.heap.size w W) (k : Nat) : ∀ (j : Nat) (x : Int), (l.drop k)[j]? = some x → W.cell? ⟨b, q + k + j, none⟩ = some (.int .i64 x) := by
  intro j x hx
  obtain ⟨hj, rfl⟩ := List.getElem?_eq_some_iff.1 hx
  rw [List.length_drop] at hj
  obtain ⟨b', q', e, _, hc⟩ := (il_keep h B).2.2 (by omega)
  cases e
  rw [Nat.add_assoc, hc (k + j) (by omega), List.getElem_drop]
  show some (Value.int .i64 (l.getD (k + j) 0)) = _
  rw [List.getD_eq_getElem?_getD, List.getElem?_eq_getElem (by omega)]
  rfl
theorem grp_next {gr : Nat → Int} {i : Nat} {l l9 : List Int} {x0 : Int} (h : l9.Pairwise (· < ·) ∧ ∀ x, x ∈ l9 ↔ x = x0 ∨ x ∈ l) (k : IsGrp i gr l) (hx : x0 = gr i) (h0 : ¬ x0 = 0) : IsGrp (i + 1) gr l9 := by
  refine ⟨h.1, fun x => ?_⟩
  rw [h.2, drop_next, ← hx]
  by_cases ex : x = x0
  · rw [if_pos ex]
    simp [ex, h0]
  · rw [if_neg ex, ← k.2 x]
    simp [ex]
theorem ri_rest {E0 W : World} {v : Value} {xs : List Int} {p : Option (Nat × Int)} {ty : Nat} (h : RowI E0 v xs p W) {l : List Int} {b q c : Nat} (hI : Il E0 (some ⟨b, q, none⟩) l.length c (fun j => l.getD j 0)) (k : Nat) (A : Option Addr) (n cc : Nat) (hA : A = some ⟨b, q + k, none⟩ ∨ (A = some ⟨b, q, none⟩ ∧ l.length ≤ k)) (hn : n = l.length - k) (hl : xs.length + l.length ≤ 1000000) :
    ∃ v' w', (Builtin.append_ #[45, 45] ty #[v, .slice A n cc]).run Tryz.prog W = .ok v' w' ∧ RowI E0 v' (xs ++ l.drop k) p w' := by
  have e : (l.drop k).length = n := by rw [List.length_drop, hn]
  rw [← e]
  rcases hA with rfl | ⟨rfl, hk⟩
  · exact ri_src h (l.drop k) (il_drop hI h.bel k) (by omega)
  · refine ri_src h (l.drop k) (fun j x hx => ?_) (by omega)
    rw [List.drop_eq_nil_of_le hk] at hx
    simp at hx
theorem ri_end {E0 W : World} {v : Value} {l : List Int} {p : Option (Nat × Int)} (h : RowI E0 v l p W) (hp : 0 < l.length) : ∃ g c, v = .slice (some ⟨g, 0, none⟩) l.length c ∧ Il W (some ⟨g, 0, none⟩) l.length c (fun j => l.getD j 0) := by
  obtain ⟨B, h1⟩ := h.ow
  exact own_il1 h1.own hp
set_option maxHeartbeats 16000000 in
theorem r_groups (V0 : Option Addr) (vn vc : Nat) (R0 : Option Addr) (rn rc : Nat) (nm : Nat → ByteArray) (gr ki bo : Nat → Int) (TA : Nat → Option Addr) (tn tc : Nat → Nat) (v cf : Nat → Nat → Int) (w : World) (hR : Rs w R0 rn rc nm gr ki bo TA tn tc v cf) (hr : rn ≤ 1000) :
    Calls Tryz.prog 46 #[.agg #[.slice V0 vn vc, .slice R0 rn rc]] w (RetGr w rn gr) := by
  have h3 := hR.1
  have h4 := hR.2.1
  have HR := hid hR
  obtain ⟨W0, hW⟩ : ∃ W, W = w.alloc (.cells #[.slice V0 vn vc, .slice R0 rn rc] 25) := ⟨_, rfl⟩
  have B0 := bx_alloc (bx_refl w) (.cells #[.slice V0 vn vc, .slice R0 rn rc] 25)
  have K0 := Blk.new w [.slice V0 vn vc, .slice R0 rn rc] 25
  simp only [List.toArray] at K0
  rw [← hW] at B0 K0
  have KK := hid (show Below w.heap.size w W0 ∧ Blk W0 w.heap.size [.slice V0 vn vc, .slice R0 rn rc] 25 from ⟨B0, K0⟩)
  have BN := hid (bx_alloc (bx_refl W0) (.cells #[] 3))
  clear hR B0 K0
  go_enter Tryz.func46, Tryz.ntmps46
  go_upto_region 1 with fail
  rw [← hW]
  clear hW
  go_wp2_with fail
  go_loopw [3, 4] (fun u i wr => ∃ j : Nat, j ≤ rn ∧ i = .int .i64 j ∧ (∃ (l : List Int) (b o c : Nat), u = .slice (some ⟨b, o, none⟩) l.length c ∧ l.length ≤ j ∧ Hid (IsGrp j gr l ∧ Il wr (some ⟨b, o, none⟩) l.length c (fun j => l.getD j 0))) ∧ Hid (Below W0.heap.size W0 wr)) (fun _ i _ => rn - (intOf i).toNat)
  case atStart => exact ⟨0, Nat.zero_le _, rfl, ⟨[], W0.heap.size, 0, 0, rfl, Nat.le_refl _, hid ⟨⟨List.Pairwise.nil, fun x => by rw [← drop_zero]; simp⟩, Nat.le_refl _, by omega, fun h => absurd h (by simp)⟩⟩, BN⟩
  case round =>
    clear BN
    obtain ⟨i, hj, rfl, ⟨l, b2, o2, c2, rfl, hll, hg⟩, hz⟩ := hrel
    obtain ⟨z0, z1⟩ := blk_two (KK.out.2.keep hz.out)
    have cl := hg.out.2.1
    have cm := hg.out.2.2.1
    rcases Nat.lt_or_ge i rn with hlt5 | hge
    · obtain ⟨b, o, rfl, hb, hcell⟩ := HR.out.2.2.2 (by omega)
      obtain ⟨q0, q1, q2, q3, q4⟩ := hcell i hlt5
      have B' := bx_call KK.out.1 hz.out
      replace q1 := cell_bx q1 B'
      have HB := hid (fun (W : World) (B : Below wr.heap.size wr W) => r_has (il_keep hg.out.2 B) (gr i))
      obtain ⟨gi, hgi⟩ : ∃ x, x = gr i := ⟨_, rfl⟩
      rw [← hgi] at q1 HB
      have HJ := hid hgi
      clear hcell q0 q2 q3 q4 B' HR hgi
      go_upto_region 6 with fail
      clear q1 z0 z1
      by_cases e : gi = 0
      · subst e
        have t1 : ((0 : Int) == 0) = true := rfl
        have NN := hid (show IsGrp (i + 1) gr l ∧ Il wr (some ⟨b2, o2, none⟩) l.length c2 (fun j => l.getD j 0) from ⟨⟨hg.out.1.1, fun x => by rw [drop_same HJ.out.symm]; exact hg.out.1.2 x⟩, hg.out.2⟩)
        clear HB hg HJ
        go_wp2_with fail
        go_roundw
        case rel => exact ⟨i + 1, by omega, by go_num, ⟨l, b2, o2, c2, rfl, by omega, NN⟩, hz⟩
        case measure => simp [intOf]; omega
      · have t1 : (gi == 0) = false := by simp [e]
        go_wp2_with fail
        refine (HB.out _ (bx_refl _)).mono ?_
        rintro e9 W6 ⟨rfl, b6⟩
        obtain ⟨s, hs⟩ : ∃ s, s = hasB l.length (fun j => l.getD j 0) gi := ⟨_, rfl⟩
        rw [← hs]
        have MS : s = true ↔ gi ∈ l := by rw [hs]; exact has_mem l gi
        clear HB hs
        have hz6 := hid (bx_call hz.out b6)
        have IL := hid (il_keep hg.out.2 b6)
        cases s
        · have NI := hid (show ¬ gi ∈ l from fun h => by have := MS.2 h; cases this)
          have SL := hid hg.out.1
          have ll := cm
          clear MS hg hz
          go_wp2_with fail
          go_loopw [6] (fun u9 wr => ∃ k : Nat, k ≤ l.length ∧ u9 = .int .i64 k ∧ Hid (∀ j, j < k → l.getD j 0 < gi) ∧ Hid (Below W6.heap.size W6 wr)) (fun u9 _ => l.length - (intOf u9).toNat)
          case atStart => exact ⟨0, Nat.zero_le _, rfl, hid (fun j hj => absurd hj (by omega)), hid (bx_refl _)⟩
          case round =>
            obtain ⟨k, hk, rfl, hlo, b7⟩ := hrel
            replace hz6 := hid (bx_call hz6.out b7.out)
            replace IL := hid (il_keep IL.out b7.out)
            rcases Nat.lt_or_ge k l.length with hlt7 | hge
            · obtain ⟨b', q', e', hb', hc'⟩ := IL.out.2.2 (by omega)
              cases e'
              have c0 := hc' k hlt7
              obtain ⟨y, hy⟩ : ∃ y, y = l.getD k 0 := ⟨_, rfl⟩
              simp only [← hy] at c0
              by_cases ey : y < gi
              · have t1 : decide (y < gi) = true := decide_eq_true ey
                have NN := hid (show ∀ j, j < k + 1 → l.getD j 0 < gi from fun j hj => by
                  rcases Nat.lt_or_ge j k with h | h
                  · exact hlo.out j h
                  · obtain rfl : j = k := by omega
                    rw [← hy]; exact ey)
                clear hlo hc' IL SL hy
                go_wp2_with fail
                go_roundw
                case rel => exact ⟨k + 1, by omega, by go_num, NN, b7⟩
                case measure => simp [intOf]; omega
              · have t1 : decide (y < gi) = false := decide_eq_false ey
                have IN := hid (grp_insert SL.out.1 hk hlo.out (fun _ => by rw [← hy]; exact ey) NI.out)
                clear hlo hc' hy
                go_upto_region 10 with fail
                clear c0
                have kc : k ≤ c2 := by omega
                (try simp only [List.append_eq, List.cons_append, List.nil_append])
                refine wp_region_noPanic ?_
                refine wp_region_held_drew (S := (fun _ => True)) (by kernel_rfl) ?_ (fun hH => ?_)
                · exact trivial
                have bd := bx_drew (bx_refl wr)
                obtain ⟨wc, hW0⟩ : ∃ W, W = wr.drew := ⟨_, rfl⟩
                rw [← hW0] at bd ⊢
                clear hW0
                have M := hid (bx_refl wc)
                replace IL := hid (il_keep IL.out bd)
                have BD := hid bd
                clear bd
                have LT : (l.take k).length = k := by rw [List.length_take]; omega
                refine tk 1 hH ?_
                (try simp only [Act.put, gy0, gy1, gy2])
                refine tk 2 hH ?_
                (try simp only [Act.put, gy0, gy1, gy2])
                refine tk 3 hH ?_
                (try simp only [Act.put, gy0, gy1, gy2])
                refine tk 5 hH ?_
                (try simp only [Act.put, gy0, gy1, gy2])
                refine tk 8 hH ?_
                (try simp only [Act.put, gy0, gy1, gy2])
                refine tk 9 hH ?_
                (try simp only [Act.put, gy0, gy1, gy2])
                refine tk 10 hH ?_
                (try simp only [Act.put, gy0, gy1, gy2])
                refine wpAnyH_ready (rs := [0, 6]) (by kernel_rfl) (by simp) ?_
                refine rdy (fun K hK => ?_) ?_
                go_simp
                first | (have R0 := hid (ri_some M.out KB.out)) | (have R0 := hid (ri_none M.out))
                try clear KB
                obtain ⟨wc, rb, hW, hp⟩ : ∃ W p, W = wc.alloc (.cells #[] 3) ∧ p = wc.heap.size := ⟨_, _, rfl, rfl⟩
                rw [← hW, ← hp] at R0
                rw [← hW, ← hp]
                clear hW hp hH M
                refine hK.out _ _ ?_ (fun hH => ?_)
                · exact trivial
                clear hK K
                (try simp only [Act.put, gy0, gy1, gy2])
                refine wpAnyH_ready (rs := [4, 6]) (by kernel_rfl) (by simp) ?_
                refine rdy (fun K hK => ?_) ?_
                obtain ⟨v4, wc, hr9, R1⟩ := ri_src (ty := 45) R0.out (l.take k) (b := b2) (q := o2) (c := c2) (il_take IL.out R0.out.bel k) (by simp only [List.length_take, List.length_nil]; omega)
                rw [LT] at hr9
                rw [if_pos (by rfl)]
                refine wp_app_run (.tmp 42) (.tmp 45) rfl rfl rfl hr9 ?_
                clear hr9 hH R0
                have R0 := hid R1
                clear R1
                refine hK.out _ _ ?_ (fun hH => ?_)
                · exact trivial
                clear hK K
                (try simp only [Act.put, gy0, gy1, gy2])
                refine wpAnyH_ready (rs := [6]) (by kernel_rfl) (by simp) ?_
                refine rdy (fun K hK => ?_) ?_
                go_simp
                first | (replace R0 := hid (ri_cell R0.out gi)) | (have KB := hid (kb_new wc gi); have M9 := hid (bx_alloc M.out (.cells #[.int .i64 gi] 3)))
                obtain ⟨wc, nb, hW, hp⟩ : ∃ W p, W = wc.alloc (.cells #[.int .i64 gi] 3) ∧ p = wc.heap.size := ⟨_, _, rfl, rfl⟩
                first | rw [← hW, ← hp] at R0 | (rw [← hW, ← hp] at KB; rw [← hW] at M9; clear M; have M := M9; clear M9)
                rw [← hW, ← hp]
                clear hW hp hH
                refine hK.out _ _ ?_ (fun hH => ?_)
                · exact trivial
                clear hK K
                (try simp only [Act.put, gy0, gy1, gy2])
                refine wpAnyH_ready (rs := [7]) (by kernel_rfl) (by simp) ?_
                refine rdy (fun K hK => ?_) ?_
                obtain ⟨v7, wc, hr9, R1⟩ := ri_push (ty := 45) R0.out (by simp only [List.length_take, List.length_append, List.length_nil]; omega)
                rw [if_pos (by rfl)]
                refine wp_app_run (.tmp 46) (.tmp 48) rfl rfl rfl hr9 ?_
                clear hr9 hH R0
                have R0 := hid R1
                clear R1
                refine hK.out _ _ ?_ (fun hH => ?_)
                · exact trivial
                clear hK K
                (try simp only [Act.put, gy0, gy1, gy2])
                refine wpAnyH_ready (rs := [11]) (by kernel_rfl) (by simp) ?_
                refine rdy (fun K hK => ?_) ?_
                obtain ⟨v11, wc, hr9, R1⟩ := ri_rest (ty := 45) R0.out IL.out k (if c2 = k then some ⟨b2, o2, none⟩ else some ⟨b2, o2 + k, none⟩) (l.length - k) (c2 - k) (by split; exact .inr ⟨rfl, by omega⟩; exact .inl rfl) (by omega) (by simp only [List.length_take, List.length_append, List.length_nil, List.length_cons]; omega)
                simp only [List.nil_append] at R1
                have e8 := congrArg List.length (List.take_append_drop k l)
                rw [List.length_append] at e8
                have hlen : (l.take k ++ [gi] ++ l.drop k).length = l.length + 1 := by rw [List.length_append, List.length_append, List.length_singleton]; omega
                obtain ⟨g8, c8, e9, il8⟩ := ri_end R1 (by omega)
                rw [hlen] at e9
                subst e9
                rw [if_pos (by rfl)]
                refine wp_app_run (.tmp 49) (.tmp 52) rfl rfl rfl hr9 ?_
                have BL := hid R1.bel
                have IX := hid il8
                clear hr9 hH R0 R1 il8
                refine hK.out _ _ ?_ (fun hH => ?_)
                · exact trivial
                clear hK K
                (try simp only [Act.put, gy0, gy1, gy2])
                refine tk 12 hH ?_
                (try simp only [Act.put, gy0, gy1, gy2])
                refine wpAnyH_done (by kernel_rfl) ?_ _
                refine NoPanic.normal ?_
                · clear hH
                  have GG := hid (grp_next (x0 := gi) IN.out SL.out HJ.out e)
                  obtain ⟨l9, hl9⟩ : ∃ l9, l9 = l.take k ++ [gi] ++ l.drop k := ⟨_, rfl⟩
                  rw [← hl9] at GG IX hlen
                  have hz9 := hid (bx_call (bx_call hz6.out BD.out) BL.out)
                  clear hl9 IL IN SL NI HJ BD BL hz6 e8 LT
                  go_wp2_with fail
                  refine ⟨⟨i + 1, by omega, rfl, ⟨l9, g8, 0, c8, by rw [hlen], by omega, hid ⟨GG.out, IX.out⟩⟩, hz9⟩, by show rn - ((i : Int) + 1).toNat < rn - (i : Int).toNat; omega⟩
                exact AllReadyH.nil
                exact AllReadyH.nil
                exact AllReadyH.nil
                refine rdy (fun K hK => ?_) ?_
                go_simp
                first | (replace R0 := hid (ri_cell R0.out gi)) | (have KB := hid (kb_new wc gi); have M9 := hid (bx_alloc M.out (.cells #[.int .i64 gi] 3)))
                obtain ⟨wc, nb, hW, hp⟩ : ∃ W p, W = wc.alloc (.cells #[.int .i64 gi] 3) ∧ p = wc.heap.size := ⟨_, _, rfl, rfl⟩
                first | rw [← hW, ← hp] at R0 | (rw [← hW, ← hp] at KB; rw [← hW] at M9; clear M; have M := M9; clear M9)
                rw [← hW, ← hp]
                clear hW hp hH
                refine hK.out _ _ ?_ (fun hH => ?_)
                · exact trivial
                clear hK K
                (try simp only [Act.put, gy0, gy1, gy2])
                refine wpAnyH_ready (rs := [4]) (by kernel_rfl) (by simp) ?_
                refine rdy (fun K hK => ?_) ?_
                obtain ⟨v4, wc, hr9, R1⟩ := ri_src (ty := 45) R0.out (l.take k) (b := b2) (q := o2) (c := c2) (il_take IL.out R0.out.bel k) (by simp only [List.length_take, List.length_nil]; omega)
                rw [LT] at hr9
                rw [if_pos (by rfl)]
                refine wp_app_run (.tmp 42) (.tmp 45) rfl rfl rfl hr9 ?_
                clear hr9 hH R0
                have R0 := hid R1
                clear R1
                refine hK.out _ _ ?_ (fun hH => ?_)
                · exact trivial
                clear hK K
                (try simp only [Act.put, gy0, gy1, gy2])
                refine wpAnyH_ready (rs := [7]) (by kernel_rfl) (by simp) ?_
                refine rdy (fun K hK => ?_) ?_
                obtain ⟨v7, wc, hr9, R1⟩ := ri_push (ty := 45) R0.out (by simp only [List.length_take, List.length_append, List.length_nil]; omega)
                rw [if_pos (by rfl)]
                refine wp_app_run (.tmp 46) (.tmp 48) rfl rfl rfl hr9 ?_
                clear hr9 hH R0
                have R0 := hid R1
                clear R1
                refine hK.out _ _ ?_ (fun hH => ?_)
                · exact trivial
                clear hK K
                (try simp only [Act.put, gy0, gy1, gy2])
                refine wpAnyH_ready (rs := [11]) (by kernel_rfl) (by simp) ?_
                refine rdy (fun K hK => ?_) ?_
                obtain ⟨v11, wc, hr9, R1⟩ := ri_rest (ty := 45) R0.out IL.out k (if c2 = k then some ⟨b2, o2, none⟩ else some ⟨b2, o2 + k, none⟩) (l.length - k) (c2 - k) (by split; exact .inr ⟨rfl, by omega⟩; exact .inl rfl) (by omega) (by simp only [List.length_take, List.length_append, List.length_nil, List.length_cons]; omega)
                simp only [List.nil_append] at R1
                have e8 := congrArg List.length (List.take_append_drop k l)
                rw [List.length_append] at e8
                have hlen : (l.take k ++ [gi] ++ l.drop k).length = l.length + 1 := by rw [List.length_append, List.length_append, List.length_singleton]; omega
                obtain ⟨g8, c8, e9, il8⟩ := ri_end R1 (by omega)
                rw [hlen] at e9
                subst e9
                rw [if_pos (by rfl)]
                refine wp_app_run (.tmp 49) (.tmp 52) rfl rfl rfl hr9 ?_
                have BL := hid R1.bel
                have IX := hid il8
                clear hr9 hH R0 R1 il8
                refine hK.out _ _ ?_ (fun hH => ?_)
                · exact trivial
                clear hK K
                (try simp only [Act.put, gy0, gy1, gy2])
                refine tk 12 hH ?_
                (try simp only [Act.put, gy0, gy1, gy2])
                refine wpAnyH_done (by kernel_rfl) ?_ _
                refine NoPanic.normal ?_
                · clear hH
                  have GG := hid (grp_next (x0 := gi) IN.out SL.out HJ.out e)
                  obtain ⟨l9, hl9⟩ : ∃ l9, l9 = l.take k ++ [gi] ++ l.drop k := ⟨_, rfl⟩
                  rw [← hl9] at GG IX hlen
                  have hz9 := hid (bx_call (bx_call hz6.out BD.out) BL.out)
                  clear hl9 IL IN SL NI HJ BD BL hz6 e8 LT
                  go_wp2_with fail
                  refine ⟨⟨i + 1, by omega, rfl, ⟨l9, g8, 0, c8, by rw [hlen], by omega, hid ⟨GG.out, IX.out⟩⟩, hz9⟩, by show rn - ((i : Int) + 1).toNat < rn - (i : Int).toNat; omega⟩
                exact AllReadyH.nil
                exact AllReadyH.nil
                exact AllReadyH.nil
                exact AllReadyH.nil
                refine rdy (fun K hK => ?_) ?_
                go_simp
                first | (replace R0 := hid (ri_cell R0.out gi)) | (have KB := hid (kb_new wc gi); have M9 := hid (bx_alloc M.out (.cells #[.int .i64 gi] 3)))
                obtain ⟨wc, nb, hW, hp⟩ : ∃ W p, W = wc.alloc (.cells #[.int .i64 gi] 3) ∧ p = wc.heap.size := ⟨_, _, rfl, rfl⟩
                first | rw [← hW, ← hp] at R0 | (rw [← hW, ← hp] at KB; rw [← hW] at M9; clear M; have M := M9; clear M9)
                rw [← hW, ← hp]
                clear hW hp hH
                refine hK.out _ _ ?_ (fun hH => ?_)
                · exact trivial
                clear hK K
                (try simp only [Act.put, gy0, gy1, gy2])
                refine wpAnyH_ready (rs := [0]) (by kernel_rfl) (by simp) ?_
                refine rdy (fun K hK => ?_) ?_
                go_simp
                first | (have R0 := hid (ri_some M.out KB.out)) | (have R0 := hid (ri_none M.out))
                try clear KB
                obtain ⟨wc, rb, hW, hp⟩ : ∃ W p, W = wc.alloc (.cells #[] 3) ∧ p = wc.heap.size := ⟨_, _, rfl, rfl⟩
                rw [← hW, ← hp] at R0
                rw [← hW, ← hp]
                clear hW hp hH M
                refine hK.out _ _ ?_ (fun hH => ?_)
                · exact trivial
                clear hK K
                (try simp only [Act.put, gy0, gy1, gy2])
                refine wpAnyH_ready (rs := [4]) (by kernel_rfl) (by simp) ?_
                refine rdy (fun K hK => ?_) ?_
                obtain ⟨v4, wc, hr9, R1⟩ := ri_src (ty := 45) R0.out (l.take k) (b := b2) (q := o2) (c := c2) (il_take IL.out R0.out.bel k) (by simp only [List.length_take, List.length_nil]; omega)
                rw [LT] at hr9
                rw [if_pos (by rfl)]
                refine wp_app_run (.tmp 42) (.tmp 45) rfl rfl rfl hr9 ?_
                clear hr9 hH R0
                have R0 := hid R1
                clear R1
                refine hK.out _ _ ?_ (fun hH => ?_)
                · exact trivial
                clear hK K
                (try simp only [Act.put, gy0, gy1, gy2])
                refine wpAnyH_ready (rs := [7]) (by kernel_rfl) (by simp) ?_
                refine rdy (fun K hK => ?_) ?_
                obtain ⟨v7, wc, hr9, R1⟩ := ri_push (ty := 45) R0.out (by simp only [List.length_take, List.length_append, List.length_nil]; omega)
                rw [if_pos (by rfl)]
                refine wp_app_run (.tmp 46) (.tmp 48) rfl rfl rfl hr9 ?_
                clear hr9 hH R0
                have R0 := hid R1
                clear R1
                refine hK.out _ _ ?_ (fun hH => ?_)
                · exact trivial
                clear hK K
                (try simp only [Act.put, gy0, gy1, gy2])
                refine wpAnyH_ready (rs := [11]) (by kernel_rfl) (by simp) ?_
                refine rdy (fun K hK => ?_) ?_
                obtain ⟨v11, wc, hr9, R1⟩ := ri_rest (ty := 45) R0.out IL.out k (if c2 = k then some ⟨b2, o2, none⟩ else some ⟨b2, o2 + k, none⟩) (l.length - k) (c2 - k) (by split; exact .inr ⟨rfl, by omega⟩; exact .inl rfl) (by omega) (by simp only [List.length_take, List.length_append, List.length_nil, List.length_cons]; omega)
                simp only [List.nil_append] at R1
                have e8 := congrArg List.length (List.take_append_drop k l)
                rw [List.length_append] at e8
                have hlen : (l.take k ++ [gi] ++ l.drop k).length = l.length + 1 := by rw [List.length_append, List.length_append, List.length_singleton]; omega
                obtain ⟨g8, c8, e9, il8⟩ := ri_end R1 (by omega)
                rw [hlen] at e9
                subst e9
                rw [if_pos (by rfl)]
                refine wp_app_run (.tmp 49) (.tmp 52) rfl rfl rfl hr9 ?_
                have BL := hid R1.bel
                have IX := hid il8
                clear hr9 hH R0 R1 il8
                refine hK.out _ _ ?_ (fun hH => ?_)
                · exact trivial
                clear hK K
                (try simp only [Act.put, gy0, gy1, gy2])
                refine tk 12 hH ?_
                (try simp only [Act.put, gy0, gy1, gy2])
                refine wpAnyH_done (by kernel_rfl) ?_ _
                refine NoPanic.normal ?_
                · clear hH
                  have GG := hid (grp_next (x0 := gi) IN.out SL.out HJ.out e)
                  obtain ⟨l9, hl9⟩ : ∃ l9, l9 = l.take k ++ [gi] ++ l.drop k := ⟨_, rfl⟩
                  rw [← hl9] at GG IX hlen
                  have hz9 := hid (bx_call (bx_call hz6.out BD.out) BL.out)
                  clear hl9 IL IN SL NI HJ BD BL hz6 e8 LT
                  go_wp2_with fail
                  refine ⟨⟨i + 1, by omega, rfl, ⟨l9, g8, 0, c8, by rw [hlen], by omega, hid ⟨GG.out, IX.out⟩⟩, hz9⟩, by show rn - ((i : Int) + 1).toNat < rn - (i : Int).toNat; omega⟩
                exact AllReadyH.nil
                exact AllReadyH.nil
                exact AllReadyH.nil
                exact AllReadyH.nil
                exact AllReadyH.nil
            · obtain rfl : k = l.length := by omega
              have IN := hid (grp_insert SL.out.1 hk hlo.out (fun h => absurd h (by omega)) NI.out)
              clear hlo
              go_upto_region 10 with fail
              (try simp only [List.append_eq, List.cons_append, List.nil_append])
              refine wp_region_noPanic ?_
              refine wp_region_held_drew (S := (fun _ => True)) (by kernel_rfl) ?_ (fun hH => ?_)
              · exact trivial
              have bd := bx_drew (bx_refl wr)
              obtain ⟨wc, hW0⟩ : ∃ W, W = wr.drew := ⟨_, rfl⟩
              rw [← hW0] at bd ⊢
              clear hW0
              have M := hid (bx_refl wc)
              replace IL := hid (il_keep IL.out bd)
              have BD := hid bd
              clear bd
              have LT : (l.take l.length).length = l.length := by rw [List.length_take]; omega
              refine tk 1 hH ?_
              (try simp only [Act.put, gy0, gy1, gy2])
              refine tk 2 hH ?_
              (try simp only [Act.put, gy0, gy1, gy2])
              refine tk 3 hH ?_
              (try simp only [Act.put, gy0, gy1, gy2])
              refine tk 5 hH ?_
              (try simp only [Act.put, gy0, gy1, gy2])
              refine tk 8 hH ?_
              (try simp only [Act.put, gy0, gy1, gy2])
              refine tk 9 hH ?_
              (try simp only [Act.put, gy0, gy1, gy2])
              refine tk 10 hH ?_
              (try simp only [Act.put, gy0, gy1, gy2])
              refine wpAnyH_ready (rs := [0, 6]) (by kernel_rfl) (by simp) ?_
              refine rdy (fun K hK => ?_) ?_
              go_simp
              first | (have R0 := hid (ri_some M.out KB.out)) | (have R0 := hid (ri_none M.out))
              try clear KB
              obtain ⟨wc, rb, hW, hp⟩ : ∃ W p, W = wc.alloc (.cells #[] 3) ∧ p = wc.heap.size := ⟨_, _, rfl, rfl⟩
              rw [← hW, ← hp] at R0
              rw [← hW, ← hp]
              clear hW hp hH M
              refine hK.out _ _ ?_ (fun hH => ?_)
              · exact trivial
              clear hK K
              (try simp only [Act.put, gy0, gy1, gy2])
              refine wpAnyH_ready (rs := [4, 6]) (by kernel_rfl) (by simp) ?_
              refine rdy (fun K hK => ?_) ?_
              obtain ⟨v4, wc, hr9, R1⟩ := ri_src (ty := 45) R0.out (l.take l.length) (b := b2) (q := o2) (c := c2) (il_take IL.out R0.out.bel l.length) (by simp only [List.length_take, List.length_nil]; omega)
              rw [LT] at hr9
              rw [if_pos (by rfl)]
              refine wp_app_run (.tmp 42) (.tmp 45) rfl rfl rfl hr9 ?_
              clear hr9 hH R0
              have R0 := hid R1
              clear R1
              refine hK.out _ _ ?_ (fun hH => ?_)
              · exact trivial
              clear hK K
              (try simp only [Act.put, gy0, gy1, gy2])
              refine wpAnyH_ready (rs := [6]) (by kernel_rfl) (by simp) ?_
              refine rdy (fun K hK => ?_) ?_
              go_simp
              first | (replace R0 := hid (ri_cell R0.out gi)) | (have KB := hid (kb_new wc gi); have M9 := hid (bx_alloc M.out (.cells #[.int .i64 gi] 3)))
              obtain ⟨wc, nb, hW, hp⟩ : ∃ W p, W = wc.alloc (.cells #[.int .i64 gi] 3) ∧ p = wc.heap.size := ⟨_, _, rfl, rfl⟩
              first | rw [← hW, ← hp] at R0 | (rw [← hW, ← hp] at KB; rw [← hW] at M9; clear M; have M := M9; clear M9)
              rw [← hW, ← hp]
              clear hW hp hH
              refine hK.out _ _ ?_ (fun hH => ?_)
              · exact trivial
              clear hK K
              (try simp only [Act.put, gy0, gy1, gy2])
              refine wpAnyH_ready (rs := [7]) (by kernel_rfl) (by simp) ?_
              refine rdy (fun K hK => ?_) ?_
              obtain ⟨v7, wc, hr9, R1⟩ := ri_push (ty := 45) R0.out (by simp only [List.length_take, List.length_append, List.length_nil]; omega)
              rw [if_pos (by rfl)]
              refine wp_app_run (.tmp 46) (.tmp 48) rfl rfl rfl hr9 ?_
              clear hr9 hH R0
              have R0 := hid R1
              clear R1
              refine hK.out _ _ ?_ (fun hH => ?_)
              · exact trivial
              clear hK K
              (try simp only [Act.put, gy0, gy1, gy2])
              refine wpAnyH_ready (rs := [11]) (by kernel_rfl) (by simp) ?_
              refine rdy (fun K hK => ?_) ?_
              obtain ⟨v11, wc, hr9, R1⟩ := ri_rest (ty := 45) R0.out IL.out l.length (if c2 = l.length then some ⟨b2, o2, none⟩ else some ⟨b2, o2 + l.length, none⟩) 0 (c2 - l.length) (by split; exact .inr ⟨rfl, by omega⟩; exact .inl rfl) (by omega) (by simp only [List.length_take, List.length_append, List.length_nil, List.length_cons]; omega)
              simp only [List.nil_append] at R1
              have e8 := congrArg List.length (List.take_append_drop l.length l)
              rw [List.length_append] at e8
              have hlen : (l.take l.length ++ [gi] ++ l.drop l.length).length = l.length + 1 := by rw [List.length_append, List.length_append, List.length_singleton]; omega
              obtain ⟨g8, c8, e9, il8⟩ := ri_end R1 (by omega)
              rw [hlen] at e9
              subst e9
              rw [if_pos (by rfl)]
              refine wp_app_run (.tmp 49) (.tmp 52) rfl rfl rfl hr9 ?_
              have BL := hid R1.bel
              have IX := hid il8
              clear hr9 hH R0 R1 il8
              refine hK.out _ _ ?_ (fun hH => ?_)
              · exact trivial
              clear hK K
              (try simp only [Act.put, gy0, gy1, gy2])
              refine tk 12 hH ?_
              (try simp only [Act.put, gy0, gy1, gy2])
              refine wpAnyH_done (by kernel_rfl) ?_ _
              refine NoPanic.normal ?_
              · clear hH
                have GG := hid (grp_next (x0 := gi) IN.out SL.out HJ.out e)
                obtain ⟨l9, hl9⟩ : ∃ l9, l9 = l.take l.length ++ [gi] ++ l.drop l.length := ⟨_, rfl⟩
                rw [← hl9] at GG IX hlen
                have hz9 := hid (bx_call (bx_call hz6.out BD.out) BL.out)
                clear hl9 IL IN SL NI HJ BD BL hz6 e8 LT
                go_wp2_with fail
                refine ⟨⟨i + 1, by omega, rfl, ⟨l9, g8, 0, c8, by rw [hlen], by omega, hid ⟨GG.out, IX.out⟩⟩, hz9⟩, by show rn - ((i : Int) + 1).toNat < rn - (i : Int).toNat; omega⟩
              exact AllReadyH.nil
              exact AllReadyH.nil
              exact AllReadyH.nil
              refine rdy (fun K hK => ?_) ?_
              go_simp
              first | (replace R0 := hid (ri_cell R0.out gi)) | (have KB := hid (kb_new wc gi); have M9 := hid (bx_alloc M.out (.cells #[.int .i64 gi] 3)))
              obtain ⟨wc, nb, hW, hp⟩ : ∃ W p, W = wc.alloc (.cells #[.int .i64 gi] 3) ∧ p = wc.heap.size := ⟨_, _, rfl, rfl⟩
              first | rw [← hW, ← hp] at R0 | (rw [← hW, ← hp] at KB; rw [← hW] at M9; clear M; have M := M9; clear M9)
              rw [← hW, ← hp]
              clear hW hp hH
              refine hK.out _ _ ?_ (fun hH => ?_)
              · exact trivial
              clear hK K
              (try simp only [Act.put, gy0, gy1, gy2])
              refine wpAnyH_ready (rs := [4]) (by kernel_rfl) (by simp) ?_
              refine rdy (fun K hK => ?_) ?_
              obtain ⟨v4, wc, hr9, R1⟩ := ri_src (ty := 45) R0.out (l.take l.length) (b := b2) (q := o2) (c := c2) (il_take IL.out R0.out.bel l.length) (by simp only [List.length_take, List.length_nil]; omega)
              rw [LT] at hr9
              rw [if_pos (by rfl)]
              refine wp_app_run (.tmp 42) (.tmp 45) rfl rfl rfl hr9 ?_
              clear hr9 hH R0
              have R0 := hid R1
              clear R1
              refine hK.out _ _ ?_ (fun hH => ?_)
              · exact trivial
              clear hK K
              (try simp only [Act.put, gy0, gy1, gy2])
              refine wpAnyH_ready (rs := [7]) (by kernel_rfl) (by simp) ?_
              refine rdy (fun K hK => ?_) ?_
              obtain ⟨v7, wc, hr9, R1⟩ := ri_push (ty := 45) R0.out (by simp only [List.length_take, List.length_append, List.length_nil]; omega)
              rw [if_pos (by rfl)]
              refine wp_app_run (.tmp 46) (.tmp 48) rfl rfl rfl hr9 ?_
              clear hr9 hH R0
              have R0 := hid R1
              clear R1
              refine hK.out _ _ ?_ (fun hH => ?_)
              · exact trivial
              clear hK K
              (try simp only [Act.put, gy0, gy1, gy2])
              refine wpAnyH_ready (rs := [11]) (by kernel_rfl) (by simp) ?_
              refine rdy (fun K hK => ?_) ?_
              obtain ⟨v11, wc, hr9, R1⟩ := ri_rest (ty := 45) R0.out IL.out l.length (if c2 = l.length then some ⟨b2, o2, none⟩ else some ⟨b2, o2 + l.length, none⟩) 0 (c2 - l.length) (by split; exact .inr ⟨rfl, by omega⟩; exact .inl rfl) (by omega) (by simp only [List.length_take, List.length_append, List.length_nil, List.length_cons]; omega)
              simp only [List.nil_append] at R1
              have e8 := congrArg List.length (List.take_append_drop l.length l)
              rw [List.length_append] at e8
              have hlen : (l.take l.length ++ [gi] ++ l.drop l.length).length = l.length + 1 := by rw [List.length_append, List.length_append, List.length_singleton]; omega
              obtain ⟨g8, c8, e9, il8⟩ := ri_end R1 (by omega)
              rw [hlen] at e9
              subst e9
              rw [if_pos (by rfl)]
              refine wp_app_run (.tmp 49) (.tmp 52) rfl rfl rfl hr9 ?_
              have BL := hid R1.bel
              have IX := hid il8
              clear hr9 hH R0 R1 il8
              refine hK.out _ _ ?_ (fun hH => ?_)
              · exact trivial
              clear hK K
              (try simp only [Act.put, gy0, gy1, gy2])
              refine tk 12 hH ?_
              (try simp only [Act.put, gy0, gy1, gy2])
              refine wpAnyH_done (by kernel_rfl) ?_ _
              refine NoPanic.normal ?_
              · clear hH
                have GG := hid (grp_next (x0 := gi) IN.out SL.out HJ.out e)
                obtain ⟨l9, hl9⟩ : ∃ l9, l9 = l.take l.length ++ [gi] ++ l.drop l.length := ⟨_, rfl⟩
                rw [← hl9] at GG IX hlen
                have hz9 := hid (bx_call (bx_call hz6.out BD.out) BL.out)
                clear hl9 IL IN SL NI HJ BD BL hz6 e8 LT
                go_wp2_with fail
                refine ⟨⟨i + 1, by omega, rfl, ⟨l9, g8, 0, c8, by rw [hlen], by omega, hid ⟨GG.out, IX.out⟩⟩, hz9⟩, by show rn - ((i : Int) + 1).toNat < rn - (i : Int).toNat; omega⟩
              exact AllReadyH.nil
              exact AllReadyH.nil
              exact AllReadyH.nil
              exact AllReadyH.nil
              refine rdy (fun K hK => ?_) ?_
              go_simp
              first | (replace R0 := hid (ri_cell R0.out gi)) | (have KB := hid (kb_new wc gi); have M9 := hid (bx_alloc M.out (.cells #[.int .i64 gi] 3)))
              obtain ⟨wc, nb, hW, hp⟩ : ∃ W p, W = wc.alloc (.cells #[.int .i64 gi] 3) ∧ p = wc.heap.size := ⟨_, _, rfl, rfl⟩
              first | rw [← hW, ← hp] at R0 | (rw [← hW, ← hp] at KB; rw [← hW] at M9; clear M; have M := M9; clear M9)
              rw [← hW, ← hp]
              clear hW hp hH
              refine hK.out _ _ ?_ (fun hH => ?_)
              · exact trivial
              clear hK K
              (try simp only [Act.put, gy0, gy1, gy2])
              refine wpAnyH_ready (rs := [0]) (by kernel_rfl) (by simp) ?_
              refine rdy (fun K hK => ?_) ?_
              go_simp
              first | (have R0 := hid (ri_some M.out KB.out)) | (have R0 := hid (ri_none M.out))
              try clear KB
              obtain ⟨wc, rb, hW, hp⟩ : ∃ W p, W = wc.alloc (.cells #[] 3) ∧ p = wc.heap.size := ⟨_, _, rfl, rfl⟩
              rw [← hW, ← hp] at R0
              rw [← hW, ← hp]
              clear hW hp hH M
              refine hK.out _ _ ?_ (fun hH => ?_)
              · exact trivial
              clear hK K
              (try simp only [Act.put, gy0, gy1, gy2])
              refine wpAnyH_ready (rs := [4]) (by kernel_rfl) (by simp) ?_
              refine rdy (fun K hK => ?_) ?_
              obtain ⟨v4, wc, hr9, R1⟩ := ri_src (ty := 45) R0.out (l.take l.length) (b := b2) (q := o2) (c := c2) (il_take IL.out R0.out.bel l.length) (by simp only [List.length_take, List.length_nil]; omega)
              rw [LT] at hr9
              rw [if_pos (by rfl)]
              refine wp_app_run (.tmp 42) (.tmp 45) rfl rfl rfl hr9 ?_
              clear hr9 hH R0
              have R0 := hid R1
              clear R1
              refine hK.out _ _ ?_ (fun hH => ?_)
              · exact trivial
              clear hK K
              (try simp only [Act.put, gy0, gy1, gy2])
              refine wpAnyH_ready (rs := [7]) (by kernel_rfl) (by simp) ?_
              refine rdy (fun K hK => ?_) ?_
              obtain ⟨v7, wc, hr9, R1⟩ := ri_push (ty := 45) R0.out (by simp only [List.length_take, List.length_append, List.length_nil]; omega)
              rw [if_pos (by rfl)]
              refine wp_app_run (.tmp 46) (.tmp 48) rfl rfl rfl hr9 ?_
              clear hr9 hH R0
              have R0 := hid R1
              clear R1
              refine hK.out _ _ ?_ (fun hH => ?_)
              · exact trivial
              clear hK K
              (try simp only [Act.put, gy0, gy1, gy2])
              refine wpAnyH_ready (rs := [11]) (by kernel_rfl) (by simp) ?_
              refine rdy (fun K hK => ?_) ?_
              obtain ⟨v11, wc, hr9, R1⟩ := ri_rest (ty := 45) R0.out IL.out l.length (if c2 = l.length then some ⟨b2, o2, none⟩ else some ⟨b2, o2 + l.length, none⟩) 0 (c2 - l.length) (by split; exact .inr ⟨rfl, by omega⟩; exact .inl rfl) (by omega) (by simp only [List.length_take, List.length_append, List.length_nil, List.length_cons]; omega)
              simp only [List.nil_append] at R1
              have e8 := congrArg List.length (List.take_append_drop l.length l)
              rw [List.length_append] at e8
              have hlen : (l.take l.length ++ [gi] ++ l.drop l.length).length = l.length + 1 := by rw [List.length_append, List.length_append, List.length_singleton]; omega
              obtain ⟨g8, c8, e9, il8⟩ := ri_end R1 (by omega)
              rw [hlen] at e9
              subst e9
              rw [if_pos (by rfl)]
              refine wp_app_run (.tmp 49) (.tmp 52) rfl rfl rfl hr9 ?_
              have BL := hid R1.bel
              have IX := hid il8
              clear hr9 hH R0 R1 il8
              refine hK.out _ _ ?_ (fun hH => ?_)
              · exact trivial
              clear hK K
              (try simp only [Act.put, gy0, gy1, gy2])
              refine tk 12 hH ?_
              (try simp only [Act.put, gy0, gy1, gy2])
              refine wpAnyH_done (by kernel_rfl) ?_ _
              refine NoPanic.normal ?_
              · clear hH
                have GG := hid (grp_next (x0 := gi) IN.out SL.out HJ.out e)
                obtain ⟨l9, hl9⟩ : ∃ l9, l9 = l.take l.length ++ [gi] ++ l.drop l.length := ⟨_, rfl⟩
                rw [← hl9] at GG IX hlen
                have hz9 := hid (bx_call (bx_call hz6.out BD.out) BL.out)
                clear hl9 IL IN SL NI HJ BD BL hz6 e8 LT
                go_wp2_with fail
                refine ⟨⟨i + 1, by omega, rfl, ⟨l9, g8, 0, c8, by rw [hlen], by omega, hid ⟨GG.out, IX.out⟩⟩, hz9⟩, by show rn - ((i : Int) + 1).toNat < rn - (i : Int).toNat; omega⟩
              exact AllReadyH.nil
              exact AllReadyH.nil
              exact AllReadyH.nil
              exact AllReadyH.nil
              exact AllReadyH.nil
        · have NN := hid (show IsGrp (i + 1) gr l from ⟨hg.out.1.1, fun x => by
            rw [drop_next, ← HJ.out]
            by_cases ex : x = gi
            · rw [if_pos ex, ex]
              simp [e, MS.1 rfl]
            · rw [if_neg ex]
              exact hg.out.1.2 x⟩)
          clear MS hg HJ hz
          go_wp2_with fail
          go_roundw
          case rel => exact ⟨i + 1, by omega, by go_num, ⟨l, b2, o2, c2, rfl, by omega, hid ⟨NN.out, IL.out⟩⟩, hz6⟩
          case measure => simp [intOf]; omega
    · obtain rfl : i = rn := by omega
      have FIN := hid (show RetGr w i gr (.returned (.slice (some ⟨b2, o2, none⟩) l.length c2)) wr from ⟨l, _, c2, rfl, hg.out.1, hg.out.2, bx_call KK.out.1 hz.out⟩)
      clear hg hz HR KK
      go_wp2_with fail
      go_ret
      exact FIN.out
end Go.Proofs.YtdbccidlnhjfhaaGreatDoor
