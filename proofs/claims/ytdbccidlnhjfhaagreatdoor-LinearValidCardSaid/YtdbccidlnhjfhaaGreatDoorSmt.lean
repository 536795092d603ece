/- sum of the specification: the text of terms. -/
import Derived.Test.YtdbccidlnhjfhaaGreatDoorNmb
import Derived.Deep.DeepCutAuto
import Derived.BigQuiet
namespace Go.Proofs.YtdbccidlnhjfhaaGreatDoor
open Go.RowKit
set_option maxRecDepth 100000
theorem join_flat (xs : List (List UInt8)) : Lib.join xs [] = xs.flatten := by
  unfold Lib.join
  induction xs with
  | nil => rfl
  | cons x xs ih =>
    cases xs with
    | nil => simp [List.intercalate]
    | cons y ys =>
      simp only [List.intercalate, List.intersperse, List.flatten_cons, List.nil_append] at ih ⊢
      rw [ih]
theorem tpart_flat {v cf : Nat → Int} {i : Nat} (hv : -4611686018427387904 ≤ v i ∧ v i ≤ 4611686018427387904) (hc : -4611686018427387904 ≤ cf i ∧ cf i ≤ 4611686018427387904) : (tpart v cf i).flatten.length ≤ 50 := by
  have l1 := Lib.itoa_length_le (v i) (by omega) (by omega)
  have l2 := Lib.itoa_length_le (absI (cf i)) (by unfold absI; split <;> omega) (by unfold absI; split <;> omega)
  have l3 : (opTx (decide ((i : Int) = 0)) (decide (cf i < 0))).length ≤ 3 := by
    unfold opTx
    split <;> split <;> simp
  unfold tpart
  simp only [List.flatten_append, List.flatten_cons, List.flatten_nil, List.append_nil, List.length_append, List.length_cons]
  split
  · simp only [List.flatten_nil, List.length_nil]; omega
  · simp only [List.flatten_cons, List.flatten_nil, List.append_nil, List.length_append, List.length_cons, List.length_nil]; omega
theorem tparts_flat {v cf : Nat → Int} {n : Nat} (hv : ∀ t, t < n → -4611686018427387904 ≤ v t ∧ v t ≤ 4611686018427387904) (hc : ∀ t, t < n → -4611686018427387904 ≤ cf t ∧ cf t ≤ 4611686018427387904) : ∀ j, j ≤ n → (tparts v cf j).flatten.length ≤ 50 * j := by
  intro j
  induction j with
  | zero => intro _; exact Nat.le_refl _
  | succ j ih =>
    intro hj
    have h1 := ih (by omega)
    have h2 := tpart_flat (hv j (by omega)) (hc j (by omega))
    show (tparts v cf j ++ tpart v cf j).flatten.length ≤ _
    rw [List.flatten_append, List.length_append]
    omega
structure Sm (w : World) (v cf : Nat → Int) (j : Nat) (s : ByteArray) (W : World) : Prop where
  bel : Below w.heap.size w W
  tx : s.data.toList = (tparts v cf j).flatten
set_option maxHeartbeats 8000000 in
theorem r_sum (A : Option Addr) (tn tc : Nat) (v cf : Nat → Int) (w : World) (hT : Ts w A tn tc v cf) (htn : tn ≤ 10000) (hcf : ∀ t, t < tn → -4611686018427387904 ≤ cf t ∧ cf t ≤ 4611686018427387904) (hvf : ∀ t, t < tn → -4611686018427387904 ≤ v t ∧ v t ≤ 4611686018427387904) :
    Calls Tryz.prog 62 #[.slice A tn tc] w (RetTx w (sumTx tn v cf)) := by
  have h1 := hT.1
  have h2 := hT.2.1
  have HT := hid hT
  have HC := hid hcf
  have HV := hid hvf
  have HL := hid (tparts_flat hvf hcf)
  have ST := hid (show Sm w v cf 0 ⟨#[]⟩ w from ⟨bx_refl w, rfl⟩)
  clear hT hcf hvf
  go_enter Tryz.func62, Tryz.ntmps62
  go_wp2_with fail
  go_loopw [3, 4] (fun u i wr => ∃ j : Nat, j ≤ tn ∧ i = .int .i64 j ∧ ∃ s : ByteArray, u = .string s ∧ Hid (Sm w v cf j s wr)) (fun _ i _ => tn - (intOf i).toNat)
  case atStart => exact ⟨0, Nat.zero_le _, rfl, _, rfl, ST⟩
  case round =>
    clear ST
    obtain ⟨j, hj, rfl, s, rfl, hz⟩ := hrel
    have zs : s.size ≤ 50 * j := by rw [size_of hz.out.tx]; exact HL.out j hj
    have zs9 : s.size ≤ 500000 := by omega
    rcases Nat.lt_or_ge j tn with hlt | hge
    · obtain ⟨b, o, rfl, hb, hcell⟩ := HT.out.2.2.2 (by omega)
      obtain ⟨x0, x1⟩ := hcell j hlt
      have c0 := cell_bx x0 hz.out.bel
      have c1 := cell_bx x1 hz.out.bel
      obtain ⟨hv1, hv2⟩ := HV.out j hlt
      obtain ⟨hc1, hc2⟩ := HC.out j hlt
      obtain ⟨vj, hv9⟩ : ∃ x, x = v j := ⟨_, rfl⟩
      obtain ⟨cj, hc9⟩ : ∃ x, x = cf j := ⟨_, rfl⟩
      have NX := hid (fun (W : World) (s9 : ByteArray) (B : Below wr.heap.size wr W) (h : s9.data.toList = s.data.toList ++ (tpart v cf j).flatten) => (show Sm w v cf (j + 1) s9 W from ⟨bx_call hz.out.bel B, by rw [h, hz.out.tx]; show _ = (tparts v cf j ++ tpart v cf j).flatten; rw [List.flatten_append]⟩))
      have S0 := hid (show j = 0 → s.data.toList = [] from fun h => by rw [hz.out.tx, h]; rfl)
      unfold tpart at NX
      rw [← hv9] at c0 hv1 hv2 NX
      rw [← hc9] at c1 hc1 hc2 NX
      have NV := hid (fun (W : World) => r_number vj W hv1 hv2)
      have lv := Lib.itoa_length_le vj (by omega) (by omega)
      clear HC HV HT HL x0 x1 hcell hv9 hc9 hz
      rcases Nat.eq_zero_or_pos j with rfl | hpos
      · by_cases sg9 : cj < 0
        · have t1 : decide (cj < 0) = true := decide_eq_true sg9
          have e0 : s = ⟨#[]⟩ := ByteArray.ext (Array.toList_inj.1 (S0.out rfl))
          obtain ⟨ac, hneg⟩ : ∃ x, -cj = x := ⟨_, rfl⟩
          have hab : absI cj = ac := by unfold absI; rw [if_pos sg9]; exact hneg
          have a1 : -4611686018427387904 ≤ ac := by omega
          have a2 : ac ≤ 4611686018427387904 := by omega
          have NA := hid (fun (W : World) => r_number ac W a1 a2)
          have la := Lib.itoa_length_le ac (by omega) (by omega)
          have NX1 := hid (fun (W : World) (s9 : ByteArray) (B : Below wr.heap.size wr W) (h : s9.data.toList = s.data.toList ++ ([45] ++ ((if ac = 1 then [] else Lib.itoa ac ++ [32]) ++ 120 :: Lib.itoa vj))) => NX.out W s9 B (by
            rw [h, hab, t1, show decide (((0 : Nat) : Int) = 0) = true from rfl]
            rw [show opTx true true = ([45] : List UInt8) from rfl]
            split <;> simp))
          clear NX S0 hab
          subst e0
          simp only [Nat.zero_mul, Nat.add_zero] at c0 c1
          by_cases h1 : ac = 1
          · have t2 : (ac != 1) = false := by simp [h1]
            go_wp2_with fail
            obtain ⟨s1, hs1⟩ : ∃ x, x = (⟨#[45]⟩ : ByteArray) ++ (⟨#[120]⟩ : ByteArray) := ⟨_, rfl⟩
            have zs1 : s1.size ≤ 600000 := by rw [hs1]; (try simp only [ByteArray.size_append]); (try simp only [show (⟨#[32, 45, 32]⟩ : ByteArray).size = 3 from rfl, show (⟨#[32, 43, 32]⟩ : ByteArray).size = 3 from rfl, show (⟨#[45]⟩ : ByteArray).size = 1 from rfl, show (⟨#[]⟩ : ByteArray).size = 0 from rfl, show (⟨#[120]⟩ : ByteArray).size = 1 from rfl]); omega
            have es1 : s1.data.toList = _ := congrArg (fun x : ByteArray => x.data.toList) hs1
            have Es1 := hid es1
            (try rw [← hs1])
            clear hs1 es1
            refine (NV.out _).mono ?_
            rintro e w1 ⟨nv, rfl, ev, b1⟩
            have zv : nv.size ≤ 21 := by rw [size_of ev]; exact lv
            have k5 : ¬9223372036854775807 < s1.size + nv.size := by omega
            have EV := hid ev
            have B1 := hid b1
            clear ev b1 NV NA c0 c1
            go_wp2_with fail
            go_roundw
            case rel => exact ⟨0 + 1, by omega, by go_num, _, rfl, hid (NX1.out _ _ B1.out (by rw [catL, Es1.out, EV.out, if_pos h1]; simp))⟩
            case measure => simp [intOf]; omega
          · have t2 : (ac != 1) = true := by simpa using h1
            go_wp2_with fail
            obtain ⟨s1, hs1⟩ : ∃ x, x = (⟨#[45]⟩ : ByteArray) := ⟨_, rfl⟩
            have zs1 : s1.size ≤ 600000 := by rw [hs1]; (try simp only [ByteArray.size_append]); (try simp only [show (⟨#[32, 45, 32]⟩ : ByteArray).size = 3 from rfl, show (⟨#[32, 43, 32]⟩ : ByteArray).size = 3 from rfl, show (⟨#[45]⟩ : ByteArray).size = 1 from rfl, show (⟨#[]⟩ : ByteArray).size = 0 from rfl]); omega
            have es1 : s1.data.toList = _ := congrArg (fun x : ByteArray => x.data.toList) hs1
            have Es1 := hid es1
            (try rw [← hs1])
            clear hs1 es1
            refine (NA.out _).mono ?_
            rintro e w1 ⟨na, rfl, ea, b1⟩
            have za : na.size ≤ 21 := by rw [size_of ea]; exact la
            have k5 : ¬9223372036854775807 < s1.size + na.size := by omega
            have k6 : ¬9223372036854775807 < s1.size + na.size + 1 := by omega
            have k7 : ¬9223372036854775807 < s1.size + na.size + 1 + 1 := by omega
            have EA := hid ea
            have B1 := hid b1
            have d0 := cell_bx c0 b1
            clear ea b1 NA c0 c1
            go_wp2_with fail
            obtain ⟨s2, hs2⟩ : ∃ x, x = s1 ++ na ++ (⟨#[32]⟩ : ByteArray) ++ (⟨#[120]⟩ : ByteArray) := ⟨_, rfl⟩
            have zs2 : s2.size ≤ 700000 := by rw [hs2]; (try simp only [ByteArray.size_append]); (try simp only [show (⟨#[32]⟩ : ByteArray).size = 1 from rfl, show (⟨#[120]⟩ : ByteArray).size = 1 from rfl]); omega
            have es2 : s2.data.toList = _ := congrArg (fun x : ByteArray => x.data.toList) hs2
            have Es2 := hid es2
            (try rw [← hs2])
            clear hs2 es2
            refine (NV.out _).mono ?_
            rintro e w2 ⟨nv, rfl, ev, b2⟩
            have zv : nv.size ≤ 21 := by rw [size_of ev]; exact lv
            have k8 : ¬9223372036854775807 < s2.size + nv.size := by omega
            have EV := hid ev
            have B2 := hid (bx_call B1.out b2)
            clear ev b2 NV d0 B1 k5 k6 k7
            go_wp2_with fail
            go_roundw
            case rel => exact ⟨0 + 1, by omega, by go_num, _, rfl, hid (NX1.out _ _ B2.out (by rw [catL, Es2.out, EV.out, if_neg h1]; simp only [catL, Es1.out, EA.out]; simp))⟩
            case measure => simp [intOf]; omega
        · have t1 : decide (cj < 0) = false := decide_eq_false sg9
          have e0 : s = ⟨#[]⟩ := ByteArray.ext (Array.toList_inj.1 (S0.out rfl))
          have hab : absI cj = cj := by unfold absI; rw [if_neg sg9]
          have a1 : -4611686018427387904 ≤ cj := by omega
          have a2 : cj ≤ 4611686018427387904 := by omega
          have NA := hid (fun (W : World) => r_number cj W a1 a2)
          have la := Lib.itoa_length_le cj (by omega) (by omega)
          have NX1 := hid (fun (W : World) (s9 : ByteArray) (B : Below wr.heap.size wr W) (h : s9.data.toList = s.data.toList ++ ([] ++ ((if cj = 1 then [] else Lib.itoa cj ++ [32]) ++ 120 :: Lib.itoa vj))) => NX.out W s9 B (by
            rw [h, hab, t1, show decide (((0 : Nat) : Int) = 0) = true from rfl]
            rw [show opTx true false = ([] : List UInt8) from rfl]
            split <;> simp))
          clear NX S0 hab
          subst e0
          simp only [Nat.zero_mul, Nat.add_zero] at c0 c1
          by_cases h1 : cj = 1
          · have t2 : (cj != 1) = false := by simp [h1]
            go_wp2_with fail
            obtain ⟨s1, hs1⟩ : ∃ x, x = (⟨#[]⟩ : ByteArray) ++ (⟨#[120]⟩ : ByteArray) := ⟨_, rfl⟩
            have zs1 : s1.size ≤ 600000 := by rw [hs1]; (try simp only [ByteArray.size_append]); (try simp only [show (⟨#[32, 45, 32]⟩ : ByteArray).size = 3 from rfl, show (⟨#[32, 43, 32]⟩ : ByteArray).size = 3 from rfl, show (⟨#[45]⟩ : ByteArray).size = 1 from rfl, show (⟨#[]⟩ : ByteArray).size = 0 from rfl, show (⟨#[120]⟩ : ByteArray).size = 1 from rfl]); omega
            have es1 : s1.data.toList = _ := congrArg (fun x : ByteArray => x.data.toList) hs1
            have Es1 := hid es1
            (try rw [← hs1])
            clear hs1 es1
            refine (NV.out _).mono ?_
            rintro e w1 ⟨nv, rfl, ev, b1⟩
            have zv : nv.size ≤ 21 := by rw [size_of ev]; exact lv
            have k5 : ¬9223372036854775807 < s1.size + nv.size := by omega
            have EV := hid ev
            have B1 := hid b1
            clear ev b1 NV NA c0 c1
            go_wp2_with fail
            go_roundw
            case rel => exact ⟨0 + 1, by omega, by go_num, _, rfl, hid (NX1.out _ _ B1.out (by rw [catL, Es1.out, EV.out, if_pos h1]; simp))⟩
            case measure => simp [intOf]; omega
          · have t2 : (cj != 1) = true := by simpa using h1
            go_wp2_with fail
            refine (NA.out _).mono ?_
            rintro e w1 ⟨na, rfl, ea, b1⟩
            have za : na.size ≤ 21 := by rw [size_of ea]; exact la
            have k5 : ¬9223372036854775807 < na.size := by omega
            have k6 : ¬9223372036854775807 < na.size + 1 := by omega
            have k7 : ¬9223372036854775807 < na.size + 1 + 1 := by omega
            have EA := hid ea
            have B1 := hid b1
            have d0 := cell_bx c0 b1
            clear ea b1 NA c0 c1
            go_wp2_with fail
            obtain ⟨s2, hs2⟩ : ∃ x, x = (⟨#[]⟩ : ByteArray) ++ na ++ (⟨#[32]⟩ : ByteArray) ++ (⟨#[120]⟩ : ByteArray) := ⟨_, rfl⟩
            have zs2 : s2.size ≤ 700000 := by rw [hs2]; (try simp only [ByteArray.size_append]); (try simp only [show (⟨#[32]⟩ : ByteArray).size = 1 from rfl, show (⟨#[120]⟩ : ByteArray).size = 1 from rfl]); omega
            have es2 : s2.data.toList = _ := congrArg (fun x : ByteArray => x.data.toList) hs2
            have Es2 := hid es2
            (try rw [← hs2])
            clear hs2 es2
            refine (NV.out _).mono ?_
            rintro e w2 ⟨nv, rfl, ev, b2⟩
            have zv : nv.size ≤ 21 := by rw [size_of ev]; exact lv
            have k8 : ¬9223372036854775807 < s2.size + nv.size := by omega
            have EV := hid ev
            have B2 := hid (bx_call B1.out b2)
            clear ev b2 NV d0 B1 k5 k6 k7
            go_wp2_with fail
            go_roundw
            case rel => exact ⟨0 + 1, by omega, by go_num, _, rfl, hid (NX1.out _ _ B2.out (by rw [catL, Es2.out, EV.out, if_neg h1]; simp only [catL, EA.out]; simp))⟩
            case measure => simp [intOf]; omega
      · have t4 : ¬(j : Int) = 0 := by omega
        have t5 : decide ((j : Int) = 0) = false := decide_eq_false t4
        have t6 : (0 : Int) < (j : Int) := by omega
        have t7 : decide ((0 : Int) < (j : Int)) = true := decide_eq_true t6
        have t8 : decide (0 < j) = true := decide_eq_true hpos
        by_cases sg9 : cj < 0
        · have t1 : decide (cj < 0) = true := decide_eq_true sg9
          obtain ⟨ac, hneg⟩ : ∃ x, -cj = x := ⟨_, rfl⟩
          have hab : absI cj = ac := by unfold absI; rw [if_pos sg9]; exact hneg
          have a1 : -4611686018427387904 ≤ ac := by omega
          have a2 : ac ≤ 4611686018427387904 := by omega
          have NA := hid (fun (W : World) => r_number ac W a1 a2)
          have la := Lib.itoa_length_le ac (by omega) (by omega)
          have NX1 := hid (fun (W : World) (s9 : ByteArray) (B : Below wr.heap.size wr W) (h : s9.data.toList = s.data.toList ++ ([32, 45, 32] ++ ((if ac = 1 then [] else Lib.itoa ac ++ [32]) ++ 120 :: Lib.itoa vj))) => NX.out W s9 B (by
            rw [h, hab, t1, t5]
            rw [show opTx false true = ([32, 45, 32] : List UInt8) from rfl]
            split <;> simp))
          clear NX S0 hab
          by_cases h1 : ac = 1
          · have t2 : (ac != 1) = false := by simp [h1]
            have k1 : ¬9223372036854775807 < s.size + 3 := by omega
            have k2 : ¬9223372036854775807 < s.size + 3 + 1 := by omega
            have k3 : ¬9223372036854775807 < s.size + 1 := by omega
            go_wp2_with fail
            obtain ⟨s1, hs1⟩ : ∃ x, x = s ++ (⟨#[32, 45, 32]⟩ : ByteArray) ++ (⟨#[120]⟩ : ByteArray) := ⟨_, rfl⟩
            have zs1 : s1.size ≤ 600000 := by rw [hs1]; (try simp only [ByteArray.size_append]); (try simp only [show (⟨#[32, 45, 32]⟩ : ByteArray).size = 3 from rfl, show (⟨#[32, 43, 32]⟩ : ByteArray).size = 3 from rfl, show (⟨#[45]⟩ : ByteArray).size = 1 from rfl, show (⟨#[]⟩ : ByteArray).size = 0 from rfl, show (⟨#[120]⟩ : ByteArray).size = 1 from rfl]); omega
            have es1 : s1.data.toList = _ := congrArg (fun x : ByteArray => x.data.toList) hs1
            have Es1 := hid es1
            (try rw [← hs1])
            clear hs1 es1
            refine (NV.out _).mono ?_
            rintro e w1 ⟨nv, rfl, ev, b1⟩
            have zv : nv.size ≤ 21 := by rw [size_of ev]; exact lv
            have k5 : ¬9223372036854775807 < s1.size + nv.size := by omega
            have EV := hid ev
            have B1 := hid b1
            clear ev b1 NV NA c0 c1 k1 k2 k3
            go_wp2_with fail
            go_roundw
            case rel => exact ⟨j + 1, by omega, by go_num, _, rfl, hid (NX1.out _ _ B1.out (by rw [catL, Es1.out, EV.out, if_pos h1]; simp))⟩
            case measure => simp [intOf]; omega
          · have t2 : (ac != 1) = true := by simpa using h1
            have k1 : ¬9223372036854775807 < s.size + 3 := by omega
            have k2 : ¬9223372036854775807 < s.size + 3 + 1 := by omega
            have k3 : ¬9223372036854775807 < s.size + 1 := by omega
            go_wp2_with fail
            obtain ⟨s1, hs1⟩ : ∃ x, x = s ++ (⟨#[32, 45, 32]⟩ : ByteArray) := ⟨_, rfl⟩
            have zs1 : s1.size ≤ 600000 := by rw [hs1]; (try simp only [ByteArray.size_append]); (try simp only [show (⟨#[32, 45, 32]⟩ : ByteArray).size = 3 from rfl, show (⟨#[32, 43, 32]⟩ : ByteArray).size = 3 from rfl, show (⟨#[45]⟩ : ByteArray).size = 1 from rfl, show (⟨#[]⟩ : ByteArray).size = 0 from rfl]); omega
            have es1 : s1.data.toList = _ := congrArg (fun x : ByteArray => x.data.toList) hs1
            have Es1 := hid es1
            (try rw [← hs1])
            clear hs1 es1
            refine (NA.out _).mono ?_
            rintro e w1 ⟨na, rfl, ea, b1⟩
            have za : na.size ≤ 21 := by rw [size_of ea]; exact la
            have k5 : ¬9223372036854775807 < s1.size + na.size := by omega
            have k6 : ¬9223372036854775807 < s1.size + na.size + 1 := by omega
            have k7 : ¬9223372036854775807 < s1.size + na.size + 1 + 1 := by omega
            have EA := hid ea
            have B1 := hid b1
            have d0 := cell_bx c0 b1
            clear ea b1 NA c0 c1 k1 k2 k3
            go_wp2_with fail
            obtain ⟨s2, hs2⟩ : ∃ x, x = s1 ++ na ++ (⟨#[32]⟩ : ByteArray) ++ (⟨#[120]⟩ : ByteArray) := ⟨_, rfl⟩
            have zs2 : s2.size ≤ 700000 := by rw [hs2]; (try simp only [ByteArray.size_append]); (try simp only [show (⟨#[32]⟩ : ByteArray).size = 1 from rfl, show (⟨#[120]⟩ : ByteArray).size = 1 from rfl]); omega
            have es2 : s2.data.toList = _ := congrArg (fun x : ByteArray => x.data.toList) hs2
            have Es2 := hid es2
            (try rw [← hs2])
            clear hs2 es2
            refine (NV.out _).mono ?_
            rintro e w2 ⟨nv, rfl, ev, b2⟩
            have zv : nv.size ≤ 21 := by rw [size_of ev]; exact lv
            have k8 : ¬9223372036854775807 < s2.size + nv.size := by omega
            have EV := hid ev
            have B2 := hid (bx_call B1.out b2)
            clear ev b2 NV d0 B1 k5 k6 k7
            go_wp2_with fail
            go_roundw
            case rel => exact ⟨j + 1, by omega, by go_num, _, rfl, hid (NX1.out _ _ B2.out (by rw [catL, Es2.out, EV.out, if_neg h1]; simp only [catL, Es1.out, EA.out]; simp))⟩
            case measure => simp [intOf]; omega
        · have t1 : decide (cj < 0) = false := decide_eq_false sg9
          have hab : absI cj = cj := by unfold absI; rw [if_neg sg9]
          have a1 : -4611686018427387904 ≤ cj := by omega
          have a2 : cj ≤ 4611686018427387904 := by omega
          have NA := hid (fun (W : World) => r_number cj W a1 a2)
          have la := Lib.itoa_length_le cj (by omega) (by omega)
          have NX1 := hid (fun (W : World) (s9 : ByteArray) (B : Below wr.heap.size wr W) (h : s9.data.toList = s.data.toList ++ ([32, 43, 32] ++ ((if cj = 1 then [] else Lib.itoa cj ++ [32]) ++ 120 :: Lib.itoa vj))) => NX.out W s9 B (by
            rw [h, hab, t1, t5]
            rw [show opTx false false = ([32, 43, 32] : List UInt8) from rfl]
            split <;> simp))
          clear NX S0 hab
          by_cases h1 : cj = 1
          · have t2 : (cj != 1) = false := by simp [h1]
            have k1 : ¬9223372036854775807 < s.size + 3 := by omega
            have k2 : ¬9223372036854775807 < s.size + 3 + 1 := by omega
            have k3 : ¬9223372036854775807 < s.size + 1 := by omega
            go_wp2_with fail
            obtain ⟨s1, hs1⟩ : ∃ x, x = s ++ (⟨#[32, 43, 32]⟩ : ByteArray) ++ (⟨#[120]⟩ : ByteArray) := ⟨_, rfl⟩
            have zs1 : s1.size ≤ 600000 := by rw [hs1]; (try simp only [ByteArray.size_append]); (try simp only [show (⟨#[32, 45, 32]⟩ : ByteArray).size = 3 from rfl, show (⟨#[32, 43, 32]⟩ : ByteArray).size = 3 from rfl, show (⟨#[45]⟩ : ByteArray).size = 1 from rfl, show (⟨#[]⟩ : ByteArray).size = 0 from rfl, show (⟨#[120]⟩ : ByteArray).size = 1 from rfl]); omega
            have es1 : s1.data.toList = _ := congrArg (fun x : ByteArray => x.data.toList) hs1
            have Es1 := hid es1
            (try rw [← hs1])
            clear hs1 es1
            refine (NV.out _).mono ?_
            rintro e w1 ⟨nv, rfl, ev, b1⟩
            have zv : nv.size ≤ 21 := by rw [size_of ev]; exact lv
            have k5 : ¬9223372036854775807 < s1.size + nv.size := by omega
            have EV := hid ev
            have B1 := hid b1
            clear ev b1 NV NA c0 c1 k1 k2 k3
            go_wp2_with fail
            go_roundw
            case rel => exact ⟨j + 1, by omega, by go_num, _, rfl, hid (NX1.out _ _ B1.out (by rw [catL, Es1.out, EV.out, if_pos h1]; simp))⟩
            case measure => simp [intOf]; omega
          · have t2 : (cj != 1) = true := by simpa using h1
            have k1 : ¬9223372036854775807 < s.size + 3 := by omega
            have k2 : ¬9223372036854775807 < s.size + 3 + 1 := by omega
            have k3 : ¬9223372036854775807 < s.size + 1 := by omega
            go_wp2_with fail
            obtain ⟨s1, hs1⟩ : ∃ x, x = s ++ (⟨#[32, 43, 32]⟩ : ByteArray) := ⟨_, rfl⟩
            have zs1 : s1.size ≤ 600000 := by rw [hs1]; (try simp only [ByteArray.size_append]); (try simp only [show (⟨#[32, 45, 32]⟩ : ByteArray).size = 3 from rfl, show (⟨#[32, 43, 32]⟩ : ByteArray).size = 3 from rfl, show (⟨#[45]⟩ : ByteArray).size = 1 from rfl, show (⟨#[]⟩ : ByteArray).size = 0 from rfl]); omega
            have es1 : s1.data.toList = _ := congrArg (fun x : ByteArray => x.data.toList) hs1
            have Es1 := hid es1
            (try rw [← hs1])
            clear hs1 es1
            refine (NA.out _).mono ?_
            rintro e w1 ⟨na, rfl, ea, b1⟩
            have za : na.size ≤ 21 := by rw [size_of ea]; exact la
            have k5 : ¬9223372036854775807 < s1.size + na.size := by omega
            have k6 : ¬9223372036854775807 < s1.size + na.size + 1 := by omega
            have k7 : ¬9223372036854775807 < s1.size + na.size + 1 + 1 := by omega
            have EA := hid ea
            have B1 := hid b1
            have d0 := cell_bx c0 b1
            clear ea b1 NA c0 c1 k1 k2 k3
            go_wp2_with fail
            obtain ⟨s2, hs2⟩ : ∃ x, x = s1 ++ na ++ (⟨#[32]⟩ : ByteArray) ++ (⟨#[120]⟩ : ByteArray) := ⟨_, rfl⟩
            have zs2 : s2.size ≤ 700000 := by rw [hs2]; (try simp only [ByteArray.size_append]); (try simp only [show (⟨#[32]⟩ : ByteArray).size = 1 from rfl, show (⟨#[120]⟩ : ByteArray).size = 1 from rfl]); omega
            have es2 : s2.data.toList = _ := congrArg (fun x : ByteArray => x.data.toList) hs2
            have Es2 := hid es2
            (try rw [← hs2])
            clear hs2 es2
            refine (NV.out _).mono ?_
            rintro e w2 ⟨nv, rfl, ev, b2⟩
            have zv : nv.size ≤ 21 := by rw [size_of ev]; exact lv
            have k8 : ¬9223372036854775807 < s2.size + nv.size := by omega
            have EV := hid ev
            have B2 := hid (bx_call B1.out b2)
            clear ev b2 NV d0 B1 k5 k6 k7
            go_wp2_with fail
            go_roundw
            case rel => exact ⟨j + 1, by omega, by go_num, _, rfl, hid (NX1.out _ _ B2.out (by rw [catL, Es2.out, EV.out, if_neg h1]; simp only [catL, Es1.out, EA.out]; simp))⟩
            case measure => simp [intOf]; omega
    · obtain rfl : j = tn := by omega
      have TX := hid hz.out.tx
      have BB := hid hz.out.bel
      have SZ := hid (show ∀ k, j = k + 1 → 0 < s.size from fun k hk => by
        rw [size_of TX.out, hk]
        show 0 < (tparts v cf k ++ tpart v cf k).flatten.length
        rw [List.flatten_append, List.length_append]
        unfold tpart
        simp only [List.flatten_append, List.flatten_cons, List.flatten_nil, List.append_nil, List.length_append, List.length_cons]
        omega)
      clear HC HV HT HL hz zs zs9
      rcases Nat.eq_zero_or_pos j with rfl | hpos
      · have e0 : s = ⟨#[]⟩ := ByteArray.ext (Array.toList_inj.1 TX.out)
        clear TX SZ
        subst e0
        go_wp2_with fail
        go_ret
        exact ⟨_, rfl, rfl, BB.out⟩
      · have e1 : 0 < s.size := SZ.out (j - 1) (by omega)
        have e2 : ¬s = ⟨#[]⟩ := fun h => by rw [h] at e1; exact absurd e1 (by decide)
        have e3 : (s.toList == ([] : List UInt8)) = false := by
          rw [beq_eq_false_iff_ne, ByteArray.toList_eq]
          intro h
          exact e2 (ByteArray.ext (Array.toList_inj.1 h))
        have e4 : ¬s.toList = [] := fun h => by rw [h] at e3; exact absurd e3 (by decide)
        clear SZ
        go_wp2_with fail
        go_ret
        exact ⟨_, rfl, by rw [TX.out]; unfold sumTx; rw [if_neg (by omega), join_flat], BB.out⟩
end Go.Proofs.YtdbccidlnhjfhaaGreatDoor
