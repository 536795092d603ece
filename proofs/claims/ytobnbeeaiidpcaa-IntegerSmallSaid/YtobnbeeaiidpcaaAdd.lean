/- Contracts: Add, Sub, Mul, clone of package natural. -/
import Derived.Test.YtobnbeeaiidpcaaTimes
import Derived.Deep.OwnRows
namespace Go.Proofs.Ytobnbeeaiidpcaa
open Go.RowKit

def zrow (n : Nat) : Array Value := ((List.replicate n 0).map dv).toArray
theorem madeCells_zrow (n : Nat) : madeCells #[.int .u32 0] n = zrow n := by
  apply Array.ext
  · simp [size_madeCells, zrow]
  · intro i h1 h2
    simp [madeCells, zrow, dv, Nat.mod_one]
theorem Try.infoU32 : (Try.prog.info? 79).map (fun i => (i.zero, i.size, i.bytes)) = some (some (.int .u32 0), 1, 4) := by kernel_rfl
/-- make(api.Nat, n) -/
theorem run_make_nat (n : Nat) (h : n ≤ 4398046511104) (W : World) :
    (Instr.makeSlice 23 (.int .i64 (n : Int)) (.int .i64 (n : Int))).run Try.prog W = .ok (.slice (some ⟨W.heap.size, 0, none⟩) n n) (W.alloc (.cells (zrow n) 79)) := by
  rw [run_make_row' (P := Try.prog) 23 79 (.int .u32 0) 4 Try.underlying23 Try.infoU32 rfl .i64 .i64 n (by omega) (by omega) W, madeCells_zrow]
theorem row_new (w : World) (n : Nat) : Row (w.alloc (.cells (zrow n) 79)) w.heap.size (List.replicate n 0) := Blk.new w _ _

theorem Src.far {A : Option Addr} {n ob oo : Nat} (h : ∀ b o, A = some ⟨b, o, none⟩ → b ≠ ob) : Src A n ob oo := fun _ b o hA => .inl (h b o hA)
theorem Src.old {w : World} {A : Option Addr} {n c ob oo : Nat} {xs : List Nat} (h : Rd w A n c xs) (hb : w.heap.size ≤ ob) : Src A n ob oo := fun hn b o hA => by
  obtain ⟨b', o', hA', hlt, _⟩ := h.2.2.2.2 hn
  rw [hA] at hA'
  injection hA' with e
  injection e with e1 _ _
  left; omega
theorem Src.nil (ob oo : Nat) : Src none 0 ob oo := fun h => absurd h (by omega)

/-- A whole row that was made by the call is trimmed and handed back. -/
theorem ret_row {w w' : World} {zs : List Nat} {b : Nat} (h : Row w' b zs) (hd : Digs zs) (hl : zs.length ≤ 9223372036854775807) (hb : Below w.heap.size w w') : RetDig w (dg (val zs)) (.returned (.slice (some ⟨b, 0, none⟩) (dg (val zs)).length (dg (val zs)).length)) w' :=
  ⟨_, rfl, ⟨_, _, _, rfl, (h.rd0 hd (Nat.le_refl _) hl).trim⟩, hb⟩
theorem trim_row {w : World} {zs : List Nat} {b n : Nat} (h : Row w b zs) (hd : Digs zs) (hn : zs.length = n) (hl : n ≤ 9223372036854775807) :
    Calls Try.prog 119 #[.slice (some ⟨b, 0, none⟩) n n] w fun e w' => e = .returned (.slice (some ⟨b, 0, none⟩) (dg (val zs)).length (dg (val zs)).length) ∧ w = w' := by
  subst hn
  exact trim_any _ _ _ zs w (h.rd0 hd (Nat.le_refl _) hl)

theorem Part.all {T : Step} {s : Nat} {xs ys ds zs : List Nat} {n : Nat} (h : Part T s xs ys ds 0 n zs) (hn : ds.length = n) : seg zs 0 n = zs := by
  unfold seg
  have := h.1
  rw [List.drop_zero, List.take_of_length_le (by omega)]
theorem add_all {t s n : Nat} {xs ys ds zs : List Nat} (h : Part (addStep t) s xs ys ds 0 n zs) (hn : ds.length = n) (hx : xs.length ≤ n) (hy : ys.length ≤ n) :
    val zs + 4294967296 ^ n * (addStep t).st s xs ys n = val xs + val ys * t + s := by
  have := add_sum t s xs ys ds 0 n zs h n (Nat.le_refl _)
  rwa [h.all hn, List.take_of_length_le hx, List.take_of_length_le hy] at this
theorem no_carry {v p s r : Nat} (h : v + p * s = r) (hr : r < p) : v = r := by
  rcases Nat.eq_zero_or_pos s with rfl | hs
  · simpa using h
  · have := Nat.mul_le_mul_left p hs
    omega
theorem add_small {xs ys : List Nat} {q : Nat} (hx : Digs xs) (hy : Digs ys) (h1 : xs.length ≤ q) (h2 : ys.length ≤ q) : val xs + val ys < 4294967296 ^ (q + 1) := by
  have a := val_lt hx
  have b := val_lt hy
  have c := Nat.pow_le_pow_right (n := 4294967296) (by omega) h1
  have d := Nat.pow_le_pow_right (n := 4294967296) (by omega) h2
  rw [Nat.pow_succ]
  omega

set_option maxHeartbeats 1000000 in
theorem add_any (A B : Option Addr) (n c m d : Nat) (xs ys : List Nat) (w : World) (ha : Rd w A n c xs) (hb : Rd w B m d ys) (hn : n ≤ 1099511627776) (hm : m ≤ 1099511627776) :
    Calls Try.prog 93 #[.slice A n c, .slice B m d] w (RetDig w (dg (val xs + val ys))) := by
  have key : ∀ q : Nat, n ≤ q → m ≤ q → q ≤ 1099511627776 → Hid (Calls Try.prog 122 #[.slice (some ⟨w.heap.size, 0, none⟩) (q + 1) (q + 1), .slice A n c, .slice B m d, .int .u64 1, .int .u64 0] (w.alloc (.cells (zrow (q + 1)) 79))
      (fun e w' => (∃ s : Nat, e = .returned (.int .u64 s)) ∧ Hid (∃ zs, Row w' w.heap.size zs ∧ Digs zs ∧ zs.length = q + 1 ∧ val zs = val xs + val ys ∧ Below w.heap.size w w'))) := by
    intro q h1 h2 h3
    have hbw : Below w.heap.size w (w.alloc (.cells (zrow (q + 1)) 79)) := (Below.refl _ _).alloc (Nat.le_refl _) _
    refine hid ((addTimes_any 1 0 w.heap.size 0 (q + 1) (q + 1) n c m d A B xs ys _ _ (by omega) (by omega) (row_new w (q + 1)) (by simp) (Nat.le_refl _) (by omega) (ha.keep hbw) (hb.keep hbw) (Src.old ha (Nat.le_refl _)) (Src.old hb (Nat.le_refl _))).mono ?_)
    rintro e w' ⟨rfl, zs, z1, z2, z3⟩
    refine ⟨⟨_, rfl⟩, hid ⟨zs, z1, z2.digs (add_inv 1 (by omega)) (by omega) ha.2.2.2.1 hb.2.2.2.1 (Digs.zeros _), by rw [z2.1]; simp, ?_, ?_⟩⟩
    · have h4 := add_all z2 (by simp) (by have := ha.1; omega) (by have := hb.1; omega)
      have h5 := add_small ha.2.2.2.1 hb.2.2.2.1 (q := q) (by have := ha.1; omega) (by have := hb.1; omega)
      have h6 := no_carry h4 (by rw [Nat.mul_one, Nat.add_zero]; exact h5)
      omega
    · exact ⟨z3.os.trans hbw.os, z3.tape.trans hbw.tape, z3.output.trans hbw.output, Nat.le_trans hbw.size z3.size, fun k hk => (z3.block k (Nat.lt_of_lt_of_le hk hbw.size) (by omega)).trans (hbw.block k hk)⟩
  have KEY := hid key
  have h1 := ha.2.1
  have h2 := ha.2.2.1
  have h3 := hb.2.1
  have h4 := hb.2.2.1
  clear key ha hb
  obtain ⟨q, hq⟩ : ∃ q, q = if n < m then m else n := ⟨_, rfl⟩
  have hmk : ∀ W, (Instr.makeSlice 23 (.int .i64 ((q : Int) + 1)) (.int .i64 ((q : Int) + 1))).run Try.prog W = .ok (.slice (some ⟨W.heap.size, 0, none⟩) (q + 1) (q + 1)) (W.alloc (.cells (zrow (q + 1)) 79)) := fun W => run_make_nat (q + 1) (by split at hq <;> omega) W
  have HMK := hid hmk
  clear hmk
  rcases Nat.lt_or_ge n m with hnm | hnm
  all_goals
    first | (rw [if_pos hnm] at hq; subst hq) | (rw [if_neg (Nat.not_lt.2 hnm)] at hq; subst hq)
    have hmk := HMK.out
    go_enter Try.func93, Try.ntmps93
    go_wp2_with fail
    refine ((KEY.out _ (by omega) (by omega) (by omega)).out).mono ?_
    rintro e w1 ⟨⟨s, rfl⟩, hz⟩
    go_wp2_with fail
    obtain ⟨zs, z1, z2, z3, z4, z5⟩ := hz.out
    refine (trim_row z1 z2 z3 (by omega)).mono ?_
    rintro e w' ⟨rfl, rfl⟩
    have R := hid (ret_row z1 z2 (by omega) z5)
    rw [z4] at R ⊢
    clear z1 z2 z3 z4 z5 hz
    go_wp2_with fail
    go_ret
    exact R.out

end Go.Proofs.Ytobnbeeaiidpcaa
