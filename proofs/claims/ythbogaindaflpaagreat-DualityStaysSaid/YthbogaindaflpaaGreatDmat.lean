/- What the proofs of duality exclude; small inputs. -/
import Derived.Test.YthbogaindaflpaaGreatExs
import Derived.Test.YthbogaindaflpaaGreatDuaA
namespace Go.Proofs.YthbogaindaflpaaGreat
open Go.RowKit
structure Pw (w : World) (p : PD) : Prop where
  vs : Vs w p.V0 p.vn p.vc p.lo p.up p.op p.it p.co
  rs : Rs w p.R0 p.rn p.rc p.nm p.gr p.ki p.bo p.TA p.tn p.tc p.v p.cf
  nms : ∀ j, j < p.rn → (p.nm j).size ≤ 9223372036854775807
theorem Pw.keep {w w' : World} {p : PD} (h : Pw w p) (b : Below w.heap.size w w') : Pw w' p := ⟨h.vs.keep b, h.rs.keep b, h.nms⟩
theorem Pw.pg {w : World} {p : PD} (h : Pw w p) (hs : fewP p.vn p.rn p.nm p.tn 6 8 = true) : Pg w p := by
  unfold fewP at hs
  simp only [Bool.and_eq_true] at hs
  have h1 := of_decide_eq_true hs.1
  have h2 := of_decide_eq_true hs.2.1
  have h3 := of_decide_eq_true hs.2.2
  exact ⟨h.vs, h.rs, h.nms, by omega, by omega, fun i hi => by have := (h1 i hi).1; omega⟩
structure LD where
  A : Option Addr
  n : Nat
  c : Nat
  N : Nat → Nat
  M : Nat → Nat
  qs : Nat → Rat
def LD.v (l : LD) : Value := .slice l.A l.n l.c
def LD.ok (w : World) (l : LD) : Prop := Qw w l.A l.n l.c l.N l.M l.qs
theorem LD.ok.keep {w w' : World} {l : LD} (h : l.ok w) (b : Below w.heap.size w w') : l.ok w' := Qw.keep h b
def LD.sm (l : LD) : Bool := shortB 10 l.n l.N l.M
theorem LD.ok.q {w : World} {l : LD} (h : l.ok w) (hs : l.sm = true) : Qs w l.A l.n l.c 4 l.qs := by
  unfold LD.sm shortB at hs
  rw [Bool.and_eq_true] at hs
  exact Qw.qs h hs.2
def smL (p : PD) (ls : List LD) : Bool := decide (∀ l, l ∈ ls → l.sm = true) && fewP p.vn p.rn p.nm p.tn 6 8
def ldZ : LD := ⟨none, 0, 0, fun _ => 0, fun _ => 0, fun _ => 0⟩
theorem l_smL (p : PD) (b : Nat) (ls : List LD) (t : TypeId) (w : World) (h : Pw w p) (K : Blk w b (ls.map LD.v) t) (hm : ls.length ≤ 1000) (hq : ∀ l, l ∈ ls → l.ok w) :
    Calls Tryz.prog 6 #[.agg #[.slice p.V0 p.vn p.vc, .slice p.R0 p.rn p.rc], .slice (some ⟨b, 0, none⟩) ls.length ls.length] w (RetB w (smL p ls)) := by
  have hg : ∀ j, j < ls.length → ls.getD j ldZ ∈ ls := fun j hj => by
    rw [List.getD_eq_getElem?_getD, List.getElem?_eq_getElem hj]
    exact List.getElem_mem _
  have t := l_small p b ls.length (fun j => (ls.getD j ldZ).A) (fun j => (ls.getD j ldZ).n) (fun j => (ls.getD j ldZ).c) (fun j => (ls.getD j ldZ).N) (fun j => (ls.getD j ldZ).M) (fun j => (ls.getD j ldZ).qs) w (by have := h.vs.1; have := h.vs.2.1; omega) h.rs h.nms hm (fun j hj => by
    rw [K.cell, List.getElem?_map, List.getElem?_eq_getElem hj]
    show some (LD.v _) = some (LD.v (ls.getD j ldZ))
    rw [List.getD_eq_getElem?_getD, List.getElem?_eq_getElem hj]
    rfl) (fun j hj => hq _ (hg j hj))
  have e : smallB p ls.length (fun j => (ls.getD j ldZ).n) (fun j => (ls.getD j ldZ).N) (fun j => (ls.getD j ldZ).M) = smL p ls := by
    unfold smallB smL
    congr 1
    refine decide_eq_decide.2 ⟨fun g l hl => ?_, fun g j hj => g _ (hg j hj)⟩
    obtain ⟨j, hj, rfl⟩ := List.mem_iff_getElem.1 hl
    have : (ls.getD j ldZ).sm = true := g j hj
    rw [List.getD_eq_getElem?_getD, List.getElem?_eq_getElem hj] at this
    exact this
  rw [e] at t
  exact t
end Go.Proofs.YthbogaindaflpaaGreat
