/- A change of a table in memory; registrations found by any test. -/
import Derived.Test.YthedonkjnfeajaaDoorAcE
import Derived.Test.YthedonkjnfeajaaDoorNamesRef
import Derived.Test.YthedonkjnfeajaaDoorShelf
namespace Go.Proofs.YthedonkjnfeajaaDoor
open Go.RowKit
/-- A command. -/
structure Cm where
  op : Int
  lu : Int
  ho : ByteArray
  lb : Int
  bl : Int
  da : ByteArray
  fu : Bool
  rA : Option Addr
  rn : Nat
  rc : Nat
  ke : Int
  nk : Int
  ot : Int
  ty : Int
  ig : Bool
  ap : Int
abbrev cmC (c : Cm) : Array Value := #[.int .i64 c.op, .int .i64 c.lu, .string c.ho, .int .i64 c.lb, .int .i64 c.bl, .string c.da, .bool c.fu, .slice c.rA c.rn c.rc, .int .u64 c.ke, .int .u64 c.nk, .int .u64 c.ot, .int .i64 c.ty, .bool c.ig, .int .i64 c.ap]
abbrev cmV (c : Cm) : Value := .agg (cmC c)
/-- Who is told, and why. -/
structure Ev where
  h : ByteArray
  y : Int
abbrev evV (x : Ev) : Value := .agg #[.string x.h, .int .i64 x.y]
def evCells : List Ev → List Value
  | [] => []
  | x :: l => .string x.h :: .int .i64 x.y :: evCells l
theorem evCells_length : ∀ l : List Ev, (evCells l).length = l.length * 2
  | [] => rfl
  | x :: l => by show (evCells l).length + 1 + 1 = (l.length + 1) * 2; rw [evCells_length l]; omega
theorem evCells_append : ∀ a b : List Ev, evCells (a ++ b) = evCells a ++ evCells b
  | [], _ => rfl
  | x :: a, b => by show _ :: _ :: evCells (a ++ b) = _; rw [evCells_append a b]; rfl
theorem evCells_get : ∀ {l : List Ev} {j : Nat} {x : Ev}, l[j]? = some x → (evCells l)[j * 2]? = some (.string x.h) ∧ (evCells l)[j * 2 + 1]? = some (.int .i64 x.y)
  | y :: l, 0, x, h => by
    obtain rfl : y = x := by simpa using h
    exact ⟨rfl, rfl⟩
  | y :: l, j + 1, x, h => by
    have := evCells_get (l := l) (j := j) (x := x) (by simpa using h)
    rw [show (j + 1) * 2 = j * 2 + 1 + 1 by omega, show j * 2 + 1 + 1 + 1 = (j * 2 + 1) + 1 + 1 by omega]
    exact ⟨by simpa [evCells] using this.1, by simpa [evCells] using this.2⟩
theorem evCells_one : ∀ {l : List Ev}, ∀ u ∈ evCells l, u.oneCell' = true
  | [], u, h => by cases h
  | x :: l, u, h => by
    rcases List.mem_cons.1 h with rfl | h
    · rfl
    · rcases List.mem_cons.1 h with rfl | h
      · rfl
      · exact evCells_one u h
/-- Events in memory. -/
def Evs (w : World) (A : Option Addr) (l : List Ev) : Prop :=
  0 < l.length → ∃ b o, A = some ⟨b, o, none⟩ ∧ ∀ (j : Nat) (x : Ev), l[j]? = some x → w.cell? ⟨b, o + j * 2, none⟩ = some (.string x.h) ∧ w.cell? ⟨b, o + j * 2 + 1, none⟩ = some (.int .i64 x.y)
theorem Evs.lt {w : World} {A : Option Addr} {l : List Ev} (h : Evs w A l) (hn : 0 < l.length) (a : Addr) (ha : A = some a) : a.block < w.heap.size := by
  obtain ⟨b, o, rfl, hc⟩ := h hn
  injection ha with ha
  subst ha
  exact World.block_lt_of_cell? w ⟨b, o + 0 * 2, none⟩ (hc 0 _ (List.getElem?_eq_getElem hn)).1
theorem Evs.kept {w w' : World} {A : Option Addr} {l : List Ev} (h : Evs w A l) (hb : 0 < l.length → ∀ a, A = some a → w'.heap[a.block]? = w.heap[a.block]?) : Evs w' A l := fun hn => by
  obtain ⟨b, o, rfl, hc⟩ := h hn
  have e := hb hn _ rfl
  refine ⟨b, o, rfl, fun j v hj => ?_⟩
  obtain ⟨h1, h2⟩ := hc j v hj
  exact ⟨(World.cell?_of_block (a := ⟨b, o + j * 2, none⟩) e).trans h1, (World.cell?_of_block (a := ⟨b, o + j * 2 + 1, none⟩) e).trans h2⟩
theorem Evs.below {w w' : World} {A : Option Addr} {l : List Ev} (h : Evs w A l) (hb : Below w.heap.size w w') : Evs w' A l :=
  h.kept fun hn a ha => hb.block _ (h.lt hn a ha)
theorem Evs.nil (w : World) (A : Option Addr) : Evs w A [] := fun h => absurd h (Nat.not_lt_zero _)
theorem Evs.at_ {w : World} {A : Option Addr} {l : List Ev} (h : Evs w A l) {j : Nat} (hj : j < l.length) : ∃ b o x, A = some ⟨b, o, none⟩ ∧ l[j]? = some x ∧ w.cell? ⟨b, o + j * 2, none⟩ = some (.string x.h) ∧ w.cell? ⟨b, o + j * 2 + 1, none⟩ = some (.int .i64 x.y) := by
  obtain ⟨b, o, rfl, hc⟩ := h (by omega)
  exact ⟨b, o, _, rfl, List.getElem?_eq_getElem hj, hc j _ (List.getElem?_eq_getElem hj)⟩
theorem Own.nil (w : World) (B : Nat) : Own w B none 0 [] := ⟨World.ownsRow_nil w B 48 2, fun x hx => by cases hx⟩
/-- The cells of a change: the table, the command, the events. -/
abbrev chC (A : Option Addr) (c : Nat) (t : Tl) (m : Cm) (B : Option Addr) (e : Nat) (es : List Ev) : Array Value :=
  #[.slice A t.rs.length c, .int .i64 t.ty, .string t.ho, .int .u32 t.ge, .bool t.ap, .int .i64 m.op, .int .i64 m.lu, .string m.ho, .int .i64 m.lb, .int .i64 m.bl, .string m.da, .bool m.fu, .slice m.rA m.rn m.rc, .int .u64 m.ke, .int .u64 m.nk, .int .u64 m.ot, .int .i64 m.ty, .bool m.ig, .int .i64 m.ap, .slice B es.length e]
/-- The first number at which a test holds, or -1. -/
def findQ (q : Rg → Bool) (l : List Rg) : Int := if l.any q then (l.findIdx q : Nat) else -1
theorem any_take (q : Rg → Bool) (l : List Rg) (k : Nat) (x : Rg) (hx : l[k]? = some x) : (l.take (k + 1)).any q = ((l.take k).any q || q x) := by
  obtain ⟨hk, rfl⟩ := List.getElem?_eq_some_iff.1 hx
  rw [List.take_succ_eq_append_getElem hk, List.any_append]
  simp only [List.any_cons, List.any_nil, Bool.or_false]
theorem findQ_here {q : Rg → Bool} {l : List Rg} {k : Nat} {x : Rg} (hp : (l.take k).any q = false) (hx : l[k]? = some x) (he : q x = true) : findQ q l = k := by
  obtain ⟨hk, rfl⟩ := List.getElem?_eq_some_iff.1 hx
  have hr : l.any q = true := List.any_eq_true.2 ⟨_, List.getElem_mem hk, he⟩
  have hi : l.findIdx q = k := by
    rw [List.findIdx_eq hk]
    refine ⟨he, fun j hj => ?_⟩
    have := (List.any_eq_false.1 hp) l[j] (by rw [List.mem_take_iff_getElem]; exact ⟨j, by omega, rfl⟩)
    simpa using this
  unfold findQ
  rw [if_pos hr, hi]
theorem findQ_none {q : Rg → Bool} {l : List Rg} (hp : l.any q = false) : findQ q l = -1 := by
  unfold findQ
  rw [if_neg (by rw [hp]; decide)]
theorem findQ_ge (q : Rg → Bool) (l : List Rg) : decide (0 ≤ findQ q l) = l.any q := by
  unfold findQ
  cases l.any q with
  | true => simp
  | false => simp
theorem findQ_some {q : Rg → Bool} {l : List Rg} (h : l.any q = true) : ∃ k x, findQ q l = (k : Nat) ∧ l[k]? = some x ∧ q x = true ∧ k = l.findIdx q := by
  have hlt : l.findIdx q < l.length := List.findIdx_lt_length.2 (List.any_eq_true.1 h)
  exact ⟨l.findIdx q, l[l.findIdx q], by unfold findQ; rw [if_pos h], List.getElem?_eq_getElem hlt, List.findIdx_getElem, rfl⟩
/-- The test: is it this host? -/
abbrev isH (h : ByteArray) : Rg → Bool := fun r => eqS r.h h
/-- .. another one than who asks? -/
abbrev isO (m : Cm) : Rg → Bool := fun r => !eqS r.h m.ho
def shB (n : Int) : Bool := decide (n = 5 ∨ n = 6)
def allB (t : Tl) (m : Cm) : Bool := decide (m.ot = 0) && shB t.ty
/-- .. one that a preempt takes away? -/
abbrev isR (t : Tl) (m : Cm) : Rg → Bool := fun r => !eqS r.h m.ho && (decide (r.k = m.ot) || allB t m)
set_option maxHeartbeats 400000 in
theorem idxClosure_any (x : Rg) (hs : ByteArray) (g : Nat) (w : World) (hc : w.cell? ⟨g, 0, none⟩ = some (.string hs)) :
    Calls Tryd.prog 64 #[rgV x, .pointer (some ⟨g, 0, none⟩)] w fun e w' => e = .returned (.bool (isH hs x)) ∧ Below w.heap.size w w' := by
  have hlt := World.block_lt_of_cell? w ⟨g, 0, none⟩ hc
  have he : (x.h.toList == hs.toList) = isH hs x := rfl
  generalize isH hs x = r at he
  go_enter Tryd.func64, Tryd.ntmps64
  go_wp2_with (fail)
  go_ret
  exact ⟨rfl, (Below.refl _ _).alloc (Nat.le_refl _) _⟩
theorem neS (a b : ByteArray) : (a.toList != b.toList) = !eqS a b := rfl
set_option maxHeartbeats 400000 in
theorem shared_any (n : Int) (w : World) : Calls Tryd.prog 48 #[.int .i64 n] w fun e w' => e = .returned (.bool (shB n)) ∧ w = w' := by
  have hf : shB n = decide (n = 5 ∨ n = 6) := rfl
  generalize shB n = r at hf
  cases e1 : (n == 5) with
  | true =>
    obtain rfl : r = true := by rw [hf]; exact decide_eq_true (by have := of_decide_eq_true ((int_beq n 5).symm.trans e1); omega)
    clear hf
    go_enter Tryd.func48, Tryd.ntmps48
    go_wp2_with (fail)
    go_ret
    exact ⟨rfl, rfl⟩
  | false =>
    have e2 : (n == 6) = r := by
      have a1 := of_decide_eq_false ((int_beq n 5).symm.trans e1)
      rw [hf, int_beq]
      by_cases h : n = 6
      · rw [decide_eq_true h, decide_eq_true (by omega)]
      · rw [decide_eq_false h, decide_eq_false (by omega)]
    clear hf
    go_enter Tryd.func48, Tryd.ntmps48
    go_wp2_with (fail)
    go_ret
    exact ⟨rfl, rfl⟩
end Go.Proofs.YthedonkjnfeajaaDoor
