/- Registrations and tables in memory; who is registered, by the program's own way. -/
import Derived.Test.YthedonkjnfeajaaDoorChecked
import Derived.Test.YthedonkjnfeajaaDoorDevMem
import Derived.ProofKit
import Derived.StillTailTactics
import Derived.Deep.RegionHeld3
import Derived.Laws.OwnMore
import Derived.Laws.IdiomCopy
import Derived.Maps.AppendAt
import Derived.Deep.Cut
import Derived.Deep.QuietTactic
import Derived.BigQuiet
import Derived.BigRegion
import Derived.Deep.RegionLaw
namespace Go.Proofs.YthedonkjnfeajaaDoor
open Go.RowKit
/-- A registration: whose, with which key. -/
structure Rg where
  h : ByteArray
  k : Int
abbrev rgV (x : Rg) : Value := .agg #[.string x.h, .int .u64 x.k]
/-- Registrations in memory. -/
def Rgs (w : World) (A : Option Addr) (l : List Rg) : Prop :=
  0 < l.length → ∃ b o, A = some ⟨b, o, none⟩ ∧ ∀ (j : Nat) (x : Rg), l[j]? = some x → x.h.size ≤ maxLen ∧ w.cell? ⟨b, o + j * 2, none⟩ = some (.string x.h) ∧ w.cell? ⟨b, o + j * 2 + 1, none⟩ = some (.int .u64 x.k)
theorem Rgs.kept {w w' : World} {A : Option Addr} {l : List Rg} (h : Rgs w A l) (hb : 0 < l.length → ∀ a, A = some a → w'.heap[a.block]? = w.heap[a.block]?) : Rgs w' A l := fun hn => by
  obtain ⟨b, o, rfl, hc⟩ := h hn
  have e := hb hn _ rfl
  refine ⟨b, o, rfl, fun j v hj => ?_⟩
  obtain ⟨h0, h1, h2⟩ := hc j v hj
  exact ⟨h0, (World.cell?_of_block (a := ⟨b, o + j * 2, none⟩) e).trans h1, (World.cell?_of_block (a := ⟨b, o + j * 2 + 1, none⟩) e).trans h2⟩
theorem Rgs.lt {w : World} {A : Option Addr} {l : List Rg} (h : Rgs w A l) (hn : 0 < l.length) (a : Addr) (ha : A = some a) : a.block < w.heap.size := by
  obtain ⟨b, o, rfl, hc⟩ := h hn
  injection ha with ha
  subst ha
  exact World.block_lt_of_cell? w ⟨b, o + 0 * 2, none⟩ (hc 0 _ (List.getElem?_eq_getElem hn)).2.1
theorem Rgs.below {w w' : World} {A : Option Addr} {l : List Rg} (h : Rgs w A l) (hb : Below w.heap.size w w') : Rgs w' A l :=
  h.kept fun hn a ha => hb.block _ (h.lt hn a ha)
theorem Rgs.at_ {w : World} {A : Option Addr} {l : List Rg} (h : Rgs w A l) {j : Nat} (hj : j < l.length) : ∃ b o x, A = some ⟨b, o, none⟩ ∧ l[j]? = some x ∧ x.h.size ≤ maxLen ∧ w.cell? ⟨b, o + j * 2, none⟩ = some (.string x.h) ∧ w.cell? ⟨b, o + j * 2 + 1, none⟩ = some (.int .u64 x.k) := by
  obtain ⟨b, o, rfl, hc⟩ := h (by omega)
  exact ⟨b, o, _, rfl, List.getElem?_eq_getElem hj, hc j _ (List.getElem?_eq_getElem hj)⟩
theorem Rgs.nil (w : World) (A : Option Addr) : Rgs w A [] := fun h => absurd h (Nat.not_lt_zero _)
/-- Are two texts alike? -/
def eqS (a b : ByteArray) : Bool := a.toList == b.toList
/-- Is a host registered? -/
def regB (l : List Rg) (h : ByteArray) : Bool := l.any fun r => eqS r.h h
theorem regB_take (l : List Rg) (h : ByteArray) (k : Nat) (x : Rg) (hx : l[k]? = some x) : regB (l.take (k + 1)) h = (regB (l.take k) h || eqS x.h h) := by
  obtain ⟨hk, rfl⟩ := List.getElem?_eq_some_iff.1 hx
  unfold regB
  rw [List.take_succ_eq_append_getElem hk, List.any_append]
  simp only [List.any_cons, List.any_nil, Bool.or_false]
/-- The first number at which a host stands, or -1. -/
def findR (l : List Rg) (h : ByteArray) : Int := if regB l h then (l.findIdx fun r => eqS r.h h : Nat) else -1
theorem findR_here {l : List Rg} {h : ByteArray} {k : Nat} {x : Rg} (hp : regB (l.take k) h = false) (hx : l[k]? = some x) (he : eqS x.h h = true) : findR l h = k := by
  obtain ⟨hk, rfl⟩ := List.getElem?_eq_some_iff.1 hx
  have hr : regB l h = true := by unfold regB; exact List.any_eq_true.2 ⟨_, List.getElem_mem hk, he⟩
  have hi : (l.findIdx fun r => eqS r.h h) = k := by
    rw [List.findIdx_eq hk]
    refine ⟨he, fun j hj => ?_⟩
    have := (List.any_eq_false.1 hp) l[j] (by rw [List.mem_take_iff_getElem]; exact ⟨j, by omega, rfl⟩)
    simpa using this
  unfold findR
  rw [if_pos hr, hi]
theorem findR_none {l : List Rg} {h : ByteArray} (hp : regB l h = false) : findR l h = -1 := by
  unfold findR
  rw [if_neg (by rw [hp]; decide)]
theorem findR_ge (l : List Rg) (h : ByteArray) : decide (0 ≤ findR l h) = regB l h := by
  unfold findR
  cases regB l h with
  | true => simp
  | false => simp
/-- A table: its registrations, what is reserved and for whom, its number, whether it is kept. -/
structure Tl where
  rs : List Rg
  ty : Int
  ho : ByteArray
  ge : Int
  ap : Bool
abbrev tlC (A : Option Addr) (c : Nat) (t : Tl) : Array Value := #[.slice A t.rs.length c, .int .i64 t.ty, .string t.ho, .int .u32 t.ge, .bool t.ap]
abbrev tlV (A : Option Addr) (c : Nat) (t : Tl) : Value := .agg (tlC A c t)
structure Tl.Wf (t : Tl) : Prop where
  ty1 : -9223372036854775808 ≤ t.ty
  ty2 : t.ty ≤ 9223372036854775807
  ho : t.ho.size ≤ maxLen
  ln : t.rs.length ≤ maxLen
/-- The box of a table that came in by value. -/
theorem tl_box (w : World) (A : Option Addr) (c : Nat) (t : Tl) : ∀ v, v = w.alloc (.cells (tlC A c t) 27) → Blk v w.heap.size 27 (tlC A c t) ∧ Below w.heap.size w v ∧ v.heap.size = w.heap.size + 1 := by
  rintro v rfl
  exact ⟨Blk.new w _ _, (Below.refl w.heap.size w).alloc (Nat.le_refl _) _, by simp⟩
theorem tl_box_s (w : World) (A : Option Addr) (c : Nat) (t : Tl) (s : ByteArray) : ∀ v, v = (w.alloc (.cells (tlC A c t) 27)).alloc (.cells #[.string s] 9) → Blk v w.heap.size 27 (tlC A c t) ∧ Blk v (w.heap.size + 1) 9 #[.string s] ∧ Below w.heap.size w v := by
  rintro v rfl
  refine ⟨(Blk.new w _ _).alloc _, ?_, ((Below.refl w.heap.size w).alloc (Nat.le_refl _) _).alloc (by simp) _⟩
  have := Blk.new (w.alloc (.cells (tlC A c t) 27)) 9 #[.string s]
  simpa using this
end Go.Proofs.YthedonkjnfeajaaDoor
