/- A change of a table in memory; registrations found by any test. A change's readers: who is another one, who is taken away. Registrations found by the code's own tests. A change's readers: is who asks registered, is the reservation taken over. A change's readers: is the reservation taken over. -/
import Derived.Test.YtgekadfkokkapaaDoorPk02
import Derived.Test.YtgekadfkokkapaaDoorPk03
import Derived.Test.YtgekadfkokkapaaDoorPk04
namespace Go.Proofs.YtgekadfkokkapaaDoor
open Go.RowKit
/-- A command. -/
structure Cm where
  op : Int
  lu : Int
  ho : ByteArray
  lb : Int
  bl : Int
  da : ByteArray
  fu : Bool
  rA : Option Addr
  rn : Nat
  rc : Nat
  ke : Int
  nk : Int
  ot : Int
  ty : Int
  ig : Bool
  ap : Int
abbrev cmC (c : Cm) : Array Value := #[.int .i64 c.op, .int .i64 c.lu, .string c.ho, .int .i64 c.lb, .int .i64 c.bl, .string c.da, .bool c.fu, .slice c.rA c.rn c.rc, .int .u64 c.ke, .int .u64 c.nk, .int .u64 c.ot, .int .i64 c.ty, .bool c.ig, .int .i64 c.ap]
abbrev cmV (c : Cm) : Value := .agg (cmC c)
/-- Who is told, and why. -/
structure Ev where
  h : ByteArray
  y : Int
def evCells : List Ev → List Value
  | [] => []
  | x :: l => .string x.h :: .int .i64 x.y :: evCells l
theorem evCells_append : ∀ a b : List Ev, evCells (a ++ b) = evCells a ++ evCells b
  | [], _ => rfl
  | x :: a, b => by show _ :: _ :: evCells (a ++ b) = _; rw [evCells_append a b]; rfl
theorem evCells_get : ∀ {l : List Ev} {j : Nat} {x : Ev}, l[j]? = some x → (evCells l)[j * 2]? = some (.string x.h) ∧ (evCells l)[j * 2 + 1]? = some (.int .i64 x.y)
  | y :: l, 0, x, h => by
    obtain rfl : y = x := by simpa using h
    exact ⟨rfl, rfl⟩
  | y :: l, j + 1, x, h => by
    have := evCells_get (l := l) (j := j) (x := x) (by simpa using h)
    rw [show (j + 1) * 2 = j * 2 + 1 + 1 by omega, show j * 2 + 1 + 1 + 1 = (j * 2 + 1) + 1 + 1 by omega]
    exact ⟨by simpa [evCells] using this.1, by simpa [evCells] using this.2⟩
theorem evCells_one : ∀ {l : List Ev}, ∀ u ∈ evCells l, u.oneCell' = true
  | [], u, h => by cases h
  | x :: l, u, h => by
    rcases List.mem_cons.1 h with rfl | h
    · rfl
    · rcases List.mem_cons.1 h with rfl | h
      · rfl
      · exact evCells_one u h
/-- Events in memory. -/
def Evs (w : World) (A : Option Addr) (l : List Ev) : Prop :=
  0 < l.length → ∃ b o, A = some ⟨b, o, none⟩ ∧ ∀ (j : Nat) (x : Ev), l[j]? = some x → w.cell? ⟨b, o + j * 2, none⟩ = some (.string x.h) ∧ w.cell? ⟨b, o + j * 2 + 1, none⟩ = some (.int .i64 x.y)
theorem Evs.lt {w : World} {A : Option Addr} {l : List Ev} (h : Evs w A l) (hn : 0 < l.length) (a : Addr) (ha : A = some a) : a.block < w.heap.size := by
  obtain ⟨b, o, rfl, hc⟩ := h hn
  injection ha with ha
  subst ha
  exact World.block_lt_of_cell? w ⟨b, o + 0 * 2, none⟩ (hc 0 _ (List.getElem?_eq_getElem hn)).1
theorem Evs.kept {w w' : World} {A : Option Addr} {l : List Ev} (h : Evs w A l) (hb : 0 < l.length → ∀ a, A = some a → w'.heap[a.block]? = w.heap[a.block]?) : Evs w' A l := fun hn => by
  obtain ⟨b, o, rfl, hc⟩ := h hn
  have e := hb hn _ rfl
  refine ⟨b, o, rfl, fun j v hj => ?_⟩
  obtain ⟨h1, h2⟩ := hc j v hj
  exact ⟨(World.cell?_of_block (a := ⟨b, o + j * 2, none⟩) e).trans h1, (World.cell?_of_block (a := ⟨b, o + j * 2 + 1, none⟩) e).trans h2⟩
theorem Evs.below {w w' : World} {A : Option Addr} {l : List Ev} (h : Evs w A l) (hb : Below w.heap.size w w') : Evs w' A l :=
  h.kept fun hn a ha => hb.block _ (h.lt hn a ha)
theorem Evs.nil (w : World) (A : Option Addr) : Evs w A [] := fun h => absurd h (Nat.not_lt_zero _)
theorem Evs.at_ {w : World} {A : Option Addr} {l : List Ev} (h : Evs w A l) {j : Nat} (hj : j < l.length) : ∃ b o x, A = some ⟨b, o, none⟩ ∧ l[j]? = some x ∧ w.cell? ⟨b, o + j * 2, none⟩ = some (.string x.h) ∧ w.cell? ⟨b, o + j * 2 + 1, none⟩ = some (.int .i64 x.y) := by
  obtain ⟨b, o, rfl, hc⟩ := h (by omega)
  exact ⟨b, o, _, rfl, List.getElem?_eq_getElem hj, hc j _ (List.getElem?_eq_getElem hj)⟩
/-- Events of one's own. -/
def OwnE (w : World) (B : Nat) (A : Option Addr) (c : Nat) (l : List Ev) : Prop := w.ownsRow B 48 2 (.slice A l.length c) l.length (evCells l)
theorem OwnE.evs {w : World} {B : Nat} {A : Option Addr} {c : Nat} {l : List Ev} (h : OwnE w B A c l) : Evs w A l := fun hn => by
  obtain ⟨g, cur, rfl, hg, ht⟩ := own_some h hn
  refine ⟨g, 0, rfl, fun j r hj => ?_⟩
  have hlt := (List.getElem?_eq_some_iff.1 hj).1
  obtain ⟨g0, g1⟩ := evCells_get hj
  have key : ∀ i v, i < l.length * 2 → (evCells l)[i]? = some v → cur[i]? = some v := fun i v hi hv => by
    rw [← ht, List.getElem?_take, if_pos (by omega)] at hv
    simpa using hv
  exact ⟨by rw [Nat.zero_add, hg.cell]; exact key _ _ (by omega) g0, by rw [Nat.zero_add, hg.cell]; exact key _ _ (by omega) g1⟩
theorem OwnE.below {w w' : World} {B : Nat} {A : Option Addr} {c : Nat} {l : List Ev} (h : OwnE w B A c l) (hb : Below w.heap.size w w') : OwnE w' B A c l := own_keep' h hb
theorem OwnE.nil (w : World) (B : Nat) : OwnE w B none 0 [] := World.ownsRow_nil w B 48 2
theorem Own.nil (w : World) (B : Nat) : Own w B none 0 [] := ⟨World.ownsRow_nil w B 57 2, fun x hx => by cases hx⟩
/-- The cells of a change: the table, the command, the events. -/
abbrev chC (A : Option Addr) (c : Nat) (t : Tl) (m : Cm) (B : Option Addr) (e : Nat) (es : List Ev) : Array Value :=
  #[.slice A t.rs.length c, .int .i64 t.ty, .string t.ho, .int .u32 t.ge, .bool t.ap, .int .i64 m.op, .int .i64 m.lu, .string m.ho, .int .i64 m.lb, .int .i64 m.bl, .string m.da, .bool m.fu, .slice m.rA m.rn m.rc, .int .u64 m.ke, .int .u64 m.nk, .int .u64 m.ot, .int .i64 m.ty, .bool m.ig, .int .i64 m.ap, .slice B es.length e]
/-- What the readers ask of a change. -/
structure ChAt (w : World) (p : Nat) (A : Option Addr) (c : Nat) (t : Tl) (m : Cm) (B : Option Addr) (e : Nat) (es : List Ev) : Prop where
  blk : Blk w p 64 (chC A c t m B e es)
  rgs : Rgs w A t.rs
theorem ChAt.below {w w' : World} {p : Nat} {A : Option Addr} {c : Nat} {t : Tl} {m : Cm} {B : Option Addr} {e : Nat} {es : List Ev} (h : ChAt w p A c t m B e es) (hb : Below w.heap.size w w') : ChAt w' p A c t m B e es :=
  ⟨h.blk.below hb h.blk.lt, h.rgs.below hb⟩
/-- The first number at which a test holds, or -1. -/
def findQ (q : Rg → Bool) (l : List Rg) : Int := if l.any q then (l.findIdx q : Nat) else -1
theorem any_take (q : Rg → Bool) (l : List Rg) (k : Nat) (x : Rg) (hx : l[k]? = some x) : (l.take (k + 1)).any q = ((l.take k).any q || q x) := by
  obtain ⟨hk, rfl⟩ := List.getElem?_eq_some_iff.1 hx
  rw [List.take_succ_eq_append_getElem hk, List.any_append]
  simp only [List.any_cons, List.any_nil, Bool.or_false]
theorem findQ_here {q : Rg → Bool} {l : List Rg} {k : Nat} {x : Rg} (hp : (l.take k).any q = false) (hx : l[k]? = some x) (he : q x = true) : findQ q l = k := by
  obtain ⟨hk, rfl⟩ := List.getElem?_eq_some_iff.1 hx
  have hr : l.any q = true := List.any_eq_true.2 ⟨_, List.getElem_mem hk, he⟩
  have hi : l.findIdx q = k := by
    rw [List.findIdx_eq hk]
    refine ⟨he, fun j hj => ?_⟩
    have := (List.any_eq_false.1 hp) l[j] (by rw [List.mem_take_iff_getElem]; exact ⟨j, by omega, rfl⟩)
    simpa using this
  unfold findQ
  rw [if_pos hr, hi]
theorem findQ_none {q : Rg → Bool} {l : List Rg} (hp : l.any q = false) : findQ q l = -1 := by
  unfold findQ
  rw [if_neg (by rw [hp]; decide)]
theorem findQ_ge (q : Rg → Bool) (l : List Rg) : decide (0 ≤ findQ q l) = l.any q := by
  unfold findQ
  cases l.any q with
  | true => simp
  | false => simp
theorem findQ_some {q : Rg → Bool} {l : List Rg} (h : l.any q = true) : ∃ k x, findQ q l = (k : Nat) ∧ l[k]? = some x ∧ q x = true ∧ k = l.findIdx q := by
  have hlt : l.findIdx q < l.length := List.findIdx_lt_length.2 (List.any_eq_true.1 h)
  exact ⟨l.findIdx q, l[l.findIdx q], by unfold findQ; rw [if_pos h], List.getElem?_eq_getElem hlt, List.findIdx_getElem, rfl⟩
/-- The test: is it this host? -/
abbrev isH (h : ByteArray) : Rg → Bool := fun r => eqS r.h h
/-- .. another one than who asks? -/
abbrev isO (m : Cm) : Rg → Bool := fun r => !eqS r.h m.ho
def shB (n : Int) : Bool := decide (n = 5 ∨ n = 6)
def allB (t : Tl) (m : Cm) : Bool := decide (m.ot = 0) && shB t.ty
/-- .. one that a preempt takes away? -/
abbrev isR (t : Tl) (m : Cm) : Rg → Bool := fun r => !eqS r.h m.ho && (decide (r.k = m.ot) || allB t m)
set_option maxHeartbeats 400000 in
theorem idxClosure_any (x : Rg) (hs : ByteArray) (g : Nat) (w : World) (hc : w.cell? ⟨g, 0, none⟩ = some (.string hs)) :
    Calls Tryd.prog 52 #[rgV x, .pointer (some ⟨g, 0, none⟩)] w fun e w' => e = .returned (.bool (isH hs x)) ∧ Below w.heap.size w w' := by
  have hlt := World.block_lt_of_cell? w ⟨g, 0, none⟩ hc
  have he : (x.h.toList == hs.toList) = isH hs x := rfl
  generalize isH hs x = r at he
  go_enter Tryd.func52, Tryd.ntmps52
  go_wp2_with (fail)
  go_ret
  exact ⟨rfl, (Below.refl _ _).alloc (Nat.le_refl _) _⟩
theorem neS (a b : ByteArray) : (a.toList != b.toList) = !eqS a b := rfl
set_option maxHeartbeats 400000 in
theorem shared_any (n : Int) (w : World) : Calls Tryd.prog 49 #[.int .i64 n] w fun e w' => e = .returned (.bool (shB n)) ∧ w = w' := by
  have hf : shB n = decide (n = 5 ∨ n = 6) := rfl
  generalize shB n = r at hf
  cases e1 : (n == 5) with
  | true =>
    obtain rfl : r = true := by rw [hf]; exact decide_eq_true (by have := of_decide_eq_true ((int_beq n 5).symm.trans e1); omega)
    clear hf
    go_enter Tryd.func49, Tryd.ntmps49
    go_wp2_with (fail)
    go_ret
    exact ⟨rfl, rfl⟩
  | false =>
    have e2 : (n == 6) = r := by
      have a1 := of_decide_eq_false ((int_beq n 5).symm.trans e1)
      rw [hf, int_beq]
      by_cases h : n = 6
      · rw [decide_eq_true h, decide_eq_true (by omega)]
      · rw [decide_eq_false h, decide_eq_false (by omega)]
    clear hf
    go_enter Tryd.func49, Tryd.ntmps49
    go_wp2_with (fail)
    go_ret
    exact ⟨rfl, rfl⟩
open Go.RowKit
abbrev regC (x : Rg) : Array Value := #[.string x.h, .int .u64 x.k]
/-- The box of a registration that came in by value. -/
theorem rg_box (w : World) (x : Rg) : ∀ v, v = w.alloc (.cells (regC x) 57) → Blk v w.heap.size 57 (regC x) ∧ Below w.heap.size w v ∧ v.heap.size = w.heap.size + 1 := by
  rintro v rfl
  exact ⟨Blk.new w _ _, (Below.refl w.heap.size w).alloc (Nat.le_refl _) _, by simp⟩
/-- The cells that the readers load. -/
structure ChR (w : World) (p : Nat) (A : Option Addr) (c : Nat) (t : Tl) (m : Cm) : Prop where
  rs : w.cell? ⟨p, 0, none⟩ = some (.slice A t.rs.length c)
  ty : w.cell? ⟨p, 1, none⟩ = some (.int .i64 t.ty)
  hh : w.cell? ⟨p, 2, none⟩ = some (.string t.ho)
  ge : w.cell? ⟨p, 3, none⟩ = some (.int .u32 t.ge)
  ap : w.cell? ⟨p, 4, none⟩ = some (.bool t.ap)
  ho : w.cell? ⟨p, 7, none⟩ = some (.string m.ho)
  ke : w.cell? ⟨p, 13, none⟩ = some (.int .u64 m.ke)
  nk : w.cell? ⟨p, 14, none⟩ = some (.int .u64 m.nk)
  ot : w.cell? ⟨p, 15, none⟩ = some (.int .u64 m.ot)
  mt : w.cell? ⟨p, 16, none⟩ = some (.int .i64 m.ty)
  ig : w.cell? ⟨p, 17, none⟩ = some (.bool m.ig)
  ma : w.cell? ⟨p, 18, none⟩ = some (.int .i64 m.ap)
theorem ChAt.r {w : World} {p : Nat} {A : Option Addr} {c : Nat} {t : Tl} {m : Cm} {B : Option Addr} {e : Nat} {es : List Ev} (h : ChAt w p A c t m B e es) : ChR w p A c t m :=
  ⟨h.blk.cell 0, h.blk.cell 1, h.blk.cell 2, h.blk.cell 3, h.blk.cell 4, h.blk.cell 7, h.blk.cell 13, h.blk.cell 14, h.blk.cell 15, h.blk.cell 16, h.blk.cell 17, h.blk.cell 18⟩
section
variable {w : World} {p : Nat} {A : Option Addr} {c : Nat} {t : Tl} {m : Cm} {B : Option Addr} {e : Nat} {es : List Ev}
theorem ChAt.rb {v : World} (h : ChAt w p A c t m B e es) (hb : Below w.heap.size w v) : ChR v p A c t m := (h.below hb).r
end
set_option maxHeartbeats 1000000 in
theorem isOther_any (x : Rg) (w : World) (p : Nat) (A : Option Addr) (c : Nat) (t : Tl) (m : Cm) (B : Option Addr) (e : Nat) (es : List Ev) (h : ChAt w p A c t m B e es) :
    Calls Tryd.prog 74 #[.pointer (some ⟨p, 0, none⟩), rgV x] w fun e w' => e = .returned (.bool (isO m x)) ∧ Below w.heap.size w w' := by
  obtain ⟨h1, h2, h3⟩ := rg_box w x _ rfl
  have HX := Lib.hid h1; have HB := Lib.hid h2
  have HR := Lib.hid (h.rb h2)
  have he := neS x.h m.ho
  have hq : (!eqS x.h m.ho) = isO m x := rfl
  rw [hq] at he
  generalize isO m x = r at he
  clear h1 h2 h3 hq h
  go_enter Tryd.func74, Tryd.ntmps74
  go_upto_region 1 with (fail)
  change Code.wp _ _ _ _ (w.alloc (.cells (regC x) 57))
  generalize w.alloc (.cells (regC x) 57) = w0 at *
  have c0 : w0.cell? ⟨w.heap.size, 0, none⟩ = some (.string x.h) := HX.out.cell 0
  have c7 := HR.out.ho
  go_quiet (fail)
  go_wp2_with (fail)
  go_ret
  exact ⟨by rw [← he]; rfl, below_drewN HB.out _⟩
set_option maxHeartbeats 1000000 in
theorem all_any (w : World) (p : Nat) (A : Option Addr) (c : Nat) (t : Tl) (m : Cm) (B : Option Addr) (e : Nat) (es : List Ev) (h : ChAt w p A c t m B e es) :
    Calls Tryd.prog 81 #[.pointer (some ⟨p, 0, none⟩)] w fun e w' => e = .returned (.bool (allB t m)) ∧ w = w' := by
  have hr := h.r
  have c1 := hr.ty
  have c15 := hr.ot
  have hf : allB t m = (decide (m.ot = 0) && shB t.ty) := rfl
  have HS := Lib.hid (fun v => shared_any t.ty v)
  generalize allB t m = r at hf
  clear h hr
  cases e1 : (m.ot == 0) with
  | true =>
    rw [(int_beq m.ot 0).symm.trans e1, Bool.true_and] at hf
    rw [← hf] at HS
    clear hf
    go_enter Tryd.func81, Tryd.ntmps81
    go_wp2_with (fail)
    refine (HS.out _).mono ?_; rintro e w1 ⟨rfl, rfl⟩
    go_wp2_with (fail)
    go_ret
    exact ⟨rfl, rfl⟩
  | false =>
    rw [(int_beq m.ot 0).symm.trans e1, Bool.false_and] at hf
    subst hf
    go_enter Tryd.func81, Tryd.ntmps81
    go_wp2_with (fail)
    go_ret
    exact ⟨rfl, rfl⟩
set_option maxHeartbeats 1000000 in
theorem removes_same (x : Rg) (w : World) (p : Nat) (A : Option Addr) (c : Nat) (t : Tl) (m : Cm) (B : Option Addr) (e : Nat) (es : List Ev) (h : ChAt w p A c t m B e es) (he : eqS x.h m.ho = true) :
    Calls Tryd.prog 77 #[.pointer (some ⟨p, 0, none⟩), rgV x] w fun e w' => e = .returned (.bool false) ∧ Below w.heap.size w w' := by
  obtain ⟨h1, h2, h3⟩ := rg_box w x _ rfl
  have HX := Lib.hid h1; have HB := Lib.hid h2; have HS := Lib.hid h3
  have HR := Lib.hid (h.below h2)
  have HE := Lib.hid (show isO m x = false by show (!eqS x.h m.ho) = false; rw [he]; rfl)
  clear he
  clear h1 h2 h3 h
  go_enter Tryd.func77, Tryd.ntmps77
  go_upto_region 1 with (fail)
  change Code.wp _ _ _ _ (w.alloc (.cells (regC x) 57))
  generalize w.alloc (.cells (regC x) 57) = w0 at *
  obtain ⟨C, hC0, hCl, hCi, hCm⟩ := class_of w0 (fun v => v.cell? ⟨w.heap.size, 0, none⟩ = some (.string x.h) ∧ v.cell? ⟨w.heap.size, 1, none⟩ = some (.int .u64 x.k) ∧ v.cell? ⟨p, 7, none⟩ = some (.string m.ho) ∧ v.cell? ⟨p, 15, none⟩ = some (.int .u64 m.ot)) (fun v hb => ⟨(HX.out.below hb HX.out.lt).cell 0, (HX.out.below hb HX.out.lt).cell 1, (HR.out.rb hb).ho, (HR.out.rb hb).ot⟩)
  have HC0 := Lib.hid hC0; have HL := Lib.hid hCl; have HCi := Lib.hid hCi; have HCm := Lib.hid hCm
  clear hC0 hCl hCi hCm
  have HO := Lib.hid (fun v (hv : C v) => isOther_any x v p A c t m B e es (HR.out.below (HCi.out v hv)))
  rw [HE.out] at HO
  refine wp_region_class C (by kernel_rfl) (by kernel_rfl) HC0.out ?_
  go_big_quiet_want
  go_big_quiet_op
  first | go_big_quiet_on | (refine ⟨_, fun _ _ => rfl, ?_⟩; go_big_quiet_on)
  go_big_quiet_want
  refine quiet_run (v := rgV x) (fun v hv => by obtain ⟨c0, c1, c7, c15⟩ := HL.out v hv; go_simp) ?_
  simp only [Act.put, List.setIfInBounds_toArray, List.set_cons_zero, List.set_cons_succ]
  go_big_quiet_on
  go_big_quiet_want
  refine quiet_call (f := 74) (args := #[.pointer (some ⟨p, 0, none⟩), rgV x]) (fun v _ => by go_simp) (fun v hv => (HO.out v hv).mono (fun e w' h => ⟨h.1, HCm.out v w' hv h.2⟩)) ?_
  simp only [Act.put, List.setIfInBounds_toArray, List.set_cons_zero, List.set_cons_succ]
  go_big_quiet_on
  go_big_quiet_want
  go_big_quiet_op
  first | go_big_quiet_on | (refine ⟨_, fun _ _ => rfl, ?_⟩; go_big_quiet_on)
  go_big_quiet_skip
  go_big_quiet_skip
  go_big_quiet_skip
  go_big_quiet_skip
  go_big_quiet_skip
  go_big_quiet_skip
  go_big_quiet_skip
  go_big_quiet_skip
  go_big_quiet_skip
  go_big_quiet_skip
  go_big_quiet_skip
  go_big_quiet_skip
  go_big_quiet_want
  go_big_quiet_op
  first | go_big_quiet_on | (refine ⟨_, fun _ _ => rfl, ?_⟩; go_big_quiet_on)
  go_big_quiet_want
  go_big_quiet_op
  first | go_big_quiet_on | (refine ⟨_, fun _ _ => rfl, ?_⟩; go_big_quiet_on)

  intro w9 hC9
  have HB9 := Lib.hid (HB.out.trans ((HCi.out w9 hC9).mono HB.out.size))
  clear hC9
  go_wp2_with (fail)
  go_ret
  exact ⟨rfl, HB9.out⟩
set_option maxHeartbeats 1000000 in
theorem removes_key (x : Rg) (w : World) (p : Nat) (A : Option Addr) (c : Nat) (t : Tl) (m : Cm) (B : Option Addr) (e : Nat) (es : List Ev) (h : ChAt w p A c t m B e es) (he : eqS x.h m.ho = false) (hk : (x.k == m.ot) = true) :
    Calls Tryd.prog 77 #[.pointer (some ⟨p, 0, none⟩), rgV x] w fun e w' => e = .returned (.bool true) ∧ Below w.heap.size w w' := by
  obtain ⟨h1, h2, h3⟩ := rg_box w x _ rfl
  have HX := Lib.hid h1; have HB := Lib.hid h2; have HS := Lib.hid h3
  have HR := Lib.hid (h.below h2)
  have HE := Lib.hid (show isO m x = true by show (!eqS x.h m.ho) = true; rw [he]; rfl)
  have HK := Lib.hid hk
  clear he hk
  clear h1 h2 h3 h
  go_enter Tryd.func77, Tryd.ntmps77
  go_upto_region 1 with (fail)
  change Code.wp _ _ _ _ (w.alloc (.cells (regC x) 57))
  generalize w.alloc (.cells (regC x) 57) = w0 at *
  obtain ⟨C, hC0, hCl, hCi, hCm⟩ := class_of w0 (fun v => v.cell? ⟨w.heap.size, 0, none⟩ = some (.string x.h) ∧ v.cell? ⟨w.heap.size, 1, none⟩ = some (.int .u64 x.k) ∧ v.cell? ⟨p, 7, none⟩ = some (.string m.ho) ∧ v.cell? ⟨p, 15, none⟩ = some (.int .u64 m.ot)) (fun v hb => ⟨(HX.out.below hb HX.out.lt).cell 0, (HX.out.below hb HX.out.lt).cell 1, (HR.out.rb hb).ho, (HR.out.rb hb).ot⟩)
  have HC0 := Lib.hid hC0; have HL := Lib.hid hCl; have HCi := Lib.hid hCi; have HCm := Lib.hid hCm
  clear hC0 hCl hCi hCm
  have HO := Lib.hid (fun v (hv : C v) => isOther_any x v p A c t m B e es (HR.out.below (HCi.out v hv)))
  rw [HE.out] at HO
  refine wp_region_class C (by kernel_rfl) (by kernel_rfl) HC0.out ?_
  go_big_quiet_want
  go_big_quiet_op
  first | go_big_quiet_on | (refine ⟨_, fun _ _ => rfl, ?_⟩; go_big_quiet_on)
  go_big_quiet_want
  refine quiet_run (v := rgV x) (fun v hv => by obtain ⟨c0, c1, c7, c15⟩ := HL.out v hv; go_simp) ?_
  simp only [Act.put, List.setIfInBounds_toArray, List.set_cons_zero, List.set_cons_succ]
  go_big_quiet_on
  go_big_quiet_want
  refine quiet_call (f := 74) (args := #[.pointer (some ⟨p, 0, none⟩), rgV x]) (fun v _ => by go_simp) (fun v hv => (HO.out v hv).mono (fun e w' h => ⟨h.1, HCm.out v w' hv h.2⟩)) ?_
  simp only [Act.put, List.setIfInBounds_toArray, List.set_cons_zero, List.set_cons_succ]
  go_big_quiet_on
  go_big_quiet_want
  go_big_quiet_op
  first | go_big_quiet_on | (refine ⟨_, fun _ _ => rfl, ?_⟩; go_big_quiet_on)
  go_big_quiet_want
  go_big_quiet_op
  first | go_big_quiet_on | (refine ⟨_, fun _ _ => rfl, ?_⟩; go_big_quiet_on)
  go_big_quiet_want
  refine quiet_run (v := .int .u64 x.k) (fun v hv => by obtain ⟨c0, c1, c7, c15⟩ := HL.out v hv; go_simp) ?_
  simp only [Act.put, List.setIfInBounds_toArray, List.set_cons_zero, List.set_cons_succ]
  go_big_quiet_on
  go_big_quiet_want
  go_big_quiet_op
  first | go_big_quiet_on | (refine ⟨_, fun _ _ => rfl, ?_⟩; go_big_quiet_on)
  go_big_quiet_want
  go_big_quiet_op
  first | go_big_quiet_on | (refine ⟨_, fun _ _ => rfl, ?_⟩; go_big_quiet_on)
  go_big_quiet_want
  go_big_quiet_op
  first | go_big_quiet_on | (refine ⟨_, fun _ _ => rfl, ?_⟩; go_big_quiet_on)
  go_big_quiet_want
  go_big_quiet_op
  first | go_big_quiet_on | (refine ⟨_, fun _ _ => rfl, ?_⟩; go_big_quiet_on)
  go_big_quiet_want
  refine quiet_run (v := .int .u64 m.ot) (fun v hv => by obtain ⟨c0, c1, c7, c15⟩ := HL.out v hv; go_simp) ?_
  simp only [Act.put, List.setIfInBounds_toArray, List.set_cons_zero, List.set_cons_succ]
  go_big_quiet_on
  go_big_quiet_want
  refine quiet_run (v := .bool true) (fun v hv => by have := HK.out; go_simp) ?_
  simp only [Act.put, List.setIfInBounds_toArray, List.set_cons_zero, List.set_cons_succ]
  go_big_quiet_on
  go_big_quiet_want
  go_big_quiet_op
  first | go_big_quiet_on | (refine ⟨_, fun _ _ => rfl, ?_⟩; go_big_quiet_on)
  go_big_quiet_skip
  go_big_quiet_skip
  go_big_quiet_want
  go_big_quiet_op
  first | go_big_quiet_on | (refine ⟨_, fun _ _ => rfl, ?_⟩; go_big_quiet_on)
  go_big_quiet_want
  go_big_quiet_op
  first | go_big_quiet_on | (refine ⟨_, fun _ _ => rfl, ?_⟩; go_big_quiet_on)
  go_big_quiet_want
  go_big_quiet_op
  first | go_big_quiet_on | (refine ⟨_, fun _ _ => rfl, ?_⟩; go_big_quiet_on)

  intro w9 hC9
  have HB9 := Lib.hid (HB.out.trans ((HCi.out w9 hC9).mono HB.out.size))
  clear hC9
  go_wp2_with (fail)
  go_ret
  exact ⟨rfl, HB9.out⟩
set_option maxHeartbeats 1000000 in
theorem removes_else (x : Rg) (w : World) (p : Nat) (A : Option Addr) (c : Nat) (t : Tl) (m : Cm) (B : Option Addr) (e : Nat) (es : List Ev) (h : ChAt w p A c t m B e es) (he : eqS x.h m.ho = false) (hk : (x.k == m.ot) = false) :
    Calls Tryd.prog 77 #[.pointer (some ⟨p, 0, none⟩), rgV x] w fun e w' => e = .returned (.bool (allB t m)) ∧ Below w.heap.size w w' := by
  obtain ⟨h1, h2, h3⟩ := rg_box w x _ rfl
  have HX := Lib.hid h1; have HB := Lib.hid h2; have HS := Lib.hid h3
  have HR := Lib.hid (h.below h2)
  have HE := Lib.hid (show isO m x = true by show (!eqS x.h m.ho) = true; rw [he]; rfl)
  have HK := Lib.hid hk
  clear he hk
  clear h1 h2 h3 h
  go_enter Tryd.func77, Tryd.ntmps77
  go_upto_region 1 with (fail)
  change Code.wp _ _ _ _ (w.alloc (.cells (regC x) 57))
  generalize w.alloc (.cells (regC x) 57) = w0 at *
  obtain ⟨C, hC0, hCl, hCi, hCm⟩ := class_of w0 (fun v => v.cell? ⟨w.heap.size, 0, none⟩ = some (.string x.h) ∧ v.cell? ⟨w.heap.size, 1, none⟩ = some (.int .u64 x.k) ∧ v.cell? ⟨p, 7, none⟩ = some (.string m.ho) ∧ v.cell? ⟨p, 15, none⟩ = some (.int .u64 m.ot)) (fun v hb => ⟨(HX.out.below hb HX.out.lt).cell 0, (HX.out.below hb HX.out.lt).cell 1, (HR.out.rb hb).ho, (HR.out.rb hb).ot⟩)
  have HC0 := Lib.hid hC0; have HL := Lib.hid hCl; have HCi := Lib.hid hCi; have HCm := Lib.hid hCm
  clear hC0 hCl hCi hCm
  have HO := Lib.hid (fun v (hv : C v) => isOther_any x v p A c t m B e es (HR.out.below (HCi.out v hv)))
  rw [HE.out] at HO
  have HA := Lib.hid (fun v (hv : C v) => all_any v p A c t m B e es (HR.out.below (HCi.out v hv)))
  obtain ⟨r, hr⟩ : ∃ r, allB t m = r := ⟨_, rfl⟩
  rw [hr] at HA
  have HRR := Lib.hid hr
  clear hr
  refine wp_region_class C (by kernel_rfl) (by kernel_rfl) HC0.out ?_
  go_big_quiet_want
  go_big_quiet_op
  first | go_big_quiet_on | (refine ⟨_, fun _ _ => rfl, ?_⟩; go_big_quiet_on)
  go_big_quiet_want
  refine quiet_run (v := rgV x) (fun v hv => by obtain ⟨c0, c1, c7, c15⟩ := HL.out v hv; go_simp) ?_
  simp only [Act.put, List.setIfInBounds_toArray, List.set_cons_zero, List.set_cons_succ]
  go_big_quiet_on
  go_big_quiet_want
  refine quiet_call (f := 74) (args := #[.pointer (some ⟨p, 0, none⟩), rgV x]) (fun v _ => by go_simp) (fun v hv => (HO.out v hv).mono (fun e w' h => ⟨h.1, HCm.out v w' hv h.2⟩)) ?_
  simp only [Act.put, List.setIfInBounds_toArray, List.set_cons_zero, List.set_cons_succ]
  go_big_quiet_on
  go_big_quiet_want
  go_big_quiet_op
  first | go_big_quiet_on | (refine ⟨_, fun _ _ => rfl, ?_⟩; go_big_quiet_on)
  go_big_quiet_want
  go_big_quiet_op
  first | go_big_quiet_on | (refine ⟨_, fun _ _ => rfl, ?_⟩; go_big_quiet_on)
  go_big_quiet_want
  refine quiet_run (v := .int .u64 x.k) (fun v hv => by obtain ⟨c0, c1, c7, c15⟩ := HL.out v hv; go_simp) ?_
  simp only [Act.put, List.setIfInBounds_toArray, List.set_cons_zero, List.set_cons_succ]
  go_big_quiet_on
  go_big_quiet_want
  go_big_quiet_op
  first | go_big_quiet_on | (refine ⟨_, fun _ _ => rfl, ?_⟩; go_big_quiet_on)
  go_big_quiet_want
  go_big_quiet_op
  first | go_big_quiet_on | (refine ⟨_, fun _ _ => rfl, ?_⟩; go_big_quiet_on)
  go_big_quiet_want
  go_big_quiet_op
  first | go_big_quiet_on | (refine ⟨_, fun _ _ => rfl, ?_⟩; go_big_quiet_on)
  go_big_quiet_want
  go_big_quiet_op
  first | go_big_quiet_on | (refine ⟨_, fun _ _ => rfl, ?_⟩; go_big_quiet_on)
  go_big_quiet_want
  refine quiet_run (v := .int .u64 m.ot) (fun v hv => by obtain ⟨c0, c1, c7, c15⟩ := HL.out v hv; go_simp) ?_
  simp only [Act.put, List.setIfInBounds_toArray, List.set_cons_zero, List.set_cons_succ]
  go_big_quiet_on
  go_big_quiet_want
  refine quiet_run (v := .bool false) (fun v hv => by have := HK.out; go_simp) ?_
  simp only [Act.put, List.setIfInBounds_toArray, List.set_cons_zero, List.set_cons_succ]
  go_big_quiet_on
  go_big_quiet_want
  go_big_quiet_op
  first | go_big_quiet_on | (refine ⟨_, fun _ _ => rfl, ?_⟩; go_big_quiet_on)
  go_big_quiet_want
  go_big_quiet_op
  first | go_big_quiet_on | (refine ⟨_, fun _ _ => rfl, ?_⟩; go_big_quiet_on)
  go_big_quiet_want
  refine quiet_call (f := 81) (args := #[.pointer (some ⟨p, 0, none⟩)]) (fun v _ => by go_simp) (fun v hv => (HA.out v hv).mono (fun e w' h => ⟨h.1, h.2 ▸ hv⟩)) ?_
  simp only [Act.put, List.setIfInBounds_toArray, List.set_cons_zero, List.set_cons_succ]
  go_big_quiet_on
  go_big_quiet_want
  go_big_quiet_op
  first | go_big_quiet_on | (refine ⟨_, fun _ _ => rfl, ?_⟩; go_big_quiet_on)
  go_big_quiet_want
  go_big_quiet_op
  first | go_big_quiet_on | (refine ⟨_, fun _ _ => rfl, ?_⟩; go_big_quiet_on)
  go_big_quiet_want
  go_big_quiet_op
  first | go_big_quiet_on | (refine ⟨_, fun _ _ => rfl, ?_⟩; go_big_quiet_on)

  intro w9 hC9
  have HB9 := Lib.hid (HB.out.trans ((HCi.out w9 hC9).mono HB.out.size))
  clear hC9
  go_wp2_with (fail)
  go_ret
  exact ⟨by rw [HRR.out]; rfl, HB9.out⟩
theorem removes_any (x : Rg) (w : World) (p : Nat) (A : Option Addr) (c : Nat) (t : Tl) (m : Cm) (B : Option Addr) (e : Nat) (es : List Ev) (h : ChAt w p A c t m B e es) :
    Calls Tryd.prog 77 #[.pointer (some ⟨p, 0, none⟩), rgV x] w fun e w' => e = .returned (.bool (isR t m x)) ∧ Below w.heap.size w w' := by
  cases he : eqS x.h m.ho with
  | true =>
    rw [show isR t m x = false by show (!eqS x.h m.ho && _) = false; rw [he]; rfl]
    exact removes_same x w p A c t m B e es h he
  | false =>
    cases hk : (x.k == m.ot) with
    | true =>
      rw [show isR t m x = true by show (!eqS x.h m.ho && (decide (x.k = m.ot) || _)) = true; rw [he, (int_beq _ _).symm.trans hk]; rfl]
      exact removes_key x w p A c t m B e es h he hk
    | false =>
      rw [show isR t m x = allB t m by show (!eqS x.h m.ho && (decide (x.k = m.ot) || _)) = _; rw [he, (int_beq _ _).symm.trans hk]; rfl]
      exact removes_else x w p A c t m B e es h he hk
open Go.RowKit
set_option maxHeartbeats 1000000 in
theorem index_host (A : Option Addr) (c : Nat) (l : List Rg) (hs : ByteArray) (g : Nat) (w : World) (hl : Rgs w A l) (hm : l.length ≤ maxLen) (h : w.cell? ⟨g, 0, none⟩ = some (.string hs)) :
    Calls Tryd.prog 51 #[.slice A l.length c, .func (.func 52) #[] #[.pointer (some ⟨g, 0, none⟩)]] w fun e w' => e = .returned (.int .i64 (findQ (isH hs) l)) ∧ Below w.heap.size w w' := by
  unfold maxLen at hm
  have HL := Lib.hid hl
  have HQ := Lib.hid (fun v (hv : Below w.heap.size w v) (x : Rg) => idxClosure_any x hs g v ((hv.cell (p := ⟨g, 0, none⟩) (World.block_lt_of_cell? w _ h)).trans h))
  clear hl h
  obtain ⟨q, hq⟩ : ∃ q, q = (isH hs) := ⟨_, rfl⟩
  rw [← hq] at HQ
  rw [← hq]
  go_enter Tryd.func51, Tryd.ntmps51
  go_wp2
  go_loopw [8] (fun i wr => ∃ k : Nat, k ≤ l.length ∧ i = .int .i64 k ∧ Hid ((l.take k).any q = false) ∧ Hid (Below w.heap.size w wr)) (fun i _ => l.length - (intOf i).toNat)
  case atStart => exact ⟨0, Nat.zero_le _, rfl, Lib.hid rfl, Lib.hid (Below.refl _ _)⟩
  case round =>
    obtain ⟨k, hk, rfl, HR, HB⟩ := hrel
    by_cases hlt : k < l.length
    · obtain ⟨b, o, x, rfl, hx, hz, c0, c1⟩ := ((HL.out.below HB.out).at_ hlt)
      have HX := Lib.hid hx; clear hx
      cases he : q x with
      | true =>
        have HE := Lib.hid he; clear he
        go_wp2_with (fail)
        refine (HQ.out _ HB.out x).mono ?_; rintro e w1 ⟨rfl, hb1⟩
        rw [HE.out]
        have HB1 := Lib.hid (HB.out.trans (hb1.mono HB.out.size)); clear hb1
        go_wp2_with (fail)
        go_ret
        exact ⟨by rw [findQ_here HR.out HX.out HE.out]; rfl, HB1.out⟩
      | false =>
        have HE := Lib.hid he; clear he
        go_wp2_with (fail)
        refine (HQ.out _ HB.out x).mono ?_; rintro e w1 ⟨rfl, hb1⟩
        rw [HE.out]
        have HB1 := Lib.hid (HB.out.trans (hb1.mono HB.out.size)); clear hb1
        go_wp2_with (fail)
        go_roundw
        case rel => exact ⟨k + 1, by omega, by go_num, Lib.hid (by rw [any_take q l k x HX.out, HR.out, HE.out]; rfl), HB1⟩
        case measure => simp [intOf]; omega
    · obtain rfl : k = l.length := by omega
      go_wp2_with (fail)
      go_ret
      have := HR.out
      rw [List.take_length] at this
      exact ⟨by rw [findQ_none this]; rfl, HB.out⟩
set_option maxHeartbeats 1000000 in
theorem index_rem (A : Option Addr) (c : Nat) (l : List Rg) (p : Nat) (A1 : Option Addr) (c1 : Nat) (t : Tl) (m : Cm) (B1 : Option Addr) (e1 : Nat) (es : List Ev) (w : World) (hl : Rgs w A l) (hm : l.length ≤ maxLen) (h : ChAt w p A1 c1 t m B1 e1 es) :
    Calls Tryd.prog 51 #[.slice A l.length c, .func (.func 77) #[.pointer (some ⟨p, 0, none⟩)] #[]] w fun e w' => e = .returned (.int .i64 (findQ (isR t m) l)) ∧ Below w.heap.size w w' := by
  unfold maxLen at hm
  have HL := Lib.hid hl
  have HQ := Lib.hid (fun v (hv : Below w.heap.size w v) (x : Rg) => removes_any x v p A1 c1 t m B1 e1 es (h.below hv))
  clear hl h
  obtain ⟨q, hq⟩ : ∃ q, q = (isR t m) := ⟨_, rfl⟩
  rw [← hq] at HQ
  rw [← hq]
  go_enter Tryd.func51, Tryd.ntmps51
  go_wp2
  go_loopw [8] (fun i wr => ∃ k : Nat, k ≤ l.length ∧ i = .int .i64 k ∧ Hid ((l.take k).any q = false) ∧ Hid (Below w.heap.size w wr)) (fun i _ => l.length - (intOf i).toNat)
  case atStart => exact ⟨0, Nat.zero_le _, rfl, Lib.hid rfl, Lib.hid (Below.refl _ _)⟩
  case round =>
    obtain ⟨k, hk, rfl, HR, HB⟩ := hrel
    by_cases hlt : k < l.length
    · obtain ⟨b, o, x, rfl, hx, hz, c0, c1⟩ := ((HL.out.below HB.out).at_ hlt)
      have HX := Lib.hid hx; clear hx
      cases he : q x with
      | true =>
        have HE := Lib.hid he; clear he
        go_wp2_with (fail)
        refine (HQ.out _ HB.out x).mono ?_; rintro e w1 ⟨rfl, hb1⟩
        rw [HE.out]
        have HB1 := Lib.hid (HB.out.trans (hb1.mono HB.out.size)); clear hb1
        go_wp2_with (fail)
        go_ret
        exact ⟨by rw [findQ_here HR.out HX.out HE.out]; rfl, HB1.out⟩
      | false =>
        have HE := Lib.hid he; clear he
        go_wp2_with (fail)
        refine (HQ.out _ HB.out x).mono ?_; rintro e w1 ⟨rfl, hb1⟩
        rw [HE.out]
        have HB1 := Lib.hid (HB.out.trans (hb1.mono HB.out.size)); clear hb1
        go_wp2_with (fail)
        go_roundw
        case rel => exact ⟨k + 1, by omega, by go_num, Lib.hid (by rw [any_take q l k x HX.out, HR.out, HE.out]; rfl), HB1⟩
        case measure => simp [intOf]; omega
    · obtain rfl : k = l.length := by omega
      go_wp2_with (fail)
      go_ret
      have := HR.out
      rw [List.take_length] at this
      exact ⟨by rw [findQ_none this]; rfl, HB.out⟩
set_option maxHeartbeats 1000000 in
theorem contains_rem (A : Option Addr) (c : Nat) (l : List Rg) (p : Nat) (A1 : Option Addr) (c1 : Nat) (t : Tl) (m : Cm) (B1 : Option Addr) (e1 : Nat) (es : List Ev) (w : World) (hl : Rgs w A l) (hm : l.length ≤ maxLen) (h : ChAt w p A1 c1 t m B1 e1 es) :
    Calls Tryd.prog 76 #[.slice A l.length c, .func (.func 77) #[.pointer (some ⟨p, 0, none⟩)] #[]] w fun e w' => e = .returned (.bool (l.any (isR t m))) ∧ Below w.heap.size w w' := by
  have HF := Lib.hid (findQ_ge (isR t m) l)
  have HI := Lib.hid (index_rem A c l p A1 c1 t m B1 e1 es w hl hm h)
  clear hl hm h
  generalize findQ (isR t m) l = r at *
  go_enter Tryd.func76, Tryd.ntmps76
  go_wp2_with (fail)
  refine HI.out.mono ?_; rintro e w1 ⟨rfl, hb1⟩
  go_wp2_with (fail)
  go_ret
  exact ⟨by rw [← HF.out]; rfl, hb1⟩
set_option maxHeartbeats 1000000 in
theorem indexOf_any (A : Option Addr) (c : Nat) (l : List Rg) (hs : ByteArray) (w : World) (hl : Rgs w A l) (hm : l.length ≤ maxLen) :
    Calls Tryd.prog 35 #[.slice A l.length c, .string hs] w fun e w' => e = .returned (.int .i64 (findQ (isH hs) l)) ∧ Below w.heap.size w w' := by
  have hmf : ∀ (fn : Fn) (first cap : Array Value) (w : World), (Instr.makeFunc fn first cap).run Tryd.prog w = .ok (.func fn first cap) w := fun _ _ _ _ => rfl
  have HB := Lib.hid ((Below.refl w.heap.size w).alloc (Nat.le_refl _) (.cells #[.string hs] 9))
  have HS := Lib.hid (Blk.new w 9 #[.string hs])
  have HI := Lib.hid (index_host A c l hs w.heap.size _ (hl.below HB.out) hm (HS.out.cell 0))
  clear hl hm
  go_enter Tryd.func35, Tryd.ntmps35
  go_wp2_with (fail)
  refine HI.out.mono ?_; rintro e w1 ⟨rfl, hb1⟩
  go_wp2_with (fail)
  go_ret
  exact ⟨rfl, HB.out.trans (hb1.mono HB.out.size)⟩
/-- The key of a host, or 0. -/
def keyR (l : List Rg) (h : ByteArray) : Int := match l.find? (isH h) with | some r => r.k | none => 0
theorem keyR_none {l : List Rg} {h : ByteArray} (hp : regB l h = false) : keyR l h = 0 := by
  unfold keyR
  rw [List.find?_eq_none.2 (fun x hx => by have := (List.any_eq_false.1 hp) x hx; simpa using this)]
theorem keyR_at {l : List Rg} {h : ByteArray} {k : Nat} {x : Rg} (hx : l[k]? = some x) (hk : k = l.findIdx (isH h)) : keyR l h = x.k := by
  have hlt := (List.getElem?_eq_some_iff.1 hx).1
  have : l.find? (isH h) = some x := by rw [← hx, hk]; exact List.find?_eq_getElem?_findIdx ..
  unfold keyR
  rw [this]
set_option maxHeartbeats 1000000 in
theorem key_any (A : Option Addr) (c : Nat) (t : Tl) (hs : ByteArray) (w : World) (hl : Rgs w A t.rs) (hm : t.rs.length ≤ maxLen) :
    Calls Tryd.prog 16 #[tlV A c t, .string hs] w fun e w' => e = .returned (.int .u64 (keyR t.rs hs)) ∧ Below w.heap.size w w' := by
  obtain ⟨h1, h2, h3⟩ := tl_box w A c t _ rfl
  have HT := Lib.hid h1; have HB := Lib.hid h2
  have HL := Lib.hid (hl.below h2)
  have HI := Lib.hid (indexOf_any A c t.rs hs _ HL.out hm)
  unfold maxLen at hm
  clear h1 h2 h3 hl
  cases hr : regB t.rs hs with
  | false =>
    rw [findQ_none (q := isH hs) hr] at HI
    have HK := Lib.hid (keyR_none hr)
    clear hr
    go_enter Tryd.func16, Tryd.ntmps16
    go_upto_region 1 with (fail)
    change Code.wp _ _ _ _ (w.alloc (.cells (tlC A c t) 27))
    generalize w.alloc (.cells (tlC A c t) 27) = w0 at *
    have c0 : w0.cell? ⟨w.heap.size, 0, none⟩ = some (.slice A t.rs.length c) := HT.out.cell 0
    go_wp2_with (fail)
    refine HI.out.mono ?_; rintro e w1 ⟨rfl, hb1⟩
    go_wp2_with (fail)
    go_ret
    exact ⟨by rw [HK.out]; rfl, HB.out.trans (hb1.mono HB.out.size)⟩
  | true =>
    obtain ⟨k, x, hf, hx, _, hk⟩ := findQ_some (q := isH hs) hr
    rw [hf] at HI
    have HK := Lib.hid (keyR_at hx hk)
    have HX := Lib.hid hx
    have hlt := (List.getElem?_eq_some_iff.1 hx).1
    clear hr hf hx hk
    go_enter Tryd.func16, Tryd.ntmps16
    go_upto_region 1 with (fail)
    change Code.wp _ _ _ _ (w.alloc (.cells (tlC A c t) 27))
    generalize w.alloc (.cells (tlC A c t) 27) = w0 at *
    have c0 : w0.cell? ⟨w.heap.size, 0, none⟩ = some (.slice A t.rs.length c) := HT.out.cell 0
    go_wp2_with (fail)
    refine HI.out.mono ?_; rintro e w1 ⟨rfl, hb1⟩
    have c1 : w1.cell? ⟨w.heap.size, 0, none⟩ = some (.slice A t.rs.length c) := (HT.out.below hb1 HT.out.lt).cell 0
    obtain ⟨b, o, y, rfl, hy, hz, d0, d1⟩ := ((HL.out.below hb1).at_ hlt)
    obtain rfl : y = x := Option.some.inj (hy.symm.trans HX.out)
    have HB1 := Lib.hid (HB.out.trans (hb1.mono HB.out.size))
    clear hb1 hy
    have hki : (k : Int) < t.rs.length := by omega
    go_wp2_with (fail)
    go_ret
    exact ⟨by rw [HK.out]; rfl, HB1.out⟩
open Go.RowKit
def regdB (t : Tl) (m : Cm) : Bool := (m.ke != 0) && (m.ke == keyR t.rs m.ho)
/-- The class of worlds in which a change stands. -/
theorem class_ch {w0 : World} {p : Nat} {A : Option Addr} {c : Nat} {t : Tl} {m : Cm} {B : Option Addr} {e : Nat} {es : List Ev} (h : ChAt w0 p A c t m B e es) :
    ∃ C : World → Prop, C w0.drew ∧ (∀ v, C v → ChAt v p A c t m B e es) ∧ (∀ v, C v → Below w0.heap.size w0 v) ∧ (∀ v v', C v → Below v.heap.size v v' → C v') :=
  class_of w0 (fun v => ChAt v p A c t m B e es) (fun _ hb => h.below hb)
set_option maxHeartbeats 1000000 in
theorem isRegd_zero (w : World) (p : Nat) (A : Option Addr) (c : Nat) (t : Tl) (m : Cm) (B : Option Addr) (e : Nat) (es : List Ev) (h : ChAt w p A c t m B e es) (hn : (m.ke != 0) = false) :
    Calls Tryd.prog 70 #[.pointer (some ⟨p, 0, none⟩)] w fun e w' => e = .returned (.bool false) ∧ Below w.heap.size w w' := by
  have HN := Lib.hid hn
  clear hn
  have HCH := Lib.hid h
  clear h
  go_enter Tryd.func70, Tryd.ntmps70
  go_upto_region 1 with (fail)
  obtain ⟨C, hC0, hCl, hCi, hCm⟩ := class_ch HCH.out
  have HC0 := Lib.hid hC0; have HL := Lib.hid hCl; have HCi := Lib.hid hCi; have HCm := Lib.hid hCm
  clear hC0 hCl hCi hCm
  refine wp_region_class C (by kernel_rfl) (by kernel_rfl) HC0.out ?_
  go_big_quiet_want
  go_big_quiet_op
  first | go_big_quiet_on | (refine ⟨_, fun _ _ => rfl, ?_⟩; go_big_quiet_on)
  go_big_quiet_want
  go_big_quiet_op
  first | go_big_quiet_on | (refine ⟨_, fun _ _ => rfl, ?_⟩; go_big_quiet_on)
  go_big_quiet_want
  go_big_quiet_op
  first | go_big_quiet_on | (refine ⟨_, fun _ _ => rfl, ?_⟩; go_big_quiet_on)
  go_big_quiet_want
  go_big_quiet_op
  first | go_big_quiet_on | (refine ⟨_, fun _ _ => rfl, ?_⟩; go_big_quiet_on)
  go_big_quiet_want
  refine quiet_run (v := .int .u64 m.ke) (fun v hv => by have hr := (HL.out v hv).r; obtain ⟨c0, c1, c2, c3, c4, c7, c13, c14, c15, c16, c17, c18⟩ := hr; go_simp) ?_
  simp only [Act.put, List.setIfInBounds_toArray, List.set_cons_zero, List.set_cons_succ]
  go_big_quiet_on
  go_big_quiet_want
  refine quiet_run (v := .bool false) (fun v hv => by have := HN.out; go_simp) ?_
  simp only [Act.put, List.setIfInBounds_toArray, List.set_cons_zero, List.set_cons_succ]
  go_big_quiet_on
  go_big_quiet_want
  go_big_quiet_op
  first | go_big_quiet_on | (refine ⟨_, fun _ _ => rfl, ?_⟩; go_big_quiet_on)
  go_big_quiet_skip
  go_big_quiet_skip
  go_big_quiet_skip
  go_big_quiet_skip
  go_big_quiet_skip
  go_big_quiet_skip
  go_big_quiet_skip
  go_big_quiet_skip
  go_big_quiet_skip
  go_big_quiet_skip
  go_big_quiet_skip
  go_big_quiet_skip
  go_big_quiet_skip
  go_big_quiet_skip
  go_big_quiet_skip
  go_big_quiet_skip
  go_big_quiet_want
  go_big_quiet_op
  first | go_big_quiet_on | (refine ⟨_, fun _ _ => rfl, ?_⟩; go_big_quiet_on)
  go_big_quiet_want
  go_big_quiet_op
  first | go_big_quiet_on | (refine ⟨_, fun _ _ => rfl, ?_⟩; go_big_quiet_on)

  intro w9 hC9
  have HB9 := Lib.hid (HCi.out w9 hC9)
  clear hC9
  go_wp2_with (fail)
  go_ret
  exact ⟨rfl, HB9.out⟩
set_option maxHeartbeats 1000000 in
theorem isRegd_key (w : World) (p : Nat) (A : Option Addr) (c : Nat) (t : Tl) (m : Cm) (B : Option Addr) (e : Nat) (es : List Ev) (h : ChAt w p A c t m B e es) (hn : (m.ke != 0) = true) (hm : t.rs.length ≤ maxLen) :
    Calls Tryd.prog 70 #[.pointer (some ⟨p, 0, none⟩)] w fun e w' => e = .returned (.bool (m.ke == keyR t.rs m.ho)) ∧ Below w.heap.size w w' := by
  have HN := Lib.hid hn
  clear hn
  have HCH := Lib.hid h
  clear h
  go_enter Tryd.func70, Tryd.ntmps70
  go_upto_region 1 with (fail)
  obtain ⟨C, hC0, hCl, hCi, hCm⟩ := class_ch HCH.out
  have HC0 := Lib.hid hC0; have HL := Lib.hid hCl; have HCi := Lib.hid hCi; have HCm := Lib.hid hCm
  clear hC0 hCl hCi hCm
  have HK := Lib.hid (fun v (hv : C v) => key_any A c t m.ho v (HL.out v hv).rgs hm)
  refine wp_region_class C (by kernel_rfl) (by kernel_rfl) HC0.out ?_
  go_big_quiet_want
  go_big_quiet_op
  first | go_big_quiet_on | (refine ⟨_, fun _ _ => rfl, ?_⟩; go_big_quiet_on)
  go_big_quiet_want
  go_big_quiet_op
  first | go_big_quiet_on | (refine ⟨_, fun _ _ => rfl, ?_⟩; go_big_quiet_on)
  go_big_quiet_want
  go_big_quiet_op
  first | go_big_quiet_on | (refine ⟨_, fun _ _ => rfl, ?_⟩; go_big_quiet_on)
  go_big_quiet_want
  go_big_quiet_op
  first | go_big_quiet_on | (refine ⟨_, fun _ _ => rfl, ?_⟩; go_big_quiet_on)
  go_big_quiet_want
  refine quiet_run (v := .int .u64 m.ke) (fun v hv => by have hr := (HL.out v hv).r; obtain ⟨c0, c1, c2, c3, c4, c7, c13, c14, c15, c16, c17, c18⟩ := hr; go_simp) ?_
  simp only [Act.put, List.setIfInBounds_toArray, List.set_cons_zero, List.set_cons_succ]
  go_big_quiet_on
  go_big_quiet_want
  refine quiet_run (v := .bool true) (fun v hv => by have := HN.out; go_simp) ?_
  simp only [Act.put, List.setIfInBounds_toArray, List.set_cons_zero, List.set_cons_succ]
  go_big_quiet_on
  go_big_quiet_want
  go_big_quiet_op
  first | go_big_quiet_on | (refine ⟨_, fun _ _ => rfl, ?_⟩; go_big_quiet_on)
  go_big_quiet_want
  go_big_quiet_op
  first | go_big_quiet_on | (refine ⟨_, fun _ _ => rfl, ?_⟩; go_big_quiet_on)
  go_big_quiet_want
  go_big_quiet_op
  first | go_big_quiet_on | (refine ⟨_, fun _ _ => rfl, ?_⟩; go_big_quiet_on)
  go_big_quiet_want
  go_big_quiet_op
  first | go_big_quiet_on | (refine ⟨_, fun _ _ => rfl, ?_⟩; go_big_quiet_on)
  go_big_quiet_want
  go_big_quiet_op
  first | go_big_quiet_on | (refine ⟨_, fun _ _ => rfl, ?_⟩; go_big_quiet_on)
  go_big_quiet_want
  refine quiet_run (v := .int .u64 m.ke) (fun v hv => by have hr := (HL.out v hv).r; obtain ⟨c0, c1, c2, c3, c4, c7, c13, c14, c15, c16, c17, c18⟩ := hr; go_simp) ?_
  simp only [Act.put, List.setIfInBounds_toArray, List.set_cons_zero, List.set_cons_succ]
  go_big_quiet_on
  go_big_quiet_want
  go_big_quiet_op
  first | go_big_quiet_on | (refine ⟨_, fun _ _ => rfl, ?_⟩; go_big_quiet_on)
  go_big_quiet_want
  go_big_quiet_op
  first | go_big_quiet_on | (refine ⟨_, fun _ _ => rfl, ?_⟩; go_big_quiet_on)
  go_big_quiet_want
  go_big_quiet_op
  first | go_big_quiet_on | (refine ⟨_, fun _ _ => rfl, ?_⟩; go_big_quiet_on)
  go_big_quiet_want
  refine quiet_run (v := tlV A c t) (fun v hv => by have hr := (HL.out v hv).r; obtain ⟨c0, c1, c2, c3, c4, c7, c13, c14, c15, c16, c17, c18⟩ := hr; go_simp) ?_
  simp only [Act.put, List.setIfInBounds_toArray, List.set_cons_zero, List.set_cons_succ]
  go_big_quiet_on
  go_big_quiet_want
  go_big_quiet_op
  first | go_big_quiet_on | (refine ⟨_, fun _ _ => rfl, ?_⟩; go_big_quiet_on)
  go_big_quiet_want
  go_big_quiet_op
  first | go_big_quiet_on | (refine ⟨_, fun _ _ => rfl, ?_⟩; go_big_quiet_on)
  go_big_quiet_want
  go_big_quiet_op
  first | go_big_quiet_on | (refine ⟨_, fun _ _ => rfl, ?_⟩; go_big_quiet_on)
  go_big_quiet_want
  go_big_quiet_op
  first | go_big_quiet_on | (refine ⟨_, fun _ _ => rfl, ?_⟩; go_big_quiet_on)
  go_big_quiet_want
  refine quiet_run (v := .string m.ho) (fun v hv => by have hr := (HL.out v hv).r; obtain ⟨c0, c1, c2, c3, c4, c7, c13, c14, c15, c16, c17, c18⟩ := hr; go_simp) ?_
  simp only [Act.put, List.setIfInBounds_toArray, List.set_cons_zero, List.set_cons_succ]
  go_big_quiet_on
  go_big_quiet_want
  refine quiet_call (f := 16) (args := #[tlV A c t, .string m.ho]) (fun v _ => by go_simp) (fun v hv => (HK.out v hv).mono (fun e w' h => ⟨h.1, HCm.out v w' hv h.2⟩)) ?_
  simp only [Act.put, List.setIfInBounds_toArray, List.set_cons_zero, List.set_cons_succ]
  go_big_quiet_on
  go_big_quiet_want
  refine quiet_run (v := .bool (m.ke == keyR t.rs m.ho)) (fun v hv => by rfl) ?_
  simp only [Act.put, List.setIfInBounds_toArray, List.set_cons_zero, List.set_cons_succ]
  go_big_quiet_on
  go_big_quiet_want
  go_big_quiet_op
  first | go_big_quiet_on | (refine ⟨_, fun _ _ => rfl, ?_⟩; go_big_quiet_on)
  go_big_quiet_want
  go_big_quiet_op
  first | go_big_quiet_on | (refine ⟨_, fun _ _ => rfl, ?_⟩; go_big_quiet_on)

  intro w9 hC9
  have HB9 := Lib.hid (HCi.out w9 hC9)
  clear hC9
  go_wp2_with (fail)
  go_ret
  exact ⟨rfl, HB9.out⟩
theorem isRegd_any (w : World) (p : Nat) (A : Option Addr) (c : Nat) (t : Tl) (m : Cm) (B : Option Addr) (e : Nat) (es : List Ev) (h : ChAt w p A c t m B e es) (hm : t.rs.length ≤ maxLen) :
    Calls Tryd.prog 70 #[.pointer (some ⟨p, 0, none⟩)] w fun e w' => e = .returned (.bool (regdB t m)) ∧ Below w.heap.size w w' := by
  cases hn : (m.ke != 0) with
  | false =>
    rw [show regdB t m = false by unfold regdB; rw [hn]; rfl]
    exact isRegd_zero w p A c t m B e es h hn
  | true =>
    rw [show regdB t m = (m.ke == keyR t.rs m.ho) by unfold regdB; rw [hn, Bool.true_and]]
    exact isRegd_key w p A c t m B e es h hn hm
open Go.RowKit
def takesB (t : Tl) (m : Cm) : Bool := if t.ty = 0 then false else if shB t.ty then decide (m.ot = 0) else decide (keyR t.rs t.ho = m.ot)
abbrev hoC (t : Tl) : Array Value := #[.int .i64 t.ty, .string t.ho]
theorem ho_box {w : World} {p : Nat} {A : Option Addr} {c : Nat} {t : Tl} {m : Cm} {B : Option Addr} {e : Nat} {es : List Ev} (h : ChAt w p A c t m B e es) : ∀ v, v = w.alloc (.cells (hoC t) 24) → Blk v w.heap.size 24 (hoC t) ∧ ChAt v p A c t m B e es ∧ Below w.heap.size w v := by
  rintro v rfl
  have hb := (Below.refl w.heap.size w).alloc (Nat.le_refl _) (.cells (hoC t) 24)
  exact ⟨Blk.new w _ _, h.below hb, hb⟩
set_option maxHeartbeats 1000000 in
theorem takes_zero (w : World) (p : Nat) (A : Option Addr) (c : Nat) (t : Tl) (m : Cm) (B : Option Addr) (e : Nat) (es : List Ev) (h : ChAt w p A c t m B e es) (hn : (t.ty == 0) = true) :
    Calls Tryd.prog 75 #[.pointer (some ⟨p, 0, none⟩)] w fun e w' => e = .returned (.bool false) ∧ Below w.heap.size w w' := by
  have hr := h.r
  have c1 := hr.ty
  have c2 := hr.hh
  obtain ⟨h1, h2, h3⟩ := ho_box h _ rfl
  have HX := Lib.hid h1; have HCH := Lib.hid h2; have HB := Lib.hid h3
  clear h1 h2 h3 h hr
  go_enter Tryd.func75, Tryd.ntmps75
  go_upto_region 2 with (fail)
  change Code.wp _ _ _ _ (w.alloc (.cells (hoC t) 24))
  generalize w.alloc (.cells (hoC t) 24) = w0 at *
  clear c1 c2
  have c0 : w0.cell? ⟨w.heap.size, 0, none⟩ = some (.int .i64 t.ty) := HX.out.cell 0
  have c9 : w0.cell? ⟨w.heap.size, 1, none⟩ = some (.string t.ho) := HX.out.cell 1
  go_wp2_with (fail)
  go_ret
  exact ⟨rfl, HB.out⟩
set_option maxHeartbeats 1000000 in
theorem takes_sh (w : World) (p : Nat) (A : Option Addr) (c : Nat) (t : Tl) (m : Cm) (B : Option Addr) (e : Nat) (es : List Ev) (h : ChAt w p A c t m B e es) (hn : (t.ty == 0) = false) (hs : shB t.ty = true) :
    Calls Tryd.prog 75 #[.pointer (some ⟨p, 0, none⟩)] w fun e w' => e = .returned (.bool (m.ot == 0)) ∧ Below w.heap.size w w' := by
  have hr := h.r
  have c1 := hr.ty
  have c2 := hr.hh
  obtain ⟨h1, h2, h3⟩ := ho_box h _ rfl
  have HX := Lib.hid h1; have HCH := Lib.hid h2; have HB := Lib.hid h3
  clear h1 h2 h3 h hr
  have HS := Lib.hid (fun v => shared_any t.ty v)
  rw [hs] at HS
  go_enter Tryd.func75, Tryd.ntmps75
  go_upto_region 2 with (fail)
  change Code.wp _ _ _ _ (w.alloc (.cells (hoC t) 24))
  generalize w.alloc (.cells (hoC t) 24) = w0 at *
  clear c1 c2
  have c0 : w0.cell? ⟨w.heap.size, 0, none⟩ = some (.int .i64 t.ty) := HX.out.cell 0
  have c9 : w0.cell? ⟨w.heap.size, 1, none⟩ = some (.string t.ho) := HX.out.cell 1
  have c15 := HCH.out.r.ot
  go_wp2_with (fail)
  refine (HS.out _).mono ?_; rintro e w1 ⟨rfl, rfl⟩
  go_wp2_with (fail)
  go_ret
  exact ⟨rfl, HB.out⟩
set_option maxHeartbeats 1000000 in
theorem takes_one (w : World) (p : Nat) (A : Option Addr) (c : Nat) (t : Tl) (m : Cm) (B : Option Addr) (e : Nat) (es : List Ev) (h : ChAt w p A c t m B e es) (hn : (t.ty == 0) = false) (hs : shB t.ty = false) (hm : t.rs.length ≤ maxLen) :
    Calls Tryd.prog 75 #[.pointer (some ⟨p, 0, none⟩)] w fun e w' => e = .returned (.bool (keyR t.rs t.ho == m.ot)) ∧ Below w.heap.size w w' := by
  have hr := h.r
  have c1 := hr.ty
  have c2 := hr.hh
  obtain ⟨h1, h2, h3⟩ := ho_box h _ rfl
  have HX := Lib.hid h1; have HCH := Lib.hid h2; have HB := Lib.hid h3
  clear h1 h2 h3 h hr
  have HS := Lib.hid (fun v => shared_any t.ty v)
  rw [hs] at HS
  go_enter Tryd.func75, Tryd.ntmps75
  go_upto_region 2 with (fail)
  change Code.wp _ _ _ _ (w.alloc (.cells (hoC t) 24))
  generalize w.alloc (.cells (hoC t) 24) = w0 at *
  clear c1 c2
  have c0 : w0.cell? ⟨w.heap.size, 0, none⟩ = some (.int .i64 t.ty) := HX.out.cell 0
  have c9 : w0.cell? ⟨w.heap.size, 1, none⟩ = some (.string t.ho) := HX.out.cell 1
  go_wp2_with (fail)
  refine (HS.out _).mono ?_; rintro e w1 ⟨rfl, rfl⟩
  go_upto_region 6 with (fail)
  obtain ⟨C, hC0, hCl, hCi, hCm⟩ := class_of w0 (fun v => ChR v p A c t m ∧ v.cell? ⟨w.heap.size, 1, none⟩ = some (.string t.ho)) (fun v hb => ⟨(HCH.out.below hb).r, (HX.out.below hb HX.out.lt).cell 1⟩)
  have HC0 := Lib.hid hC0; have HL := Lib.hid hCl; have HCi := Lib.hid hCi; have HCm := Lib.hid hCm
  clear hC0 hCl hCi hCm
  have HK := Lib.hid (fun v (hv : C v) => key_any A c t t.ho v (HCH.out.below (HCi.out v hv)).rgs hm)
  clear c0 c9
  refine wp_region_class C (by kernel_rfl) (by kernel_rfl) HC0.out ?_
  go_big_quiet_want
  go_big_quiet_op
  first | go_big_quiet_on | (refine ⟨_, fun _ _ => rfl, ?_⟩; go_big_quiet_on)
  go_big_quiet_want
  go_big_quiet_op
  first | go_big_quiet_on | (refine ⟨_, fun _ _ => rfl, ?_⟩; go_big_quiet_on)
  go_big_quiet_want
  go_big_quiet_op
  first | go_big_quiet_on | (refine ⟨_, fun _ _ => rfl, ?_⟩; go_big_quiet_on)
  go_big_quiet_want
  refine quiet_run (v := tlV A c t) (fun v hv => by obtain ⟨⟨rs, ty, hh, ge, ap, ho, ke, nk, ot, mt, ig, ma⟩, c9⟩ := HL.out v hv; go_simp) ?_
  simp only [Act.put, List.setIfInBounds_toArray, List.set_cons_zero, List.set_cons_succ]
  go_big_quiet_on
  go_big_quiet_want
  go_big_quiet_op
  first | go_big_quiet_on | (refine ⟨_, fun _ _ => rfl, ?_⟩; go_big_quiet_on)
  go_big_quiet_want
  refine quiet_run (v := .string t.ho) (fun v hv => by obtain ⟨⟨rs, ty, hh, ge, ap, ho, ke, nk, ot, mt, ig, ma⟩, c9⟩ := HL.out v hv; go_simp) ?_
  simp only [Act.put, List.setIfInBounds_toArray, List.set_cons_zero, List.set_cons_succ]
  go_big_quiet_on
  go_big_quiet_want
  refine quiet_call (f := 16) (args := #[tlV A c t, .string t.ho]) (fun v _ => by go_simp) (fun v hv => (HK.out v hv).mono (fun e w' h => ⟨h.1, HCm.out v w' hv h.2⟩)) ?_
  simp only [Act.put, List.setIfInBounds_toArray, List.set_cons_zero, List.set_cons_succ]
  go_big_quiet_on
  go_big_quiet_want
  go_big_quiet_op
  first | go_big_quiet_on | (refine ⟨_, fun _ _ => rfl, ?_⟩; go_big_quiet_on)
  go_big_quiet_want
  go_big_quiet_op
  first | go_big_quiet_on | (refine ⟨_, fun _ _ => rfl, ?_⟩; go_big_quiet_on)
  go_big_quiet_want
  go_big_quiet_op
  first | go_big_quiet_on | (refine ⟨_, fun _ _ => rfl, ?_⟩; go_big_quiet_on)
  go_big_quiet_want
  go_big_quiet_op
  first | go_big_quiet_on | (refine ⟨_, fun _ _ => rfl, ?_⟩; go_big_quiet_on)
  go_big_quiet_want
  refine quiet_run (v := .int .u64 m.ot) (fun v hv => by obtain ⟨⟨rs, ty, hh, ge, ap, ho, ke, nk, ot, mt, ig, ma⟩, c9⟩ := HL.out v hv; go_simp) ?_
  simp only [Act.put, List.setIfInBounds_toArray, List.set_cons_zero, List.set_cons_succ]
  go_big_quiet_on
  go_big_quiet_want
  refine quiet_run (v := .bool (keyR t.rs t.ho == m.ot)) (fun v hv => by rfl) ?_
  simp only [Act.put, List.setIfInBounds_toArray, List.set_cons_zero, List.set_cons_succ]
  go_big_quiet_on
  go_big_quiet_want
  go_big_quiet_op
  first | go_big_quiet_on | (refine ⟨_, fun _ _ => rfl, ?_⟩; go_big_quiet_on)

  intro w9 hC9
  have HB9 := Lib.hid (HB.out.trans ((HCi.out w9 hC9).mono HB.out.size))
  clear hC9
  go_wp2_with (fail)
  go_ret
  exact ⟨rfl, HB9.out⟩
theorem takes_any (w : World) (p : Nat) (A : Option Addr) (c : Nat) (t : Tl) (m : Cm) (B : Option Addr) (e : Nat) (es : List Ev) (h : ChAt w p A c t m B e es) (hm : t.rs.length ≤ maxLen) :
    Calls Tryd.prog 75 #[.pointer (some ⟨p, 0, none⟩)] w fun e w' => e = .returned (.bool (takesB t m)) ∧ Below w.heap.size w w' := by
  cases hn : (t.ty == 0) with
  | true =>
    rw [show takesB t m = false by unfold takesB; rw [if_pos (eqB hn)]]
    exact takes_zero w p A c t m B e es h hn
  | false =>
    cases hs : shB t.ty with
    | true =>
      rw [show takesB t m = (m.ot == 0) by unfold takesB; rw [if_neg (neB hn), if_pos hs, int_beq]]
      exact takes_sh w p A c t m B e es h hn hs
    | false =>
      rw [show takesB t m = (keyR t.rs t.ho == m.ot) by unfold takesB; rw [if_neg (neB hn), if_neg (by rw [hs]; decide), int_beq]]
      exact takes_one w p A c t m B e es h hn hs hm
end Go.Proofs.YtgekadfkokkapaaDoor
