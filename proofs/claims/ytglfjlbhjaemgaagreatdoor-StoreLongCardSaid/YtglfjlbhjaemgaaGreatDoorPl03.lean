/- Lists of extents in memory; the small questions on one extent and on two. -/
import Derived.Test.YtglfjlbhjaemgaaGreatDoorChecked
import Derived.Test.YtglfjlbhjaemgaaGreatDoorPl02
import Derived.ProofKit
import Derived.StillTailTactics
import Derived.Deep.RegionHeld3
import Derived.Laws.OwnMore
import Derived.Laws.IdiomCopy
import Derived.Maps.AppendAt
import Derived.Deep.Cut
import Derived.Deep.QuietTactic
import Derived.BigQuiet
import Derived.BigRegion
import Derived.Deep.RegionLaw
namespace Go.Proofs.YtglfjlbhjaemgaaGreatDoor.Ext
open Go.RowKit
/-- An extent: where it begins, how many blocks, where they are stored. -/
structure Ex where
  l : Int
  b : Int
  a : Int
theorem Ex.ext {x y : Ex} (h1 : x.l = y.l) (h2 : x.b = y.b) (h3 : x.a = y.a) : x = y := by
  cases x; cases y; simp only at h1 h2 h3; subst h1 h2 h3; rfl
def exV (x : Ex) : Value := .agg #[.int .i64 x.l, .int .i64 x.b, .int .i64 x.a]
/-- Its numbers are int's. -/
structure Ex.Wf (x : Ex) : Prop where
  l1 : -9223372036854775808 ≤ x.l
  l2 : x.l ≤ 9223372036854775807
  b1 : -9223372036854775808 ≤ x.b
  b2 : x.b ≤ 9223372036854775807
  a1 : -9223372036854775808 ≤ x.a
  a2 : x.a ≤ 9223372036854775807
/-- One that may stand in a good list. -/
def Ex.Fits (x : Ex) : Prop := 0 ≤ x.l ∧ 0 ≤ x.a ∧ 1 ≤ x.b ∧ x.b ≤ 4096 - x.l ∧ x.b ≤ 8192 - x.a
def fitsB (x : Ex) : Bool := decide (0 ≤ x.l ∧ 0 ≤ x.a ∧ 1 ≤ x.b ∧ x.b ≤ 4096 - x.l ∧ x.b ≤ 8192 - x.a)
theorem fitsB_iff (x : Ex) : fitsB x = true ↔ x.Fits := by unfold fitsB Ex.Fits; exact decide_eq_true_iff
def goesB (x y : Ex) : Bool := decide (y.l = x.l + x.b ∧ y.a = x.a + x.b)
def mayB (x y : Ex) : Bool := decide (y.l ≥ x.l + x.b) && !goesB x y
/-- A list of extents in memory. -/
def Exts (w : World) (A : Option Addr) (l : List Ex) : Prop :=
  0 < l.length → ∃ b o, A = some ⟨b, o, none⟩ ∧ ∀ (j : Nat) (x : Ex), l[j]? = some x → x.Wf ∧ w.cell? ⟨b, o + j * 3, none⟩ = some (.int .i64 x.l) ∧ w.cell? ⟨b, o + j * 3 + 1, none⟩ = some (.int .i64 x.b) ∧ w.cell? ⟨b, o + j * 3 + 2, none⟩ = some (.int .i64 x.a)
theorem Exts.kept {w w' : World} {A : Option Addr} {l : List Ex} (h : Exts w A l) (hb : 0 < l.length → ∀ a, A = some a → w'.heap[a.block]? = w.heap[a.block]?) : Exts w' A l := fun hn => by
  obtain ⟨b, o, rfl, hc⟩ := h hn
  have e := hb hn _ rfl
  refine ⟨b, o, rfl, fun j v hj => ?_⟩
  obtain ⟨h0, h1, h2, h3⟩ := hc j v hj
  exact ⟨h0, (World.cell?_of_block (a := ⟨b, o + j * 3, none⟩) e).trans h1, (World.cell?_of_block (a := ⟨b, o + j * 3 + 1, none⟩) e).trans h2, (World.cell?_of_block (a := ⟨b, o + j * 3 + 2, none⟩) e).trans h3⟩
theorem Exts.lt {w : World} {A : Option Addr} {l : List Ex} (h : Exts w A l) (hn : 0 < l.length) (a : Addr) (ha : A = some a) : a.block < w.heap.size := by
  obtain ⟨b, o, rfl, hc⟩ := h hn
  injection ha with ha
  subst ha
  exact World.block_lt_of_cell? w ⟨b, o + 0 * 3, none⟩ (hc 0 _ (List.getElem?_eq_getElem hn)).2.1
theorem Exts.below {w w' : World} {A : Option Addr} {l : List Ex} (h : Exts w A l) (hb : Below w.heap.size w w') : Exts w' A l :=
  h.kept fun hn a ha => hb.block _ (h.lt hn a ha)
theorem Exts.at_ {w : World} {A : Option Addr} {l : List Ex} (h : Exts w A l) {j : Nat} (hj : j < l.length) : ∃ b o x, A = some ⟨b, o, none⟩ ∧ l[j]? = some x ∧ x.Wf ∧ w.cell? ⟨b, o + j * 3, none⟩ = some (.int .i64 x.l) ∧ w.cell? ⟨b, o + j * 3 + 1, none⟩ = some (.int .i64 x.b) ∧ w.cell? ⟨b, o + j * 3 + 2, none⟩ = some (.int .i64 x.a) := by
  obtain ⟨b, o, rfl, hc⟩ := h (by omega)
  exact ⟨b, o, _, rfl, List.getElem?_eq_getElem hj, hc j _ (List.getElem?_eq_getElem hj)⟩
theorem Exts.wf {w : World} {A : Option Addr} {l : List Ex} (h : Exts w A l) {j : Nat} {x : Ex} (hj : l[j]? = some x) : x.Wf := by
  obtain ⟨b, o, rfl, hc⟩ := h (by have := (List.getElem?_eq_some_iff.1 hj).1; omega)
  exact (hc j x hj).1
theorem Exts.nil (w : World) (A : Option Addr) : Exts w A [] := fun h => absurd h (Nat.not_lt_zero _)
theorem i64w (x : Int) (h : -9223372036854775808 ≤ x ∧ x ≤ 9223372036854775807) : IntKind.i64.wrap x = x := IntWalk.i64_in _ (by omega)
theorem wp_region_class {P : Program} {id : Nat} {Q : Exit → Act → World → Prop} {a : Act} {w : World} {l : List Oper} (C : World → Prop) (hm : P.follows .mixedOrders = true) (hB : Region.lexB .any l.toArray = true) (hC : C w.drew)
    (h : wpQuiet P l.toArray C (fun a' => ∀ w', C w' → Q .normal a' w') l a) : (Code.region id l.toArray true).wp P Q a w :=
  wp_region_quiet (C := C) hm hB hC (by simpa using h)
theorem quiet_run {P : Program} {o : Oper} {a : Act} {C : World → Prop} {K : Act → Prop} {v : Value} (h : ∀ w, C w → (execOp a.eval o).run P w = .ok (.value v) w) (hk : K (a.put o.dst v)) : o.quiet P a C K :=
  ⟨v, fun w hw => by unfold Oper.quietAt; rw [h w hw]; exact ⟨rfl, rfl⟩, hk⟩
theorem quiet_call {P : Program} {o : Oper} {a : Act} {C : World → Prop} {K : Act → Prop} {v : Value} {f : FuncId} {args : Array Value} (h : ∀ w, C w → (execOp a.eval o).run P w = .ok (.enter f args) w)
    (hc : ∀ w, C w → Calls P f args w (fun e w' => e = .returned v ∧ C w')) (hk : K (a.put o.dst v)) : o.quiet P a C K :=
  ⟨v, fun w hw => by unfold Oper.quietAt; rw [h w hw]; exact ⟨rfl, hc w hw⟩, hk⟩
theorem end_any (x : Ex) (w : World) (h1 : -9223372036854775808 ≤ x.l + x.b) (h2 : x.l + x.b ≤ 9223372036854775807) :
    Calls Tryz.prog 192 #[exV x] w fun e w' => e = .returned (.int .i64 (x.l + x.b)) ∧ Below w.heap.size w w' := by
  have hw : IntKind.i64.wrap (x.l + x.b) = x.l + x.b := i64w _ ⟨h1, h2⟩
  unfold exV
  go_enter Tryz.func192, Tryz.ntmps192
  go_wp2_with (fail)
  go_ret
  exact ⟨rfl, (Below.refl _ _).alloc (Nat.le_refl _) _⟩
set_option maxHeartbeats 1000000 in
theorem fits_any (x : Ex) (hx : x.Wf) (w : World) : Calls Tryz.prog 182 #[exV x] w fun e w' => e = .returned (.bool (fitsB x)) ∧ Below w.heap.size w w' := by
  obtain ⟨h1, h2, h3, h4, h5, h6⟩ := hx
  have hf : fitsB x = decide (0 ≤ x.l ∧ 0 ≤ x.a ∧ 1 ≤ x.b ∧ x.b ≤ 4096 - x.l ∧ x.b ≤ 8192 - x.a) := rfl
  have e1 : 0 ≤ x.l → IntKind.i64.wrap (4096 - x.l) = 4096 - x.l := fun h => i64w _ (by omega)
  have e2 : 0 ≤ x.a → IntKind.i64.wrap (8192 - x.a) = 8192 - x.a := fun h => i64w _ (by omega)
  generalize fitsB x = r at hf
  unfold exV
  go_enter Tryz.func182, Tryz.ntmps182
  by_cases c1 : 0 ≤ x.l
  · have e1 := e1 c1
    by_cases c2 : 0 ≤ x.a
    · have e2 := e2 c2
      by_cases c3 : 1 ≤ x.b
      · by_cases c4 : x.b ≤ 4096 - x.l
        · by_cases c5 : x.b ≤ 8192 - x.a
          · obtain rfl : r = true := by rw [hf]; exact decide_eq_true ⟨c1, c2, c3, c4, c5⟩
            clear hf
            go_wp2_with (fail)
            go_ret
            exact ⟨rfl, (Below.refl _ _).alloc (Nat.le_refl _) _⟩
          · obtain rfl : r = false := by rw [hf]; exact decide_eq_false (by omega)
            clear hf
            go_wp2_with (fail)
            go_ret
            exact ⟨rfl, (Below.refl _ _).alloc (Nat.le_refl _) _⟩
        · obtain rfl : r = false := by rw [hf]; exact decide_eq_false (by omega)
          clear hf
          go_wp2_with (fail)
          go_ret
          exact ⟨rfl, (Below.refl _ _).alloc (Nat.le_refl _) _⟩
      · obtain rfl : r = false := by rw [hf]; exact decide_eq_false (by omega)
        clear hf
        go_wp2_with (fail)
        go_ret
        exact ⟨rfl, (Below.refl _ _).alloc (Nat.le_refl _) _⟩
    · obtain rfl : r = false := by rw [hf]; exact decide_eq_false (by omega)
      clear hf
      go_wp2_with (fail)
      go_ret
      exact ⟨rfl, (Below.refl _ _).alloc (Nat.le_refl _) _⟩
  · obtain rfl : r = false := by rw [hf]; exact decide_eq_false (by omega)
    clear hf
    go_wp2_with (fail)
    go_ret
    exact ⟨rfl, (Below.refl _ _).alloc (Nat.le_refl _) _⟩
/-- The class of worlds in which a region that draws is walked: all that lay still lies. -/
theorem class_of (w0 : World) (R : World → Prop) (hR : ∀ v, Below w0.heap.size w0 v → R v) :
    ∃ C : World → Prop, C w0.drew ∧ (∀ v, C v → R v) ∧ (∀ v, C v → Below w0.heap.size w0 v) ∧ (∀ v v', C v → Below v.heap.size v v' → C v') :=
  ⟨fun v => Below w0.heap.size w0 v, (Below.refl _ _).drew, hR, fun _ h => h, fun _ _ h hb => h.trans (hb.mono h.size)⟩
abbrev exC (x : Ex) : Array Value := #[.int .i64 x.l, .int .i64 x.b, .int .i64 x.a]
theorem two_boxes (w : World) (x y : Ex) : ∀ w0, w0 = (w.alloc (.cells #[.int .i64 x.l, .int .i64 x.b, .int .i64 x.a] 158)).alloc (.cells #[.int .i64 y.l, .int .i64 y.b, .int .i64 y.a] 158) →
    Blk w0 w.heap.size 158 (exC x) ∧ Blk w0 (w.heap.size + 1) 158 (exC y) ∧ Below w.heap.size w w0 ∧ w0.heap.size = w.heap.size + 2 := by
  rintro w0 rfl
  refine ⟨(Blk.new w _ _).alloc _, ?_, ((Below.refl w.heap.size w).alloc (Nat.le_refl _) _).alloc (by simp) _, by simp⟩
  have := Blk.new (w.alloc (.cells #[.int .i64 x.l, .int .i64 x.b, .int .i64 x.a] 158)) 158 #[.int .i64 y.l, .int .i64 y.b, .int .i64 y.a]
  simpa using this
theorem blk_cells3 {w0 v : World} {g : Nat} {x : Ex} (h : Blk w0 g 158 (exC x)) (hb : Below w0.heap.size w0 v) : v.cell? ⟨g, 0, none⟩ = some (.int .i64 x.l) ∧ v.cell? ⟨g, 1, none⟩ = some (.int .i64 x.b) ∧ v.cell? ⟨g, 2, none⟩ = some (.int .i64 x.a) :=
  ⟨(h.below hb h.lt).cell 0, (h.below hb h.lt).cell 1, (h.below hb h.lt).cell 2⟩
set_option maxHeartbeats 1000000 in
theorem goes_yes (x y : Ex) (w : World) (h1 : -9223372036854775808 ≤ x.l + x.b) (h2 : x.l + x.b ≤ 9223372036854775807) (h3 : -9223372036854775808 ≤ x.a + x.b) (h4 : x.a + x.b ≤ 9223372036854775807) (c1 : y.l = x.l + x.b) (c2 : y.a = x.a + x.b) :
    Calls Tryz.prog 203 #[exV x, exV y] w fun e w' => e = .returned (.bool true) ∧ Below w.heap.size w w' := by
  have e2 : IntKind.i64.wrap (x.a + x.b) = x.a + x.b := i64w _ ⟨h3, h4⟩
  have d1 : (y.l == x.l + x.b) = true := by simpa using c1
  have d2 : (y.a == x.a + x.b) = true := by simpa using c2
  clear c1 c2
  have HE := Lib.hid (fun v => end_any x v h1 h2)
  unfold exV at HE ⊢
  go_enter Tryz.func203, Tryz.ntmps203
  go_upto_region 1 with (fail)
  obtain ⟨bx, by', hB, hsz⟩ := two_boxes w x y _ rfl
  change Code.wp _ _ _ _ ((w.alloc (.cells #[.int .i64 x.l, .int .i64 x.b, .int .i64 x.a] 158)).alloc (.cells #[.int .i64 y.l, .int .i64 y.b, .int .i64 y.a] 158))
  generalize hw0 : (w.alloc (.cells #[.int .i64 x.l, .int .i64 x.b, .int .i64 x.a] 158)).alloc (.cells #[.int .i64 y.l, .int .i64 y.b, .int .i64 y.a] 158) = w0 at *
  clear hw0
  obtain ⟨C, hC0, hCl, hCi, hCm⟩ := class_of w0 (fun v => (v.cell? ⟨w.heap.size, 0, none⟩ = some (.int .i64 x.l) ∧ v.cell? ⟨w.heap.size, 1, none⟩ = some (.int .i64 x.b) ∧ v.cell? ⟨w.heap.size, 2, none⟩ = some (.int .i64 x.a)) ∧ v.cell? ⟨w.heap.size + 1, 0, none⟩ = some (.int .i64 y.l) ∧ v.cell? ⟨w.heap.size + 1, 1, none⟩ = some (.int .i64 y.b) ∧ v.cell? ⟨w.heap.size + 1, 2, none⟩ = some (.int .i64 y.a)) (fun v hb => ⟨blk_cells3 bx hb, blk_cells3 by' hb⟩)
  have HC0 := Lib.hid hC0; have HL := Lib.hid hCl; have HCi := Lib.hid hCi; have HCm := Lib.hid hCm; have HB := Lib.hid hB
  clear hC0 hCl hCi hCm hB bx by' hsz
  refine wp_region_class C (by kernel_rfl) (by kernel_rfl) HC0.out ?_
  go_big_quiet_want
  go_big_quiet_op
  first | go_big_quiet_on | (refine ⟨_, fun _ _ => rfl, ?_⟩; go_big_quiet_on)
  go_big_quiet_want
  refine quiet_run (v := .int .i64 y.l) (fun v hv => by obtain ⟨⟨a0, a1, a2⟩, b0, b1, b2⟩ := HL.out v hv; go_simp) ?_
  simp only [Act.put, List.setIfInBounds_toArray, List.set_cons_zero, List.set_cons_succ]
  go_big_quiet_on
  go_big_quiet_want
  refine quiet_run (v := .agg #[.int .i64 x.l, .int .i64 x.b, .int .i64 x.a]) (fun v hv => by obtain ⟨⟨a0, a1, a2⟩, b0, b1, b2⟩ := HL.out v hv; go_simp) ?_
  simp only [Act.put, List.setIfInBounds_toArray, List.set_cons_zero, List.set_cons_succ]
  go_big_quiet_on
  go_big_quiet_want
  refine quiet_call (f := 192) (args := #[.agg #[.int .i64 x.l, .int .i64 x.b, .int .i64 x.a]]) (fun v _ => by go_simp) (fun v hv => (HE.out v).mono (fun e w' h => ⟨h.1, HCm.out v w' hv h.2⟩)) ?_
  simp only [Act.put, List.setIfInBounds_toArray, List.set_cons_zero, List.set_cons_succ]
  go_big_quiet_on
  go_big_quiet_want
  go_big_quiet_op
  first | go_big_quiet_on | (refine ⟨_, fun _ _ => rfl, ?_⟩; go_big_quiet_on)
  go_big_quiet_want
  go_big_quiet_op
  first | go_big_quiet_on | (refine ⟨_, fun _ _ => rfl, ?_⟩; go_big_quiet_on)
  go_big_quiet_want
  go_big_quiet_op
  first | go_big_quiet_on | (refine ⟨_, fun _ _ => rfl, ?_⟩; go_big_quiet_on)
  go_big_quiet_want
  refine quiet_run (v := .int .i64 y.a) (fun v hv => by obtain ⟨⟨a0, a1, a2⟩, b0, b1, b2⟩ := HL.out v hv; go_simp) ?_
  simp only [Act.put, List.setIfInBounds_toArray, List.set_cons_zero, List.set_cons_succ]
  go_big_quiet_on
  go_big_quiet_want
  go_big_quiet_op
  first | go_big_quiet_on | (refine ⟨_, fun _ _ => rfl, ?_⟩; go_big_quiet_on)
  go_big_quiet_want
  refine quiet_run (v := .int .i64 x.a) (fun v hv => by obtain ⟨⟨a0, a1, a2⟩, b0, b1, b2⟩ := HL.out v hv; go_simp) ?_
  simp only [Act.put, List.setIfInBounds_toArray, List.set_cons_zero, List.set_cons_succ]
  go_big_quiet_on
  go_big_quiet_want
  go_big_quiet_op
  first | go_big_quiet_on | (refine ⟨_, fun _ _ => rfl, ?_⟩; go_big_quiet_on)
  go_big_quiet_want
  refine quiet_run (v := .int .i64 x.b) (fun v hv => by obtain ⟨⟨a0, a1, a2⟩, b0, b1, b2⟩ := HL.out v hv; go_simp) ?_
  simp only [Act.put, List.setIfInBounds_toArray, List.set_cons_zero, List.set_cons_succ]
  go_big_quiet_on
  go_big_quiet_want
  go_big_quiet_op
  first | go_big_quiet_on | (refine ⟨_, fun _ _ => rfl, ?_⟩; go_big_quiet_on)
  go_big_quiet_want
  go_big_quiet_op
  first | go_big_quiet_on | (refine ⟨_, fun _ _ => rfl, ?_⟩; go_big_quiet_on)
  go_big_quiet_want
  go_big_quiet_op
  first | go_big_quiet_on | (refine ⟨_, fun _ _ => rfl, ?_⟩; go_big_quiet_on)
  go_big_quiet_want
  go_big_quiet_op
  first | go_big_quiet_on | (refine ⟨_, fun _ _ => rfl, ?_⟩; go_big_quiet_on)
  refine wpQuiet_nil ?_
  intro w5 hC5
  have HB5 := Lib.hid (HB.out.trans ((HCi.out _ hC5).mono HB.out.size))
  clear hC5
  go_wp2_with (fail)
  go_ret
  exact ⟨rfl, HB5.out⟩
set_option maxHeartbeats 1000000 in
theorem goes_no2 (x y : Ex) (w : World) (h1 : -9223372036854775808 ≤ x.l + x.b) (h2 : x.l + x.b ≤ 9223372036854775807) (h3 : -9223372036854775808 ≤ x.a + x.b) (h4 : x.a + x.b ≤ 9223372036854775807) (c1 : y.l = x.l + x.b) (c2 : ¬ y.a = x.a + x.b) :
    Calls Tryz.prog 203 #[exV x, exV y] w fun e w' => e = .returned (.bool false) ∧ Below w.heap.size w w' := by
  have e2 : IntKind.i64.wrap (x.a + x.b) = x.a + x.b := i64w _ ⟨h3, h4⟩
  have d1 : (y.l == x.l + x.b) = true := by simpa using c1
  have d2 : (y.a == x.a + x.b) = false := by simpa using c2
  clear c1 c2
  have HE := Lib.hid (fun v => end_any x v h1 h2)
  unfold exV at HE ⊢
  go_enter Tryz.func203, Tryz.ntmps203
  go_upto_region 1 with (fail)
  obtain ⟨bx, by', hB, hsz⟩ := two_boxes w x y _ rfl
  change Code.wp _ _ _ _ ((w.alloc (.cells #[.int .i64 x.l, .int .i64 x.b, .int .i64 x.a] 158)).alloc (.cells #[.int .i64 y.l, .int .i64 y.b, .int .i64 y.a] 158))
  generalize hw0 : (w.alloc (.cells #[.int .i64 x.l, .int .i64 x.b, .int .i64 x.a] 158)).alloc (.cells #[.int .i64 y.l, .int .i64 y.b, .int .i64 y.a] 158) = w0 at *
  clear hw0
  obtain ⟨C, hC0, hCl, hCi, hCm⟩ := class_of w0 (fun v => (v.cell? ⟨w.heap.size, 0, none⟩ = some (.int .i64 x.l) ∧ v.cell? ⟨w.heap.size, 1, none⟩ = some (.int .i64 x.b) ∧ v.cell? ⟨w.heap.size, 2, none⟩ = some (.int .i64 x.a)) ∧ v.cell? ⟨w.heap.size + 1, 0, none⟩ = some (.int .i64 y.l) ∧ v.cell? ⟨w.heap.size + 1, 1, none⟩ = some (.int .i64 y.b) ∧ v.cell? ⟨w.heap.size + 1, 2, none⟩ = some (.int .i64 y.a)) (fun v hb => ⟨blk_cells3 bx hb, blk_cells3 by' hb⟩)
  have HC0 := Lib.hid hC0; have HL := Lib.hid hCl; have HCi := Lib.hid hCi; have HCm := Lib.hid hCm; have HB := Lib.hid hB
  clear hC0 hCl hCi hCm hB bx by' hsz
  refine wp_region_class C (by kernel_rfl) (by kernel_rfl) HC0.out ?_
  go_big_quiet_want
  go_big_quiet_op
  first | go_big_quiet_on | (refine ⟨_, fun _ _ => rfl, ?_⟩; go_big_quiet_on)
  go_big_quiet_want
  refine quiet_run (v := .int .i64 y.l) (fun v hv => by obtain ⟨⟨a0, a1, a2⟩, b0, b1, b2⟩ := HL.out v hv; go_simp) ?_
  simp only [Act.put, List.setIfInBounds_toArray, List.set_cons_zero, List.set_cons_succ]
  go_big_quiet_on
  go_big_quiet_want
  refine quiet_run (v := .agg #[.int .i64 x.l, .int .i64 x.b, .int .i64 x.a]) (fun v hv => by obtain ⟨⟨a0, a1, a2⟩, b0, b1, b2⟩ := HL.out v hv; go_simp) ?_
  simp only [Act.put, List.setIfInBounds_toArray, List.set_cons_zero, List.set_cons_succ]
  go_big_quiet_on
  go_big_quiet_want
  refine quiet_call (f := 192) (args := #[.agg #[.int .i64 x.l, .int .i64 x.b, .int .i64 x.a]]) (fun v _ => by go_simp) (fun v hv => (HE.out v).mono (fun e w' h => ⟨h.1, HCm.out v w' hv h.2⟩)) ?_
  simp only [Act.put, List.setIfInBounds_toArray, List.set_cons_zero, List.set_cons_succ]
  go_big_quiet_on
  go_big_quiet_want
  go_big_quiet_op
  first | go_big_quiet_on | (refine ⟨_, fun _ _ => rfl, ?_⟩; go_big_quiet_on)
  go_big_quiet_want
  go_big_quiet_op
  first | go_big_quiet_on | (refine ⟨_, fun _ _ => rfl, ?_⟩; go_big_quiet_on)
  go_big_quiet_want
  go_big_quiet_op
  first | go_big_quiet_on | (refine ⟨_, fun _ _ => rfl, ?_⟩; go_big_quiet_on)
  go_big_quiet_want
  refine quiet_run (v := .int .i64 y.a) (fun v hv => by obtain ⟨⟨a0, a1, a2⟩, b0, b1, b2⟩ := HL.out v hv; go_simp) ?_
  simp only [Act.put, List.setIfInBounds_toArray, List.set_cons_zero, List.set_cons_succ]
  go_big_quiet_on
  go_big_quiet_want
  go_big_quiet_op
  first | go_big_quiet_on | (refine ⟨_, fun _ _ => rfl, ?_⟩; go_big_quiet_on)
  go_big_quiet_want
  refine quiet_run (v := .int .i64 x.a) (fun v hv => by obtain ⟨⟨a0, a1, a2⟩, b0, b1, b2⟩ := HL.out v hv; go_simp) ?_
  simp only [Act.put, List.setIfInBounds_toArray, List.set_cons_zero, List.set_cons_succ]
  go_big_quiet_on
  go_big_quiet_want
  go_big_quiet_op
  first | go_big_quiet_on | (refine ⟨_, fun _ _ => rfl, ?_⟩; go_big_quiet_on)
  go_big_quiet_want
  refine quiet_run (v := .int .i64 x.b) (fun v hv => by obtain ⟨⟨a0, a1, a2⟩, b0, b1, b2⟩ := HL.out v hv; go_simp) ?_
  simp only [Act.put, List.setIfInBounds_toArray, List.set_cons_zero, List.set_cons_succ]
  go_big_quiet_on
  go_big_quiet_want
  go_big_quiet_op
  first | go_big_quiet_on | (refine ⟨_, fun _ _ => rfl, ?_⟩; go_big_quiet_on)
  go_big_quiet_want
  go_big_quiet_op
  first | go_big_quiet_on | (refine ⟨_, fun _ _ => rfl, ?_⟩; go_big_quiet_on)
  go_big_quiet_want
  go_big_quiet_op
  first | go_big_quiet_on | (refine ⟨_, fun _ _ => rfl, ?_⟩; go_big_quiet_on)
  go_big_quiet_want
  go_big_quiet_op
  first | go_big_quiet_on | (refine ⟨_, fun _ _ => rfl, ?_⟩; go_big_quiet_on)
  refine wpQuiet_nil ?_
  intro w5 hC5
  have HB5 := Lib.hid (HB.out.trans ((HCi.out _ hC5).mono HB.out.size))
  clear hC5
  go_wp2_with (fail)
  go_ret
  exact ⟨rfl, HB5.out⟩
set_option maxHeartbeats 1000000 in
theorem goes_no1 (x y : Ex) (w : World) (h1 : -9223372036854775808 ≤ x.l + x.b) (h2 : x.l + x.b ≤ 9223372036854775807) (h3 : -9223372036854775808 ≤ x.a + x.b) (h4 : x.a + x.b ≤ 9223372036854775807) (c1 : ¬ y.l = x.l + x.b) :
    Calls Tryz.prog 203 #[exV x, exV y] w fun e w' => e = .returned (.bool false) ∧ Below w.heap.size w w' := by
  have e2 : IntKind.i64.wrap (x.a + x.b) = x.a + x.b := i64w _ ⟨h3, h4⟩
  have d1 : (y.l == x.l + x.b) = false := by simpa using c1
  clear c1
  have HE := Lib.hid (fun v => end_any x v h1 h2)
  unfold exV at HE ⊢
  go_enter Tryz.func203, Tryz.ntmps203
  go_upto_region 1 with (fail)
  obtain ⟨bx, by', hB, hsz⟩ := two_boxes w x y _ rfl
  change Code.wp _ _ _ _ ((w.alloc (.cells #[.int .i64 x.l, .int .i64 x.b, .int .i64 x.a] 158)).alloc (.cells #[.int .i64 y.l, .int .i64 y.b, .int .i64 y.a] 158))
  generalize hw0 : (w.alloc (.cells #[.int .i64 x.l, .int .i64 x.b, .int .i64 x.a] 158)).alloc (.cells #[.int .i64 y.l, .int .i64 y.b, .int .i64 y.a] 158) = w0 at *
  clear hw0
  obtain ⟨C, hC0, hCl, hCi, hCm⟩ := class_of w0 (fun v => (v.cell? ⟨w.heap.size, 0, none⟩ = some (.int .i64 x.l) ∧ v.cell? ⟨w.heap.size, 1, none⟩ = some (.int .i64 x.b) ∧ v.cell? ⟨w.heap.size, 2, none⟩ = some (.int .i64 x.a)) ∧ v.cell? ⟨w.heap.size + 1, 0, none⟩ = some (.int .i64 y.l) ∧ v.cell? ⟨w.heap.size + 1, 1, none⟩ = some (.int .i64 y.b) ∧ v.cell? ⟨w.heap.size + 1, 2, none⟩ = some (.int .i64 y.a)) (fun v hb => ⟨blk_cells3 bx hb, blk_cells3 by' hb⟩)
  have HC0 := Lib.hid hC0; have HL := Lib.hid hCl; have HCi := Lib.hid hCi; have HCm := Lib.hid hCm; have HB := Lib.hid hB
  clear hC0 hCl hCi hCm hB bx by' hsz
  refine wp_region_class C (by kernel_rfl) (by kernel_rfl) HC0.out ?_
  go_big_quiet_want
  go_big_quiet_op
  first | go_big_quiet_on | (refine ⟨_, fun _ _ => rfl, ?_⟩; go_big_quiet_on)
  go_big_quiet_want
  refine quiet_run (v := .int .i64 y.l) (fun v hv => by obtain ⟨⟨a0, a1, a2⟩, b0, b1, b2⟩ := HL.out v hv; go_simp) ?_
  simp only [Act.put, List.setIfInBounds_toArray, List.set_cons_zero, List.set_cons_succ]
  go_big_quiet_on
  go_big_quiet_want
  refine quiet_run (v := .agg #[.int .i64 x.l, .int .i64 x.b, .int .i64 x.a]) (fun v hv => by obtain ⟨⟨a0, a1, a2⟩, b0, b1, b2⟩ := HL.out v hv; go_simp) ?_
  simp only [Act.put, List.setIfInBounds_toArray, List.set_cons_zero, List.set_cons_succ]
  go_big_quiet_on
  go_big_quiet_want
  refine quiet_call (f := 192) (args := #[.agg #[.int .i64 x.l, .int .i64 x.b, .int .i64 x.a]]) (fun v _ => by go_simp) (fun v hv => (HE.out v).mono (fun e w' h => ⟨h.1, HCm.out v w' hv h.2⟩)) ?_
  simp only [Act.put, List.setIfInBounds_toArray, List.set_cons_zero, List.set_cons_succ]
  go_big_quiet_on
  go_big_quiet_want
  go_big_quiet_op
  first | go_big_quiet_on | (refine ⟨_, fun _ _ => rfl, ?_⟩; go_big_quiet_on)
  go_big_quiet_want
  go_big_quiet_op
  first | go_big_quiet_on | (refine ⟨_, fun _ _ => rfl, ?_⟩; go_big_quiet_on)
  go_big_quiet_skip
  go_big_quiet_skip
  go_big_quiet_skip
  go_big_quiet_skip
  go_big_quiet_skip
  go_big_quiet_skip
  go_big_quiet_skip
  go_big_quiet_skip
  go_big_quiet_want
  go_big_quiet_op
  first | go_big_quiet_on | (refine ⟨_, fun _ _ => rfl, ?_⟩; go_big_quiet_on)
  go_big_quiet_want
  go_big_quiet_op
  first | go_big_quiet_on | (refine ⟨_, fun _ _ => rfl, ?_⟩; go_big_quiet_on)
  refine wpQuiet_nil ?_
  intro w5 hC5
  have HB5 := Lib.hid (HB.out.trans ((HCi.out _ hC5).mono HB.out.size))
  clear hC5
  go_wp2_with (fail)
  go_ret
  exact ⟨rfl, HB5.out⟩
theorem goes_any (x y : Ex) (w : World) (h1 : -9223372036854775808 ≤ x.l + x.b) (h2 : x.l + x.b ≤ 9223372036854775807) (h3 : -9223372036854775808 ≤ x.a + x.b) (h4 : x.a + x.b ≤ 9223372036854775807) :
    Calls Tryz.prog 203 #[exV x, exV y] w fun e w' => e = .returned (.bool (goesB x y)) ∧ Below w.heap.size w w' := by
  by_cases c1 : y.l = x.l + x.b
  · by_cases c2 : y.a = x.a + x.b
    · have e : goesB x y = true := decide_eq_true ⟨c1, c2⟩
      rw [e]; exact goes_yes x y w h1 h2 h3 h4 c1 c2
    · have e : goesB x y = false := decide_eq_false fun h => c2 h.2
      rw [e]; exact goes_no2 x y w h1 h2 h3 h4 c1 c2
  · have e : goesB x y = false := decide_eq_false fun h => c1 h.1
    rw [e]; exact goes_no1 x y w h1 h2 h3 h4 c1
set_option maxHeartbeats 1000000 in
theorem may_yes (x y : Ex) (w : World) (h1 : -9223372036854775808 ≤ x.l + x.b) (h2 : x.l + x.b ≤ 9223372036854775807) (h3 : -9223372036854775808 ≤ x.a + x.b) (h4 : x.a + x.b ≤ 9223372036854775807) (c1 : y.l ≥ x.l + x.b) :
    Calls Tryz.prog 183 #[exV x, exV y] w fun e w' => e = .returned (.bool (!goesB x y)) ∧ Below w.heap.size w w' := by
  have HE := Lib.hid (fun v => end_any x v h1 h2)
  have HG := Lib.hid (fun v => goes_any x y v h1 h2 h3 h4)
  generalize goesB x y = g at *
  have d1 : decide (y.l ≥ x.l + x.b) = true := by simpa using c1
  unfold exV at HE HG ⊢
  go_enter Tryz.func183, Tryz.ntmps183
  go_upto_region 1 with (fail)
  obtain ⟨bx, by', hB, hsz⟩ := two_boxes w x y _ rfl
  change Code.wp _ _ _ _ ((w.alloc (.cells #[.int .i64 x.l, .int .i64 x.b, .int .i64 x.a] 158)).alloc (.cells #[.int .i64 y.l, .int .i64 y.b, .int .i64 y.a] 158))
  generalize hw0 : (w.alloc (.cells #[.int .i64 x.l, .int .i64 x.b, .int .i64 x.a] 158)).alloc (.cells #[.int .i64 y.l, .int .i64 y.b, .int .i64 y.a] 158) = w0 at *
  clear hw0
  obtain ⟨C, hC0, hCl, hCi, hCm⟩ := class_of w0 (fun v => (v.cell? ⟨w.heap.size, 0, none⟩ = some (.int .i64 x.l) ∧ v.cell? ⟨w.heap.size, 1, none⟩ = some (.int .i64 x.b) ∧ v.cell? ⟨w.heap.size, 2, none⟩ = some (.int .i64 x.a)) ∧ v.cell? ⟨w.heap.size + 1, 0, none⟩ = some (.int .i64 y.l) ∧ v.cell? ⟨w.heap.size + 1, 1, none⟩ = some (.int .i64 y.b) ∧ v.cell? ⟨w.heap.size + 1, 2, none⟩ = some (.int .i64 y.a)) (fun v hb => ⟨blk_cells3 bx hb, blk_cells3 by' hb⟩)
  have HC0 := Lib.hid hC0; have HL := Lib.hid hCl; have HCi := Lib.hid hCi; have HCm := Lib.hid hCm; have HB := Lib.hid hB
  clear hC0 hCl hCi hCm hB bx by' hsz
  refine wp_region_class C (by kernel_rfl) (by kernel_rfl) HC0.out ?_
  go_big_quiet_want
  go_big_quiet_op
  first | go_big_quiet_on | (refine ⟨_, fun _ _ => rfl, ?_⟩; go_big_quiet_on)
  go_big_quiet_want
  refine quiet_run (v := .int .i64 y.l) (fun v hv => by obtain ⟨⟨a0, a1, a2⟩, b0, b1, b2⟩ := HL.out v hv; go_simp) ?_
  simp only [Act.put, List.setIfInBounds_toArray, List.set_cons_zero, List.set_cons_succ]
  go_big_quiet_on
  go_big_quiet_want
  refine quiet_run (v := .agg #[.int .i64 x.l, .int .i64 x.b, .int .i64 x.a]) (fun v hv => by obtain ⟨⟨a0, a1, a2⟩, b0, b1, b2⟩ := HL.out v hv; go_simp) ?_
  simp only [Act.put, List.setIfInBounds_toArray, List.set_cons_zero, List.set_cons_succ]
  go_big_quiet_on
  go_big_quiet_want
  refine quiet_call (f := 192) (args := #[.agg #[.int .i64 x.l, .int .i64 x.b, .int .i64 x.a]]) (fun v _ => by go_simp) (fun v hv => (HE.out v).mono (fun e w' h => ⟨h.1, HCm.out v w' hv h.2⟩)) ?_
  simp only [Act.put, List.setIfInBounds_toArray, List.set_cons_zero, List.set_cons_succ]
  go_big_quiet_on
  go_big_quiet_want
  go_big_quiet_op
  first | go_big_quiet_on | (refine ⟨_, fun _ _ => rfl, ?_⟩; go_big_quiet_on)
  go_big_quiet_want
  go_big_quiet_op
  first | go_big_quiet_on | (refine ⟨_, fun _ _ => rfl, ?_⟩; go_big_quiet_on)
  go_big_quiet_want
  refine quiet_run (v := .agg #[.int .i64 x.l, .int .i64 x.b, .int .i64 x.a]) (fun v hv => by obtain ⟨⟨a0, a1, a2⟩, b0, b1, b2⟩ := HL.out v hv; go_simp) ?_
  simp only [Act.put, List.setIfInBounds_toArray, List.set_cons_zero, List.set_cons_succ]
  go_big_quiet_on
  go_big_quiet_want
  refine quiet_run (v := .agg #[.int .i64 y.l, .int .i64 y.b, .int .i64 y.a]) (fun v hv => by obtain ⟨⟨a0, a1, a2⟩, b0, b1, b2⟩ := HL.out v hv; go_simp) ?_
  simp only [Act.put, List.setIfInBounds_toArray, List.set_cons_zero, List.set_cons_succ]
  go_big_quiet_on
  go_big_quiet_want
  refine quiet_call (f := 203) (args := #[.agg #[.int .i64 x.l, .int .i64 x.b, .int .i64 x.a], .agg #[.int .i64 y.l, .int .i64 y.b, .int .i64 y.a]]) (fun v _ => by go_simp) (fun v hv => (HG.out v).mono (fun e w' h => ⟨h.1, HCm.out v w' hv h.2⟩)) ?_
  simp only [Act.put, List.setIfInBounds_toArray, List.set_cons_zero, List.set_cons_succ]
  go_big_quiet_on
  go_big_quiet_want
  refine quiet_run (v := .bool (!g)) (fun v hv => by cases g <;> rfl) ?_
  simp only [Act.put, List.setIfInBounds_toArray, List.set_cons_zero, List.set_cons_succ]
  go_big_quiet_on
  go_big_quiet_want
  go_big_quiet_op
  first | go_big_quiet_on | (refine ⟨_, fun _ _ => rfl, ?_⟩; go_big_quiet_on)
  go_big_quiet_want
  go_big_quiet_op
  first | go_big_quiet_on | (refine ⟨_, fun _ _ => rfl, ?_⟩; go_big_quiet_on)
  refine wpQuiet_nil ?_
  intro w5 hC5
  have HB5 := Lib.hid (HB.out.trans ((HCi.out _ hC5).mono HB.out.size))
  clear hC5
  go_wp2_with (fail)
  go_ret
  exact ⟨rfl, HB5.out⟩
set_option maxHeartbeats 1000000 in
theorem may_no (x y : Ex) (w : World) (h1 : -9223372036854775808 ≤ x.l + x.b) (h2 : x.l + x.b ≤ 9223372036854775807) (h3 : -9223372036854775808 ≤ x.a + x.b) (h4 : x.a + x.b ≤ 9223372036854775807) (c1 : ¬ y.l ≥ x.l + x.b) :
    Calls Tryz.prog 183 #[exV x, exV y] w fun e w' => e = .returned (.bool false) ∧ Below w.heap.size w w' := by
  have HE := Lib.hid (fun v => end_any x v h1 h2)
  have HG := Lib.hid (fun v => goes_any x y v h1 h2 h3 h4)
  generalize goesB x y = g at *
  have d1 : decide (y.l ≥ x.l + x.b) = false := by simpa using c1
  unfold exV at HE HG ⊢
  go_enter Tryz.func183, Tryz.ntmps183
  go_upto_region 1 with (fail)
  obtain ⟨bx, by', hB, hsz⟩ := two_boxes w x y _ rfl
  change Code.wp _ _ _ _ ((w.alloc (.cells #[.int .i64 x.l, .int .i64 x.b, .int .i64 x.a] 158)).alloc (.cells #[.int .i64 y.l, .int .i64 y.b, .int .i64 y.a] 158))
  generalize hw0 : (w.alloc (.cells #[.int .i64 x.l, .int .i64 x.b, .int .i64 x.a] 158)).alloc (.cells #[.int .i64 y.l, .int .i64 y.b, .int .i64 y.a] 158) = w0 at *
  clear hw0
  obtain ⟨C, hC0, hCl, hCi, hCm⟩ := class_of w0 (fun v => (v.cell? ⟨w.heap.size, 0, none⟩ = some (.int .i64 x.l) ∧ v.cell? ⟨w.heap.size, 1, none⟩ = some (.int .i64 x.b) ∧ v.cell? ⟨w.heap.size, 2, none⟩ = some (.int .i64 x.a)) ∧ v.cell? ⟨w.heap.size + 1, 0, none⟩ = some (.int .i64 y.l) ∧ v.cell? ⟨w.heap.size + 1, 1, none⟩ = some (.int .i64 y.b) ∧ v.cell? ⟨w.heap.size + 1, 2, none⟩ = some (.int .i64 y.a)) (fun v hb => ⟨blk_cells3 bx hb, blk_cells3 by' hb⟩)
  have HC0 := Lib.hid hC0; have HL := Lib.hid hCl; have HCi := Lib.hid hCi; have HCm := Lib.hid hCm; have HB := Lib.hid hB
  clear hC0 hCl hCi hCm hB bx by' hsz
  refine wp_region_class C (by kernel_rfl) (by kernel_rfl) HC0.out ?_
  go_big_quiet_want
  go_big_quiet_op
  first | go_big_quiet_on | (refine ⟨_, fun _ _ => rfl, ?_⟩; go_big_quiet_on)
  go_big_quiet_want
  refine quiet_run (v := .int .i64 y.l) (fun v hv => by obtain ⟨⟨a0, a1, a2⟩, b0, b1, b2⟩ := HL.out v hv; go_simp) ?_
  simp only [Act.put, List.setIfInBounds_toArray, List.set_cons_zero, List.set_cons_succ]
  go_big_quiet_on
  go_big_quiet_want
  refine quiet_run (v := .agg #[.int .i64 x.l, .int .i64 x.b, .int .i64 x.a]) (fun v hv => by obtain ⟨⟨a0, a1, a2⟩, b0, b1, b2⟩ := HL.out v hv; go_simp) ?_
  simp only [Act.put, List.setIfInBounds_toArray, List.set_cons_zero, List.set_cons_succ]
  go_big_quiet_on
  go_big_quiet_want
  refine quiet_call (f := 192) (args := #[.agg #[.int .i64 x.l, .int .i64 x.b, .int .i64 x.a]]) (fun v _ => by go_simp) (fun v hv => (HE.out v).mono (fun e w' h => ⟨h.1, HCm.out v w' hv h.2⟩)) ?_
  simp only [Act.put, List.setIfInBounds_toArray, List.set_cons_zero, List.set_cons_succ]
  go_big_quiet_on
  go_big_quiet_want
  go_big_quiet_op
  first | go_big_quiet_on | (refine ⟨_, fun _ _ => rfl, ?_⟩; go_big_quiet_on)
  go_big_quiet_want
  go_big_quiet_op
  first | go_big_quiet_on | (refine ⟨_, fun _ _ => rfl, ?_⟩; go_big_quiet_on)
  go_big_quiet_skip
  go_big_quiet_skip
  go_big_quiet_skip
  go_big_quiet_skip
  go_big_quiet_want
  go_big_quiet_op
  first | go_big_quiet_on | (refine ⟨_, fun _ _ => rfl, ?_⟩; go_big_quiet_on)
  go_big_quiet_want
  go_big_quiet_op
  first | go_big_quiet_on | (refine ⟨_, fun _ _ => rfl, ?_⟩; go_big_quiet_on)
  refine wpQuiet_nil ?_
  intro w5 hC5
  have HB5 := Lib.hid (HB.out.trans ((HCi.out _ hC5).mono HB.out.size))
  clear hC5
  go_wp2_with (fail)
  go_ret
  exact ⟨rfl, HB5.out⟩
theorem may_any (x y : Ex) (w : World) (h1 : -9223372036854775808 ≤ x.l + x.b) (h2 : x.l + x.b ≤ 9223372036854775807) (h3 : -9223372036854775808 ≤ x.a + x.b) (h4 : x.a + x.b ≤ 9223372036854775807) :
    Calls Tryz.prog 183 #[exV x, exV y] w fun e w' => e = .returned (.bool (mayB x y)) ∧ Below w.heap.size w w' := by
  unfold mayB
  by_cases c1 : y.l ≥ x.l + x.b
  · rw [decide_eq_true c1, Bool.true_and]; exact may_yes x y w h1 h2 h3 h4 c1
  · rw [decide_eq_false c1, Bool.false_and]; exact may_no x y w h1 h2 h3 h4 c1
end Go.Proofs.YtglfjlbhjaemgaaGreatDoor.Ext
