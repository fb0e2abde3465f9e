/- store: the sectors behind the journal: which are used, which were left by which change. -/
import Derived.Test.YtglfjlbhjaemgaaGreatDoorPl33
namespace Go.Proofs.YtglfjlbhjaemgaaGreatDoor
open Go.RowKit
open Ext (Ex Exts exV ExtsF)
/-- Places in memory: two cells each. -/
def plC (n : Nat) (f : Nat → Bool × Nat) : Array Value := Array.ofFn (n := n * 2) fun i => if i.val % 2 = 0 then .bool (f (i.val / 2)).1 else .int .u64 ((f (i.val / 2)).2 : Nat)
theorem plC_size (n : Nat) (f : Nat → Bool × Nat) : (plC n f).size = n * 2 := by unfold plC; rw [Array.size_ofFn]
theorem plC_used {n i : Nat} (f : Nat → Bool × Nat) (h : i < n) : (plC n f)[i * 2]? = some (.bool (f i).1) := by
  unfold plC
  rw [Array.getElem?_ofFn, dif_pos (by omega)]
  simp only [show i * 2 % 2 = 0 by omega, show i * 2 / 2 = i by omega, if_true]
theorem plC_freed {n i : Nat} (f : Nat → Bool × Nat) (h : i < n) : (plC n f)[i * 2 + 1]? = some (.int .u64 ((f i).2 : Nat)) := by
  unfold plC
  rw [Array.getElem?_ofFn, dif_pos (by omega)]
  simp only [show ¬ (i * 2 + 1) % 2 = 0 by omega, show (i * 2 + 1) / 2 = i by omega, if_false]
def updP (f : Nat → Bool × Nat) (i : Nat) (v : Bool × Nat) : Nat → Bool × Nat := fun j => if j = i then v else f j
theorem plC_ext {n : Nat} {cs : Array Value} {f : Nat → Bool × Nat} (hs : cs.size = n * 2) (h : ∀ i, i < n → cs[i * 2]? = some (.bool (f i).1) ∧ cs[i * 2 + 1]? = some (.int .u64 ((f i).2 : Nat))) : cs = plC n f := by
  refine Array.ext_getElem? fun j => ?_
  by_cases hj : j < n * 2
  · obtain ⟨h1, h2⟩ := h (j / 2) (by omega)
    rcases (show j = j / 2 * 2 ∨ j = j / 2 * 2 + 1 by omega) with e | e
    · rw [e, h1, plC_used f (by omega)]
    · rw [e, h2, plC_freed f (by omega)]
  · rw [Array.getElem?_eq_none (by omega), Array.getElem?_eq_none (by rw [plC_size]; omega)]
theorem plC_use {n i : Nat} (f : Nat → Bool × Nat) (b : Bool) (h : i < n) : (plC n f).setIfInBounds (i * 2) (.bool b) = plC n (updP f i (b, (f i).2)) := by
  refine plC_ext (by simpa using plC_size n f) fun j hj => ?_
  have hz := plC_size n f
  by_cases e : j = i
  · subst e
    refine ⟨by rw [Array.getElem?_setIfInBounds_self_of_lt (by omega)]; simp [updP], ?_⟩
    rw [Array.getElem?_setIfInBounds_ne (by omega), plC_freed f hj]
    simp [updP]
  · rw [Array.getElem?_setIfInBounds_ne (by omega), Array.getElem?_setIfInBounds_ne (by omega), plC_used f hj, plC_freed f hj]
    simp [updP, e]
theorem plC_free {n i : Nat} (f : Nat → Bool × Nat) (b : Bool) (k : Nat) (h : i < n) : ((plC n f).setIfInBounds (i * 2) (.bool b)).setIfInBounds (i * 2 + 1) (.int .u64 (k : Nat)) = plC n (updP f i (b, k)) := by
  rw [plC_use f b h]
  refine plC_ext (by simpa using plC_size n _) fun j hj => ?_
  have hz := plC_size n (updP f i (b, (f i).2))
  by_cases e : j = i
  · subst e
    refine ⟨?_, by rw [Array.getElem?_setIfInBounds_self_of_lt (by omega)]; simp [updP]⟩
    rw [Array.getElem?_setIfInBounds_ne (by omega), plC_used _ hj]
    simp [updP]
  · rw [Array.getElem?_setIfInBounds_ne (by omega), Array.getElem?_setIfInBounds_ne (by omega), plC_used _ hj, plC_freed _ hj]
    simp [updP, e]
/-- A sector of an extent, of extents. -/
def covE (x : Ex) (i : Nat) : Bool := decide (x.a ≤ (i : Int) + 576 ∧ (i : Int) + 576 < x.a + x.b)
def covL (l : List Ex) (i : Nat) : Bool := l.any (covE · i)
def useF (f : Nat → Bool × Nat) (l : List Ex) : Nat → Bool × Nat := fun i => if covL l i then (true, (f i).2) else f i
def freeF (f : Nat → Bool × Nat) (l : List Ex) (k : Nat) : Nat → Bool × Nat := fun i => if covL l i then (false, k) else f i
/-- These sectors can be used: they are there, no two are one. -/
def UseOk (n : Nat) : (Nat → Bool × Nat) → List Ex → Prop
  | _, [] => True
  | f, x :: t => x.Fits ∧ 576 ≤ x.a ∧ x.a + x.b ≤ 576 + n ∧ (∀ i, covE x i = true → (f i).1 = false) ∧ UseOk n (useF f [x]) t
theorem useF_cons (f : Nat → Bool × Nat) (x : Ex) (t : List Ex) : useF f (x :: t) = useF (useF f [x]) t := by
  funext i
  simp only [useF, covL, List.any_cons, List.any_nil, Bool.or_false]
  by_cases h1 : covE x i = true <;> by_cases h2 : (t.any fun x => covE x i) = true <;> simp [h1, h2]
/-- The first k sectors of an extent are marked. -/
def useN (f : Nat → Bool × Nat) (a : Nat) : Nat → (Nat → Bool × Nat)
  | 0 => f
  | k + 1 => updP (useN f a k) (a + k) (true, (useN f a k (a + k)).2)
def freeN (f : Nat → Bool × Nat) (a m : Nat) : Nat → (Nat → Bool × Nat)
  | 0 => f
  | k + 1 => updP (freeN f a m k) (a + k) (false, m)
theorem useN_is (f : Nat → Bool × Nat) (a : Nat) : ∀ k i, useN f a k i = if a ≤ i ∧ i < a + k then (true, (f i).2) else f i
  | 0, i => by rw [if_neg (by omega)]; rfl
  | k + 1, i => by
    have ih := useN_is f a k
    show (if i = a + k then (true, (useN f a k (a + k)).2) else useN f a k i) = _
    by_cases h : i = a + k
    · subst h
      rw [if_pos rfl, if_pos (by omega), ih, if_neg (by omega)]
    · rw [if_neg h, ih]
      by_cases h2 : a ≤ i ∧ i < a + k
      · rw [if_pos h2, if_pos (by omega)]
      · rw [if_neg h2, if_neg (by omega)]
theorem freeN_is (f : Nat → Bool × Nat) (a m : Nat) : ∀ k i, freeN f a m k i = if a ≤ i ∧ i < a + k then (false, m) else f i
  | 0, i => by rw [if_neg (by omega)]; rfl
  | k + 1, i => by
    have ih := freeN_is f a m k
    show (if i = a + k then (false, m) else freeN f a m k i) = _
    by_cases h : i = a + k
    · subst h
      rw [if_pos rfl, if_pos (by omega)]
    · rw [if_neg h, ih]
      by_cases h2 : a ≤ i ∧ i < a + k
      · rw [if_pos h2, if_pos (by omega)]
      · rw [if_neg h2, if_neg (by omega)]
theorem useN_all {f : Nat → Bool × Nat} {x : Ex} (h1 : 576 ≤ x.a) (h2 : 0 ≤ x.b) : useN f (x.a - 576).toNat x.b.toNat = useF f [x] := by
  funext i
  rw [useN_is]
  simp only [useF, covL, List.any_cons, List.any_nil, Bool.or_false, covE, decide_eq_true_eq]
  by_cases h : x.a ≤ (i : Int) + 576 ∧ (i : Int) + 576 < x.a + x.b
  · rw [if_pos h, if_pos (by omega)]
  · rw [if_neg h, if_neg (by omega)]
theorem freeN_all {f : Nat → Bool × Nat} {x : Ex} {m : Nat} (h1 : 576 ≤ x.a) (h2 : 0 ≤ x.b) : freeN f (x.a - 576).toNat m x.b.toNat = freeF f [x] m := by
  funext i
  rw [freeN_is]
  simp only [freeF, covL, List.any_cons, List.any_nil, Bool.or_false, covE, decide_eq_true_eq]
  by_cases h : x.a ≤ (i : Int) + 576 ∧ (i : Int) + 576 < x.a + x.b
  · rw [if_pos h, if_pos (by omega)]
  · rw [if_neg h, if_neg (by omega)]
theorem useF_snoc (f : Nat → Bool × Nat) (l : List Ex) (x : Ex) : useF f (l ++ [x]) = useF (useF f l) [x] := by
  funext i
  simp only [useF, covL, List.any_append, List.any_cons, List.any_nil, Bool.or_false]
  by_cases h1 : covE x i = true <;> by_cases h2 : (l.any fun x => covE x i) = true <;> simp [h1, h2]
theorem freeF_snoc (f : Nat → Bool × Nat) (l : List Ex) (x : Ex) (k : Nat) : freeF f (l ++ [x]) k = freeF (freeF f l k) [x] k := by
  funext i
  simp only [freeF, covL, List.any_append, List.any_cons, List.any_nil, Bool.or_false]
  by_cases h1 : covE x i = true <;> by_cases h2 : (l.any fun x => covE x i) = true <;> simp [h1, h2]
theorem UseOk.at_ {n : Nat} : ∀ {l : List Ex} {f : Nat → Bool × Nat} {k : Nat} {x : Ex}, UseOk n f l → l[k]? = some x → x.Fits ∧ 576 ≤ x.a ∧ x.a + x.b ≤ 576 + n ∧ ∀ i, covE x i = true → (useF f (l.take k) i).1 = false
  | y :: l, f, 0, x, h, hx => by
    obtain rfl : y = x := by simpa using hx
    obtain ⟨h1, h2, h3, h4, _⟩ := h
    exact ⟨h1, h2, h3, fun i hi => by rw [List.take_zero]; exact h4 i hi⟩
  | y :: l, f, k + 1, x, h, hx => by
    obtain ⟨_, _, _, _, h5⟩ := h
    obtain ⟨a1, a2, a3, a4⟩ := UseOk.at_ h5 (by simpa using hx)
    exact ⟨a1, a2, a3, fun i hi => by rw [List.take_succ_cons, useF_cons]; exact a4 i hi⟩
def UsAt (w : World) (g n : Nat) (f : Nat → Bool × Nat) (l : List Ex) (i : Value) (wr : World) : Prop :=
  ∃ k : Nat, i = .int .i64 k ∧ k ≤ l.length ∧ Blk wr g 260 (plC n (useF f (l.take k))) ∧ Only (fun b => b = g) w wr
def UiAt (w : World) (g n bx a0 : Nat) (f : Nat → Bool × Nat) (x : Ex) (p : Value) (wr : World) : Prop :=
  ∃ m : Nat, p = .int .i64 (576 + (a0 : Int) + m) ∧ (m : Int) ≤ x.b ∧ Blk wr g 260 (plC n (useN f a0 m)) ∧ Blk wr bx 158 #[.int .i64 x.l, .int .i64 x.b, .int .i64 x.a] ∧ Only (fun b => b = g) w wr
set_option maxRecDepth 100000 in
set_option maxHeartbeats 4000000 in
theorem use_any (g n : Nat) (f : Nat → Bool × Nat) (A : Option Addr) (c : Nat) (l : List Ex) (w : World) (hb : Blk w g 260 (plC n f)) (he : Exts w A l) (hne : ∀ a, A = some a → 0 < l.length → a.block ≠ g) (hu : UseOk n f l) (hn : n ≤ 8192) (hl : l.length ≤ 100000) :
    Calls Tryz.prog 130 #[.slice (some ⟨g, 0, none⟩) n n, .slice A l.length c] w fun e w' => e = .returned (.bool true) ∧ Blk w' g 260 (plC n (useF f l)) ∧ Only (fun b => b = g) w w' := by
  have HB := Lib.hid hb; have HE := Lib.hid he; have HNE := Lib.hid hne; have HU := Lib.hid hu
  clear hb he hne hu
  go_enter Tryz.func130, Tryz.ntmps130
  go_wp2_with (fail)
  go_loopw [11] (fun i wr => UsAt w g n f l i wr) (fun i _ => l.length - (intOf i).toNat)
  case atStart => exact ⟨0, rfl, Nat.zero_le _, by rw [List.take_zero, show useF f [] = f from funext fun i => rfl]; exact HB.out, Only.refl _ _⟩
  case round =>
    obtain ⟨k, rfl, hk, hbk, ho⟩ := hrel
    have HBK := Lib.hid hbk; have HO := Lib.hid ho
    clear hbk ho
    generalize wr = W at *
    by_cases hlt : k < l.length
    · have hki : (k : Int) < l.length := by omega
      obtain ⟨b, o, x, rfl, hat, wf, c0, c1, c2⟩ := HE.out.at_ hlt
      have hbg : b ≠ g := fun h => HNE.out _ rfl (by omega) h
      have d0 := HO.out.cell c0 hbg
      have d1 := HO.out.cell c1 hbg
      have d2 := HO.out.cell c2 hbg
      obtain ⟨hf, h576, hend, hfree⟩ := HU.out.at_ hat
      obtain ⟨hf1, hf2, hf3, hf4, hf5⟩ := hf
      have HFR := Lib.hid hfree
      have HST := Lib.hid (show useF f (l.take (k + 1)) = useF (useF f (l.take k)) [x] by rw [List.take_add_one, hat, Option.toList_some, useF_snoc])
      have HALL := Lib.hid (useN_all (f := useF f (l.take k)) h576 (by omega : 0 ≤ x.b))
      obtain ⟨a0, ha0⟩ : ∃ a0 : Nat, x.a = 576 + a0 := ⟨(x.a - 576).toNat, by omega⟩
      rw [show (x.a - 576).toNat = a0 by omega] at HALL
      obtain ⟨hx0, hxb⟩ := one_alloc W #[.int .i64 x.l, .int .i64 x.b, .int .i64 x.a] 158 _ rfl
      have HX := Lib.hid hx0
      have HB1 := Lib.hid (HBK.out.below hxb HBK.out.lt)
      have HO1 := Lib.hid (HO.out.below hxb)
      have hgx : W.heap.size ≠ g := fun h => by have := HBK.out.lt; omega
      obtain ⟨f0, hf0⟩ : ∃ f0, useF f (l.take k) = f0 := ⟨_, rfl⟩
      rw [hf0] at HFR HST HALL HB1
      have HA0 := Lib.hid ha0
      clear c0 c1 c2 wf hat hfree hx0 hxb hf0 ha0
      go_wp2_with (fail)
      generalize hwx : W.alloc (.cells #[.int .i64 x.l, .int .i64 x.b, .int .i64 x.a] 158) = w1 at *
      go_loopw [7] (fun p wq => UiAt w g n W.heap.size a0 f0 x p wq) (fun p _ => (x.a + x.b - intOf p).toNat)
      case atStart => exact ⟨0, by rw [HA0.out]; simp, by omega, HB1.out, HX.out, HO1.out⟩
      case round =>
        obtain ⟨m, rfl, hm, hbk, hbx, ho⟩ := hrel
        have HBQ := Lib.hid hbk; have HBX := Lib.hid hbx; have HOQ := Lib.hid ho
        clear hbk hbx ho
        have e0 : wr.cell? ⟨W.heap.size, 0, none⟩ = some (.int .i64 x.l) := (HBX.out.cell 0).trans rfl
        have e1 : wr.cell? ⟨W.heap.size, 1, none⟩ = some (.int .i64 x.b) := (HBX.out.cell 1).trans rfl
        have e2 : wr.cell? ⟨W.heap.size, 2, none⟩ = some (.int .i64 x.a) := (HBX.out.cell 2).trans rfl
        have hxa := HA0.out
        have hw0 : IntKind.i64.wrap (x.a + x.b) = x.a + x.b := i64w _ (by omega)
        by_cases hlt2 : (m : Int) < x.b
        · obtain ⟨p, hp⟩ : ∃ p : Int, 576 + (a0 : Int) + m = p := ⟨_, rfl⟩
          have q1 : p < x.a + x.b := by omega
          have q2 : IntKind.i64.wrap (p - 576) = p - 576 := i64w _ (by omega)
          have q3 : ¬ p - 576 < 0 := by omega
          have q4 : ¬ (n : Int) ≤ p - 576 := by omega
          have q5 : 0 ≤ p - 576 := by omega
          have q6 : p - 576 < (n : Int) := by omega
          have q7 : (p - 576).toNat = a0 + m := by omega
          have q8 : IntKind.i64.wrap (p + 1) = p + 1 := i64w _ (by omega)
          have hi : a0 + m < n := by omega
          have hcv : covE x (a0 + m) = true := decide_eq_true (by omega)
          have hfr : (useN f0 a0 m (a0 + m)).1 = false := by rw [useN_is, if_neg (by omega)]; exact HFR.out _ hcv
          have u0 : wr.cell? ⟨g, (a0 + m) * 2, none⟩ = some (.bool false) := by rw [HBQ.out.cell, plC_used _ hi, hfr]
          have v0 := HBQ.out.free ((a0 + m) * 2)
          have HB5 := Lib.hid (HBQ.out.put ((a0 + m) * 2) (.bool true))
          rw [plC_use _ _ hi] at HB5
          have HX5 := Lib.hid (HBX.out.far (p := ⟨g, (a0 + m) * 2, none⟩) hgx (.bool true))
          have HO5 := Lib.hid (HOQ.out.setCell (p := ⟨g, (a0 + m) * 2, none⟩) (.inl rfl) (.bool true))
          have HP := Lib.hid hp
          have HM := Lib.hid (show (m : Int) + 1 ≤ x.b by omega)
          rw [hp]
          clear hp hxa hm hlt2 hi hcv hfr
          go_wp2_with (fail)
          go_roundw
          case rel => exact ⟨m + 1, by first | (congr 1; have := HP.out; push_cast; omega) | (have := HP.out; go_num), by have := HM.out; push_cast; omega, HB5.out, HX5.out, HO5.out⟩
          case measure => simp [intOf]; omega
        · have hmb : (m : Int) = x.b := by omega
          have hge2 : ¬ 576 + (a0 : Int) + m < x.a + x.b := by omega
          have HB6 := Lib.hid (show Blk wr g 260 (plC n (useF f (l.take (k + 1)))) by
            rw [HST.out, ← HALL.out, show x.b.toNat = m by omega]
            exact HBQ.out)
          clear hxa
          go_wp2_with (fail)
          go_roundw
          case rel => exact ⟨k + 1, by go_num, by omega, HB6.out, HOQ.out⟩
          case measure => simp [intOf]; omega
    · obtain rfl : k = l.length := by omega
      have hge : ¬ (l.length : Int) < l.length := by omega
      rw [List.take_length] at HBK
      go_wp2_with (fail)
      go_ret
      exact ⟨rfl, HBK.out, HO.out⟩
def FsAt (w : World) (g n kk : Nat) (f : Nat → Bool × Nat) (l : List Ex) (i : Value) (wr : World) : Prop :=
  ∃ k : Nat, i = .int .i64 k ∧ k ≤ l.length ∧ Blk wr g 260 (plC n (freeF f (l.take k) kk)) ∧ Only (fun b => b = g) w wr
def FiAt (w : World) (g n bx a0 kk : Nat) (f : Nat → Bool × Nat) (x : Ex) (p : Value) (wr : World) : Prop :=
  ∃ m : Nat, p = .int .i64 (576 + (a0 : Int) + m) ∧ (m : Int) ≤ x.b ∧ Blk wr g 260 (plC n (freeN f a0 kk m)) ∧ Blk wr bx 158 #[.int .i64 x.l, .int .i64 x.b, .int .i64 x.a] ∧ Only (fun b => b = g) w wr
set_option maxRecDepth 100000 in
set_option maxHeartbeats 4000000 in
theorem free_any (g n kk : Nat) (f : Nat → Bool × Nat) (A : Option Addr) (c : Nat) (l : List Ex) (w : World) (hb : Blk w g 260 (plC n f)) (he : Exts w A l) (hne : ∀ a, A = some a → 0 < l.length → a.block ≠ g) (hu : ∀ x ∈ l, x.Fits ∧ 576 ≤ x.a ∧ x.a + x.b ≤ 576 + n) (hn : n ≤ 8192) (hl : l.length ≤ 100000) :
    Calls Tryz.prog 129 #[.slice (some ⟨g, 0, none⟩) n n, .slice A l.length c, .int .u64 (kk : Int)] w fun e w' => e = .returned (.tuple #[]) ∧ Blk w' g 260 (plC n (freeF f l kk)) ∧ Only (fun b => b = g) w w' := by
  have HB := Lib.hid hb; have HE := Lib.hid he; have HNE := Lib.hid hne; have HU := Lib.hid hu
  clear hb he hne hu
  go_enter Tryz.func129, Tryz.ntmps129
  go_wp2_with (fail)
  go_loopw [11] (fun i wr => FsAt w g n kk f l i wr) (fun i _ => l.length - (intOf i).toNat)
  case atStart => exact ⟨0, rfl, Nat.zero_le _, by rw [List.take_zero, show freeF f [] kk = f from funext fun i => rfl]; exact HB.out, Only.refl _ _⟩
  case round =>
    obtain ⟨k, rfl, hk, hbk, ho⟩ := hrel
    have HBK := Lib.hid hbk; have HO := Lib.hid ho
    clear hbk ho
    generalize wr = W at *
    by_cases hlt : k < l.length
    · have hki : (k : Int) < l.length := by omega
      obtain ⟨b, o, x, rfl, hat, wf, c0, c1, c2⟩ := HE.out.at_ hlt
      have hbg : b ≠ g := fun h => HNE.out _ rfl (by omega) h
      have d0 := HO.out.cell c0 hbg
      have d1 := HO.out.cell c1 hbg
      have d2 := HO.out.cell c2 hbg
      obtain ⟨hf, h576, hend⟩ := HU.out x (List.mem_of_getElem? hat)
      obtain ⟨hf1, hf2, hf3, hf4, hf5⟩ := hf
      have HST := Lib.hid (show freeF f (l.take (k + 1)) kk = freeF (freeF f (l.take k) kk) [x] kk by rw [List.take_add_one, hat, Option.toList_some, freeF_snoc])
      have HALL := Lib.hid (freeN_all (f := freeF f (l.take k) kk) (m := kk) h576 (by omega : 0 ≤ x.b))
      obtain ⟨a0, ha0⟩ : ∃ a0 : Nat, x.a = 576 + a0 := ⟨(x.a - 576).toNat, by omega⟩
      rw [show (x.a - 576).toNat = a0 by omega] at HALL
      obtain ⟨hx0, hxb⟩ := one_alloc W #[.int .i64 x.l, .int .i64 x.b, .int .i64 x.a] 158 _ rfl
      have HX := Lib.hid hx0
      have HB1 := Lib.hid (HBK.out.below hxb HBK.out.lt)
      have HO1 := Lib.hid (HO.out.below hxb)
      have hgx : W.heap.size ≠ g := fun h => by have := HBK.out.lt; omega
      obtain ⟨f0, hf0⟩ : ∃ f0, freeF f (l.take k) kk = f0 := ⟨_, rfl⟩
      rw [hf0] at HST HALL HB1
      have HA0 := Lib.hid ha0
      clear c0 c1 c2 wf hat hx0 hxb hf0 ha0
      go_wp2_with (fail)
      generalize hwx : W.alloc (.cells #[.int .i64 x.l, .int .i64 x.b, .int .i64 x.a] 158) = w1 at *
      go_loopw [8] (fun p wq => FiAt w g n W.heap.size a0 kk f0 x p wq) (fun p _ => (x.a + x.b - intOf p).toNat)
      case atStart => exact ⟨0, by rw [HA0.out]; simp, by omega, HB1.out, HX.out, HO1.out⟩
      case round =>
        obtain ⟨m, rfl, hm, hbk, hbx, ho⟩ := hrel
        have HBQ := Lib.hid hbk; have HBX := Lib.hid hbx; have HOQ := Lib.hid ho
        clear hbk hbx ho
        have e0 : wr.cell? ⟨W.heap.size, 0, none⟩ = some (.int .i64 x.l) := (HBX.out.cell 0).trans rfl
        have e1 : wr.cell? ⟨W.heap.size, 1, none⟩ = some (.int .i64 x.b) := (HBX.out.cell 1).trans rfl
        have e2 : wr.cell? ⟨W.heap.size, 2, none⟩ = some (.int .i64 x.a) := (HBX.out.cell 2).trans rfl
        have hxa := HA0.out
        have hw0 : IntKind.i64.wrap (x.a + x.b) = x.a + x.b := i64w _ (by omega)
        by_cases hlt2 : (m : Int) < x.b
        · obtain ⟨p, hp⟩ : ∃ p : Int, 576 + (a0 : Int) + m = p := ⟨_, rfl⟩
          have q1 : p < x.a + x.b := by omega
          have q2 : IntKind.i64.wrap (p - 576) = p - 576 := i64w _ (by omega)
          have q3 : ¬ p - 576 < 0 := by omega
          have q4 : ¬ (n : Int) ≤ p - 576 := by omega
          have q5 : 0 ≤ p - 576 := by omega
          have q6 : p - 576 < (n : Int) := by omega
          have q7 : (p - 576).toNat = a0 + m := by omega
          have q8 : IntKind.i64.wrap (p + 1) = p + 1 := i64w _ (by omega)
          have hi : a0 + m < n := by omega
          have u0 : wr.cell? ⟨g, (a0 + m) * 2, none⟩ = some (.bool (freeN f0 a0 kk m (a0 + m)).1) := by rw [HBQ.out.cell, plC_used _ hi]
          have u1 : wr.cell? ⟨g, (a0 + m) * 2 + 1, none⟩ = some (.int .u64 ((freeN f0 a0 kk m (a0 + m)).2 : Nat)) := by rw [HBQ.out.cell, plC_freed _ hi]
          generalize (freeN f0 a0 kk m (a0 + m)).1 = y0 at u0
          generalize (freeN f0 a0 kk m (a0 + m)).2 = y1 at u1
          have v0 := HBQ.out.free ((a0 + m) * 2)
          have v1 := HBQ.out.free ((a0 + m) * 2 + 1)
          have HB5 := Lib.hid ((HBQ.out.put ((a0 + m) * 2) (.bool false)).put ((a0 + m) * 2 + 1) (.int .u64 (kk : Nat)))
          rw [plC_free _ _ _ hi] at HB5
          have HX5 := Lib.hid ((HBX.out.far (p := ⟨g, (a0 + m) * 2, none⟩) hgx (.bool false)).far (p := ⟨g, (a0 + m) * 2 + 1, none⟩) hgx (.int .u64 (kk : Nat)))
          have HO5 := Lib.hid ((HOQ.out.setCell (p := ⟨g, (a0 + m) * 2, none⟩) (.inl rfl) (.bool false)).setCell (p := ⟨g, (a0 + m) * 2 + 1, none⟩) (.inl rfl) (.int .u64 (kk : Nat)))
          have HP := Lib.hid hp
          have HM := Lib.hid (show (m : Int) + 1 ≤ x.b by omega)
          rw [hp]
          clear hp hxa hm hlt2 hi
          go_wp2_with (fail)
          go_roundw
          case rel => exact ⟨m + 1, by first | (congr 1; have := HP.out; push_cast; omega) | (have := HP.out; go_num), by have := HM.out; push_cast; omega, HB5.out, HX5.out, HO5.out⟩
          case measure => simp [intOf]; omega
        · have hmb : (m : Int) = x.b := by omega
          have hge2 : ¬ 576 + (a0 : Int) + m < x.a + x.b := by omega
          have HB6 := Lib.hid (show Blk wr g 260 (plC n (freeF f (l.take (k + 1)) kk)) by
            rw [HST.out, ← HALL.out, show x.b.toNat = m by omega]
            exact HBQ.out)
          clear hxa
          go_wp2_with (fail)
          go_roundw
          case rel => exact ⟨k + 1, by go_num, by omega, HB6.out, HOQ.out⟩
          case measure => simp [intOf]; omega
    · obtain rfl : k = l.length := by omega
      have hge : ¬ (l.length : Int) < l.length := by omega
      rw [List.take_length] at HBK
      go_wp2_with (fail)
      first | go_end0 | go_ret
      exact ⟨rfl, HBK.out, HO.out⟩
/-- Where blocks can be stored: the first i places are looked at; how many blocks are left. -/
def fnd (f : Nat → Bool × Nat) (safe : Nat) (lba : Int) (blocks : Nat) : Nat → List Ex × Nat
  | 0 => ([], blocks)
  | i + 1 => if (fnd f safe lba blocks i).2 = 0 then fnd f safe lba blocks i else if (f i).1 = false ∧ (f i).2 ≤ safe then (Ext.setX (fnd f safe lba blocks i).1 ⟨lba + blocks - (fnd f safe lba blocks i).2, 1, 576 + i⟩, (fnd f safe lba blocks i).2 - 1) else fnd f safe lba blocks i
theorem fnd_left (f : Nat → Bool × Nat) (safe : Nat) (lba : Int) (blocks : Nat) : ∀ i, (fnd f safe lba blocks i).2 ≤ blocks
  | 0 => Nat.le_refl _
  | i + 1 => by
    have ih := fnd_left f safe lba blocks i
    unfold fnd
    split
    · exact ih
    · split
      · show _ - 1 ≤ _; omega
      · exact ih
theorem fnd_fits {lba : Int} {blocks left i : Nat} (h0 : 0 ≤ lba) (h1 : lba + blocks ≤ 4096) (h2 : left ≤ blocks) (h3 : left ≠ 0) (h4 : i < 7616) : Ex.Fits ⟨lba + blocks - left, 1, 576 + i⟩ := by
  unfold Ex.Fits
  simp only
  omega
theorem fnd_good {f : Nat → Bool × Nat} {safe : Nat} {lba : Int} {blocks : Nat} (h0 : 0 ≤ lba) (h1 : lba + blocks ≤ 4096) : ∀ i, i ≤ 7616 → Ext.goodB (fnd f safe lba blocks i).1 = true
  | 0, _ => rfl
  | i + 1, hi => by
    have ih := fnd_good (f := f) (safe := safe) h0 h1 i (by omega)
    have hl := fnd_left f safe lba blocks i
    unfold fnd
    split
    · exact ih
    · rename_i hne
      split
      · exact (Ext.set_good ih (fnd_fits h0 h1 hl hne (by omega))).1
      · exact ih
theorem fnd_stop {f : Nat → Bool × Nat} {safe : Nat} {lba : Int} {blocks i : Nat} (h : (fnd f safe lba blocks i).2 = 0) : ∀ k, fnd f safe lba blocks (i + k) = fnd f safe lba blocks i
  | 0 => rfl
  | k + 1 => by
    have ih := fnd_stop h k
    show fnd f safe lba blocks (i + k + 1) = _
    rw [fnd, ih, if_pos h]
def FnAt (w : World) (n : Nat) (f : Nat → Bool × Nat) (safe : Nat) (lba : Int) (blocks : Nat) (i v left : Value) (wr : World) : Prop :=
  ∃ (k : Nat) (A : Option Addr) (c : Nat), i = .int .i64 k ∧ k ≤ n ∧ v = .slice A (fnd f safe lba blocks k).1.length c ∧ left = .int .i64 ((fnd f safe lba blocks k).2 : Int) ∧ ExtsF w.heap.size wr A (fnd f safe lba blocks k).1 ∧ Below w.heap.size w wr
set_option maxRecDepth 100000 in
set_option maxHeartbeats 4000000 in
theorem find_place (g n safe : Nat) (f : Nat → Bool × Nat) (lba : Int) (blocks : Nat) (w : World) (hb : Blk w g 260 (plC n f)) (hn : n ≤ 7616) (h0 : 0 ≤ lba) (h1 : lba + blocks ≤ 4096) :
    Calls Tryz.prog 122 #[.slice (some ⟨g, 0, none⟩) n n, .int .i64 lba, .int .i64 (blocks : Int), .int .u64 (safe : Int)] w fun e w' => ∃ A c, e = .returned (.tuple #[.slice A (fnd f safe lba blocks n).1.length c, .bool (decide ((fnd f safe lba blocks n).2 = 0))]) ∧ ExtsF w.heap.size w' A (fnd f safe lba blocks n).1 ∧ Below w.heap.size w w' := by
  have HB := Lib.hid hb
  have hnot : ∀ (x : Bool) (w : World), (Op.unary .not (.bool x)).run Tryz.prog w = .ok (.bool (!x)) w := fun _ _ => rfl
  clear hb
  go_enter Tryz.func122, Tryz.ntmps122
  go_wp2_with (fail)
  go_loopw [17, 10, 11] (fun i v left wr => FnAt w n f safe lba blocks i v left wr) (fun i _ _ _ => n - (intOf i).toNat)
  case atStart => exact ⟨0, none, 0, rfl, Nat.zero_le _, rfl, rfl, Ext.ExtsF.nil _ _ _, Below.refl _ _⟩
  case round =>
    obtain ⟨k, A, c, rfl, hk, rfl, rfl, he, hbl⟩ := hrel
    have HE := Lib.hid he; have HBL := Lib.hid hbl
    clear he hbl
    have hleft := fnd_left f safe lba blocks k
    by_cases hlt : k < n
    · have hki : (k : Int) < n := by omega
      have k0 : (0 : Int) ≤ k := by omega
      have HBK := Lib.hid (HB.out.below HBL.out HB.out.lt)
      have u0 : wr.cell? ⟨g, k * 2, none⟩ = some (.bool (f k).1) := by rw [HBK.out.cell, plC_used _ hlt]
      have u1 : wr.cell? ⟨g, k * 2 + 1, none⟩ = some (.int .u64 ((f k).2 : Nat)) := by rw [HBK.out.cell, plC_freed _ hlt]
      obtain ⟨y0, hy0⟩ : ∃ y0, (f k).1 = y0 := ⟨_, rfl⟩
      obtain ⟨y1, hy1⟩ : ∃ y1, (f k).2 = y1 := ⟨_, rfl⟩
      have hxb := (Below.refl wr.heap.size wr).alloc (Nat.le_refl _) (.cells #[.bool y0, .int .u64 (y1 : Nat)] 260)
      have HE1 := Lib.hid (ExtsF.below HE.out hxb)
      have HB1 := Lib.hid (HBL.out.trans (hxb.mono HBL.out.size))
      rw [hy0] at u0
      rw [hy1] at u1
      have HNX := Lib.hid (show fnd f safe lba blocks (k + 1) = _ from by rw [fnd])
      have HSTP := Lib.hid (fun h => fnd_stop (f := f) (safe := safe) (lba := lba) (blocks := blocks) (i := k) h (n - k))
      rw [show k + (n - k) = n by omega] at HSTP
      have HG := Lib.hid (fnd_good (f := f) (safe := safe) h0 h1 k (by omega))
      rw [hy0, hy1] at HNX
      clear hy0 hy1 hxb
      obtain ⟨r, hr⟩ : ∃ r, fnd f safe lba blocks k = r := ⟨_, rfl⟩
      have HEW := HE
      rw [hr] at HE1 HNX HSTP HG HEW hleft ⊢
      clear hr HE HBK
      obtain ⟨l0, m⟩ := r
      simp only at hleft HE1 HNX HSTP HG HEW ⊢
      by_cases hm0 : m = 0
      · subst hm0
        have hst := HSTP.out rfl
        have HSt := Lib.hid hst
        have he := HE1.out
        clear HNX HSTP hst
        go_wp2_with (fail)
        go_ret2
        rw [HSt.out]
        first | exact ⟨A, c, rfl, he, HB1.out⟩ | exact ⟨A, ⟨c, rfl⟩, he, HB1.out⟩
      · have hmb : ((m : Int) == 0) = false := by rw [beq_eq_false_iff_ne]; omega
        have hmb2 : ¬ (m : Int) = 0 := by omega
        cases y0 with
        | true =>
          have hnx : fnd f safe lba blocks (k + 1) = (l0, m) := by rw [HNX.out, if_neg hm0, if_neg (by simp)]
          have HNX2 := Lib.hid hnx
          clear hnx HNX HSTP hm0
          go_wp2_with (fail)
          go_roundw
          case rel => exact ⟨k + 1, A, c, by go_num, by omega, by rw [HNX2.out], by rw [HNX2.out], by rw [HNX2.out]; exact HE1.out, HB1.out⟩
          case measure => simp [intOf]; omega
        | false =>
          by_cases hfs : y1 ≤ safe
          · have hfi : (y1 : Int) ≤ (safe : Int) := by omega
            have hnx : fnd f safe lba blocks (k + 1) = (Ext.setX l0 ⟨lba + blocks - m, 1, 576 + k⟩, m - 1) := by rw [HNX.out, if_neg hm0, if_pos ⟨rfl, hfs⟩]
            have HNX2 := Lib.hid hnx
            have hft := fnd_fits h0 h1 hleft hm0 (show k < 7616 by omega)
            have hw1 : IntKind.i64.wrap (lba + blocks) = lba + blocks := i64w _ (by omega)
            have hw2 : IntKind.i64.wrap (lba + blocks - m) = lba + blocks - m := i64w _ (by omega)
            have hw3 : IntKind.i64.wrap (576 + (k : Int)) = 576 + (k : Int) := i64w _ (by omega)
            have hw4 : IntKind.i64.wrap ((m : Int) - 1) = (m : Int) - 1 := i64w _ (by omega)
            have HSA : Hid (∀ v, Below wr.heap.size wr v → Calls Tryz.prog 163 #[.slice A l0.length c, .agg #[.int .i64 (lba + blocks - m), .int .i64 1, .int .i64 (576 + (k : Int))]] v fun e w' => ∃ E' c', e = .returned (.tuple #[.slice E' (Ext.setX l0 ⟨lba + blocks - m, 1, 576 + k⟩).length c', .int .i64 0]) ∧ ExtsF v.heap.size w' E' (Ext.setX l0 ⟨lba + blocks - m, 1, 576 + k⟩) ∧ Below v.heap.size v w') := Lib.hid (fun v hv => by
              have := Ext.set_any A c l0 ⟨lba + blocks - m, 1, 576 + k⟩ v (HEW.out.1.below hv) (fits_wf hft) (by have := Ext.good_length HG.out; unfold maxLen; omega)
              rw [setR_good HG.out hft] at this
              exact this)
            obtain ⟨l1, hl1⟩ : ∃ l1, Ext.setX l0 ⟨lba + blocks - m, 1, 576 + k⟩ = l1 := ⟨_, rfl⟩
            rw [hl1] at HSA HNX2
            have HBX := Lib.hid ((Below.refl wr.heap.size wr).alloc (Nat.le_refl _) (.cells #[.bool false, .int .u64 (y1 : Nat)] 260))
            have HMP := Lib.hid (show ((m - 1 : Nat) : Int) = (m : Int) - 1 by omega)
            have HSAB := Lib.hid (HSA.out _ HBX.out)
            clear hnx HNX HSTP hm0 hft hl1 hfs HSA
            go_wp2_with (fail)
            refine HSAB.out.mono ?_; rintro e w3 ⟨E3, ce3, rfl, hx3, hb3⟩
            have HE3 := Lib.hid (ExtsF.mono (C := w.heap.size) hx3 HB1.out.size)
            have HB3 := Lib.hid (HB1.out.trans (hb3.mono HB1.out.size))
            clear hx3 hb3
            go_wp2_with (fail)
            go_roundw
            case rel => exact ⟨k + 1, E3, ce3, by go_num, by omega, by rw [HNX2.out], by rw [HNX2.out, HMP.out], by rw [HNX2.out]; exact HE3.out, HB3.out⟩
            case measure => simp [intOf]; omega
          · have hfi : ¬ (y1 : Int) ≤ (safe : Int) := by omega
            have hnx : fnd f safe lba blocks (k + 1) = (l0, m) := by rw [HNX.out, if_neg hm0, if_neg (fun h => hfs h.2)]
            have HNX2 := Lib.hid hnx
            clear hnx HNX HSTP hm0 hfs
            go_wp2_with (fail)
            go_roundw
            case rel => exact ⟨k + 1, A, c, by go_num, by omega, by rw [HNX2.out], by rw [HNX2.out], by rw [HNX2.out]; exact HE1.out, HB1.out⟩
            case measure => simp [intOf]; omega
    · obtain rfl : k = n := by omega
      have hge : ¬ (k : Int) < k := by omega
      obtain ⟨r, hr⟩ : ∃ r, fnd f safe lba blocks k = r := ⟨_, rfl⟩
      have HR := Lib.hid hr
      rw [hr] at HE hleft ⊢
      clear hr
      obtain ⟨l0, m⟩ := r
      simp only at hleft HE ⊢
      have hdm : ((m : Int) == 0) = decide (m = 0) := by
        by_cases h : m = 0
        · subst h; rfl
        · rw [decide_eq_false h, beq_eq_false_iff_ne]; omega
      have hdm2 : decide ((m : Int) = 0) = decide (m = 0) := by
        by_cases h : m = 0
        · subst h; rfl
        · rw [decide_eq_false h]; exact decide_eq_false (by omega)
      go_wp2_with (fail)
      go_ret2
      rw [HR.out]
      first | exact ⟨A, c, rfl, HE.out, HBL.out⟩ | exact ⟨A, c, by rw [← hdm]; rfl, HE.out, HBL.out⟩ | exact ⟨A, ⟨c, by rw [← hdm]; rfl⟩, HE.out, HBL.out⟩ | exact ⟨A, ⟨c, rfl⟩, HE.out, HBL.out⟩
end Go.Proofs.YtglfjlbhjaemgaaGreatDoor
