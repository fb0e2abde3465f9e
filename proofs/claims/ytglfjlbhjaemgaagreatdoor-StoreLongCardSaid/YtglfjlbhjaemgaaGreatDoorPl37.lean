/- store: too long, too many, out of the unit. store: the places of blocks, and what stands there. store: a store at rest, its changes, its crashes. -/
import Derived.Test.YtglfjlbhjaemgaaGreatDoorPl36
namespace Go.Proofs.YtglfjlbhjaemgaaGreatDoor
open Go.RowKit
open Ext (Ex Exts exV ExtsF textX)
theorem hnot_true (w : World) : (Op.unary .not (.bool true)).run Tryz.prog w = .ok (.bool false) w := rfl
open Go.RowKit
open Ext (Ex Exts exV ExtsF textX)
open Ext (whereX AscTo goodB setX dropX)
/-- Each block of a list stands where the list says. -/
theorem asc_mem : ∀ {l : List Ex} {s e : Int}, AscTo s e l → ∀ x ∈ l, s ≤ x.l ∧ x.Fits ∧ x.l + x.b ≤ e ∧ ∀ n, x.l ≤ n → n < x.l + x.b → whereX l n = some (x.a + n - x.l)
  | y :: t, s, e, h, x, hx => by
    obtain ⟨h1, h2, h3⟩ := h
    have hy := h2
    unfold Ex.Fits at hy
    rcases List.mem_cons.1 hx with rfl | hx
    · exact ⟨h1, h2, h3.le, fun n a b => by rw [Ext.where_cons, if_pos ⟨a, b⟩]⟩
    · obtain ⟨k1, k2, k3, k4⟩ := asc_mem h3 x hx
      refine ⟨by omega, k2, k3, fun n a b => ?_⟩
      rw [Ext.where_cons, if_neg (by omega), k4 n a b]
theorem where_mem : ∀ {l : List Ex} {n a : Int}, whereX l n = some a → ∃ x ∈ l, x.l ≤ n ∧ n < x.l + x.b ∧ a = x.a + n - x.l
  | y :: t, n, a, h => by
    rw [Ext.where_cons] at h
    split at h
    · rename_i hh
      exact ⟨y, List.mem_cons_self .., hh.1, hh.2, (Option.some.inj h).symm⟩
    · obtain ⟨x, hx, k⟩ := where_mem h
      exact ⟨x, List.mem_cons_of_mem _ hx, k⟩
theorem cov_iff {l : List Ex} {s e : Int} (h : AscTo s e l) (i : Nat) : covL l i = true ↔ ∃ b, whereX l b = some ((i : Int) + 576) := by
  unfold covL
  rw [List.any_eq_true]
  constructor
  · rintro ⟨x, hx, hc⟩
    unfold covE at hc
    have hc := of_decide_eq_true hc
    refine ⟨x.l + ((i : Int) + 576 - x.a), ?_⟩
    rw [(asc_mem h x hx).2.2.2 _ (by omega) (by omega)]
    congr 1; omega
  · rintro ⟨b, hb⟩
    obtain ⟨x, hx, h1, h2, h3⟩ := where_mem hb
    refine ⟨x, hx, ?_⟩
    unfold covE
    exact decide_eq_true (by omega)
/-- No two blocks at one place. -/
def InjP (l : List Ex) : Prop := ∀ b c a, whereX l b = some a → whereX l c = some a → b = c
theorem use_of : ∀ {l : List Ex} {s e : Int} {n : Nat} {f : Nat → Bool × Nat}, AscTo s e l → (∀ b a, whereX l b = some a → 576 ≤ a ∧ a < 576 + n ∧ (f (a - 576).toNat).1 = false) → InjP l → UseOk n f l
  | [], _, _, _, _, _, _, _ => trivial
  | x :: t, s, e, n, f, h, hr, hi => by
    obtain ⟨h1, h2, h3⟩ := h
    have hx := h2
    unfold Ex.Fits at hx
    have up : ∀ b a, whereX t b = some a → x.l + x.b ≤ b ∧ whereX (x :: t) b = some a := fun b a hb => by
      have hle : x.l + x.b ≤ b := by
        by_cases hh : x.l + x.b ≤ b
        · exact hh
        · rw [h3.none_below b (by omega)] at hb; cases hb
      refine ⟨hle, ?_⟩
      rw [Ext.where_cons, if_neg (by omega), hb]
    have w1 : whereX (x :: t) x.l = some x.a := by rw [Ext.where_cons, if_pos (by omega)]; congr 1; omega
    have w2 : whereX (x :: t) (x.l + x.b - 1) = some (x.a + x.b - 1) := by rw [Ext.where_cons, if_pos (by omega)]; congr 1; omega
    have r1 := hr _ _ w1
    have r2 := hr _ _ w2
    refine ⟨h2, r1.1, by omega, fun i hc => ?_, use_of h3 (fun b a hb => ?_) (fun b c a hb hc => hi b c a (up b a hb).2 (up c a hc).2)⟩
    · unfold covE at hc
      have hc := of_decide_eq_true hc
      have w3 : whereX (x :: t) (x.l + ((i : Int) + 576 - x.a)) = some ((i : Int) + 576) := by rw [Ext.where_cons, if_pos (by omega)]; congr 1; omega
      have := (hr _ _ w3).2.2
      rwa [show ((i : Int) + 576 - 576).toNat = i by omega] at this
    · obtain ⟨hle, hw⟩ := up b a hb
      obtain ⟨k1, k2, k3⟩ := hr b a hw
      refine ⟨k1, k2, ?_⟩
      unfold useF
      have hn : covL [x] (a - 576).toNat = false := by
        cases hcv : covL [x] (a - 576).toNat with
        | false => rfl
        | true =>
          simp only [covL, List.any_cons, List.any_nil, Bool.or_false, covE, decide_eq_true_eq] at hcv
          have w3 : whereX (x :: t) (x.l + (a - x.a)) = some a := by rw [Ext.where_cons, if_pos (by omega)]; congr 1; omega
          have := hi _ _ _ hw w3
          omega
      rw [hn]
      exact k3
theorem useTs_is : ∀ (l : List Tb) (f : Nat → Bool × Nat) (i : Nat), (useTs f l i).1 = ((f i).1 || l.any (fun t => covL t.ex i)) ∧ (useTs f l i).2 = (f i).2
  | [], f, i => by simp [useTs]
  | t :: l, f, i => by
    have ih := useTs_is l (useF f t.ex) i
    show (useTs (useF f t.ex) l i).1 = _ ∧ (useTs (useF f t.ex) l i).2 = _
    rw [ih.1, ih.2, List.any_cons]
    unfold useF
    cases covL t.ex i <;> simp
/-- The tables' blocks stand at places of their own, of which there are n. -/
structure Apart (n : Nat) (l : List Tb) : Prop where
  range : ∀ (k : Nat) (t : Tb), l[k]? = some t → ∀ b a, whereX t.ex b = some a → 576 ≤ a ∧ a < 576 + n
  one : ∀ (k k' : Nat) (t t' : Tb), l[k]? = some t → l[k']? = some t' → ∀ b b' a, whereX t.ex b = some a → whereX t'.ex b' = some a → k = k' ∧ b = b'
theorem Apart.tail {n : Nat} {t : Tb} {l : List Tb} (h : Apart n (t :: l)) : Apart n l :=
  ⟨fun k u hu => h.range (k + 1) u hu, fun k k' u u' hu hu' b b' a hb hb' => by
    have := h.one (k + 1) (k' + 1) u u' hu hu' b b' a hb hb'
    exact ⟨by omega, this.2⟩⟩
theorem useTs_of : ∀ {l : List Tb} {n : Nat} {f : Nat → Bool × Nat}, (∀ t ∈ l, goodB t.ex = true) → Apart n l → (∀ t ∈ l, ∀ b a, whereX t.ex b = some a → (f (a - 576).toNat).1 = false) → UseTs n f l
  | [], _, _, _, _, _ => trivial
  | t :: l, n, f, hg, ha, hf => by
    have hgt := hg t (List.mem_cons_self ..)
    have hasc := Ext.good_asc hgt
    refine ⟨use_of hasc (fun b a hb => ⟨(ha.range 0 t rfl b a hb).1, (ha.range 0 t rfl b a hb).2, hf t (List.mem_cons_self ..) b a hb⟩) (fun b c a hb hc => (ha.one 0 0 t t rfl rfl b c a hb hc).2), useTs_of (fun u hu => hg u (List.mem_cons_of_mem _ hu)) ha.tail (fun u hu b a hb => ?_)⟩
    unfold useF
    obtain ⟨k, hk⟩ := List.mem_iff_getElem?.1 hu
    have hra := ha.range (k + 1) u hk b a hb
    cases hc : covL t.ex (a - 576).toNat with
    | false => exact hf u (List.mem_cons_of_mem _ hu) b a hb
    | true =>
      obtain ⟨b', hb'⟩ := (cov_iff hasc _).1 hc
      rw [show (((a - 576).toNat : Nat) : Int) + 576 = a by omega] at hb'
      have := (ha.one 0 (k + 1) t u rfl hk b' b a hb' hb).1
      omega
/-- A table is turned into another one: its blocks stand where they stood, or at places that no table has. -/
theorem Apart.set {n : Nat} {l : List Tb} {k : Nat} {t u : Tb} (h : Apart n l) (hk : l[k]? = some t) (hu : ∀ b a, whereX u.ex b = some a → whereX t.ex b = some a ∨ (576 ≤ a ∧ a < 576 + n ∧ ∀ (j : Nat) (v : Tb), l[j]? = some v → ∀ c, whereX v.ex c ≠ some a)) (hi : InjP u.ex) : Apart n (l.set k u) := by
  have hkl := (List.getElem?_eq_some_iff.1 hk).1
  have at_ : ∀ (j : Nat) (v : Tb), (l.set k u)[j]? = some v → (j = k ∧ v = u) ∨ (j ≠ k ∧ l[j]? = some v) := fun j v hv => by
    by_cases hj : j = k
    · subst hj
      rw [List.getElem?_set_self hkl] at hv
      exact .inl ⟨rfl, (Option.some.inj hv).symm⟩
    · rw [List.getElem?_set_ne (by omega)] at hv
      exact .inr ⟨hj, hv⟩
  refine ⟨fun j v hv b a hb => ?_, fun j j' v v' hv hv' b b' a hb hb' => ?_⟩
  · rcases at_ j v hv with ⟨rfl, rfl⟩ | ⟨_, hv⟩
    · rcases hu b a hb with h1 | h1
      · exact h.range j t hk b a h1
      · exact ⟨h1.1, h1.2.1⟩
    · exact h.range j v hv b a hb
  · rcases at_ j v hv with ⟨rfl, rfl⟩ | ⟨hj, gv⟩ <;> rcases at_ j' v' hv' with ⟨rfl, rfl⟩ | ⟨hj', gv'⟩
    · exact ⟨rfl, hi b b' a hb hb'⟩
    · rcases hu b a hb with h1 | h1
      · have := (h.one j j' t v' hk gv' b b' a h1 hb').1; omega
      · exact absurd hb' (h1.2.2 j' v' gv' b')
    · rcases hu b' a hb' with h1 | h1
      · have := (h.one j j' v t gv hk b b' a hb h1).1; omega
      · exact absurd hb (h1.2.2 j v gv b)
    · exact h.one j j' v v' gv gv' b b' a hb hb'
theorem sets_is : ∀ {q l : List Ex}, goodB l = true → AscTo 0 4096 q → goodB (setsX l q) = true ∧ ∀ n, whereX (setsX l q) n = (whereX q n).or (whereX l n)
  | q, l, hl, hq => by
    have key : ∀ (q : List Ex) (l : List Ex) (s : Int), goodB l = true → AscTo s 4096 q → 0 ≤ s → goodB (setsX l q) = true ∧ ∀ n, whereX (setsX l q) n = (whereX q n).or (whereX l n) := by
      intro q
      induction q with
      | nil => intro l s hl _ _; exact ⟨hl, fun n => rfl⟩
      | cons x t ih =>
        intro l s hl hq hs
        obtain ⟨h1, h2, h3⟩ := hq
        have hx := h2
        unfold Ex.Fits at hx
        obtain ⟨g1, g2⟩ := Ext.set_good hl h2
        obtain ⟨k1, k2⟩ := ih (setX l x) _ g1 h3 (by omega)
        refine ⟨k1, fun n => ?_⟩
        show whereX (setsX (setX l x) t) n = _
        rw [k2, g2, Ext.where_cons]
        by_cases hn : x.l ≤ n ∧ n < x.l + x.b
        · rw [if_pos hn, if_pos hn, h3.none_below n (by omega)]; rfl
        · rw [if_neg hn, if_neg hn]
    exact key q l 0 hl hq (Int.le_refl _)
def inR (rs : List (Nat × Nat)) (n : Int) : Bool := rs.any fun r => decide ((r.1 : Int) ≤ n ∧ n < r.1 + r.2)
theorem drops_is : ∀ {rs : List (Nat × Nat)} {l : List Ex}, goodB l = true → (∀ r ∈ rs, r.1 + r.2 ≤ 4096) → goodB (dropsX l rs) = true ∧ ∀ n, whereX (dropsX l rs) n = if inR rs n then none else whereX l n
  | [], l, hl, _ => ⟨hl, fun n => rfl⟩
  | r :: rs, l, hl, h => by
    have hr := h r (List.mem_cons_self ..)
    obtain ⟨g1, g2⟩ := Ext.drop_good (lba := (r.1 : Int)) (k := (r.2 : Int)) hl (by omega) (by omega) (by omega)
    obtain ⟨k1, k2⟩ := drops_is (rs := rs) g1 (fun r hr => h r (List.mem_cons_of_mem _ hr))
    refine ⟨k1, fun n => ?_⟩
    show whereX (dropsX (dropX l r.1 r.2) rs) n = _
    rw [k2, g2]
    unfold inR
    rw [List.any_cons]
    by_cases hn : (r.1 : Int) ≤ n ∧ n < r.1 + r.2
    · rw [if_pos hn, decide_eq_true hn]; simp
    · rw [if_neg hn, decide_eq_false hn, Bool.false_or]
/-- What is found: blocks from lba on, at free places, no two at one. -/
structure Found (f : Nat → Bool × Nat) (safe : Nat) (lba : Int) (k i : Nat) (q : List Ex) : Prop where
  dom : ∀ b, whereX q b ≠ none ↔ lba ≤ b ∧ b < lba + k
  at_ : ∀ b a, whereX q b = some a → 576 ≤ a ∧ a < 576 + i ∧ (f (a - 576).toNat).1 = false ∧ (f (a - 576).toNat).2 ≤ safe
  inj : InjP q
theorem fnd_found {f : Nat → Bool × Nat} {safe : Nat} {lba : Int} {blocks : Nat} (h0 : 0 ≤ lba) (h1 : lba + blocks ≤ 4096) : ∀ i, i ≤ 7616 → Found f safe lba (blocks - (fnd f safe lba blocks i).2) i (fnd f safe lba blocks i).1
  | 0, _ => ⟨(fun b => by
      show (none : Option Int) ≠ none ↔ _
      constructor
      · intro h; exact absurd rfl h
      · intro h; have := h.1; have := h.2; simp only [fnd] at this; omega), (fun b a h => by cases h), (fun b c a h => by cases h)⟩
  | i + 1, hi => by
    obtain ⟨d, t, j⟩ := fnd_found (f := f) (safe := safe) h0 h1 i (by omega)
    have hl := fnd_left f safe lba blocks i
    have hg := fnd_good (f := f) (safe := safe) h0 h1 i (by omega)
    unfold fnd
    generalize fnd f safe lba blocks i = r at *
    by_cases hz : r.2 = 0
    · rw [if_pos hz]
      exact ⟨d, fun b a hb => by have := t b a hb; exact ⟨this.1, by omega, this.2.2⟩, j⟩
    · rw [if_neg hz]
      by_cases hf : (f i).1 = false ∧ (f i).2 ≤ safe
      · rw [if_pos hf]
        obtain ⟨g1, g2⟩ := Ext.set_good hg (fnd_fits (i := i) h0 h1 hl hz (by omega))
        simp only at g2
        have w : ∀ n, whereX (setX r.1 ⟨lba + blocks - r.2, 1, 576 + i⟩) n = if n = lba + blocks - r.2 then some (576 + (i : Int)) else whereX r.1 n := fun n => by
          rw [g2]
          by_cases hn : n = lba + blocks - r.2
          · rw [if_pos (by omega), if_pos hn]; congr 1; omega
          · rw [if_neg (by omega), if_neg hn]
        refine ⟨fun b => ?_, fun b a hb => ?_, fun b c a hb hc => ?_⟩
        · simp only [w]
          by_cases hn : b = lba + blocks - r.2
          · rw [if_pos hn]; simp; omega
          · rw [if_neg hn, d]; omega
        · simp only [w] at hb
          split at hb
          · obtain rfl := Option.some.inj hb
            refine ⟨by omega, by omega, ?_⟩
            rw [show (576 + (i : Int) - 576).toNat = i by omega]
            exact hf
          · have := t b a hb
            exact ⟨this.1, by omega, this.2.2⟩
        · simp only [w] at hb hc
          split at hb <;> split at hc
          · omega
          · obtain rfl := Option.some.inj hb
            have := t c _ hc; omega
          · obtain rfl := Option.some.inj hc
            have := t b _ hb; omega
          · exact j b c a hb hc
      · rw [if_neg hf]
        exact ⟨d, fun b a hb => by have := t b a hb; exact ⟨this.1, by omega, this.2.2⟩, j⟩
/-- How many places can be taken. -/
def freeC (f : Nat → Bool × Nat) (safe m : Nat) : Nat := (List.range m).countP fun i => decide ((f i).1 = false ∧ (f i).2 ≤ safe)
theorem countP_next (p : Nat → Bool) (m : Nat) : (List.range (m + 1)).countP p = (List.range m).countP p + (if p m then 1 else 0) := by
  rw [List.range_succ, List.countP_append]
  simp [List.countP_cons]
theorem fnd_count {f : Nat → Bool × Nat} {safe : Nat} {lba : Int} {blocks : Nat} : ∀ i, (fnd f safe lba blocks i).2 = blocks - freeC f safe i
  | 0 => by simp [fnd, freeC]
  | i + 1 => by
    have ih := fnd_count (f := f) (safe := safe) (lba := lba) (blocks := blocks) i
    have hn := countP_next (fun i => decide ((f i).1 = false ∧ (f i).2 ≤ safe)) i
    unfold freeC at *
    rw [hn]
    unfold fnd
    by_cases hz : (fnd f safe lba blocks i).2 = 0
    · rw [if_pos hz]; omega
    · rw [if_neg hz]
      by_cases hf : (f i).1 = false ∧ (f i).2 ≤ safe
      · rw [if_pos hf, decide_eq_true hf]; simp only [if_true]; omega
      · rw [if_neg hf, decide_eq_false hf]; simp only [Bool.false_eq_true, if_false]; omega
theorem count_span (lo hi : Int) (h0 : lo ≤ hi) : ∀ m : Nat, ((List.range m).countP (fun i : Nat => decide (lo ≤ (i : Int) + 576 ∧ (i : Int) + 576 < hi)) : Int) ≤ max 0 (min ((m : Int) + 576) hi - lo)
  | 0 => by simp; omega
  | m + 1 => by
    have ih := count_span lo hi h0 m
    rw [countP_next]
    by_cases h : lo ≤ (m : Int) + 576 ∧ (m : Int) + 576 < hi
    · rw [decide_eq_true h]; simp only [if_true]; omega
    · rw [decide_eq_false h]; simp only [Bool.false_eq_true, if_false]; omega
theorem count_or (p q : Nat → Bool) : ∀ m, (List.range m).countP (fun i => p i || q i) ≤ (List.range m).countP p + (List.range m).countP q
  | 0 => by simp
  | m + 1 => by
    have ih := count_or p q m
    rw [countP_next, countP_next, countP_next]
    cases p m <;> cases q m <;> simp <;> omega
theorem count_cov : ∀ (l : List Ex) (m : Nat), (∀ x ∈ l, 1 ≤ x.b) → ((List.range m).countP (covL l) : Int) ≤ Ext.sumB l
  | [], m, _ => by
    show ((List.range m).countP (fun _ => false) : Int) ≤ 0
    simp
  | x :: t, m, h => by
    have ih := count_cov t m (fun y hy => h y (List.mem_cons_of_mem _ hy))
    have h1 := count_or (covE x) (covL t) m
    have h2 := count_span x.a (x.a + x.b) (by have := h x (List.mem_cons_self ..); omega) m
    have e : covL (x :: t) = fun i => covE x i || covL t i := by funext i; simp [covL]
    rw [e]
    show _ ≤ x.b + Ext.sumB t
    have h3 : ((List.range m).countP (covE x) : Int) ≤ x.b := by
      have := h x (List.mem_cons_self ..)
      refine Int.le_trans h2 ?_
      omega
    omega
theorem asc_sum : ∀ {l : List Ex} {s e : Int}, AscTo s e l → Ext.sumB l ≤ e - s
  | [], s, e, h => by have h : s ≤ e := h; show (0 : Int) ≤ _; omega
  | x :: t, s, e, h => by
    have ih := asc_sum h.2.2
    have h1 := h.1
    show x.b + Ext.sumB t ≤ _
    omega
theorem asc_down : ∀ {l : List Ex} {s e f : Int}, AscTo s e l → s ≤ f → (∀ b, f ≤ b → whereX l b = none) → AscTo s f l
  | [], s, e, f, _, h, _ => h
  | x :: t, s, e, f, h, hf, hd => by
    obtain ⟨h1, h2, h3⟩ := h
    have hx := h2
    unfold Ex.Fits at hx
    have hlt : x.l + x.b ≤ f := by
      by_cases hh : x.l + x.b ≤ f
      · exact hh
      · by_cases hk : x.l ≤ f
        · have := hd f (Int.le_refl _)
          rw [Ext.where_cons, if_pos (by omega)] at this
          cases this
        · have := hd x.l (by omega)
          rw [Ext.where_cons, if_pos (by omega)] at this
          cases this
    exact ⟨h1, h2, asc_down h3 hlt (fun b hb => by
      have := hd b hb
      rwa [Ext.where_cons, if_neg (by omega)] at this)⟩
theorem Tb.Ok.asc {t : Tb} (h : t.Ok) : AscTo 0 t.n t.ex := asc_down (Ext.good_asc h.good) (by have := h.n1; omega) h.dom
theorem count_tabs : ∀ (l : List Tb) (m : Nat), (∀ t ∈ l, t.Ok) → ((List.range m).countP (fun i => l.any fun t => covL t.ex i) : Int) ≤ sumN l
  | [], m, _ => by
    show ((List.range m).countP (fun _ => false) : Int) ≤ 0
    simp
  | t :: l, m, h => by
    have ih := count_tabs l m (fun y hy => h y (List.mem_cons_of_mem _ hy))
    have ht := h t (List.mem_cons_self ..)
    have h1 := count_or (covL t.ex) (fun i => l.any fun t => covL t.ex i) m
    have h2 := count_cov t.ex m (fun x hx => by have := (asc_mem ht.asc x hx).2.1; unfold Ex.Fits at this; omega)
    have h3 := asc_sum ht.asc
    have e : (fun i => (t :: l).any fun t => covL t.ex i) = fun i => covL t.ex i || l.any fun t => covL t.ex i := by funext i; simp
    rw [e]
    show _ ≤ t.n + sumN l
    omega
theorem count_not (p : Nat → Bool) : ∀ m, (List.range m).countP p + (List.range m).countP (fun i => !p i) = m
  | 0 => rfl
  | m + 1 => by
    have ih := count_not p m
    rw [countP_next, countP_next]
    cases p m <;> simp <;> omega
/-- Where all that is free is safe, there is room for a unit's blocks. -/
theorem room_free {l : List Tb} {n ch k : Nat} {f : Nat → Bool × Nat} (ho : ∀ t ∈ l, t.Ok) (hn : 576 + 2 * sumN l ≤ n) (hf : ∀ i, i < n - 576 → (f i).1 = l.any (fun t => covL t.ex i) ∧ (f i).2 ≤ ch) (hk : (k : Int) ≤ sumN l) : k ≤ freeC f ch (n - 576) := by
  have h1 := count_tabs l (n - 576) ho
  have h2 := count_not (fun i => l.any fun t => covL t.ex i) (n - 576)
  have h3 : freeC f ch (n - 576) = (List.range (n - 576)).countP (fun i => !l.any fun t => covL t.ex i) := by
    unfold freeC
    refine List.countP_congr fun i hi => ?_
    have hi := List.mem_range.1 hi
    obtain ⟨k1, k2⟩ := hf i hi
    rw [k1]
    simp [k2]
  rw [h3]
  omega
theorem putAll_past : ∀ (ws : List (Nat × ByteArray)) (L : List ByteArray) (i : Nat), (∀ w ∈ ws, w.1 ≠ i) → (putAll L ws)[i]? = L[i]?
  | [], _, _, _ => rfl
  | w :: ws, L, i, h => by
    show (putAll (L.set w.1 w.2) ws)[i]? = _
    rw [putAll_past ws _ i (fun v hv => h v (List.mem_cons_of_mem _ hv)), List.getElem?_set_ne (h w (List.mem_cons_self ..))]
theorem putAll_val : ∀ (ws : List (Nat × ByteArray)) (L : List ByteArray) (i : Nat) (v : ByteArray), (∀ w ∈ ws, w.1 = i → w.2 = v) → (∃ w ∈ ws, w.1 = i) → i < L.length → (putAll L ws)[i]? = some v
  | [], _, _, _, _, h, _ => by obtain ⟨w, hw, _⟩ := h; cases hw
  | w :: ws, L, i, v, h, he, hl => by
    show (putAll (L.set w.1 w.2) ws)[i]? = _
    by_cases hx : ∃ u ∈ ws, u.1 = i
    · exact putAll_val ws _ i v (fun u hu => h u (List.mem_cons_of_mem _ hu)) hx (by rw [List.length_set]; exact hl)
    · have hfar : ∀ u ∈ ws, u.1 ≠ i := fun u hu e => hx ⟨u, hu, e⟩
      rw [putAll_past ws _ i hfar]
      have hwi : w.1 = i := by
        obtain ⟨u, hu, e⟩ := he
        rcases List.mem_cons.1 hu with rfl | hu
        · exact e
        · exact absurd e (hfar u hu)
      have hv := h w (List.mem_cons_self ..) hwi
      rw [← hwi, hv, List.getElem?_set_self (by rw [hwi]; exact hl)]
theorem tear_far (safe : List ByteArray) (held : List (Nat × ByteArray)) (keep : List Int) (i : Nat) (h : ∀ w ∈ held, w.1 ≠ i) : ∀ k, (tearN safe held keep k)[i]? = safe[i]?
  | 0 => rfl
  | k + 1 => by
    unfold tearN
    split
    · exact tear_far safe held keep i h k
    · rename_i w hw
      unfold tear1
      rw [List.getElem?_set_ne (h w (List.mem_of_getElem? hw)), tear_far safe held keep i h k]
/-- What is written when blocks are laid. -/
def layW (lba : Nat) (t : ByteArray) : List Ex → List (Nat × ByteArray)
  | [] => []
  | e :: l => secL (t.extract ((e.l.toNat - lba) * 512) ((e.l.toNat - lba) * 512 + e.b.toNat * 512)) e.a.toNat 0 e.b.toNat ++ layW lba t l
theorem put_yes {x : St} {i m : Nat} {s : ByteArray} (h : (x.put i s m).2 = true) : (x.put i s m).1.held = x.held ++ secL s i 0 m ∧ (x.put i s m).1.safe = x.safe ∧ (x.put i s m).1.down = x.down ∧ (x.put i s m).1.armed = x.armed := by
  obtain ⟨c, _, h1, h2, h3, _⟩ := put_form x i m s
  obtain ⟨rfl, h4, h5⟩ := h3 h
  exact ⟨h1, h2, h4, h5⟩
theorem put_seen {x : St} {i m : Nat} {s : ByteArray} (h : (x.put i s m).2 = true) : (x.put i s m).1.seen = putAll x.seen (secL s i 0 m) := by
  obtain ⟨h1, h2, _⟩ := put_yes h
  unfold St.seen
  rw [h1, h2, putAll_app]
theorem flsh_seen (x : St) : x.flsh.1.seen = x.seen := by
  cases h : x.flsh.2 with
  | true =>
    obtain ⟨h1, h2, _⟩ := flsh_yes h
    unfold St.seen
    rw [h1, h2]; rfl
  | false =>
    obtain ⟨h1, h2, _⟩ := flsh_no h
    unfold St.seen
    rw [h1, h2]
/-- Blocks are laid on a device that does not fall. -/
theorem lay_free : ∀ (l : List Ex) (x : St) (lba : Nat) (t : ByteArray), x.armed = false → x.down = false → (∀ e ∈ l, e.b ≤ 4096) →
    (layX x lba t l).2 = true ∧ (layX x lba t l).1.held = [] ∧ (layX x lba t l).1.safe = putAll x.seen (layW lba t l) ∧ (layX x lba t l).1.armed = false ∧ (layX x lba t l).1.down = false ∧ (layX x lba t l).1.ops ≤ x.ops + l.length * 4096 + 1
  | [], x, lba, t, ha, hd, _ => by
    obtain ⟨h1, h2, h3⟩ := free_flsh ha hd
    obtain ⟨k1, k2, k3, k4⟩ := flsh_yes h1
    have := flsh_ops x
    exact ⟨h1, k2, k1, h2, h3, by simp only [List.length_nil]; show x.flsh.1.ops ≤ _; omega⟩
  | e :: l, x, lba, t, ha, hd, hb => by
    have hb1 := hb e (List.mem_cons_self ..)
    obtain ⟨h1, h2, h3⟩ := free_put ha hd e.a.toNat e.b.toNat (t.extract ((e.l.toNat - lba) * 512) ((e.l.toNat - lba) * 512 + e.b.toNat * 512))
    have hs := put_seen h1
    have ho := put_ops x e.a.toNat e.b.toNat (t.extract ((e.l.toNat - lba) * 512) ((e.l.toNat - lba) * 512 + e.b.toNat * 512))
    obtain ⟨k1, k2, k3, k4, k5, k6⟩ := lay_free l _ lba t h2 h3 (fun e he => hb e (List.mem_cons_of_mem _ he))
    unfold layX
    rw [if_pos h1]
    refine ⟨k1, k2, ?_, k4, k5, ?_⟩
    · rw [k3, hs, ← putAll_app]
      rfl
    · rw [List.length_cons]; omega
theorem sec_part {t : ByteArray} {Q B k : Nat} (hk : k < B) : sec (t.extract (Q * 512) (Q * 512 + B * 512)) k = sec t (Q + k) := by
  unfold sec
  rw [ByteArray.extract_extract, Nat.min_eq_left (Nat.add_le_add_left (Nat.mul_le_mul_right 512 hk) _), Nat.add_mul, Nat.add_assoc Q k 1, Nat.add_mul Q (k + 1)]
theorem layW_mem {lba : Nat} {t : ByteArray} : ∀ {l : List Ex} {w : Nat × ByteArray}, w ∈ layW lba t l → ∃ e ∈ l, ∃ k, k < e.b.toNat ∧ w = (e.a.toNat + k, sec t (e.l.toNat - lba + k))
  | [], w, h => by cases h
  | e :: l, w, h => by
    unfold layW at h
    rcases List.mem_append.1 h with h | h
    · obtain ⟨k, hk, rfl⟩ := secL_mem h
      exact ⟨e, List.mem_cons_self .., k, hk, by rw [sec_part hk]⟩
    · obtain ⟨e', he', k⟩ := layW_mem h
      exact ⟨e', List.mem_cons_of_mem _ he', k⟩
theorem layW_has {lba : Nat} {t : ByteArray} : ∀ {l : List Ex} {e : Ex} {k : Nat}, e ∈ l → k < e.b.toNat → (e.a.toNat + k, sec t (e.l.toNat - lba + k)) ∈ layW lba t l
  | e' :: l, e, k, h, hk => by
    unfold layW
    rcases List.mem_cons.1 h with rfl | h
    · refine List.mem_append_left _ ?_
      rw [← sec_part hk]
      unfold secL
      exact List.mem_map.2 ⟨k, List.mem_range.2 hk, by simp⟩
    · exact List.mem_append_right _ (layW_has h hk)
/-- What stands where, behind it. -/
theorem lay_at {q : List Ex} {s e : Int} (ha : AscTo s e q) (hi : InjP q) {lba : Nat} {t : ByteArray} {L : List ByteArray} (hr : ∀ b a, whereX q b = some a → 0 ≤ a ∧ a < L.length ∧ (lba : Int) ≤ b) :
    (∀ b a, whereX q b = some a → (putAll L (layW lba t q))[a.toNat]? = some (sec t (b.toNat - lba))) ∧ ∀ i : Nat, (∀ b, whereX q b ≠ some (i : Int)) → (putAll L (layW lba t q))[i]? = L[i]? := by
  have key : ∀ w ∈ layW lba t q, ∃ b a, whereX q b = some a ∧ w.1 = a.toNat ∧ w.2 = sec t (b.toNat - lba) := fun w hw => by
    obtain ⟨x, hx, k, hk, rfl⟩ := layW_mem hw
    obtain ⟨h1, h2, h3, h4⟩ := asc_mem ha x hx
    unfold Ex.Fits at h2
    have hh := h4 (x.l + k) (by omega) (by omega)
    have := hr _ _ hh
    have h0 := hr _ _ (h4 x.l (by omega) (by omega))
    refine ⟨_, _, hh, by show x.a.toNat + k = _; omega, ?_⟩
    show sec t (x.l.toNat - lba + k) = _
    congr 1; omega
  constructor
  · intro b a hb
    have hra := hr b a hb
    refine putAll_val _ _ _ _ (fun w hw hwa => ?_) ?_ (by omega)
    · obtain ⟨b', a', h1, h2, h3⟩ := key w hw
      have := hr b' a' h1
      obtain rfl : a' = a := by omega
      rw [h3, hi b' b a' h1 hb]
    · obtain ⟨x, hx, h1, h2, h3⟩ := where_mem hb
      have hf := (asc_mem ha x hx).2.1
      unfold Ex.Fits at hf
      exact ⟨_, layW_has hx (k := (b - x.l).toNat) (by omega), by show x.a.toNat + (b - x.l).toNat = _; omega⟩
  · intro i hi2
    refine putAll_past _ _ _ fun w hw he => ?_
    obtain ⟨b', a', h1, h2, h3⟩ := key w hw
    have := hr b' a' h1
    exact hi2 b' (by rw [h1]; congr 1; omega)
/-- A unit as it is seen: its record, what each block that is stored is. -/
structure Un where
  n : Int
  id : ByteArray
  rc : ByteArray
  bl : Int → Option ByteArray
def valE (L : List ByteArray) (l : List Ex) (b : Int) : Option ByteArray := (whereX l b).map fun a => L.getD a.toNat ⟨#[]⟩
def unOf (L : List ByteArray) (t : Tb) : Un := ⟨t.n, t.id, t.rc, valE L t.ex⟩
theorem valE_same {L M : List ByteArray} {l : List Ex} (h : ∀ b a, whereX l b = some a → L[a.toNat]? = M[a.toNat]?) : valE L l = valE M l := by
  funext b
  unfold valE
  cases hb : whereX l b with
  | none => rfl
  | some a =>
    show some (L.getD a.toNat ⟨#[]⟩) = some (M.getD a.toNat ⟨#[]⟩)
    rw [List.getD_eq_getElem?_getD, List.getD_eq_getElem?_getD, h b a hb]
theorem unOf_same {L M : List ByteArray} {t : Tb} (h : ∀ b a, whereX t.ex b = some a → L[a.toNat]? = M[a.toNat]?) : unOf L t = unOf M t := by
  unfold unOf
  rw [valE_same h]
theorem units_same {n : Nat} {l : List Tb} {L M : List ByteArray} (ha : Apart n l) (h : ∀ i, 576 ≤ i → L[i]? = M[i]?) : l.map (unOf L) = l.map (unOf M) := by
  refine List.map_congr_left fun t ht => unOf_same fun b a hb => ?_
  obtain ⟨k, hk⟩ := List.mem_iff_getElem?.1 ht
  have := ha.range k t hk b a hb
  exact h _ (by omega)
open Go.RowKit
open Ext (Ex Exts exV ExtsF textX)
open Ext (whereX AscTo goodB setX dropX)
theorem put_far {x : St} {a m : Nat} {s : ByteArray} {i : Nat} (h : i < a ∨ a + m ≤ i) : (x.put a s m).1.seen[i]? = x.seen[i]? := by
  obtain ⟨c, hc, h1, h2, _⟩ := put_form x a m s
  unfold St.seen
  rw [h1, h2, putAll_app]
  refine putAll_past _ _ _ fun w hw he => ?_
  obtain ⟨k, hk, rfl⟩ := secL_mem hw
  have he : a + k = i := he
  omega
/-- What the journal writes lies in its own sectors. -/
theorem enter_far {x : St} {j : Jn} {n : Nat} {t : ByteArray} {half behind recs i : Nat} (hs : Sound j n) (hp : Spot j half behind (secF t.size)) (hi : j.fr + j.se ≤ i) : (j.enter x t half behind recs).1.seen[i]? = x.seen[i]? := by
  obtain ⟨h1, h2, _⟩ := spot_at hs hp
  have hse := hs.fits.se
  have hb : (j.body x t half behind).1.seen[i]? = x.seen[i]? := put_far (.inr (by omega))
  have hh : ∀ y : St, (j.head y half recs).1.seen[i]? = y.seen[i]? := fun y => put_far (.inr (by have := slot_lt j.fr (j.num + 1); omega))
  unfold Jn.enter
  split
  · split
    · rw [hh, flsh_seen, hb]
    · rw [flsh_seen, hb]
  · exact hb
theorem check_far {x : St} {j : Jn} {n : Nat} {t : ByteArray} {i : Nat} (hs : Sound j n) (hr : secF t.size ≤ j.size) (hi : j.fr + j.se ≤ i) : (j.check x t).1.seen[i]? = x.seen[i]? := by
  have hh := hs.fits.half
  have he := enter_far (x := x) (t := t) (recs := 0) hs (half := 1 - j.half) (behind := 0) ⟨by omega, by omega, .inl (by omega)⟩ hi
  unfold Jn.check
  split
  · rw [flsh_seen, he]
  · exact he
/-- What a journal tells of a store. -/
structure Tells (n : Nat) (j : Jn) (l : List Tb) : Prop where
  rep : ∃ l0 xs, Rep j l0 xs ∧ playL l0 xs = l
  fr : j.fr = 0
  se : j.se = 576
  fit : j.unfit = false
  oks : ∀ t ∈ l, t.Ok
  one : 1 ≤ l.length
  few : l.length ≤ 8
  need : needT l ≤ n
  most : n ≤ 8192
  apart : Apart (n - 576) l
theorem Tells.use {n : Nat} {j : Jn} {l : List Tb} (h : Tells n j l) : UseTs (n - 576) zeroF l := useTs_of (fun t ht => (h.oks t ht).good) h.apart (fun _ _ _ _ _ => rfl)
theorem base_small {n : Nat} {l : List Tb} (ho : ∀ t ∈ l, t.Ok) (hf : l.length ≤ 8) (hn : needT l ≤ n) (hm : n ≤ 8192) : (baseB l).size ≤ 65536 := by
  have key : ∀ l : List Tb, (∀ t ∈ l, t.Ok) → ((catB l).size : Int) ≤ (l.length : Int) * 2084 + 12 * sumN l := by
    intro l
    induction l with
    | nil => intro _; show ((⟨#[]⟩ : ByteArray).size : Int) ≤ _; decide
    | cons t l ih =>
      intro ho
      have ih := ih (fun u hu => ho u (List.mem_cons_of_mem _ hu))
      have ht := ho t (List.mem_cons_self ..)
      have h1 := pcB_size (unitB t) t.rc (textX t.ex) 3
      have h2 := unitB_size ht
      have h3 := ht.rc
      have h4 := Ext.textX_size t.ex
      have h5 : (t.ex.length : Int) ≤ t.n := by have := Ext.asc_length ht.asc; omega
      show ((tbB t ++ catB l).size : Int) ≤ _
      rw [ByteArray.size_append]
      show (((pcB (unitB t) t.rc (textX t.ex) 3).size + (catB l).size : Nat) : Int) ≤ (((l.length + 1 : Nat)) : Int) * 2084 + 12 * (t.n + sumN l)
      omega
  have hk := key l ho
  unfold needT at hn
  unfold baseB
  rw [ByteArray.size_append]
  have : hgstS.size = 4 := rfl
  omega
theorem disk_past {L : List ByteArray} {n : Nat} {j : Jn} (h : Disk L n j) {i : Nat} {s : ByteArray} (hi : j.fr + j.se ≤ i) (hs : s.size = 512) : Disk (L.set i s) n j := by
  have hse := h.sound.fits.se
  have he := half_end h.sound
  refine ⟨h.sound, by rw [List.length_set]; exact h.len, fun t ht => ?_, ?_, fun k h1 h3 => ?_, body_set h.body h.sound.used (by omega)⟩
  · rcases mem_set ht with ht | rfl
    · exact h.secs t ht
    · exact hs
  · rw [List.getElem?_set_ne (by have := slot_lt j.fr j.num; omega)]
    exact h.head
  · obtain ⟨t, k1, k2⟩ := h.old k h1 h3
    exact ⟨t, by rw [List.getElem?_set_ne (by have := slot_lt j.fr (j.num + k); omega)]; exact k1, k2⟩
theorem disk_beyond {n : Nat} {j : Jn} : ∀ (hs : List (Nat × ByteArray)) {L : List ByteArray}, Disk L n j → (∀ w ∈ hs, j.fr + j.se ≤ w.1 ∧ w.2.size = 512) → Disk (putAll L hs) n j
  | [], _, h, _ => h
  | w :: hs, L, h, hw => by
    obtain ⟨h1, h2⟩ := hw w (List.mem_cons_self ..)
    exact disk_beyond hs (disk_past h h1 h2) (fun v hv => hw v (List.mem_cons_of_mem _ hv))
theorem play_at : ∀ {xs : List (Nat × Chg)} {l : List Tb} {j : Nat} {t : Tb}, l[j]? = some t → ∃ u, (playL l xs)[j]? = some u ∧ u.n = t.n
  | [], _, _, t, h => ⟨t, h, rfl⟩
  | x :: xs, l, j, t, h => by
    obtain ⟨u, hu, hn, _⟩ := apply_at (x := x) h
    obtain ⟨v, hv, hm⟩ := play_at (xs := xs) hu
    exact ⟨v, hv, hm.trans hn⟩
theorem play_len : ∀ (xs : List (Nat × Chg)) (l : List Tb), (playL l xs).length = l.length
  | [], _ => rfl
  | x :: xs, l => by
    show (playL (applyL l x) xs).length = _
    rw [play_len xs, apply_length]
theorem play_n {l0 : List Tb} {xs : List (Nat × Chg)} {k : Nat} {t : Tb} (h : (playL l0 xs)[k]? = some t) : ∃ t0, l0[k]? = some t0 ∧ t0.n = t.n := by
  have hk := (List.getElem?_eq_some_iff.1 h).1
  rw [play_len] at hk
  refine ⟨_, List.getElem?_eq_getElem hk, ?_⟩
  obtain ⟨u, hu, hn⟩ := play_at (xs := xs) (List.getElem?_eq_getElem hk)
  rw [hu] at h
  rw [← Option.some.inj h, hn]
/-- A store at rest on a device that does not fall; V: what is seen; Vp: what may be seen behind a crash besides. -/
structure Inv (n : Nat) (x : St) (j : Jn) (st : Sto) (V Vp : List Un) : Prop where
  tells : Tells n j st.l
  rest : (x.held = [] ∧ Disk x.safe n j ∧ Vp = V) ∨ ∃ a la, Under x n j a ∧ Tells n a la ∧ Vp = la.map (unOf x.safe)
  down : x.down = false
  armed : x.armed = false
  bad : st.bad = false
  flag : ∀ i, i < n - 576 → (st.f i).1 = st.l.any (fun t => covL t.ex i) ∧ (st.f i).2 ≤ st.ch
  sf : st.sf ≤ st.ch
  view : V = st.l.map (unOf x.seen)
theorem Inv.rest' {n : Nat} {x : St} {j : Jn} {st : Sto} {V Vp : List Un} (h : Inv n x j st V Vp) : Rest x n j := by
  rcases h.rest with ⟨h0, h1, _⟩ | ⟨a, la, h1, _⟩
  · exact .inl ⟨h0, h1⟩
  · exact .inr ⟨a, h1⟩
theorem Inv.disk {n : Nat} {x : St} {j : Jn} {st : Sto} {V Vp : List Un} (h : Inv n x j st V Vp) : Disk x.seen n j := rest_seen h.rest'
/-- What is held back at rest lies ahead of the blocks. -/
theorem Inv.seen_safe {n : Nat} {x : St} {j : Jn} {st : Sto} {V Vp : List Un} (h : Inv n x j st V Vp) : ∀ i, 576 ≤ i → x.seen[i]? = x.safe[i]? := by
  intro i hi
  unfold St.seen
  refine putAll_past _ _ _ fun w hw => ?_
  rcases h.rest with ⟨h0, _⟩ | ⟨a, la, h1, _⟩
  · rw [h0] at hw; cases hw
  · rw [h1.1] at hw
    rw [List.mem_singleton.1 hw]
    have := slot_lt j.fr j.num
    have := h.tells.fr
    show slotAt j.fr j.num ≠ i
    omega
/-- Behind a crash: the state, or the one before. -/
theorem Inv.crash {n : Nat} {x : St} {j : Jn} {st : Sto} {V Vp : List Un} (h : Inv n x j st V Vp) (keep : List Int) :
    ∃ a la, a.num ≤ j.num ∧ Disk (x.crash keep).safe n a ∧ Tells n a la ∧ (la.map (unOf (x.crash keep).safe) = V ∨ la.map (unOf (x.crash keep).safe) = Vp) := by
  have hfar : ∀ i, 576 ≤ i → (x.crash keep).safe[i]? = x.safe[i]? := fun i hi => by
    refine tear_far _ _ _ _ (fun w hw => ?_) _
    rcases h.rest with ⟨h0, _⟩ | ⟨a, la, h1, _⟩
    · rw [h0] at hw; cases hw
    · rw [h1.1] at hw
      rw [List.mem_singleton.1 hw]
      have := slot_lt j.fr j.num
      have := h.tells.fr
      show slotAt j.fr j.num ≠ i
      omega
  have hV : st.l.map (unOf (x.crash keep).safe) = V := by
    rw [h.view]
    exact units_same h.tells.apart fun i hi => by rw [hfar i hi, h.seen_safe i hi]
  rcases h.rest with ⟨h0, h1, _⟩ | ⟨a, la, hu, ht, hp⟩
  · exact ⟨j, st.l, Nat.le_refl _, by unfold St.crash; rw [h0]; exact h1, h.tells, .inl hV⟩
  · obtain ⟨h0, h1, h2, hpr, hr⟩ := hu
    have := two_tear hpr (.inl ⟨h1, h2⟩) (hs := x.held) (fun w hw => by rw [h0] at hw; exact .inr (List.mem_singleton.1 hw)) keep x.held.length
    rcases this with ⟨h3, _⟩ | h3
    · refine ⟨a, la, by have := hpr.next.num; omega, h3, ht, .inr ?_⟩
      rw [hp]
      exact units_same ht.apart hfar
    · exact ⟨j, st.l, Nat.le_refl _, h3, h.tells, .inl hV⟩
/-- A flush. -/
theorem Inv.flush {n : Nat} {x : St} {j : Jn} {st : Sto} {V Vp : List Un} (h : Inv n x j st V Vp) : x.flsh.2 = true ∧ Inv n x.flsh.1 j ⟨st.l, st.f, st.ch, st.ch, st.bad⟩ V V := by
  obtain ⟨h1, h2, h3⟩ := free_flsh h.armed h.down
  obtain ⟨k1, k2, _⟩ := flsh_yes h1
  exact ⟨h1, ⟨h.tells, .inl ⟨k2, by rw [k1]; exact h.disk, rfl⟩, h3, h2, h.bad, h.flag, Nat.le_refl _, by rw [flsh_seen]; exact h.view⟩⟩
/-- Blocks are laid at places that no table has. -/
theorem Inv.lay {n : Nat} {x : St} {j : Jn} {st : Sto} {V Vp : List Un} (h : Inv n x j st V Vp) (hg : x.safe.length = n) {q : List Ex} {lba : Nat} {t : ByteArray} (ha : AscTo 0 4096 q) (hi : InjP q) (hr : ∀ b a, whereX q b = some a → (lba : Int) ≤ b ∧ 576 ≤ a ∧ a < n ∧ (st.f (a - 576).toNat).1 = false) (ht : ∀ k, lba ≤ k → whereX q k ≠ none → (sec t (k - lba)).size = 512) :
    (layX x lba t q).2 = true ∧ Inv n (layX x lba t q).1 j st V V ∧ ∀ b a, whereX q b = some a → (layX x lba t q).1.seen[a.toNat]? = some (sec t (b.toNat - lba)) := by
  obtain ⟨k1, k2, k3, k4, k5, _⟩ := lay_free q x lba t h.armed h.down (fun e he => by
    have := (asc_mem ha e he).2.1
    unfold Ex.Fits at this
    omega)
  have hsn : (layX x lba t q).1.seen = (layX x lba t q).1.safe := by unfold St.seen; rw [k2]; rfl
  obtain ⟨l1, l2⟩ := lay_at (t := t) (L := x.seen) ha hi (fun b a hb => by
    obtain ⟨h1, h2, h3, _⟩ := hr b a hb
    refine ⟨by omega, ?_, h1⟩
    rw [seen_length, hg]; exact h3)
  rw [← k3] at l1 l2
  have hV : V = st.l.map (unOf (layX x lba t q).1.seen) := by
    rw [h.view]
    refine List.map_congr_left fun u hu => unOf_same fun b a hb => ?_
    obtain ⟨k, hk⟩ := List.mem_iff_getElem?.1 hu
    obtain ⟨r1, r2⟩ := h.tells.apart.range k u hk b a hb
    rw [hsn]
    refine (l2 a.toNat fun b' hb' => ?_).symm
    rw [show ((a.toNat : Nat) : Int) = a by omega] at hb'
    obtain ⟨_, _, _, hf⟩ := hr b' a hb'
    rw [(h.flag (a - 576).toNat (by omega)).1] at hf
    have hc : covL u.ex (a - 576).toNat = true := (cov_iff (h.tells.oks u hu).asc _).2 ⟨b, by rw [hb]; congr 1; omega⟩
    rw [List.any_eq_false] at hf
    exact hf u hu hc
  refine ⟨k1, ⟨h.tells, .inl ⟨k2, ?_, rfl⟩, k5, k4, h.bad, h.flag, h.sf, hV⟩, fun b a hb => by rw [hsn]; exact l1 b a hb⟩
  rw [k3]
  have hsd := h.disk
  have hes := hsd.sound.fits.se
  refine disk_beyond _ hsd fun w hw => ?_
  obtain ⟨e, he, k, hk, rfl⟩ := layW_mem hw
  obtain ⟨h1, h2, h3, h4⟩ := asc_mem ha e he
  unfold Ex.Fits at h2
  have hh := h4 (e.l + k) (by omega) (by omega)
  have := hr _ _ hh
  have h0 := hr _ _ (h4 e.l (by omega) (by omega))
  have hfr := h.tells.fr
  have hse := h.tells.se
  refine ⟨by show j.fr + j.se ≤ e.a.toNat + k; omega, ?_⟩
  have := ht (e.l.toNat + k) (by omega) (by rw [show ((e.l.toNat + k : Nat) : Int) = e.l + k by omega, hh]; exact fun h => by cases h)
  rwa [show e.l.toNat + k - lba = e.l.toNat - lba + k by omega] at this
/-- The state that a change makes of the tables. -/
structure Turns (n : Nat) (st : Sto) (lun : Nat) (t u : Tb) : Prop where
  at_ : st.l[lun]? = some t
  ok : u.Ok
  same : u.n = t.n
  from_ : ∀ b a, whereX u.ex b = some a → whereX t.ex b = some a ∨ (576 ≤ a ∧ a < n ∧ (st.f (a - 576).toNat).1 = false)
  inj : InjP u.ex
theorem sumN_set : ∀ {l : List Tb} {k : Nat} {t u : Tb}, l[k]? = some t → u.n = t.n → sumN (l.set k u) = sumN l
  | y :: l, 0, t, u, h, e => by
    obtain rfl : y = t := by simpa using h
    show u.n + sumN l = y.n + sumN l
    rw [e]
  | y :: l, k + 1, t, u, h, e => by
    show y.n + sumN (l.set k u) = y.n + sumN l
    rw [sumN_set (by simpa using h) e]
theorem Turns.tells {n : Nat} {x : St} {j j' : Jn} {st : Sto} {V Vp : List Un} {lun : Nat} {t u : Tb} (h : Inv n x j st V Vp) (k : Turns n st lun t u) (hr : ∃ l0 xs, Rep j' l0 xs ∧ playL l0 xs = st.l.set lun u) (hfr : j'.fr = 0) (hse : j'.se = 576) (hfit : j'.unfit = false) : Tells n j' (st.l.set lun u) := by
  refine ⟨hr, hfr, hse, hfit, fun v hv => ?_, by rw [List.length_set]; exact h.tells.one, by rw [List.length_set]; exact h.tells.few, ?_, h.tells.most, ?_⟩
  · rcases List.mem_or_eq_of_mem_set hv with hv | rfl
    · exact h.tells.oks v hv
    · exact k.ok
  · have := h.tells.need
    unfold needT at this ⊢
    rwa [sumN_set k.at_ k.same]
  · have h576 : 576 ≤ n := by
      have := h.tells.need
      have h2 := (sumN_small (l := st.l) (fun t ht => ⟨(h.tells.oks t ht).n1, (h.tells.oks t ht).n2⟩)).1
      unfold needT at this
      omega
    refine h.tells.apart.set k.at_ (fun b a hb => (k.from_ b a hb).imp id fun h1 => ⟨h1.1, by omega, fun i v hv c hc => ?_⟩) k.inj
    have hf := h1.2.2
    rw [(h.flag (a - 576).toNat (by omega)).1, List.any_eq_false] at hf
    have hvm := List.mem_of_getElem? hv
    exact hf v hvm ((cov_iff (h.tells.oks v hvm).asc _).2 ⟨c, by rw [hc]; congr 1; omega⟩)
/-- The places behind a change. -/
theorem Turns.flag {n : Nat} {x : St} {j : Jn} {st : Sto} {V Vp : List Un} {lun : Nat} {t u : Tb} (h : Inv n x j st V Vp) (k : Turns n st lun t u) (m : Nat) (hm : st.ch ≤ m) : ∀ i, i < n - 576 → (useF (freeF st.f t.ex m) u.ex i).1 = (st.l.set lun u).any (fun t => covL t.ex i) ∧ (useF (freeF st.f t.ex m) u.ex i).2 ≤ m := by
  intro i hi
  obtain ⟨f1, f2⟩ := h.flag i hi
  have htm := List.mem_of_getElem? k.at_
  have hl := (List.getElem?_eq_some_iff.1 k.at_).1
  have e : (st.l.set lun u).any (fun t => covL t.ex i) = (covL u.ex i || (!covL t.ex i && st.l.any (fun t => covL t.ex i))) := by
    rw [Bool.eq_iff_iff, List.any_eq_true]
    simp only [Bool.or_eq_true, Bool.and_eq_true, Bool.not_eq_true', List.any_eq_true]
    constructor
    · rintro ⟨v, hv, hc⟩
      rcases List.mem_iff_getElem?.1 hv with ⟨d, hd⟩
      by_cases hdl : d = lun
      · subst hdl
        rw [List.getElem?_set_self hl] at hd
        obtain rfl := Option.some.inj hd
        exact .inl hc
      · rw [List.getElem?_set_ne (Ne.symm hdl)] at hd
        have hvm := List.mem_of_getElem? hd
        refine .inr ⟨?_, v, hvm, hc⟩
        cases hct : covL t.ex i with
        | false => rfl
        | true =>
          obtain ⟨b, hb⟩ := (cov_iff (h.tells.oks v hvm).asc _).1 hc
          obtain ⟨b', hb'⟩ := (cov_iff (h.tells.oks t htm).asc _).1 hct
          exact absurd (h.tells.apart.one d lun v t hd k.at_ b b' _ hb hb').1 hdl
    · rintro (hc | ⟨hct, v, hv, hc⟩)
      · exact ⟨u, List.mem_iff_getElem?.2 ⟨lun, List.getElem?_set_self hl⟩, hc⟩
      · rcases List.mem_iff_getElem?.1 hv with ⟨d, hd⟩
        by_cases hdl : d = lun
        · subst hdl
          rw [k.at_] at hd
          obtain rfl := Option.some.inj hd
          rw [hct] at hc; cases hc
        · exact ⟨v, List.mem_iff_getElem?.2 ⟨d, by rw [List.getElem?_set_ne (Ne.symm hdl)]; exact hd⟩, hc⟩
  rw [e, ← f1]
  unfold useF freeF
  cases covL u.ex i <;> cases covL t.ex i <;> simp <;> omega
theorem Turns.useOk {n : Nat} {x : St} {j : Jn} {st : Sto} {V Vp : List Un} {lun : Nat} {t u : Tb} (h : Inv n x j st V Vp) (k : Turns n st lun t u) (m : Nat) : UseOk (n - 576) (freeF st.f t.ex m) u.ex := by
  have htm := List.mem_of_getElem? k.at_
  refine use_of (Ext.good_asc k.ok.good) (fun b a hb => ?_) k.inj
  rcases k.from_ b a hb with h1 | h1
  · have hr := h.tells.apart.range lun t k.at_ b a h1
    refine ⟨hr.1, hr.2, ?_⟩
    unfold freeF
    rw [(cov_iff (h.tells.oks t htm).asc _).2 ⟨b, by rw [h1]; congr 1; omega⟩]
    rfl
  · refine ⟨h1.1, by omega, ?_⟩
    unfold freeF
    cases covL t.ex (a - 576).toNat with
    | true => rfl
    | false => exact h1.2.2
theorem Turns.freeOk {n : Nat} {x : St} {j : Jn} {st : Sto} {V Vp : List Un} {lun : Nat} {t u : Tb} (h : Inv n x j st V Vp) (k : Turns n st lun t u) : ∀ e ∈ t.ex, e.Fits ∧ 576 ≤ e.a ∧ e.a + e.b ≤ 576 + ((n - 576 : Nat) : Int) := by
  have htm := List.mem_of_getElem? k.at_
  intro e he
  obtain ⟨h1, h2, h3, h4⟩ := asc_mem (h.tells.oks t htm).asc e he
  have h5 := h2
  unfold Ex.Fits at h5
  have r1 := h.tells.apart.range lun t k.at_ _ _ (h4 e.l (by omega) (by omega))
  have r2 := h.tells.apart.range lun t k.at_ _ _ (h4 (e.l + e.b - 1) (by omega) (by omega))
  exact ⟨h2, by omega, by omega⟩
/-- What is seen behind a change. -/
theorem set_view {l : List Tb} {L : List ByteArray} {lun : Nat} {u : Tb} : (l.set lun u).map (unOf L) = (l.map (unOf L)).set lun (unOf L u) := by rw [List.map_set]
/-- A change goes into the journal. -/
theorem Inv.append {n : Nat} {x : St} {j : Jn} {st : Sto} {V Vp : List Un} {lun : Nat} {t : Tb} {c : Chg} (h : Inv n x j st V Vp) (k : Turns n st lun t (c.ap t)) (hc : c.Ok t.n) (hw : j.why (chB lun c) j.room = 0) (hnum : j.num + 1 < 100000000000) :
    (j.enter x (chB lun c) j.half j.used (j.recs.length + 1)).2 = true ∧ Inv n (j.enter x (chB lun c) j.half j.used (j.recs.length + 1)).1 (j.more (chB lun c)) ⟨st.l.set lun (c.ap t), useF (freeF st.f t.ex (st.ch + 1)) (c.ap t).ex, st.ch + 1, st.sf, false⟩ (V.set lun (unOf x.seen (c.ap t))) V := by
  obtain ⟨w1, w2, w3⟩ := why_zero' hw
  have hroom : j.used + secF (chB lun c).size ≤ j.size := by unfold Jn.room at w3; omega
  have hm := append_math h.rest' w2 hroom hnum
  obtain ⟨f1, f2, f3⟩ := free_enter h.armed h.down j (chB lun c) j.half j.used (j.recs.length + 1)
  obtain ⟨m1, m2, m3, m4, m5⟩ := hm.1 f1
  have hsd := rest_sound h.rest'
  have hfar : ∀ i, 576 ≤ i → (j.enter x (chB lun c) j.half j.used (j.recs.length + 1)).1.seen[i]? = x.seen[i]? := fun i hi => enter_far hsd ⟨hsd.fits.half, hroom, .inr (Nat.le_refl _)⟩ (by have := h.tells.fr; have := h.tells.se; omega)
  obtain ⟨l0, xs, hrep, hplay⟩ := h.tells.rep
  have hlun := (List.getElem?_eq_some_iff.1 k.at_).1
  have hrep' : ∃ l0 xs, Rep (j.more (chB lun c)) l0 xs ∧ playL l0 xs = st.l.set lun (c.ap t) := by
    have hpl := play_all hrep.ok hrep.chs
    obtain ⟨t0, ht0, hn0⟩ := play_n (l0 := l0) (xs := xs) (by rw [hplay]; exact k.at_)
    refine ⟨l0, xs ++ [(lun, c)], ⟨hrep.base, ?_, hrep.ok, hrep.one, hrep.few, fun y hy => ?_, ?_, hrep.size, fun y hy => ?_⟩, ?_⟩
    · show j.recs ++ [chB lun c] = _
      rw [List.map_append, hrep.recs]
      rfl
    · rcases List.mem_append.1 hy with hy | hy
      · exact hrep.chs y hy
      · rw [List.mem_singleton.1 hy]
        exact ⟨t0, ht0, by rw [hn0]; exact hc⟩
    · have := (more_sound hsd w2 hroom hnum).fits.recs
      have h2 : (j.more (chB lun c)).used ≤ (j.more (chB lun c)).size := hroom
      have h3 : (j.more (chB lun c)).recs.length = (xs ++ [(lun, c)]).length := by
        show (j.recs ++ [chB lun c]).length = _
        rw [hrep.recs]; simp
      have h4 : (j.more (chB lun c)).size = hsz 576 := by show hsz j.se = _; rw [h.tells.se]
      have h5 : hsz 576 = 286 := rfl
      omega
    · rcases List.mem_append.1 hy with hy | hy
      · exact hrep.each y hy
      · rw [List.mem_singleton.1 hy]; exact w2
    · rw [play_snoc, hplay]
      exact apply_some k.at_
  have htl := k.tells h hrep' (j' := j.more (chB lun c)) h.tells.fr h.tells.se h.tells.fit
  have hold : st.l.map (unOf (j.enter x (chB lun c) j.half j.used (j.recs.length + 1)).1.safe) = V := by
    rw [h.view]
    refine units_same h.tells.apart fun i hi => ?_
    rw [← hfar i hi]
    unfold St.seen
    refine (putAll_past _ _ _ fun w hw => ?_).symm
    rw [m2.1] at hw
    rw [List.mem_singleton.1 hw]
    have := slot_lt j.fr (j.num + 1)
    have := h.tells.fr
    show slotAt j.fr (j.num + 1) ≠ i
    omega
  refine ⟨f1, ⟨htl, .inr ⟨j, st.l, m2, h.tells, hold.symm⟩, f3, f2, rfl, k.flag h _ (Nat.le_succ _), Nat.le_trans h.sf (Nat.le_succ _), ?_⟩⟩
  show _ = (st.l.set lun (c.ap t)).map _
  rw [units_same htl.apart hfar, set_view, ← h.view]
/-- A base goes into the journal. -/
theorem Inv.check {n : Nat} {x : St} {j : Jn} {st : Sto} {V Vp : List Un} {lun : Nat} {t : Tb} {c : Chg} (h : Inv n x j st V Vp) (k : Turns n st lun t (c.ap t)) (hnum : j.num + 1 < 100000000000) :
    j.why (baseB (st.l.set lun (c.ap t))) j.size = 0 ∧ (j.enter x (baseB (st.l.set lun (c.ap t))) (1 - j.half) 0 0).2 = true ∧ (j.enter x (baseB (st.l.set lun (c.ap t))) (1 - j.half) 0 0).1.flsh.2 = true ∧ Inv n (j.check x (baseB (st.l.set lun (c.ap t)))).1 (j.swap (baseB (st.l.set lun (c.ap t)))) ⟨st.l.set lun (c.ap t), useF (freeF st.f t.ex (st.ch + 1)) (c.ap t).ex, st.ch + 1, st.sf, false⟩ (V.set lun (unOf x.seen (c.ap t))) (V.set lun (unOf x.seen (c.ap t))) := by
  have hoks : ∀ v ∈ st.l.set lun (c.ap t), v.Ok := fun v hv => by
    rcases List.mem_or_eq_of_mem_set hv with hv | rfl
    · exact h.tells.oks v hv
    · exact k.ok
  have hrep0 : ∀ j' : Jn, j'.base = baseB (st.l.set lun (c.ap t)) → j'.recs = [] → (baseB (st.l.set lun (c.ap t))).size ≤ 65536 → ∃ l0 xs, Rep j' l0 xs ∧ playL l0 xs = st.l.set lun (c.ap t) := fun j' h1 h2 h3 =>
    ⟨st.l.set lun (c.ap t), [], ⟨h1, h2, hoks, by rw [List.length_set]; exact h.tells.one, by rw [List.length_set]; exact h.tells.few, (fun x hx => by cases hx), Nat.zero_le _, h3, (fun x hx => by cases hx)⟩, rfl⟩
  have hbz : (baseB (st.l.set lun (c.ap t))).size ≤ 65536 := by
    refine base_small hoks (by rw [List.length_set]; exact h.tells.few) (n := n) ?_ h.tells.most
    have := h.tells.need
    unfold needT at this ⊢
    rwa [sumN_set k.at_ k.same]
  generalize hb : baseB (st.l.set lun (c.ap t)) = bt at *
  have hsd := rest_sound h.rest'
  have hroom : secF bt.size ≤ j.size := by
    have h4 : j.size = hsz 576 := by show hsz j.se = _; rw [h.tells.se]
    have h5 : hsz 576 = 286 := rfl
    unfold secF
    omega
  have hwhy : j.why bt j.size = 0 := by
    unfold Jn.why
    rw [if_neg (by rw [h.tells.fit]; simp), if_neg (by omega), if_neg (by omega)]
  obtain ⟨f1, f2, f3⟩ := free_enter h.armed h.down j bt (1 - j.half) 0 0
  obtain ⟨g1, g2, g3⟩ := free_flsh f2 f3
  have hck : (j.check x bt).2 = true := by unfold Jn.check; rw [if_pos f1]; exact g1
  obtain ⟨m1, m2, m3, m4⟩ := (check_math h.rest' hbz hroom hnum).1 hck
  have hfar : ∀ i, 576 ≤ i → (j.check x bt).1.seen[i]? = x.seen[i]? := fun i hi => check_far hsd hroom (by have := h.tells.fr; have := h.tells.se; omega)
  have htl := k.tells h (hrep0 (j.swap bt) rfl rfl hbz) (j' := j.swap bt) h.tells.fr h.tells.se rfl
  refine ⟨hwhy, f1, g1, ⟨htl, .inl ⟨m1, m2, rfl⟩, m4.trans h.down, m3.trans h.armed, rfl, k.flag h _ (Nat.le_succ _), Nat.le_trans h.sf (Nat.le_succ _), ?_⟩⟩
  show _ = (st.l.set lun (c.ap t)).map _
  rw [units_same htl.apart hfar, set_view, ← h.view]
end Go.Proofs.YtglfjlbhjaemgaaGreatDoor
