/- What lists of extents mean, block by block: good lists that mean the same are the same. -/
import Derived.Test.YtdopcliicjmjeaaExS
namespace Go.Proofs.Ytdopcliicjmjeaa
/-- Where a block is stored. -/
def whereX : List Ex → Int → Option Int
  | [], _ => none
  | x :: t, n => if x.l ≤ n ∧ n < x.l + x.b then some (x.a + n - x.l) else whereX t n
/-- In ascending order, from s to e. -/
def AscTo : Int → Int → List Ex → Prop
  | s, e, [] => s ≤ e
  | s, e, x :: t => s ≤ x.l ∧ x.Fits ∧ AscTo (x.l + x.b) e t
theorem AscTo.le : ∀ {l : List Ex} {s e : Int}, AscTo s e l → s ≤ e
  | [], _, _, h => h
  | x :: t, _, _, h => by have := AscTo.le h.2.2; have := h.1; have := h.2.1; unfold Ex.Fits at this; omega
theorem AscTo.app : ∀ {a b : List Ex} {s m e : Int}, AscTo s m a → AscTo m e b → AscTo s e (a ++ b)
  | [], [], _, _, _, h, k => by have h : _ ≤ _ := h; have k : _ ≤ _ := k; show _ ≤ _; omega
  | [], y :: b, _, _, _, h, k => ⟨by have h : _ ≤ _ := h; have := k.1; omega, k.2.1, k.2.2⟩
  | x :: a, b, _, _, _, h, k => ⟨h.1, h.2.1, AscTo.app h.2.2 k⟩
theorem AscTo.none_below : ∀ {l : List Ex} {s e : Int}, AscTo s e l → ∀ n, n < s → whereX l n = none
  | [], _, _, _, _, _ => rfl
  | x :: t, _, _, h, n, hn => by
    unfold whereX
    have hf := h.2.1
    unfold Ex.Fits at hf
    have := h.1
    rw [if_neg (by omega)]
    exact AscTo.none_below h.2.2 n (by omega)
theorem AscTo.none_above : ∀ {l : List Ex} {s e : Int}, AscTo s e l → ∀ n, e ≤ n → whereX l n = none
  | [], _, _, _, _, _ => rfl
  | x :: t, _, _, h, n, hn => by
    unfold whereX
    have := AscTo.le h.2.2
    rw [if_neg (by omega)]
    exact AscTo.none_above h.2.2 n hn
theorem AscTo.fits : ∀ {l : List Ex} {s e : Int}, AscTo s e l → ∀ x ∈ l, x.Fits
  | x :: t, _, _, h, y, hy => by
    rcases List.mem_cons.1 hy with rfl | hy
    · exact h.2.1
    · exact AscTo.fits h.2.2 y hy
theorem may_le {x y : Ex} (h : mayB x y = true) : x.l + x.b ≤ y.l := by
  unfold mayB at h
  rw [Bool.and_eq_true] at h
  have := of_decide_eq_true h.1
  omega
theorem may_not {x y : Ex} (h : mayB x y = true) : ¬ (y.l = x.l + x.b ∧ y.a = x.a + x.b) := by
  unfold mayB at h
  rw [Bool.and_eq_true] at h
  intro hh
  have : goesB x y = true := decide_eq_true hh
  rw [this] at h
  simp at h
theorem chain_cons {p : Option Ex} {x : Ex} {t : List Ex} (h : chainB p (x :: t) = true) : x.Fits ∧ (∀ q, p = some q → mayB q x = true) ∧ chainB (some x) t = true := by
  unfold chainB at h
  rw [Bool.and_eq_true, Bool.and_eq_true] at h
  refine ⟨(fitsB_iff x).1 h.1, fun q hq => ?_, h.2.2⟩
  subst hq
  exact h.2.1
theorem chain_some : ∀ {t : List Ex} {q : Ex}, q.Fits → chainB (some q) t = true → AscTo (q.l + q.b) 4096 t
  | [], q, hq, _ => by unfold Ex.Fits at hq; show _ ≤ _; omega
  | x :: t, q, _, h => by
    obtain ⟨h1, h2, h3⟩ := chain_cons h
    exact ⟨may_le (h2 q rfl), h1, chain_some h1 h3⟩
theorem chain_asc {l : List Ex} (h : chainB none l = true) : AscTo 0 4096 l := by
  cases l with
  | nil => show (0 : Int) ≤ 4096; omega
  | cons x t =>
    obtain ⟨h1, _, h3⟩ := chain_cons h
    exact ⟨h1.1, h1, chain_some h1 h3⟩
theorem good_asc {l : List Ex} (h : goodB l = true) : AscTo 0 4096 l := chain_asc h
theorem chain_none {p : Option Ex} : ∀ {l : List Ex}, chainB p l = true → chainB none l = true
  | [], _ => rfl
  | x :: t, h => by
    obtain ⟨h1, _, h3⟩ := chain_cons h
    unfold chainB
    rw [(fitsB_iff x).2 h1, h3]
    rfl
theorem where_head (x : Ex) (t : List Ex) (hx : x.Fits) : whereX (x :: t) x.l = some x.a := by
  unfold Ex.Fits at hx
  unfold whereX
  rw [if_pos (by omega)]
  congr 1
  omega
/-- Good lists that mean the same are the same. -/
theorem good_unique : ∀ (l k : List Ex), chainB none l = true → chainB none k = true → (∀ n, whereX l n = whereX k n) → l = k
  | [], [], _, _, _ => rfl
  | [], y :: u, _, hk, h => by
    have := h y.l
    rw [where_head y u (chain_cons hk).1] at this
    cases this
  | x :: t, [], hl, _, h => by
    have := h x.l
    rw [where_head x t (chain_cons hl).1] at this
    cases this
  | x :: t, y :: u, hl, hk, h => by
    obtain ⟨x1, _, x3⟩ := chain_cons hl
    obtain ⟨y1, _, y3⟩ := chain_cons hk
    have ax := chain_some x1 x3
    have ay := chain_some y1 y3
    have hxl := h x.l
    have hyl := h y.l
    rw [where_head x t x1] at hxl
    rw [where_head y u y1] at hyl
    have x1' := x1; have y1' := y1
    unfold Ex.Fits at x1' y1'
    have e1 : x.l = y.l := by
      by_cases h1 : x.l < y.l
      · have : whereX (y :: u) x.l = none := by unfold whereX; rw [if_neg (by omega)]; exact ay.none_below _ (by omega)
        rw [this] at hxl; cases hxl
      · by_cases h2 : y.l < x.l
        · have : whereX (x :: t) y.l = none := by unfold whereX; rw [if_neg (by omega)]; exact ax.none_below _ (by omega)
          rw [this] at hyl; cases hyl
        · omega
    have e2 : x.a = y.a := by
      rw [e1, where_head y u y1] at hxl
      exact Option.some.inj hxl
    have key : ∀ (p q : Ex) (r s : List Ex), p.Fits → q.Fits → chainB (some p) r = true → p.l = q.l → p.a = q.a → (∀ n, whereX (p :: r) n = whereX (q :: s) n) → ¬ p.b < q.b := by
      intro p q r s hp hq hr f1 f2 hw hlt
      have hp' := hp; have hq' := hq
      unfold Ex.Fits at hp' hq'
      have h3 := hw (p.l + p.b)
      unfold whereX at h3
      rw [if_neg (by omega), if_pos (by omega)] at h3
      cases r with
      | nil => cases h3
      | cons z r =>
        obtain ⟨z1, z2, z3⟩ := chain_cons hr
        have hz := may_le (z2 p rfl)
        have az := chain_some z1 z3
        have z1' := z1
        unfold Ex.Fits at z1'
        unfold whereX at h3
        by_cases h4 : z.l = p.l + p.b
        · rw [if_pos (by omega)] at h3
          injection h3 with h3
          exact may_not (z2 p rfl) ⟨h4, by omega⟩
        · rw [if_neg (by omega), az.none_below _ (by omega)] at h3
          cases h3
    have e3 : x.b = y.b := by
      have h1 := key x y t u x1 y1 x3 e1 e2 h
      have h2 := key y x u t y1 x1 y3 e1.symm e2.symm (fun n => (h n).symm)
      omega
    obtain rfl : x = y := Ex.ext e1 e3 e2
    congr 1
    refine good_unique t u (chain_none x3) (chain_none y3) fun n => ?_
    by_cases hn : n < x.l + x.b
    · rw [ax.none_below _ hn, ay.none_below _ hn]
    · have := h n
      unfold whereX at this
      rwa [if_neg (by omega), if_neg (by omega)] at this
theorem where_app : ∀ (a b : List Ex) (n : Int), whereX (a ++ b) n = (whereX a n).or (whereX b n)
  | [], b, n => rfl
  | x :: a, b, n => by
    show (if x.l ≤ n ∧ n < x.l + x.b then some (x.a + n - x.l) else whereX (a ++ b) n) = (if x.l ≤ n ∧ n < x.l + x.b then some (x.a + n - x.l) else whereX a n).or (whereX b n)
    by_cases h : x.l ≤ n ∧ n < x.l + x.b
    · rw [if_pos h, if_pos h]; rfl
    · rw [if_neg h, if_neg h]; exact where_app a b n
/-- What is left between two blocks is stored where it was. -/
theorem where_left (lo hi : Int) : ∀ (l : List Ex) (n : Int), whereX (leftX lo hi l) n = if lo ≤ n ∧ n < hi then whereX l n else none
  | [], n => by simp [leftX, whereX]
  | x :: t, n => by
    have ih := where_left lo hi t n
    have e : leftX lo hi (x :: t) = (cutX lo hi x).toList ++ leftX lo hi t := by
      unfold leftX
      rw [List.filterMap_cons]
      cases cutX lo hi x <;> rfl
    rw [e, where_app, ih]
    unfold cutX
    obtain ⟨F1, hF1⟩ : ∃ F1, (if x.l < lo then lo else x.l) = F1 := ⟨_, rfl⟩
    obtain ⟨F2, hF2⟩ : ∃ F2, (if x.l + x.b ≤ hi then x.l + x.b else hi) = F2 := ⟨_, rfl⟩
    rw [hF1, hF2]
    have g1 : (x.l < lo ∧ F1 = lo) ∨ (lo ≤ x.l ∧ F1 = x.l) := by rw [← hF1]; split <;> omega
    have g2 : (x.l + x.b ≤ hi ∧ F2 = x.l + x.b) ∨ (hi < x.l + x.b ∧ F2 = hi) := by rw [← hF2]; split <;> omega
    clear hF1 hF2
    by_cases h1 : F1 < F2
    · rw [if_pos h1]
      simp only [Option.toList_some, whereX]
      by_cases h2 : x.l ≤ n ∧ n < x.l + x.b ∧ lo ≤ n ∧ n < hi
      · rw [if_pos (by omega), if_pos (by omega), if_pos (by omega), if_pos (by omega)]
        show some _ = some _
        exact congrArg some (by omega)
      · rw [if_neg (by omega)]
        simp only [Option.none_or]
        by_cases h3 : lo ≤ n ∧ n < hi
        · rw [if_pos h3, if_pos h3, if_neg (by omega)]
        · rw [if_neg h3, if_neg h3]
    · rw [if_neg h1]
      simp only [Option.toList_none, whereX, Option.none_or]
      by_cases h3 : lo ≤ n ∧ n < hi
      · rw [if_pos h3, if_pos h3, if_neg (by omega)]
      · rw [if_neg h3, if_neg h3]
theorem asc_left (lo hi : Int) (h0 : 0 ≤ lo) : ∀ (l : List Ex) (s e m : Int), AscTo s e l → m ≤ hi → (m ≤ s ∨ m ≤ lo) → AscTo m hi (leftX lo hi l)
  | [], _, _, m, _, h1, _ => h1
  | x :: t, s, e, m, h, h1, h2 => by
    have hh := h.1
    have hx := h.2.1
    unfold Ex.Fits at hx
    have e1 : leftX lo hi (x :: t) = (cutX lo hi x).toList ++ leftX lo hi t := by
      unfold leftX
      rw [List.filterMap_cons]
      cases cutX lo hi x <;> rfl
    rw [e1]
    cases hc : cutX lo hi x with
    | none => exact asc_left lo hi h0 t (x.l + x.b) e m h.2.2 h1 (by omega)
    | some y =>
      have hy := cut_fits h.2.1 h0 hc
      unfold cutX at hc
      obtain ⟨F1, hF1⟩ : ∃ F1, (if x.l < lo then lo else x.l) = F1 := ⟨_, rfl⟩
      obtain ⟨F2, hF2⟩ : ∃ F2, (if x.l + x.b ≤ hi then x.l + x.b else hi) = F2 := ⟨_, rfl⟩
      rw [hF1, hF2] at hc
      by_cases hq : F1 < F2
      · rw [if_pos hq] at hc
        injection hc with hc
        subst hc
        have g1 : x.l ≤ F1 ∧ lo ≤ F1 := by rw [← hF1]; split <;> omega
        have g2 : F2 ≤ hi ∧ F2 ≤ x.l + x.b := by rw [← hF2]; split <;> omega
        refine ⟨by simp only; omega, hy, ?_⟩
        have := asc_left lo hi h0 t (x.l + x.b) e F2 h.2.2 g2.1 (.inl g2.2)
        show AscTo (F1 + (F2 - F1)) hi _
        rw [show F1 + (F2 - F1) = F2 by omega]
        exact this
      · rw [if_neg hq] at hc
        cases hc
theorem chain_snoc : ∀ (r : List Ex) (p : Option Ex) (x : Ex), chainB p (r ++ [x]) = (chainB p r && (fitsB x && (match (match r.getLast? with | none => p | some y => some y) with | none => true | some q => mayB q x)))
  | [], p, x => by
    show chainB p [x] = _
    cases p <;> simp [chainB]
  | y :: r, p, x => by
    show chainB p (y :: (r ++ [x])) = _
    unfold chainB
    rw [chain_snoc r (some y) x]
    have e : (match (y :: r).getLast? with | none => p | some z => some z) = (match r.getLast? with | none => some y | some z => some z) := by
      cases r with
      | nil => rfl
      | cons z r => simp [List.getLast?_cons]
    rw [e]
    simp only [Bool.and_assoc]
/-- A good list that ends at e, or ahead of it. -/
def GoodTo (r : List Ex) (e : Int) : Prop := chainB none r = true ∧ ∀ y, r.getLast? = some y → y.l + y.b ≤ e
theorem where_one (y : Ex) (n : Int) : whereX [y] n = if y.l ≤ n ∧ n < y.l + y.b then some (y.a + n - y.l) else none := rfl
theorem goodTo_push {r : List Ex} {e : Int} {x : Ex} (h : GoodTo r e) (he : e ≤ x.l) (hx : x.Fits) : GoodTo (pushX r x) (x.l + x.b) ∧ ∀ n, whereX (pushX r x) n = (whereX r n).or (whereX [x] n) := by
  have hxb := (fitsB_iff x).2 hx
  by_cases hr : r = []
  · subst hr
    rw [push_nil]
    refine ⟨⟨?_, fun y hy => ?_⟩, fun n => rfl⟩
    · show (fitsB x && (true && true)) = true
      rw [hxb]; rfl
    · simp at hy; subst hy; exact Int.le_refl _
  · obtain ⟨r', y, rfl⟩ := split_last hr
    rw [push_last]
    have hye : y.l + y.b ≤ e := h.2 y (by simp)
    have hch := h.1
    rw [chain_snoc] at hch
    have hyf : y.Fits := by
      rw [Bool.and_eq_true, Bool.and_eq_true] at hch
      exact (fitsB_iff y).1 hch.2.1
    unfold Ex.Fits at hx hyf
    by_cases hg : goesB y x = true
    · have hgo := of_decide_eq_true (show decide (x.l = y.l + y.b ∧ x.a = y.a + y.b) = true from hg)
      rw [if_pos hg]
      refine ⟨⟨?_, fun z hz => ?_⟩, fun n => ?_⟩
      · rw [chain_snoc]
        rw [Bool.and_eq_true, Bool.and_eq_true] at hch ⊢
        exact ⟨hch.1, (fitsB_iff _).2 ⟨hyf.1, hyf.2.1, by simp only; omega, by simp only; omega, by simp only; omega⟩, hch.2.2⟩
      · simp at hz
        subst hz
        simp only
        omega
      · rw [where_app, where_app]
        cases whereX r' n with
        | some v => rfl
        | none =>
          simp only [Option.none_or, where_one]
          by_cases h1 : y.l ≤ n ∧ n < y.l + y.b
          · rw [if_pos (by omega), if_pos h1]; rfl
          · rw [if_neg h1, Option.none_or]
            by_cases h2 : x.l ≤ n ∧ n < x.l + x.b
            · rw [if_pos (by omega), if_pos h2]
              exact congrArg some (by omega)
            · rw [if_neg (by omega), if_neg h2]
    · rw [if_neg hg]
      have hgf : goesB y x = false := by simpa using hg
      refine ⟨⟨?_, fun z hz => ?_⟩, fun n => where_app _ _ n⟩
      · rw [chain_snoc, h.1, hxb]
        have e1 : (r' ++ [y]).getLast? = some y := by simp
        rw [e1]
        show (true && (true && mayB y x)) = true
        unfold mayB
        rw [hgf, decide_eq_true (show x.l ≥ y.l + y.b by omega)]
        rfl
      · simp at hz
        subst hz
        exact Int.le_refl _
theorem goodTo_mrg : ∀ (q r : List Ex) (s e : Int), GoodTo r s → AscTo s e q → GoodTo (mrgX r q) e ∧ ∀ n, whereX (mrgX r q) n = (whereX r n).or (whereX q n)
  | [], r, s, e, h, ha => ⟨⟨h.1, fun y hy => by have := h.2 y hy; have ha : s ≤ e := ha; show y.l + y.b ≤ e; omega⟩, fun n => by show whereX r n = (whereX r n).or none; cases whereX r n <;> rfl⟩
  | x :: q, r, s, e, h, ha => by
    obtain ⟨h1, h2⟩ := goodTo_push h ha.1 ha.2.1
    obtain ⟨h3, h4⟩ := goodTo_mrg q (pushX r x) (x.l + x.b) e h1 ha.2.2
    refine ⟨h3, fun n => ?_⟩
    show whereX (mrgX (pushX r x) q) n = _
    rw [h4, h2, where_one]
    show _ = (whereX r n).or (if x.l ≤ n ∧ n < x.l + x.b then some (x.a + n - x.l) else whereX q n)
    cases whereX r n with
    | some v => rfl
    | none =>
      simp only [Option.none_or]
      by_cases h5 : x.l ≤ n ∧ n < x.l + x.b
      · rw [if_pos h5, if_pos h5]; rfl
      · rw [if_neg h5, if_neg h5]; rfl
theorem mrg_good {q : List Ex} {s e : Int} (h : AscTo s e q) : goodB (mrgX [] q) = true ∧ ∀ n, whereX (mrgX [] q) n = whereX q n := by
  obtain ⟨h1, h2⟩ := goodTo_mrg q [] s e ⟨rfl, fun y hy => by cases hy⟩ h
  exact ⟨h1.1, fun n => by rw [h2]; rfl⟩
theorem AscTo.up {l : List Ex} : ∀ {s e f : Int}, AscTo s e l → e ≤ f → AscTo s f l := by
  induction l with
  | nil => intro s e f h hf; have h : s ≤ e := h; show s ≤ f; omega
  | cons x t ih => intro s e f h hf; exact ⟨h.1, h.2.1, ih h.2.2 hf⟩
/-- What Set makes. -/
theorem set_good {l : List Ex} {x : Ex} (hl : goodB l = true) (hx : x.Fits) : goodB (setX l x) = true ∧ ∀ n, whereX (setX l x) n = if x.l ≤ n ∧ n < x.l + x.b then some (x.a + n - x.l) else whereX l n := by
  have ha := good_asc hl
  have hx' := hx
  unfold Ex.Fits at hx'
  have a1 := asc_left 0 x.l (by omega) l 0 4096 0 ha (by omega) (.inl (by omega))
  have a2 := asc_left 0 4096 (by omega) [x] x.l 4096 x.l ⟨by omega, hx, by show _ ≤ _; omega⟩ (by omega) (.inl (by omega))
  have e2 : leftX 0 4096 [x] = [x] := by
    have hc : cutX 0 4096 x = some x := by
      unfold cutX
      rw [if_neg (by omega : ¬ x.l < 0), if_pos (by omega : x.l + x.b ≤ 4096), if_pos (by omega)]
      exact congrArg some (Ex.ext rfl (by simp only; omega) (by simp only; omega))
    simp [leftX, hc]
  have a3 := asc_left (x.l + x.b) 4096 (by omega) l 0 4096 (x.l + x.b) ha (by omega) (.inr (by omega))
  rw [e2] at a2
  have a23 : AscTo x.l 4096 ([x] ++ leftX (x.l + x.b) 4096 l) := ⟨by omega, hx, a3⟩
  obtain ⟨h1, h2⟩ := mrg_good (a1.app a23)
  unfold setX
  rw [e2]
  refine ⟨h1, fun n => ?_⟩
  rw [h2, where_app, where_app, where_left, where_left, where_one]
  by_cases c1 : x.l ≤ n ∧ n < x.l + x.b
  · rw [if_pos c1, if_pos c1, if_neg (by omega)]; rfl
  · rw [if_neg c1, if_neg c1]
    by_cases c2 : 0 ≤ n ∧ n < x.l
    · rw [if_pos c2, if_neg (by omega)]
      cases whereX l n <;> rfl
    · rw [if_neg c2]
      by_cases c3 : x.l + x.b ≤ n ∧ n < 4096
      · rw [if_pos c3]; rfl
      · rw [if_neg c3]
        show none = whereX l n
        by_cases c4 : n < 0
        · rw [ha.none_below n c4]
        · rw [ha.none_above n (by omega)]
/-- What Drop makes. -/
theorem drop_good {l : List Ex} {lba k : Int} (hl : goodB l = true) (h1 : 0 ≤ lba) (h2 : 0 ≤ k) (h3 : k ≤ 4096 - lba) : goodB (dropX l lba k) = true ∧ ∀ n, whereX (dropX l lba k) n = if lba ≤ n ∧ n < lba + k then none else whereX l n := by
  have ha := good_asc hl
  have a1 := asc_left 0 lba (by omega) l 0 4096 0 ha (by omega) (.inl (by omega))
  have a3 := asc_left (lba + k) 4096 (by omega) l 0 4096 (lba + k) ha (by omega) (.inr (by omega))
  have a1' : AscTo 0 (lba + k) (leftX 0 lba l) := a1.up (by omega)
  obtain ⟨g1, g2⟩ := mrg_good (a1'.app a3)
  unfold dropX
  refine ⟨g1, fun n => ?_⟩
  rw [g2, where_app, where_left, where_left]
  by_cases c1 : lba ≤ n ∧ n < lba + k
  · rw [if_pos c1, if_neg (by omega), if_neg (by omega)]; rfl
  · rw [if_neg c1]
    by_cases c2 : 0 ≤ n ∧ n < lba
    · rw [if_pos c2, if_neg (by omega)]
      cases whereX l n <;> rfl
    · rw [if_neg c2]
      by_cases c3 : lba + k ≤ n ∧ n < 4096
      · rw [if_pos c3]; rfl
      · rw [if_neg c3]
        show none = whereX l n
        by_cases c4 : n < 0
        · rw [ha.none_below n c4]
        · rw [ha.none_above n (by omega)]
theorem asc_length : ∀ {l : List Ex} {s e : Int}, AscTo s e l → (l.length : Int) ≤ e - s
  | [], s, e, h => by have h : s ≤ e := h; simp only [List.length_nil]; omega
  | x :: t, s, e, h => by
    have := asc_length h.2.2
    have h1 := h.1
    have h2 := h.2.1
    unfold Ex.Fits at h2
    simp only [List.length_cons]
    omega
theorem good_length {l : List Ex} (h : goodB l = true) : l.length ≤ 4096 := by
  have := asc_length (good_asc h)
  omega
end Go.Proofs.Ytdopcliicjmjeaa
