/- Of each block where it stands: the document's arrays of numbers, and the extents of such an array. -/
import Derived.Test.YtdopcliicjmjeaaExX
namespace Go.Proofs.Ytdopcliicjmjeaa
open Go.RowKit
theorem where_cons (x : Ex) (t : List Ex) (n : Int) : whereX (x :: t) n = if x.l ≤ n ∧ n < x.l + x.b then some (x.a + n - x.l) else whereX t n := rfl
/-- 4096 numbers in a block. -/
def Arr (m : Nat → Int) : Array Value := Array.ofFn (n := 4096) fun i => .int .i64 (m i.val)
theorem arr_at (m : Nat → Int) (k : Nat) (hk : k < 4096) : (Arr m)[k]? = some (.int .i64 (m k)) := by
  unfold Arr
  rw [Array.getElem?_ofFn, dif_pos hk]
theorem arr_set (m : Nat → Int) (k : Nat) (hk : k < 4096) (v : Int) : (Arr m).setIfInBounds k (.int .i64 v) = Arr (fun n => if n = k then v else m n) := by
  apply Array.ext_getElem?
  intro i
  by_cases hi : i < 4096
  · rw [arr_at _ i hi]
    by_cases hik : i = k
    · subst hik
      rw [Array.getElem?_setIfInBounds_self_of_lt (by unfold Arr; rw [Array.size_ofFn]; exact hi), if_pos rfl]
    · rw [Array.getElem?_setIfInBounds_ne (fun e => hik e.symm), arr_at _ i hi, if_neg hik]
  · rw [Array.getElem?_eq_none (by rw [Array.size_setIfInBounds]; unfold Arr; rw [Array.size_ofFn]; omega), Array.getElem?_eq_none (by unfold Arr; rw [Array.size_ofFn]; omega)]
theorem arr_made : madeCells #[.int .i64 0] (4096 * 1) = Arr (fun _ => 0) := by
  apply Array.ext_getElem?
  intro i
  by_cases hi : i < 4096
  · rw [arr_at _ i hi]
    have : (madeCells #[.int .i64 0] (4096 * 1)).size = 4096 := by rw [size_madeCells]
    rw [Array.getElem?_eq_getElem (by omega)]
    unfold madeCells
    simp [Nat.mod_one]
  · rw [Array.getElem?_eq_none (by rw [size_madeCells]; omega), Array.getElem?_eq_none (by unfold Arr; rw [Array.size_ofFn]; omega)]
/-- k blocks of x, in their places. -/
def putM (m : Nat → Int) (x : Ex) (k : Int) : Nat → Int := fun n => if x.l ≤ n ∧ (n : Int) < x.l + k then x.a + n - x.l + 1 else m n
theorem putM_zero (m : Nat → Int) (x : Ex) : putM m x 0 = m := by
  funext n
  unfold putM
  rw [if_neg (by omega)]
theorem putM_succ (m : Nat → Int) (x : Ex) (k : Nat) (hx : 0 ≤ x.l) : (fun n => if n = (x.l + k).toNat then x.a + k + 1 else putM m x k n) = putM m x ((k : Int) + 1) := by
  funext n
  unfold putM
  by_cases h : n = (x.l + k).toNat
  · rw [if_pos h, if_pos (by omega)]; omega
  · rw [if_neg h]
    by_cases h2 : x.l ≤ n ∧ (n : Int) < x.l + k
    · rw [if_pos h2, if_pos (by omega)]
    · rw [if_neg h2, if_neg (by omega)]
def spreadM (m : Nat → Int) (l : List Ex) : Nat → Int := l.foldl (fun m x => putM m x x.b) m
theorem spreadM_next {l : List Ex} {k : Nat} {x : Ex} (m : Nat → Int) (h : l[k]? = some x) : spreadM m (l.take (k + 1)) = putM (spreadM m (l.take k)) x x.b := by
  unfold spreadM
  rw [List.take_add_one, h, Option.toList_some, List.foldl_append]
  rfl
theorem spread_where : ∀ (l : List Ex) (s e : Int) (m : Nat → Int), AscTo s e l → ∀ n : Nat, spreadM m l n = match whereX l n with | some v => v + 1 | none => m n
  | [], _, _, _, _, _ => rfl
  | x :: t, s, e, m, h, n => by
    show spreadM (putM m x x.b) t n = _
    rw [spread_where t (x.l + x.b) e _ h.2.2 n, where_cons]
    have hx := h.2.1
    unfold Ex.Fits at hx
    by_cases h1 : x.l ≤ n ∧ (n : Int) < x.l + x.b
    · rw [if_pos h1, h.2.2.none_below n h1.2]
      unfold putM
      rw [if_pos h1]
    · rw [if_neg h1]
      cases whereX t n with
      | some v => rfl
      | none => show putM m x x.b n = m n; unfold putM; rw [if_neg h1]
/-- Where each block stands, and 1; 0: nowhere. -/
def mX (l : List Ex) : Nat → Int := spreadM (fun _ => 0) l
theorem mX_is {l : List Ex} (h : goodB l = true) (n : Nat) : mX l n = match whereX l n with | some v => v + 1 | none => 0 := spread_where l 0 4096 _ (good_asc h) n
theorem where_range : ∀ {l : List Ex} {s e : Int} {n v : Int}, AscTo s e l → whereX l n = some v → 0 ≤ v ∧ v < 8192
  | x :: t, s, e, n, v, h, hw => by
    have hx := h.2.1
    unfold Ex.Fits at hx
    rw [where_cons] at hw
    by_cases h1 : x.l ≤ n ∧ n < x.l + x.b
    · rw [if_pos h1] at hw
      injection hw with hw
      omega
    · rw [if_neg h1] at hw
      exact where_range h.2.2 hw
theorem mX_range {l : List Ex} (h : goodB l = true) (n : Nat) : 0 ≤ mX l n ∧ mX l n ≤ 8192 := by
  rw [mX_is h]
  cases hw : whereX l n with
  | none => simp
  | some v => have := where_range (good_asc h) hw; simp only; omega
/-- The blocks one by one. -/
def ones (m : Nat → Int) : Nat → List Ex
  | 0 => []
  | k + 1 => ones m k ++ (if m k = 0 then [] else [⟨k, 1, m k - 1⟩])
theorem ones_succ (m : Nat → Int) (k : Nat) : ones m (k + 1) = ones m k ++ (if m k = 0 then [] else [⟨k, 1, m k - 1⟩]) := rfl
theorem ones_asc (m : Nat → Int) (hm : ∀ n, 0 ≤ m n ∧ m n ≤ 8192) : ∀ k : Nat, k ≤ 4096 → AscTo 0 k (ones m k)
  | 0, _ => by show (0 : Int) ≤ _; omega
  | k + 1, hk => by
    have ih := ones_asc m hm k (by omega)
    have h1 := hm k
    unfold ones
    by_cases h : m k = 0
    · rw [if_pos h, List.append_nil]
      exact ih.up (by omega)
    · rw [if_neg h]
      refine ih.app ⟨by simp only; omega, ⟨by simp only; omega, by simp only; omega, by simp only; omega, by simp only; omega, by simp only; omega⟩, ?_⟩
      show (k : Int) + 1 ≤ ((k + 1 : Nat) : Int)
      omega
theorem ones_where (m : Nat → Int) : ∀ (k : Nat) (n : Int), whereX (ones m k) n = if 0 ≤ n ∧ n < k ∧ m n.toNat ≠ 0 then some (m n.toNat - 1) else none
  | 0, n => by
    rw [if_neg (by omega)]; rfl
  | k + 1, n => by
    unfold ones
    rw [where_app, ones_where m k n]
    by_cases h1 : 0 ≤ n ∧ n < k ∧ m n.toNat ≠ 0
    · rw [if_pos h1, Option.some_or, if_pos ⟨h1.1, by omega, h1.2.2⟩]
    · rw [if_neg h1, Option.none_or]
      by_cases h : m k = 0
      · rw [if_pos h]
        rw [if_neg]
        · rfl
        · rintro ⟨h2, h3, h4⟩
          have : n = k ∨ n < k := by omega
          rcases this with rfl | h5
          · exact h4 (by simpa using h)
          · exact h1 ⟨h2, h5, h4⟩
      · rw [if_neg h, where_one]
        by_cases h2 : n = k
        · subst h2
          rw [if_pos (by simp only; omega), if_pos ⟨by omega, by omega, by simpa using h⟩]
          exact congrArg some (by simp only [Int.toNat_natCast]; omega)
        · rw [if_neg (by simp only; omega), if_neg (fun h3 => h1 ⟨h3.1, by omega, h3.2.2⟩)]
/-- The extents of the first k numbers. -/
def gathX (m : Nat → Int) (k : Nat) : List Ex := mrgX [] (ones m k)
theorem gath_zero {m : Nat → Int} {k : Nat} (h : m k = 0) : gathX m (k + 1) = gathX m k := by
  unfold gathX
  rw [ones_succ, if_pos h, List.append_nil]
theorem gath_push {m : Nat → Int} {k : Nat} (h : m k ≠ 0) : gathX m (k + 1) = pushX (gathX m k) ⟨k, 1, m k - 1⟩ := by
  unfold gathX
  show mrgX [] (ones m k ++ (if m k = 0 then [] else [⟨k, 1, m k - 1⟩])) = _
  rw [if_neg h, mrg_snoc]
/-- How what is gathered ends. -/
theorem gath_last (m : Nat → Int) (hm : ∀ n, 0 ≤ m n ∧ m n ≤ 8192) : ∀ k : Nat, k ≤ 4096 →
    (∀ y, (gathX m k).getLast? = some y → y.l + y.b ≤ k ∧ (y.l + y.b = k → 0 < k ∧ m (k - 1) ≠ 0 ∧ y.a + y.b = m (k - 1))) ∧
    (0 < k → m (k - 1) ≠ 0 → ∃ y, (gathX m k).getLast? = some y ∧ y.l + y.b = k)
  | 0, _ => ⟨fun y hy => (by cases hy), fun h => absurd h (Nat.lt_irrefl 0)⟩
  | k + 1, hk => by
    obtain ⟨i1, i2⟩ := gath_last m hm k (by omega)
    by_cases h : m k = 0
    · rw [gath_zero h]
      refine ⟨fun y hy => ?_, fun _ h2 => absurd h h2⟩
      have := (i1 y hy).1
      refine ⟨by omega, fun h2 => by omega⟩
    · rw [gath_push h]
      have hpush : ∀ r : List Ex, (∀ y, r.getLast? = some y → goesB y ⟨k, 1, m k - 1⟩ = true → y.l + y.b = k ∧ y.a + y.b = m k - 1) → ∃ y, (pushX r ⟨k, 1, m k - 1⟩).getLast? = some y ∧ y.l + y.b = (k : Int) + 1 ∧ y.a + y.b = m k := by
        intro r hr
        by_cases hn : r = []
        · subst hn
          exact ⟨_, rfl, rfl, show m k - 1 + 1 = m k by omega⟩
        · obtain ⟨r', y, rfl⟩ := split_last hn
          rw [push_last]
          by_cases hg : goesB y ⟨k, 1, m k - 1⟩ = true
          · obtain ⟨g1, g2⟩ := hr y (by simp) hg
            rw [if_pos hg]
            exact ⟨⟨y.l, y.b + 1, y.a⟩, by simp, by simp only; omega, by simp only; omega⟩
          · rw [if_neg hg]
            exact ⟨⟨k, 1, m k - 1⟩, by simp, rfl, show m k - 1 + 1 = m k by omega⟩
      obtain ⟨y, h1, h2, h3⟩ := hpush (gathX m k) (fun y _ hg => by
        have := of_decide_eq_true (show decide ((k : Int) = y.l + y.b ∧ m k - 1 = y.a + y.b) = true from hg)
        omega)
      refine ⟨fun z hz => ?_, fun _ _ => ⟨y, h1, by omega⟩⟩
      rw [h1] at hz
      injection hz with hz
      subst hz
      refine ⟨by omega, fun _ => ⟨by omega, by simpa using h, ?_⟩⟩
      simpa using h3
theorem gath_good (m : Nat → Int) (hm : ∀ n, 0 ≤ m n ∧ m n ≤ 8192) (k : Nat) (hk : k ≤ 4096) : goodB (gathX m k) = true ∧ ∀ n, whereX (gathX m k) n = if 0 ≤ n ∧ n < k ∧ m n.toNat ≠ 0 then some (m n.toNat - 1) else none := by
  obtain ⟨h1, h2⟩ := mrg_good (ones_asc m hm k hk)
  exact ⟨h1, fun n => by unfold gathX; rw [h2, ones_where]⟩
/-- What is gathered of an array is the good list that means it. -/
theorem gath_is (m : Nat → Int) (hm : ∀ n, 0 ≤ m n ∧ m n ≤ 8192) (r : List Ex) (hr : goodB r = true) (N : Nat) (hN : N = 4096) (h : ∀ n : Nat, n < N → m n = match whereX r n with | some v => v + 1 | none => 0) : gathX m N = r := by
  obtain ⟨h1, h2⟩ := gath_good m hm N (by omega)
  have ha := good_asc hr
  refine good_unique _ _ h1 hr fun n => ?_
  rw [h2]
  by_cases c : 0 ≤ n ∧ n < N
  · have hn := h n.toNat (by omega)
    rw [show ((n.toNat : Nat) : Int) = n by omega] at hn
    cases hw : whereX r n with
    | none =>
      rw [hw] at hn
      rw [if_neg (fun h => h.2.2 hn)]
    | some v =>
      rw [hw] at hn
      have := where_range ha hw
      have hn : m n.toNat = v + 1 := hn
      rw [if_pos ⟨c.1, c.2, by omega⟩]
      exact congrArg some (by omega)
  · rw [if_neg (fun h => c ⟨h.1, h.2.1⟩)]
    by_cases c2 : n < 0
    · rw [ha.none_below n c2]
    · rw [ha.none_above n (by omega)]
theorem gath_set {l : List Ex} {x : Ex} (hl : goodB l = true) (hx : x.Fits) : (∀ n, 0 ≤ putM (mX l) x x.b n ∧ putM (mX l) x x.b n ≤ 8192) ∧ gathX (putM (mX l) x x.b) 4096 = setX l x := by
  obtain ⟨h1, h2⟩ := set_good hl hx
  have hx' := hx
  unfold Ex.Fits at hx'
  have hm : ∀ n, 0 ≤ putM (mX l) x x.b n ∧ putM (mX l) x x.b n ≤ 8192 := fun n => by
    unfold putM
    by_cases h : x.l ≤ n ∧ (n : Int) < x.l + x.b
    · rw [if_pos h]; omega
    · rw [if_neg h]; exact mX_range hl n
  refine ⟨hm, gath_is _ hm _ h1 _ rfl fun n _ => ?_⟩
  rw [h2]
  unfold putM
  by_cases h : x.l ≤ n ∧ (n : Int) < x.l + x.b
  · rw [if_pos h, if_pos h]
  · rw [if_neg h, if_neg h]; exact mX_is hl n
/-- k blocks from lba on taken away. -/
def cutM (m : Nat → Int) (lba k : Int) : Nat → Int := fun n => if lba ≤ n ∧ (n : Int) < lba + k then 0 else m n
theorem cutM_zero (m : Nat → Int) (lba : Int) : cutM m lba 0 = m := by
  funext n
  unfold cutM
  rw [if_neg (by omega)]
theorem cutM_succ (m : Nat → Int) (lba : Int) (k : Nat) (hx : 0 ≤ lba) : (fun n => if n = (lba + k).toNat then 0 else cutM m lba k n) = cutM m lba ((k : Int) + 1) := by
  funext n
  unfold cutM
  by_cases h : n = (lba + k).toNat
  · rw [if_pos h, if_pos (by omega)]
  · rw [if_neg h]
    by_cases h2 : lba ≤ n ∧ (n : Int) < lba + k
    · rw [if_pos h2, if_pos (by omega)]
    · rw [if_neg h2, if_neg (by omega)]
theorem gath_drop {l : List Ex} {lba k : Int} (hl : goodB l = true) (h1 : 0 ≤ lba) (h2 : 0 ≤ k) (h3 : k ≤ 4096 - lba) : (∀ n, 0 ≤ cutM (mX l) lba k n ∧ cutM (mX l) lba k n ≤ 8192) ∧ gathX (cutM (mX l) lba k) 4096 = dropX l lba k := by
  obtain ⟨g1, g2⟩ := drop_good hl h1 h2 h3
  have hm : ∀ n, 0 ≤ cutM (mX l) lba k n ∧ cutM (mX l) lba k n ≤ 8192 := fun n => by
    unfold cutM
    by_cases h : lba ≤ n ∧ (n : Int) < lba + k
    · rw [if_pos h]; omega
    · rw [if_neg h]; exact mX_range hl n
  refine ⟨hm, gath_is _ hm _ g1 _ rfl fun n _ => ?_⟩
  rw [g2]
  unfold cutM
  by_cases h : lba ≤ n ∧ (n : Int) < lba + k
  · rw [if_pos h, if_pos h]
  · rw [if_neg h, if_neg h]; exact mX_is hl n
end Go.Proofs.Ytdopcliicjmjeaa
