/- DevKeeps: what stands in the device behind each round. -/
import Derived.Test.YtgdaihembmcamaaGreatDoorDevNums
import Derived.Test.YtgdaihembmcamaaGreatDoorDevWakes
namespace Go.Proofs.YtgdaihembmcamaaGreatDoor
open Go.RowKit
theorem part_one {l : List ByteArray} {i : Nat} {s : ByteArray} (h : l[i]? = some s) : part l i 1 = [s] := by
  have := part_snoc (k := 0) h
  rw [part_zero] at this
  exact this
theorem tear_hit {safe : List ByteArray} {held : List (Nat × ByteArray)} {ks : List Int} {i j : Nat} {s old : ByteArray} (hj : held[j]? = some (i, s)) (hu : ∀ j' a, held[j']? = some a → a.1 = i → j' = j) (ho : safe[i]? = some old) :
    ∀ N, (tearN safe held ks N)[i]? = some (if j < N then mixS (kept ks j) s old else old) := by
  intro N
  induction N with
  | zero => rw [if_neg (by omega)]; exact ho
  | succ N ih =>
    unfold tearN
    split
    · rename_i hn
      rw [ih]
      have hjl : j < held.length := (List.getElem?_eq_some_iff.1 hj).1
      have hnl : held.length ≤ N := by
        rcases Nat.lt_or_ge N held.length with h | h
        · rw [List.getElem?_eq_getElem h] at hn; cases hn
        · exact h
      rw [if_pos (by omega), if_pos (by omega)]
    · rename_i a ha
      unfold tear1
      by_cases e : a.1 = i
      · obtain rfl := hu N a ha e
        rw [ha] at hj
        obtain rfl := Option.some.inj hj
        have hl : i < (tearN safe held ks N).length := (List.getElem?_eq_some_iff.1 ih).1
        rw [List.getElem?_set_self hl, if_pos (by omega), List.getD_eq_getElem?_getD, ih, if_neg (by omega), Option.getD_some]
      · rw [List.getElem?_set_ne e, ih]
        have : N ≠ j := by
          rintro rfl
          rw [ha] at hj
          obtain rfl := Option.some.inj hj
          exact e rfl
        by_cases h : j < N
        · rw [if_pos h, if_pos (by omega)]
        · rw [if_neg h, if_neg (by omega)]
theorem putAll_hit {l : List ByteArray} {hs : List (Nat × ByteArray)} {i j : Nat} {s : ByteArray} (hj : hs[j]? = some (i, s)) (hu : ∀ j' a, hs[j']? = some a → a.1 = i → j' = j) (hi : i < l.length) : (putAll l hs)[i]? = some s := by
  have key : ∀ N, (putAll l (hs.take N))[i]? = if j < N then some s else l[i]? := by
    intro N
    induction N with
    | zero => simp [putAll]
    | succ N ih =>
      cases hN : hs[N]? with
      | none =>
        have hnl : hs.length ≤ N := by
          rcases Nat.lt_or_ge N hs.length with h | h
          · rw [List.getElem?_eq_getElem h] at hN; cases hN
          · exact h
        have hjl : j < hs.length := (List.getElem?_eq_some_iff.1 hj).1
        rw [List.take_add_one, hN]
        simp only [Option.toList_none, List.append_nil]
        rw [ih, if_pos (by omega), if_pos (by omega)]
      | some a =>
        obtain ⟨q, t⟩ := a
        rw [put_next l hN]
        by_cases e : q = i
        · subst e
          obtain rfl := hu N _ hN rfl
          rw [hN] at hj
          obtain rfl := (Prod.mk.inj (Option.some.inj hj)).2
          rw [List.getElem?_set_self (by rw [putAll_length]; exact hi), if_pos (by omega)]
        · rw [List.getElem?_set_ne e, ih]
          have : N ≠ j := by
            rintro rfl
            rw [hN] at hj
            exact e (Prod.mk.inj (Option.some.inj hj)).1
          by_cases h : j < N
          · rw [if_pos h, if_pos (by omega)]
          · rw [if_neg h, if_neg (by omega)]
  have := key hs.length
  rw [List.take_length, if_pos (List.getElem?_eq_some_iff.1 hj).1] at this
  exact this
/-- The writes of DevKeeps: sector j is filled with the j-th byte. -/
def wsL (fs : List UInt8) : List (Nat × ByteArray) := (List.range fs.length).map fun j => (j, bytesS 512 (fs.getD j 0))
theorem wsL_length (fs : List UInt8) : (wsL fs).length = fs.length := by simp [wsL]
theorem wsL_at {fs : List UInt8} {j : Nat} {v : UInt8} (h : fs[j]? = some v) : (wsL fs)[j]? = some (j, bytesS 512 v) := by
  have hl := (List.getElem?_eq_some_iff.1 h).1
  unfold wsL
  rw [List.getElem?_map, List.getElem?_range hl, Option.map_some, List.getD_eq_getElem?_getD, h, Option.getD_some]
theorem wsL_place {fs : List UInt8} {j : Nat} {a : Nat × ByteArray} (h : (wsL fs)[j]? = some a) : a.1 = j := by
  have hl : j < fs.length := by have := (List.getElem?_eq_some_iff.1 h).1; rwa [wsL_length] at this
  rw [wsL_at (List.getElem?_eq_getElem hl)] at h
  rw [← Option.some.inj h]
theorem wsL_next {fs : List UInt8} {j : Nat} {v : UInt8} (h : fs[j]? = some v) : (wsL fs).take (j + 1) = (wsL fs).take j ++ [(j, bytesS 512 v)] := by
  rw [List.take_add_one, wsL_at h]; rfl
/-- Behind i rounds, k the place of the flush. -/
structure KpSt (fs : List UInt8) (k i : Nat) (x : St) : Prop where
  armed : x.armed = false
  down : x.down = false
  ops : x.ops = if i ≤ k then i else i + 1
  safe : x.safe = if i ≤ k then (St.new 64).safe else putAll (St.new 64).safe ((wsL fs).take k)
  held : x.held = if i ≤ k then (wsL fs).take i else ((wsL fs).take i).drop k
/-- Behind the flush at k. -/
structure KpFl (fs : List UInt8) (k : Nat) (x : St) : Prop where
  armed : x.armed = false
  down : x.down = false
  ops : x.ops = k + 1
  safe : x.safe = putAll (St.new 64).safe ((wsL fs).take k)
  held : x.held = []
theorem due_no {x : St} (h : x.armed = false) : x.due = false := by unfold St.due; rw [h]; rfl
theorem flush_yes {x : St} (h1 : x.armed = false) (h2 : x.down = false) : x.flush = (x.flushed, 0) := by unfold St.flush; rw [if_neg (by simp [h2]), if_neg (by simp [due_no h1])]
theorem KpSt.flush {fs : List UInt8} {k : Nat} {x : St} (h : KpSt fs k k x) : KpFl fs k x.flushed :=
  ⟨h.armed, h.down, by show x.ops + 1 = k + 1; rw [h.ops, if_pos (Nat.le_refl _)], by
    show putAll x.safe x.held = _
    rw [h.safe, h.held, if_pos (Nat.le_refl _), if_pos (Nat.le_refl _)], rfl⟩
theorem KpFl.next {fs : List UInt8} {k : Nat} {x : St} {v : UInt8} (h : KpFl fs k x) (hv : fs[k]? = some v) : KpSt fs k (k + 1) (x.oped.hold k (bytesS 512 v)) :=
  ⟨h.armed, h.down, by show x.ops + 1 = _; rw [h.ops, if_neg (by omega)], by rw [if_neg (by omega)]; exact h.safe, by
    rw [if_neg (by omega), wsL_next hv]
    show x.held ++ [_] = _
    have hl := (List.getElem?_eq_some_iff.1 hv).1
    rw [h.held, List.drop_left' (by rw [List.length_take, wsL_length]; omega)]; rfl⟩
theorem KpSt.next {fs : List UInt8} {k i : Nat} {x : St} {v : UInt8} (h : KpSt fs k i x) (hv : fs[i]? = some v) (hne : i ≠ k) : KpSt fs k (i + 1) (x.oped.hold i (bytesS 512 v)) := by
  have hl := (List.getElem?_eq_some_iff.1 hv).1
  rcases Nat.lt_or_ge i k with hi | hi
  · exact ⟨h.armed, h.down, by show x.ops + 1 = _; rw [h.ops, if_pos (by omega), if_pos (by omega)], by rw [if_pos (by omega)]; exact h.safe.trans (if_pos (by omega)), by
      rw [if_pos (by omega), wsL_next hv]
      show x.held ++ [_] = _
      rw [h.held, if_pos (by omega)]⟩
  · exact ⟨h.armed, h.down, by show x.ops + 1 = _; rw [h.ops, if_neg (by omega), if_neg (by omega)], by rw [if_neg (by omega)]; exact h.safe.trans (if_neg (by omega)), by
      rw [if_neg (by omega), wsL_next hv]
      show x.held ++ [_] = _
      rw [h.held, if_neg (by omega), List.drop_append_of_le_length (by rw [List.length_take, wsL_length]; omega)]⟩
/-- Behind all writes and the flush. -/
structure KpEnd (fs : List UInt8) (k : Nat) (x : St) : Prop where
  armed : x.armed = false
  down : x.down = false
  ops : x.ops ≤ fs.length + 1
  safe : x.safe = putAll (St.new 64).safe ((wsL fs).take k)
  held : x.held = (wsL fs).drop k
theorem KpSt.done {fs : List UInt8} {k : Nat} {x : St} (h : KpSt fs k fs.length x) (hk : k < fs.length) : KpEnd fs k x :=
  ⟨h.armed, h.down, by rw [h.ops, if_neg (by omega)]; omega, by rw [h.safe, if_neg (by omega)], by rw [h.held, if_neg (by omega), List.take_of_length_le (by rw [wsL_length]; omega)]⟩
theorem KpFl.done {fs : List UInt8} {x : St} (h : KpFl fs fs.length x) : KpEnd fs fs.length x :=
  ⟨h.armed, h.down, by rw [h.ops]; omega, h.safe, by rw [h.held, List.drop_of_length_le (by rw [wsL_length]; omega)]⟩
theorem crash_same (x : St) (ks : List Int) : (x.crash ks).seen = tearN x.safe x.held ks x.held.length := rfl
theorem new_at {n i : Nat} (h : i < n) : (St.new n).safe[i]? = some (bytesS 512 0) := by
  show (List.replicate n (bytesS 512 0))[i]? = _
  rw [List.getElem?_replicate, if_pos h]
theorem KpEnd.low {fs : List UInt8} {k i : Nat} {x : St} {v : UInt8} (h : KpEnd fs k x) (ks : List Int) (hv : fs[i]? = some v) (hi : i < k) (h64 : i < 64) : (x.crash ks).seen[i]? = some (bytesS 512 v) := by
  rw [crash_same, tearN_far, h.safe]
  · refine putAll_hit (j := i) ?_ ?_ ?_
    · rw [List.getElem?_take, if_pos hi]; exact wsL_at hv
    · intro j' a ha e
      rw [List.getElem?_take] at ha
      split at ha
      · rw [← wsL_place ha, e]
      · cases ha
    · show i < (List.replicate 64 _).length
      simpa using h64
  · intro a ha
    rw [h.held] at ha
    obtain ⟨j, hj⟩ := List.getElem?_of_mem ha
    rw [List.getElem?_drop] at hj
    have := wsL_place hj
    omega
theorem KpEnd.high {fs : List UInt8} {k i : Nat} {x : St} {v : UInt8} (h : KpEnd fs k x) (ks : List Int) (hv : fs[i]? = some v) (hi : k ≤ i) (h64 : i < 64) : (x.crash ks).seen[i]? = some (mixS (kept ks (i - k)) (bytesS 512 v) (bytesS 512 0)) := by
  have hl := (List.getElem?_eq_some_iff.1 hv).1
  rw [crash_same, h.held]
  rw [tear_hit (j := i - k) (s := bytesS 512 v) (old := bytesS 512 0) ?_ ?_ ?_, if_pos (by rw [List.length_drop, wsL_length]; omega)]
  · rw [List.getElem?_drop, show k + (i - k) = i by omega]; exact wsL_at hv
  · intro j' a ha e
    rw [List.getElem?_drop] at ha
    have := wsL_place ha
    omega
  · rw [h.safe, putAll_far ?_]
    · exact new_at h64
    · intro a ha
      obtain ⟨j, hj⟩ := List.getElem?_of_mem ha
      rw [List.getElem?_take] at hj
      split at hj
      · have := wsL_place hj
        omega
      · cases hj
theorem bytesS_list (N : Nat) (b : UInt8) : (bytesS N b).data.toList = List.replicate N b := by unfold bytesS; exact Array.toList_replicate
theorem mix_zeros {c : Nat} (s : ByteArray) : mixS c s (bytesS 512 0) = s.extract 0 c ++ bytesS (512 - c) 0 := by
  have e : (bytesS 512 0).extract c (bytesS 512 0).size = bytesS (512 - c) 0 := bytes_eq (by
    rw [ext_toList, bytesS_size, bytesS_list, bytesS_list, List.take_of_length_le (by rw [List.length_replicate]; exact Nat.le_refl _), List.drop_replicate])
  unfold mixS
  rw [e]
end Go.Proofs.YtgdaihembmcamaaGreatDoor
