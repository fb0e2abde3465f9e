/- The document's Add, where nothing is added. -/
import Derived.Test.YtacogfllnhopoaaUnZ
import Derived.Deep.RegionLaw
namespace Go.Proofs.Ytacogfllnhopoaa
open Go.RowKit Go.Maps
set_option maxRecDepth 100000 in
set_option maxHeartbeats 4000000 in
theorem radd_same (w : World) {G : Nat → Prop} {p : Nat} {l : List Wt} (hQ : Rq w G p l) (hg : GoodL l) {k : Nat} {x : Wt} (hx : l[k]? = some x) (lu : Int) (ho : ByteArray) (hi : x.is lu ho) (wy : Int) (hs : ho.size ≤ maxLen)
    (hl : 0 ≤ lu ∧ lu < 8) (hn : nameB ho = true) (hwy : 1 ≤ wy ∧ wy ≤ 4) (hla : x.zs.getLast? = some wy) :
    Calls Try.prog 9 #[.pointer (some ⟨p, 0, none⟩), .int .i64 lu, .string ho, .int .i64 wy] w fun e w' => e = .returned (.bool false) ∧ w = w' := by
  obtain ⟨A, c, hp, hr⟩ := hQ.row
  obtain ⟨g, rfl, _, c0, c1, c2, f2, hok⟩ := hr k x hx
  have HF := Lib.hid (find_any w hQ lu ho)
  obtain ⟨n, hnn⟩ : ∃ n, n = x.zs.length := ⟨_, rfl⟩
  rw [← hnn] at c2
  have HQ := Lib.hid hQ; have HG := Lib.hid hg; have HX := Lib.hid hx; have HI := Lib.hid hi; have HNN := Lib.hid hnn
  have HONE := Lib.hid (show ∀ (j : Nat) (y : Wt), l[j]? = some y → y.is lu ho → j = k ∧ y = x from fun j y hj hy => by
    have hjk : j = k := by
      rcases Nat.lt_trichotomy j k with h | h | h
      · have := List.pairwise_iff_getElem.1 hg.once j k (List.getElem?_eq_some_iff.1 hj).1 (List.getElem?_eq_some_iff.1 hx).1 h
        rw [(List.getElem?_eq_some_iff.1 hj).2, (List.getElem?_eq_some_iff.1 hx).2] at this
        exact absurd ⟨hy.1.trans hi.1.symm, hy.2.trans hi.2.symm⟩ this
      · exact h
      · have := List.pairwise_iff_getElem.1 hg.once k j (List.getElem?_eq_some_iff.1 hx).1 (List.getElem?_eq_some_iff.1 hj).1 h
        rw [(List.getElem?_eq_some_iff.1 hj).2, (List.getElem?_eq_some_iff.1 hx).2] at this
        exact absurd ⟨hi.1.trans hy.1.symm, hi.2.trans hy.2.symm⟩ this
    subst hjk
    rw [hx] at hj
    exact ⟨rfl, (Option.some.inj hj).symm⟩)
  have HNO := Lib.hid (show ¬ ∀ y ∈ l, ¬ y.is lu ho from fun h => h x (List.mem_of_getElem? hx) hi)
  have hkl : (k : Int) < (l.length : Int) := by have := (List.getElem?_eq_some_iff.1 hx).1; omega
  have hl0 : ¬ lu < 0 := by omega
  have hl8 : ¬ lu ≥ 8 := by omega
  have hw1 : ¬ wy < 1 := by omega
  have hw4 : ¬ wy > 4 := by omega
  have hpos : 0 < n := by rw [hnn]; cases hz : x.zs with | nil => rw [hz] at hla; cases hla | cons a t => simp
  obtain ⟨g', o', cur, hA, _, hB, hcur⟩ := hok.2 (by omega)
  have hcl : w.cell? ⟨g', o' + (n - 1), none⟩ = some (.int .i64 wy) := (hB.cell _).trans (hcur _ _ (by rw [List.getLast?_eq_getElem?, ← hnn] at hla; exact hla))
  have hn0 : (0 : Int) < (n : Int) := by omega
  have hw0 : IntKind.i64.wrap ((n : Int) - 1) = (n : Int) - 1 := IntWalk.i64_in _ (by have := (HG.out.fine x (List.mem_of_getElem? hx)).2.2.2; omega)
  have hge : (0 : Int) ≤ (n : Int) - 1 := by omega
  have hlt1 : (n : Int) - 1 < (n : Int) := by omega
  have htn : ((n : Int) - 1).toNat = n - 1 := by omega
  rw [hA] at c2
  clear hr hQ hg hx hi hok c0 c1 f2 hla hl hwy hnn hpos hcur hB hA
  go_enter Try.func9, Try.ntmps9
  go_wp2_with (first | (go_at_call 20; refine (refName_any _ _ hs).mono ?_; rintro e w2 ⟨rfl, rfl⟩) | fail)
  refine HF.out.mono ?_
  rintro e w' ⟨rfl, ⟨j, y, rfl, hj, hy⟩ | ⟨rfl, hno⟩⟩
  · obtain ⟨rfl, rfl⟩ := HONE.out j y hj hy
    clear hj hy
    go_wp2
    go_ret
    exact ⟨rfl, rfl⟩
  · exact absurd hno HNO.out
theorem radd_lun (w : World) (p : Nat) (lu : Int) (ho : ByteArray) (wy : Int) (hl : (decide (0 ≤ lu) && decide (lu < 8)) = false) : Calls Try.prog 9 #[.pointer (some ⟨p, 0, none⟩), .int .i64 lu, .string ho, .int .i64 wy] w fun e w' => e = .returned (.bool false) ∧ w = w' := by
  have h : lu < 0 ∨ (¬ lu < 0 ∧ lu ≥ 8) := by simp at hl; omega
  clear hl
  rcases h with h | ⟨h, h2⟩ <;>
  · go_enter Try.func9, Try.ntmps9
    go_wp2
    go_ret
    exact ⟨rfl, rfl⟩
theorem radd_name (w : World) (p : Nat) (lu : Int) (ho : ByteArray) (wy : Int) (hl : (decide (0 ≤ lu) && decide (lu < 8)) = true) (hs : ho.size ≤ maxLen) (hn : nameB ho = false) : Calls Try.prog 9 #[.pointer (some ⟨p, 0, none⟩), .int .i64 lu, .string ho, .int .i64 wy] w fun e w' => e = .returned (.bool false) ∧ w = w' := by
  have h1 : ¬ lu < 0 := by simp at hl; omega
  have h2 : ¬ lu ≥ 8 := by simp at hl; omega
  clear hl
  go_enter Try.func9, Try.ntmps9
  go_wp2_with (go_at_call 20; refine (refName_any _ _ hs).mono ?_; rintro e w2 ⟨rfl, rfl⟩)
  go_ret
  exact ⟨rfl, rfl⟩
theorem radd_why (w : World) (p : Nat) (lu : Int) (ho : ByteArray) (wy : Int) (hl : (decide (0 ≤ lu) && decide (lu < 8)) = true) (hs : ho.size ≤ maxLen) (hn : nameB ho = true) (hx : (decide (1 ≤ wy) && decide (wy ≤ 4)) = false) : Calls Try.prog 9 #[.pointer (some ⟨p, 0, none⟩), .int .i64 lu, .string ho, .int .i64 wy] w fun e w' => e = .returned (.bool false) ∧ w = w' := by
  have h1 : ¬ lu < 0 := by simp at hl; omega
  have h2 : ¬ lu ≥ 8 := by simp at hl; omega
  have h : wy < 1 ∨ (¬ wy < 1 ∧ wy > 4) := by simp at hx; omega
  clear hl hx
  rcases h with h | ⟨h, h3⟩ <;>
  · go_enter Try.func9, Try.ntmps9
    go_wp2_with (go_at_call 20; refine (refName_any _ _ hs).mono ?_; rintro e w2 ⟨rfl, rfl⟩)
    go_ret
    exact ⟨rfl, rfl⟩
end Go.Proofs.Ytacogfllnhopoaa
