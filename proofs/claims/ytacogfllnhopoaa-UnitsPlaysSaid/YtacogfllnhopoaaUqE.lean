/- The document's Add, whole. -/
import Derived.Test.YtacogfllnhopoaaUqA
import Derived.Test.YtacogfllnhopoaaUqB
import Derived.Test.YtacogfllnhopoaaUqC
import Derived.Test.YtacogfllnhopoaaUqF
import Derived.Test.YtacogfllnhopoaaUqG
namespace Go.Proofs.Ytacogfllnhopoaa
open Go.RowKit Go.Maps
theorem RqOut.mono {m m' : Nat} {G : Nat → Prop} {w : World} {p : Nat} {f : PF} {w' : World} (h : RqOut m G w p f w') (hm : m ≤ m') : RqOut m' G w p f w' := by
  obtain ⟨h1, G', ⟨l, k1, k2, k3, k4⟩, h3⟩ := h
  exact ⟨h1, G', ⟨l, k1, k2, k3, Nat.le_trans k4 hm⟩, h3⟩
theorem radd_any {mb : Nat} (w : World) {G : Nat → Prop} {p : Nat} {f : PF} (h : RQ mb w G p f) (hmb : mb ≤ 1000000) (lu : Int) (ho : ByteArray) (wy : Int) (hs : ho.size ≤ maxLen) :
    Calls Try.prog 9 #[.pointer (some ⟨p, 0, none⟩), .int .i64 lu, .string ho, .int .i64 wy] w fun e w' => e = .returned (.bool (addB f lu ho wy)) ∧ RqOut (mb + 1) G w p (addF f lu ho wy) w' := by
  have hno : ∀ w', w = w' → addB f lu ho wy = false → RqOut (mb + 1) G w p (addF f lu ho wy) w' := by
    rintro _ rfl hb
    rw [addB_no hb]
    exact (h.out (Below.refl _ _)).mono (Nat.le_succ _)
  have HNO := Lib.hid hno
  clear hno
  obtain ⟨l, hQ, rfl, hg, hlb⟩ := h
  cases h1 : (decide (0 ≤ lu) && decide (lu < 8)) with
  | false =>
    have hb : addB (fq l) lu ho wy = false := by unfold addB; rw [h1]; rfl
    rw [hb]
    exact (radd_lun w p lu ho wy h1).mono fun e w' ⟨k1, k2⟩ => ⟨k1, HNO.out w' k2 hb⟩
  | true =>
  cases h2 : nameB ho with
  | false =>
    have hb : addB (fq l) lu ho wy = false := by unfold addB; rw [h1, h2]; rfl
    rw [hb]
    exact (radd_name w p lu ho wy h1 hs h2).mono fun e w' ⟨k1, k2⟩ => ⟨k1, HNO.out w' k2 hb⟩
  | true =>
  cases h3 : (decide (1 ≤ wy) && decide (wy ≤ 4)) with
  | false =>
    have hb : addB (fq l) lu ho wy = false := by unfold addB; rw [h1, h2, h3]; rfl
    rw [hb]
    exact (radd_why w p lu ho wy h1 hs h2 h3).mono fun e w' ⟨k1, k2⟩ => ⟨k1, HNO.out w' k2 hb⟩
  | true =>
  have hl : 0 ≤ lu ∧ lu < 8 := by simpa using h1
  have hw : 1 ≤ wy ∧ wy ≤ 4 := by simpa using h3
  have hB : addB (fq l) lu ho wy = decide ((fq l lu ho).getLast? ≠ some wy) := by unfold addB; rw [h1, h2, h3]; rfl
  rcases fq_cases hg.once lu ho with ⟨x, hx, hi, e⟩ | ⟨hn, e⟩
  · obtain ⟨k, hk⟩ := List.getElem?_of_mem hx
    by_cases hla : x.zs.getLast? = some wy
    · have hb : addB (fq l) lu ho wy = false := by rw [hB, e]; simpa using hla
      rw [hb]
      exact (radd_same w hQ hg hk lu ho hi wy hs hl h2 hw hla).mono fun e w' ⟨k1, k2⟩ => ⟨k1, HNO.out w' k2 hb⟩
    · have hb : addB (fq l) lu ho wy = true := by rw [hB, e]; simpa using hla
      rw [hb, addB_yes hb, e]
      unfold push8
      by_cases h8 : x.zs.length = 8
      · rw [if_pos h8]
        exact (radd_full w hQ hg hlb hk lu ho hi wy hs hl h2 hw h8 hla).mono fun e w' ⟨k1, k2⟩ => ⟨k1, k2.mono (Nat.le_succ _)⟩
      · rw [if_neg h8]
        have h7 : x.zs.length ≤ 7 := by have := (hg.fine x hx).2.2.2; omega
        exact (radd_room w hQ hg hlb hk lu ho hi wy hs hl h2 hw h7 hla).mono fun e w' ⟨k1, k2⟩ => ⟨k1, k2.mono (Nat.le_succ _)⟩
  · have hb : addB (fq l) lu ho wy = true := by rw [hB, e]; simp
    rw [hb, addB_yes hb, e]
    show Calls _ _ _ _ fun e w' => e = .returned (.bool true) ∧ RqOut (mb + 1) G w p (upd (fq l) lu ho [wy]) w'
    obtain ⟨A, c, hp, _⟩ := hQ.row
    rcases src_row hQ hp with ⟨rfl, rfl, rfl⟩ | ⟨g, rfl, _⟩
    · exact radd_newA w hQ hp hg lu ho hn wy hs hl h2 hw (Nat.zero_le _) hlb
    · exact radd_newB w hQ hp hg lu ho hn wy hs hl h2 hw (by omega) hlb
end Go.Proofs.Ytacogfllnhopoaa
