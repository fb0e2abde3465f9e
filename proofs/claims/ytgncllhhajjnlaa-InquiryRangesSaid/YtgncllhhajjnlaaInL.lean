/- The list of any ranges, and the ranges of any list. -/
import Derived.Test.YtgncllhhajjnlaaInK
namespace Go.Proofs.Ytgncllhhajjnlaa
open Go.RowKit
theorem page_form (o : Option ByteArray) : ∃ (X : ByteArray) (E : Int), pageV o = .tuple #[.string X, .int .i64 E] ∧ X = o.getD ⟨#[]⟩ ∧ E = if o.isSome = true then 0 else 180 := ⟨_, _, rfl, rfl, rfl⟩
set_option maxRecDepth 100000 in
set_option maxHeartbeats 8000000 in
theorem inquiryRanges_any {T : World → Prop} (P : Code17 T) (Q : Code17b T) (A : Option Addr) (c : Nat) (l : List Rn) (s : ByteArray) (w : World) (hl : Rngs w A l) (ht : T w) :
    Calls Try.prog 5 #[.slice A l.length c, .string s] w fun e w' => e = .returned (.bool true) ∧ Below w.heap.size w w' := by
  have HT := Lib.hid ht
  have HL := Lib.hid hl
  obtain ⟨n, hn⟩ : ∃ n, n = l.length := ⟨_, rfl⟩
  have HN := Lib.hid hn
  rw [← hn]
  by_cases hb1 : n ≤ 200
  · by_cases hb2 : s.size ≤ 5000
    · have q1 : ¬ (200 : Int) < (n : Int) := by omega
      have q2 : ¬ (5000 : Int) < (s.size : Int) := by omega
      obtain ⟨X, E, hX, hX1, hX2⟩ := page_form (unX l)
      clear hX1 hX2
      have HCR : Hid (∀ v, Rngs v A l → Calls Try.prog 15 #[.slice A n c] v fun e v' => ∃ A' c', e = .returned (.slice A' n c') ∧ Rngs v' A' l ∧ (0 < l.length → ∀ a, A' = some a → v.heap.size ≤ a.block) ∧ Below v.heap.size v v') := Lib.hid (fun v hv => by
        rw [hn]; exact copy_rngs v A c l hv (by omega))
      have HUN : Hid (∀ B d v, T v → Rngs v B l → Calls Try.prog 16 #[.slice B n d] v fun e v' => e = .returned (.tuple #[.string X, .int .i64 E]) ∧ Below v.heap.size v v') := Lib.hid (fun B d v tv hv => by
        have := Q.unmap B d l v tv hv (by omega)
        rwa [← hn, hX] at this)
      have HRU : Hid (∀ v, Rngs v A l → Calls Try.prog 17 #[.slice A n c] v fun e v' => e = .returned (.tuple #[.string X, .int .i64 E]) ∧ Below v.heap.size v v') := Lib.hid (fun v hv => by
        have := refUnmap_any A c l v hv (by omega)
        rwa [← hn, hX] at this)
      have HRA := Lib.hid (fun v tv => Q.ranges s v tv (by omega))
      have HRR := Lib.hid (fun v => refRanges_any s v (by omega))
      have HSM : Hid (∀ B d A0 c0 v, Rngs v B l → Rngs v A0 l → Calls Try.prog 20 #[.slice B n d, .slice A0 n c0] v fun e v' => e = .returned (.bool true) ∧ Below v.heap.size v v') := Lib.hid (fun B d A0 c0 v h1 h2 => by
        have := same_rngs B A0 d c0 l v h1 h2 (by omega)
        rwa [← hn] at this)
      have HSK := Lib.hid (fun B d A0 c0 v h1 h2 => same_rngs B A0 d c0 ((raX s).getD []) v h1 h2 (by
        cases hr : raX s with
        | none => simp
        | some k => have := ra_len hr; simp only [Option.getD_some]; omega))
      have HWK := Lib.hid (fun v tv => inquiry_wakes P v tv)
      have x1 : (X.toList == X.toList) = true := by simp
      have x2 : (E == E) = true := by simp
      unfold RgOut at HRA HRR
      obtain ⟨Fe, hF⟩ : ∃ Fe : Int, Fe = if (raX s).isSome = true then 0 else 180 := ⟨_, rfl⟩
      rw [← hF] at HRA HRR
      generalize (raX s).getD [] = m at *
      have x3 : (Fe == Fe) = true := by simp
      clear hl ht hn hb1 hb2 hX hF
      go_enter Try.func5, Try.ntmps5
      go_wp2_with (fail)
      refine (HCR.out w HL.out).mono ?_; rintro e v1 ⟨B, d, rfl, hr1, _, hb⟩
      have HR1 := Lib.hid hr1; have HB := Lib.hid hb; clear hb hr1
      go_wp2_with (fail)
      refine (HUN.out B d v1 (tt17 P HT HB) HR1.out).mono ?_; rintro e v2 ⟨rfl, hb⟩
      replace HR1 := Lib.hid (HR1.out.below hb); replace HB := Lib.hid (HB.out.trans (hb.mono HB.out.size)); clear hb
      go_wp2_with (fail)
      refine (HRU.out v2 (HL.out.below HB.out)).mono ?_; rintro e v3 ⟨rfl, hb⟩
      replace HR1 := Lib.hid (HR1.out.below hb); replace HB := Lib.hid (HB.out.trans (hb.mono HB.out.size)); clear hb
      go_wp2_with (fail)
      refine (HRA.out v3 (tt17 P HT HB)).mono ?_; rintro e v4 ⟨⟨C, f, rfl, hc⟩, hb⟩
      have HC := Lib.hid hc
      replace HR1 := Lib.hid (HR1.out.below hb); replace HB := Lib.hid (HB.out.trans (hb.mono HB.out.size)); clear hb hc
      go_wp2_with (fail)
      refine (HRR.out v4).mono ?_; rintro e v5 ⟨⟨D, g, rfl, hd⟩, hb⟩
      have HD := Lib.hid hd
      replace HC := Lib.hid (HC.out.below hb); replace HR1 := Lib.hid (HR1.out.below hb); replace HB := Lib.hid (HB.out.trans (hb.mono HB.out.size)); clear hb hd
      go_wp2_with (fail)
      refine (HSK.out C f D g v5 HC.out HD.out).mono ?_; rintro e v6 ⟨rfl, hb⟩
      replace HR1 := Lib.hid (HR1.out.below hb); replace HB := Lib.hid (HB.out.trans (hb.mono HB.out.size)); clear hb HC HD
      go_wp2_with (fail)
      refine (HSM.out B d A c v6 HR1.out (HL.out.below HB.out)).mono ?_; rintro e v7 ⟨rfl, hb⟩
      replace HB := Lib.hid (HB.out.trans (hb.mono HB.out.size)); clear hb HR1
      go_wp2_with (fail)
      refine (HWK.out v7 (tt17 P HT HB)).mono ?_; rintro e v8 ⟨rfl, hb⟩
      replace HB := Lib.hid (HB.out.trans (hb.mono HB.out.size)); clear hb
      go_wp2_with (fail)
      go_ret
      exact ⟨rfl, HB.out⟩
    · have q1 : ¬ (200 : Int) < (n : Int) := by omega
      have q2 : (5000 : Int) < (s.size : Int) := by omega
      have HWK := Lib.hid (inquiry_wakes P w ht)
      clear hl ht hn hb1 hb2
      go_enter Try.func5, Try.ntmps5
      go_wp2_with (fail)
      refine HWK.out.mono ?_; rintro e v1 ⟨rfl, hb⟩
      have HB := Lib.hid hb; clear hb
      go_wp2_with (fail)
      go_ret
      exact ⟨rfl, HB.out⟩
  · have q1 : (200 : Int) < (n : Int) := by omega
    have HWK := Lib.hid (inquiry_wakes P w ht)
    clear hl ht hn hb1
    go_enter Try.func5, Try.ntmps5
    go_wp2_with (fail)
    refine HWK.out.mono ?_; rintro e v1 ⟨rfl, hb⟩
    have HB := Lib.hid hb; clear hb
    go_wp2_with (fail)
    go_ret
    exact ⟨rfl, HB.out⟩
end Go.Proofs.Ytgncllhhajjnlaa
