/- What was made is read as it was, what was read is made as it was. -/
import Derived.Test.YtgncllhhajjnlaaInL
namespace Go.Proofs.Ytgncllhhajjnlaa
open Go.RowKit
set_option maxRecDepth 100000 in
set_option maxHeartbeats 8000000 in
theorem inquiryBack_any {T : World → Prop} (P : Code17 T) (Q : Code17b T) (A : Option Addr) (c : Nat) (l : List Rn) (s : ByteArray) (w : World) (hl : Rngs w A l) (ht : T w) :
    Calls Try.prog 6 #[.slice A l.length c, .string s] w fun e w' => e = .returned (.bool true) ∧ Below w.heap.size w w' := by
  have HT := Lib.hid ht
  have HL := Lib.hid hl
  obtain ⟨n, hn⟩ : ∃ n, n = l.length := ⟨_, rfl⟩
  have HN := Lib.hid hn
  rw [← hn]
  by_cases hb1 : n ≤ 200
  · by_cases hb2 : s.size ≤ 5000
    · have q1 : ¬ (200 : Int) < (n : Int) := by omega
      have q2 : ¬ (5000 : Int) < (s.size : Int) := by omega
      have HCR : Hid (∀ v, Rngs v A l → Calls Try.prog 15 #[.slice A n c] v fun e v' => ∃ A' c', e = .returned (.slice A' n c') ∧ Rngs v' A' l ∧ (0 < l.length → ∀ a, A' = some a → v.heap.size ≤ a.block) ∧ Below v.heap.size v v') := Lib.hid (fun v hv => by
        rw [hn]; exact copy_rngs v A c l hv (by omega))
      have HWK := Lib.hid (fun v tv => inquiry_wakes P v tv)
      cases hu : unX l with
      | none =>
        have HUN : Hid (∀ B d v, T v → Rngs v B l → Calls Try.prog 16 #[.slice B n d] v fun e v' => e = .returned (.tuple #[.string ⟨#[]⟩, .int .i64 180]) ∧ Below v.heap.size v v') := Lib.hid (fun B d v tv hv => by
          have := Q.unmap B d l v tv hv (by omega)
          rw [hn]
          rwa [hu] at this)
        clear hu
        cases hs : raX s with
        | none =>
          have HRA : Hid (∀ v, T v → Calls Try.prog 18 #[.string s] v fun e v' => (∃ D g, e = .returned (.tuple #[.slice D 0 g, .int .i64 180]) ∧ Rngs v' D []) ∧ Below v.heap.size v v') := Lib.hid (fun v tv => by
            have := Q.ranges s v tv (by omega)
            rwa [hs] at this)
          clear hs
          clear hl ht hn hb1 hb2
          go_enter Try.func6, Try.ntmps6
          go_wp2_with (fail)
          refine (HCR.out w HL.out).mono ?_; rintro e v1 ⟨B, d, rfl, hr1, _, hb⟩
          have HR1 := Lib.hid hr1; have HB := Lib.hid hb; clear hb hr1
          go_wp2_with (fail)
          refine (HUN.out B d v1 (tt17 P HT HB) HR1.out).mono ?_; rintro e v2 ⟨rfl, hb⟩
          replace HB := Lib.hid (HB.out.trans (hb.mono HB.out.size)); clear hb
          go_wp2_with (fail)
          refine (HRA.out v2 (tt17 P HT HB)).mono ?_; rintro e v5 ⟨⟨D, g, rfl, hd⟩, hb⟩
          have HD := Lib.hid hd
          replace HB := Lib.hid (HB.out.trans (hb.mono HB.out.size)); clear hb
          clear hd
          go_wp2_with (fail)
          refine (HWK.out v5 (tt17 P HT HB)).mono ?_; rintro e v7 ⟨rfl, hb⟩
          replace HB := Lib.hid (HB.out.trans (hb.mono HB.out.size)); clear hb
          go_wp2_with (fail)
          go_ret
          exact ⟨rfl, HB.out⟩
        | some m =>
          have hm16 := ra_len hs
          obtain ⟨j, hj⟩ : ∃ j, j = m.length := ⟨_, rfl⟩
          have HRA : Hid (∀ v, T v → Calls Try.prog 18 #[.string s] v fun e v' => (∃ D g, e = .returned (.tuple #[.slice D j g, .int .i64 0]) ∧ Rngs v' D m) ∧ Below v.heap.size v v') := Lib.hid (fun v tv => by
            have := Q.ranges s v tv (by omega)
            rw [hj]
            rwa [hs] at this)
          have HUK : Hid (∀ D g v, T v → Rngs v D m → Calls Try.prog 16 #[.slice D j g] v fun e v' => e = .returned (.tuple #[.string s, .int .i64 0]) ∧ Below v.heap.size v v') := Lib.hid (fun D g v tv hv => by
            have := Q.unmap D g m v tv hv (by omega)
            rw [hj]
            rwa [ra_back hs] at this)
          have x1 : (s.toList == s.toList) = true := by simp
          clear hs hm16 hj
          clear hl ht hn hb1 hb2
          go_enter Try.func6, Try.ntmps6
          go_wp2_with (fail)
          refine (HCR.out w HL.out).mono ?_; rintro e v1 ⟨B, d, rfl, hr1, _, hb⟩
          have HR1 := Lib.hid hr1; have HB := Lib.hid hb; clear hb hr1
          go_wp2_with (fail)
          refine (HUN.out B d v1 (tt17 P HT HB) HR1.out).mono ?_; rintro e v2 ⟨rfl, hb⟩
          replace HB := Lib.hid (HB.out.trans (hb.mono HB.out.size)); clear hb
          go_wp2_with (fail)
          refine (HRA.out v2 (tt17 P HT HB)).mono ?_; rintro e v5 ⟨⟨D, g, rfl, hd⟩, hb⟩
          have HD := Lib.hid hd
          replace HB := Lib.hid (HB.out.trans (hb.mono HB.out.size)); clear hb
          clear hd
          go_wp2_with (fail)
          refine (HUK.out D g v5 (tt17 P HT HB) HD.out).mono ?_; rintro e v6 ⟨rfl, hb⟩
          replace HB := Lib.hid (HB.out.trans (hb.mono HB.out.size)); clear hb
          go_wp2_with (fail)
          refine (HWK.out v6 (tt17 P HT HB)).mono ?_; rintro e v7 ⟨rfl, hb⟩
          replace HB := Lib.hid (HB.out.trans (hb.mono HB.out.size)); clear hb
          go_wp2_with (fail)
          go_ret
          exact ⟨rfl, HB.out⟩
      | some t =>
        have htz := un_size hu
        have HUN : Hid (∀ B d v, T v → Rngs v B l → Calls Try.prog 16 #[.slice B n d] v fun e v' => e = .returned (.tuple #[.string t, .int .i64 0]) ∧ Below v.heap.size v v') := Lib.hid (fun B d v tv hv => by
          have := Q.unmap B d l v tv hv (by omega)
          rw [hn]
          rwa [hu] at this)
        have HRT : Hid (∀ v, T v → Calls Try.prog 18 #[.string t] v fun e v' => (∃ D g, e = .returned (.tuple #[.slice D n g, .int .i64 0]) ∧ Rngs v' D l) ∧ Below v.heap.size v v') := Lib.hid (fun v tv => by
          have := Q.ranges t v tv (by omega)
          rw [hn]
          rwa [un_back hu] at this)
        have HSM : Hid (∀ B d v, Rngs v B l → Rngs v A l → Calls Try.prog 20 #[.slice B n d, .slice A n c] v fun e v' => e = .returned (.bool true) ∧ Below v.heap.size v v') := Lib.hid (fun B d v h1 h2 => by
          have := same_rngs B A d c l v h1 h2 (by omega)
          rwa [← hn] at this)
        clear hu htz
        cases hs : raX s with
        | none =>
          have HRA : Hid (∀ v, T v → Calls Try.prog 18 #[.string s] v fun e v' => (∃ D g, e = .returned (.tuple #[.slice D 0 g, .int .i64 180]) ∧ Rngs v' D []) ∧ Below v.heap.size v v') := Lib.hid (fun v tv => by
            have := Q.ranges s v tv (by omega)
            rwa [hs] at this)
          clear hs
          clear hl ht hn hb1 hb2
          go_enter Try.func6, Try.ntmps6
          go_wp2_with (fail)
          refine (HCR.out w HL.out).mono ?_; rintro e v1 ⟨B, d, rfl, hr1, _, hb⟩
          have HR1 := Lib.hid hr1; have HB := Lib.hid hb; clear hb hr1
          go_wp2_with (fail)
          refine (HUN.out B d v1 (tt17 P HT HB) HR1.out).mono ?_; rintro e v2 ⟨rfl, hb⟩
          replace HB := Lib.hid (HB.out.trans (hb.mono HB.out.size)); clear hb
          go_wp2_with (fail)
          refine (HRT.out v2 (tt17 P HT HB)).mono ?_; rintro e v3 ⟨⟨C, f, rfl, hc⟩, hb⟩
          have HC := Lib.hid hc
          replace HB := Lib.hid (HB.out.trans (hb.mono HB.out.size)); clear hb
          clear hc
          go_wp2_with (fail)
          refine (HSM.out C f v3 HC.out (HL.out.below HB.out)).mono ?_; rintro e v4 ⟨rfl, hb⟩
          replace HB := Lib.hid (HB.out.trans (hb.mono HB.out.size)); clear hb
          clear HC
          go_wp2_with (fail)
          refine (HRA.out v4 (tt17 P HT HB)).mono ?_; rintro e v5 ⟨⟨D, g, rfl, hd⟩, hb⟩
          have HD := Lib.hid hd
          replace HB := Lib.hid (HB.out.trans (hb.mono HB.out.size)); clear hb
          clear hd
          go_wp2_with (fail)
          refine (HWK.out v5 (tt17 P HT HB)).mono ?_; rintro e v7 ⟨rfl, hb⟩
          replace HB := Lib.hid (HB.out.trans (hb.mono HB.out.size)); clear hb
          go_wp2_with (fail)
          go_ret
          exact ⟨rfl, HB.out⟩
        | some m =>
          have hm16 := ra_len hs
          obtain ⟨j, hj⟩ : ∃ j, j = m.length := ⟨_, rfl⟩
          have HRA : Hid (∀ v, T v → Calls Try.prog 18 #[.string s] v fun e v' => (∃ D g, e = .returned (.tuple #[.slice D j g, .int .i64 0]) ∧ Rngs v' D m) ∧ Below v.heap.size v v') := Lib.hid (fun v tv => by
            have := Q.ranges s v tv (by omega)
            rw [hj]
            rwa [hs] at this)
          have HUK : Hid (∀ D g v, T v → Rngs v D m → Calls Try.prog 16 #[.slice D j g] v fun e v' => e = .returned (.tuple #[.string s, .int .i64 0]) ∧ Below v.heap.size v v') := Lib.hid (fun D g v tv hv => by
            have := Q.unmap D g m v tv hv (by omega)
            rw [hj]
            rwa [ra_back hs] at this)
          have x1 : (s.toList == s.toList) = true := by simp
          clear hs hm16 hj
          clear hl ht hn hb1 hb2
          go_enter Try.func6, Try.ntmps6
          go_wp2_with (fail)
          refine (HCR.out w HL.out).mono ?_; rintro e v1 ⟨B, d, rfl, hr1, _, hb⟩
          have HR1 := Lib.hid hr1; have HB := Lib.hid hb; clear hb hr1
          go_wp2_with (fail)
          refine (HUN.out B d v1 (tt17 P HT HB) HR1.out).mono ?_; rintro e v2 ⟨rfl, hb⟩
          replace HB := Lib.hid (HB.out.trans (hb.mono HB.out.size)); clear hb
          go_wp2_with (fail)
          refine (HRT.out v2 (tt17 P HT HB)).mono ?_; rintro e v3 ⟨⟨C, f, rfl, hc⟩, hb⟩
          have HC := Lib.hid hc
          replace HB := Lib.hid (HB.out.trans (hb.mono HB.out.size)); clear hb
          clear hc
          go_wp2_with (fail)
          refine (HSM.out C f v3 HC.out (HL.out.below HB.out)).mono ?_; rintro e v4 ⟨rfl, hb⟩
          replace HB := Lib.hid (HB.out.trans (hb.mono HB.out.size)); clear hb
          clear HC
          go_wp2_with (fail)
          refine (HRA.out v4 (tt17 P HT HB)).mono ?_; rintro e v5 ⟨⟨D, g, rfl, hd⟩, hb⟩
          have HD := Lib.hid hd
          replace HB := Lib.hid (HB.out.trans (hb.mono HB.out.size)); clear hb
          clear hd
          go_wp2_with (fail)
          refine (HUK.out D g v5 (tt17 P HT HB) HD.out).mono ?_; rintro e v6 ⟨rfl, hb⟩
          replace HB := Lib.hid (HB.out.trans (hb.mono HB.out.size)); clear hb
          go_wp2_with (fail)
          refine (HWK.out v6 (tt17 P HT HB)).mono ?_; rintro e v7 ⟨rfl, hb⟩
          replace HB := Lib.hid (HB.out.trans (hb.mono HB.out.size)); clear hb
          go_wp2_with (fail)
          go_ret
          exact ⟨rfl, HB.out⟩
    · have q1 : ¬ (200 : Int) < (n : Int) := by omega
      have q2 : (5000 : Int) < (s.size : Int) := by omega
      have HWK := Lib.hid (inquiry_wakes P w ht)
      clear hl ht hn hb1 hb2
      go_enter Try.func6, Try.ntmps6
      go_wp2_with (fail)
      refine HWK.out.mono ?_; rintro e v1 ⟨rfl, hb⟩
      have HB := Lib.hid hb; clear hb
      go_wp2_with (fail)
      go_ret
      exact ⟨rfl, HB.out⟩
  · have q1 : (200 : Int) < (n : Int) := by omega
    have HWK := Lib.hid (inquiry_wakes P w ht)
    clear hl ht hn hb1
    go_enter Try.func6, Try.ntmps6
    go_wp2_with (fail)
    refine HWK.out.mono ?_; rintro e v1 ⟨rfl, hb⟩
    have HB := Lib.hid hb; clear hb
    go_wp2_with (fail)
    go_ret
    exact ⟨rfl, HB.out⟩
end Go.Proofs.Ytgncllhhajjnlaa
