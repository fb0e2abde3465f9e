/- What the code's functions of pages and lists must come to; the small example; the statement of the lists. -/
import Derived.Test.YtgncllhhajjnlaaInD
import Derived.Test.YtgncllhhajjnlaaBits
namespace Go.Proofs.Ytgncllhhajjnlaa
open Go.RowKit
/-- What the code's page, capacity and list must come to, over worlds in which its tables are laid (T). -/
structure Code17 (T : World → Prop) : Prop where
  bel : ∀ w w', T w → Below w.heap.size w w' → T w'
  page : ∀ (n : Int) (id : ByteArray) (th : Bool) (p : Int) w, T w → In64 n → In64 p → id.size ≤ 5000 → Calls Try.prog 9 #[unV n id, .bool th, .int .i64 p] w fun e w' => e = .returned (pageV (pageX id th p)) ∧ Below w.heap.size w w'
  cap : ∀ (b : Int) w, T w → In64 b → Calls Try.prog 11 #[.int .i64 b] w fun e w' => e = .returned (.string (capS b)) ∧ Below w.heap.size w w'
  list : ∀ (n : Int) w, T w → In64 n → Calls Try.prog 13 #[.int .i64 n] w fun e w' => e = .returned (.string (listS n)) ∧ Below w.heap.size w w'
theorem tt17 {T : World → Prop} (P : Code17 T) {w v : World} (h : Hid (T w)) (hb : Hid (Below w.heap.size w v)) : T v := P.bel w v h.out hb.out
theorem cap8 : capS 8 = ⟨#[0, 0, 0, 7, 0, 0, 2, 0]⟩ := by kernel_rfl
theorem std_ext : (stdS false).extract 8 16 = ⟨#[72, 69, 65, 68, 71, 65, 84, 69]⟩ ∧ (stdS false).extract 16 32 = ⟨#[66, 76, 79, 67, 75, 32, 85, 78, 73, 84, 32, 32, 32, 32, 32, 32]⟩ ∧ (stdS false).size = 36 ∧ byt (stdS false) 0 = 127 := by
  refine ⟨?_, ?_, ?_, ?_⟩ <;> kernel_rfl
set_option maxRecDepth 100000 in
set_option maxHeartbeats 4000000 in
theorem inquiry_wakes {T : World → Prop} (P : Code17 T) (w : World) (ht : T w) : Calls Try.prog 8 #[] w fun e w' => e = .returned (.bool true) ∧ Below w.heap.size w w' := by
  have HT := Lib.hid ht
  have HPG : Hid (∀ v, T v → Calls Try.prog 9 #[unV 0 ⟨#[]⟩, .bool false, .int .i64 0] v fun e w' => e = .returned (.tuple #[.string (stdS false), .int .i64 0]) ∧ Below v.heap.size v w') := Lib.hid (fun v hv => P.page 0 ⟨#[]⟩ false 0 v hv (by unfold In64; omega) (by unfold In64; omega) (by decide))
  have HCP : Hid (∀ v, T v → Calls Try.prog 11 #[.int .i64 8] v fun e w' => e = .returned (.string ⟨#[0, 0, 0, 7, 0, 0, 2, 0]⟩) ∧ Below v.heap.size v w') := Lib.hid (fun v hv => by have h := P.cap 8 v hv (by unfold In64; omega); rw [cap8] at h; exact h)
  obtain ⟨s8, s16, sz, b0⟩ := std_ext
  generalize stdS false = S at *
  have hx0 := fun w => index_byt S 0 0 rfl (by omega) w
  rw [b0] at hx0
  have qz : ((S.size : Int) == 36) = true := by rw [sz]; rfl
  have r1 : (16 : Int) ≤ (S.size : Int) := by omega
  have r2 : (32 : Int) ≤ (S.size : Int) := by omega
  clear b0 ht
  go_enter Try.func8, Try.ntmps8
  go_wp2_with (fail)
  refine (HPG.out w HT.out).mono ?_; rintro e v1 ⟨rfl, hb⟩
  have HB := Lib.hid hb; clear hb
  go_wp2_with (fail)
  refine (HCP.out _ (tt17 P HT HB)).mono ?_; rintro e v2 ⟨rfl, hb⟩
  replace HB := Lib.hid (HB.out.trans (hb.mono HB.out.size)); clear hb
  go_wp2_with (fail)
  go_ret
  exact ⟨rfl, HB.out⟩
set_option maxRecDepth 100000 in
set_option maxHeartbeats 4000000 in
theorem inquiryLists_any {T : World → Prop} (P : Code17 T) (b n : Int) (hb8 : In64 b) (hn8 : In64 n) (w : World) (ht : T w) : Calls Try.prog 4 #[.int .i64 b, .int .i64 n] w fun e w' => e = .returned (.bool true) ∧ Below w.heap.size w w' := by
  have HT := Lib.hid ht
  have HW := Lib.hid (fun v (hv : T v) => inquiry_wakes P v hv)
  have HC8 := Lib.hid (fun v hv => P.cap b v hv hb8)
  have HC9 := Lib.hid (fun v => refCap_any b v)
  have HL8 := Lib.hid (fun v hv => P.list n v hv hn8)
  have HL9 := Lib.hid (fun v => refList_any n v)
  generalize capS b = C at *
  generalize listS n = L at *
  have q1 : (C.toList == C.toList) = true := by simp
  have q2 : (L.toList == L.toList) = true := by simp
  clear ht hb8 hn8
  go_enter Try.func4, Try.ntmps4
  go_wp2_with (fail)
  refine (HC8.out w HT.out).mono ?_; rintro e v1 ⟨rfl, hb⟩
  have HB := Lib.hid hb; clear hb
  go_wp2_with (fail)
  refine (HC9.out _).mono ?_; rintro e v2 ⟨rfl, hb⟩
  replace HB := Lib.hid (HB.out.trans (hb.mono HB.out.size)); clear hb
  go_wp2_with (fail)
  refine (HL8.out _ (tt17 P HT HB)).mono ?_; rintro e v3 ⟨rfl, hb⟩
  replace HB := Lib.hid (HB.out.trans (hb.mono HB.out.size)); clear hb
  go_wp2_with (fail)
  refine (HL9.out _).mono ?_; rintro e v4 ⟨rfl, hb⟩
  replace HB := Lib.hid (HB.out.trans (hb.mono HB.out.size)); clear hb
  go_wp2_with (fail)
  refine (HW.out _ (tt17 P HT HB)).mono ?_; rintro e v5 ⟨rfl, hb⟩
  replace HB := Lib.hid (HB.out.trans (hb.mono HB.out.size)); clear hb
  go_wp2_with (fail)
  go_ret
  exact ⟨rfl, HB.out⟩
end Go.Proofs.Ytgncllhhajjnlaa
