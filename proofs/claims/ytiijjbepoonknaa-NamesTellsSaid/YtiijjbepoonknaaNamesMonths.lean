/- The call of NamesMonths returns true. -/
import Derived.Test.YtiijjbepoonknaaNamesBack
namespace Go.Proofs.Ytiijjbepoonknaa
open Go.RowKit
def dgU (n : Nat) : UInt8 := UInt8.ofNat (48 + n % 10)
def dgS (n : Nat) : ByteArray := ⟨#[dgU n]⟩
theorem dgU_nat (n : Nat) : (dgU n).toNat = 48 + n % 10 := by
  unfold dgU
  rw [UInt8.toNat_ofNat']
  omega
theorem dgU_int (n : Nat) : 48 + (n : Int) % 10 = ((dgU n).toNat : Int) := by rw [dgU_nat]; omega
theorem conv_dg (w : World) (p : UInt8) : Sem.run Try.prog (convert 30 9 (Value.slice (some { block := w.heap.size, off := 0 }) 1 1))
    (w.alloc (Obj.cells #[.int .u8 (p.toNat : Int)] 5)) =
    Result.ok (Value.string ⟨#[p]⟩) (w.alloc (Obj.cells #[.int .u8 (p.toNat : Int)] 5)) :=
  run_convert_bytes_back (P := Try.prog) _ 30 9 5 ⟨w.heap.size, 0, none⟩ 1 [p] Try.underlying30 Try.underlying5 Try.underlying9 (fun j hj => by
    match j, hj with
    | 0, _ => simp [go_sem, Addr.add])
set_option maxHeartbeats 400000 in
theorem dg_any (n : Nat) (w : World) (hn : n ≤ 100000) :
    Calls Try.prog 20 #[.int .i64 n] w fun e w' => e = .returned (.string (dgS n)) ∧ Below w.heap.size w w' := by
  have hd := dgU_int n
  have hl := UInt8.toNat_lt (dgU n)
  have HC := conv_dg w (dgU n)
  go_enter Try.func20, Try.ntmps20
  go_wp2_with (fail)
  go_ret
  exact ⟨rfl, (Below.refl _ _).alloc (Nat.le_refl _) _⟩
theorem dg_int (z : Int) (w : World) (h0 : 0 ≤ z) (hn : z ≤ 100000) :
    Calls Try.prog 20 #[.int .i64 z] w fun e w' => e = .returned (.string (dgS z.toNat)) ∧ Below w.heap.size w w' := by
  obtain ⟨n, rfl⟩ := Int.eq_ofNat_of_zero_le h0
  rw [Int.toNat_natCast]
  exact dg_any n w (by omega)
theorem dgS_size (n : Nat) : (dgS n).size = 1 := rfl
def dash : ByteArray := ⟨#[45]⟩
def dot : ByteArray := ⟨#[46]⟩
theorem dash_size : dash.size = 1 := rfl
theorem dot_size : dot.size = 1 := rfl
theorem iqnS_size : iqnS.size = 4 := rfl
theorem nqnS_size : nqnS.size = 4 := rfl
def date (a b c e f g : Nat) : ByteArray := dgS a ++ dgS b ++ dgS c ++ dgS e ++ dash ++ dgS f ++ dgS g ++ dot
theorem pre_is (hd : UInt8) (a b c e f g : Nat) : (⟨#[hd, 113, 110, 46]⟩ : ByteArray) ++ date a b c e f g = ⟨#[hd, 113, 110, 46, dgU a, dgU b, dgU c, dgU e, 45, dgU f, dgU g, 46]⟩ := by
  apply ByteArray.ext
  unfold date dgS dash dot
  simp [ByteArray.data_append]
theorem cls_dg (n : Nat) : clsF (48 + n % 10) = 2 := by
  unfold clsF
  rw [if_neg (by omega), if_pos (by omega)]
theorem dig_dg (n : Nat) : digB (48 + n % 10) = true := decide_eq_true (by omega)
theorem month_pre (hd : UInt8) (hc : clsF hd.toNat = 1) (a b c e m : Nat) (hm : m < 100) (h d : ByteArray) (v : Bool) (hE : strEq (⟨#[hd, 113, 110, 46]⟩ : ByteArray) d = v) :
    qualB ((⟨#[hd, 113, 110, 46]⟩ : ByteArray) ++ (date a b c e (m / 10) m ++ h)) d = (v && decide (1 ≤ m ∧ m ≤ 12) && nameB h && decide (h.size ≤ 52)) := by
  rw [← ByteArray.append_assoc, pre_is, Bool.eq_iff_iff]
  have e4 : (⟨#[hd, 113, 110, 46, dgU a, dgU b, dgU c, dgU e, 45, dgU (m / 10), dgU m, 46]⟩ : ByteArray).extract 0 4 = ⟨#[hd, 113, 110, 46]⟩ := by
    apply ByteArray.ext
    simp [ByteArray.data_extract]
  have cd : ∀ n, clsF (dgU n).toNat ≠ 0 := fun n => by rw [dgU_nat, cls_dg]; decide
  have dd : ∀ n, digB (dgU n).toNat = true := fun n => by rw [dgU_nat]; exact dig_dg n
  rw [qual_pre (p := (⟨#[hd, 113, 110, 46, dgU a, dgU b, dgU c, dgU e, 45, dgU (m / 10), dgU m, 46]⟩ : ByteArray)) (by rfl) hc (all12 (by show clsF hd.toNat ≠ 0; rw [hc]; decide) (show clsF 113 ≠ 0 by decide) (show clsF 110 ≠ 0 by decide) (show clsF 46 ≠ 0 by decide) (cd a) (cd b) (cd c) (cd e) (show clsF 45 ≠ 0 by decide) (cd (m / 10)) (cd m) (show clsF 46 ≠ 0 by decide)), e4, hE, Bool.and_eq_true, Bool.and_eq_true, Bool.and_eq_true, decide_eq_true_iff, decide_eq_true_iff]
  have hM : monS (⟨#[hd, 113, 110, 46, dgU a, dgU b, dgU c, dgU e, 45, dgU (m / 10), dgU m, 46]⟩ : ByteArray) ↔ 1 ≤ m ∧ m ≤ 12 := by
    have hx : ((dgU (m / 10)).toNat - 48) * 10 + ((dgU m).toNat - 48) = m := by rw [dgU_nat, dgU_nat]; omega
    constructor
    · intro g
      have g1 : 1 ≤ ((dgU (m / 10)).toNat - 48) * 10 + ((dgU m).toNat - 48) := g.2.2.2.2.1
      have g2 : ((dgU (m / 10)).toNat - 48) * 10 + ((dgU m).toNat - 48) ≤ 12 := g.2.2.2.2.2.1
      omega
    · intro g
      refine ⟨all4 (dd a) (dd b) (dd c) (dd e), rfl, dd (m / 10), dd m, ?_, ?_, rfl⟩
      · show 1 ≤ ((dgU (m / 10)).toNat - 48) * 10 + ((dgU m).toNat - 48)
        omega
      · show ((dgU (m / 10)).toNat - 48) * 10 + ((dgU m).toNat - 48) ≤ 12
        omega
  rw [hM]
  constructor
  · rintro ⟨x, y, z, t⟩; exact ⟨⟨⟨z, t⟩, x⟩, y⟩
  · rintro ⟨⟨⟨z, t⟩, x⟩, y⟩; exact ⟨x, y, z, t⟩
theorem u16_nat {x : Int} (h : (Lit.int .u16 x).wf = true) : ∃ n : Nat, x = n ∧ n < 65536 := by
  have hd : (0 : Int) ≤ x ∧ x ≤ 65535 := by simpa [Lit.wf, IntKind.min, IntKind.max, IntKind.signed, IntKind.bits] using h
  exact ⟨x.toNat, by omega, by omega⟩
def monthS (a b c e m : Nat) (h : ByteArray) : ByteArray := dgS a ++ dgS b ++ dgS c ++ dgS e ++ (⟨#[45]⟩ : ByteArray) ++ dgS (m / 10) ++ dgS m ++ (⟨#[46]⟩ : ByteArray) ++ h
def wantB (m : Nat) (h : ByteArray) : Bool := decide (1 ≤ m ∧ m ≤ 12) && nameB h && decide (h.size ≤ 52)
theorem monthS_size (a b c e m : Nat) (h : ByteArray) : (monthS a b c e m h).size = 8 + h.size := by
  unfold monthS
  simp only [ByteArray.size_append]
  rw [dgS_size, dgS_size, dgS_size, dgS_size, dgS_size, dgS_size]
  rfl
theorem month_ii (a b c e m : Nat) (hm : m < 100) (h : ByteArray) : iqnB ((⟨#[105, 113, 110, 46]⟩ : ByteArray) ++ monthS a b c e m h) = wantB m h :=
  (month_pre 105 (by decide) a b c e m hm h iqnS true (by decide +kernel)).trans (by unfold wantB; rw [Bool.true_and])
theorem month_nn (a b c e m : Nat) (hm : m < 100) (h : ByteArray) : nqnB ((⟨#[110, 113, 110, 46]⟩ : ByteArray) ++ monthS a b c e m h) = wantB m h :=
  (month_pre 110 (by decide) a b c e m hm h nqnS true (by decide +kernel)).trans (by unfold wantB; rw [Bool.true_and])
theorem month_in (a b c e m : Nat) (hm : m < 100) (h : ByteArray) : iqnB ((⟨#[110, 113, 110, 46]⟩ : ByteArray) ++ monthS a b c e m h) = false :=
  (month_pre 110 (by decide) a b c e m hm h iqnS false (by decide +kernel)).trans (by rw [Bool.false_and, Bool.false_and, Bool.false_and])
theorem month_ni (a b c e m : Nat) (hm : m < 100) (h : ByteArray) : nqnB ((⟨#[105, 113, 110, 46]⟩ : ByteArray) ++ monthS a b c e m h) = false :=
  (month_pre 105 (by decide) a b c e m hm h nqnS false (by decide +kernel)).trans (by rw [Bool.false_and, Bool.false_and, Bool.false_and])
set_option maxHeartbeats 2000000 in
theorem months_low (h : ByteArray) (y m : Nat) (w : World) (hh : h.size ≤ 200) (hy : y < 65536) (hm : m < 65536) (g : m % 100 < 1) :
    Calls Try.prog 6 #[.string h, .int .u16 y, .int .u16 m] w fun e w' => e = .returned (.bool true) ∧ Below w.heap.size w w' := by
  have HW := Lib.hid (show wantB (m % 100) h = false by unfold wantB; rw [decide_eq_false (by omega), Bool.false_and, Bool.false_and])
  have d1 : decide ((1 : Int) ≤ (m : Int) % 100) = false := decide_eq_false (by omega)
  have hz : h.size ≤ 9223372036854775807 := by omega
  go_enter Try.func6, Try.ntmps6
  go_wp2_with (fail)
  refine (dg_int ((y : Int) % 10000 / 1000) _ (by omega) (by omega)).mono ?_; rintro e w1 ⟨rfl, hb⟩
  generalize ((y : Int) % 10000 / 1000).toNat = a
  have za : (dgS a).size = 1 := rfl
  have B1 := Lib.hid hb; clear hb
  go_wp2_with (fail)
  refine (dg_int ((y : Int) % 10000 / 100) _ (by omega) (by omega)).mono ?_; rintro e w2 ⟨rfl, hb⟩
  generalize ((y : Int) % 10000 / 100).toNat = b
  have zb : (dgS b).size = 1 := rfl
  have B2 := Lib.hid (B1.out.trans (hb.mono B1.out.size)); clear hb
  go_wp2_with (fail)
  refine (dg_int ((y : Int) % 10000 / 10) _ (by omega) (by omega)).mono ?_; rintro e w3 ⟨rfl, hb⟩
  generalize ((y : Int) % 10000 / 10).toNat = c
  have zc : (dgS c).size = 1 := rfl
  have B3 := Lib.hid (B2.out.trans (hb.mono B2.out.size)); clear hb
  go_wp2_with (fail)
  refine (dg_int ((y : Int) % 10000) _ (by omega) (by omega)).mono ?_; rintro e w4 ⟨rfl, hb⟩
  generalize ((y : Int) % 10000).toNat = e
  have ze : (dgS e).size = 1 := rfl
  have B4 := Lib.hid (B3.out.trans (hb.mono B3.out.size)); clear hb
  go_wp2_with (fail)
  refine (dg_int ((m : Int) % 100 / 10) _ (by omega) (by omega)).mono ?_; rintro e w5 ⟨rfl, hb⟩
  rw [show ((m : Int) % 100 / 10).toNat = m % 100 / 10 by omega]
  have zf : (dgS (m % 100 / 10)).size = 1 := rfl
  have B5 := Lib.hid (B4.out.trans (hb.mono B4.out.size)); clear hb
  go_wp2_with (fail)
  refine (dg_int ((m : Int) % 100) _ (by omega) (by omega)).mono ?_; rintro e w6 ⟨rfl, hb⟩
  rw [show ((m : Int) % 100).toNat = m % 100 by omega]
  have zg : (dgS (m % 100)).size = 1 := rfl
  have B6 := Lib.hid (B5.out.trans (hb.mono B5.out.size)); clear hb
  go_upto_region 6 with (fail)
  have F1 := Lib.hid ((month_ii a b c e (m % 100) (by omega) h).trans HW.out)
  have F2 := Lib.hid ((month_nn a b c e (m % 100) (by omega) h).trans HW.out)
  have F3 := Lib.hid (month_in a b c e (m % 100) (by omega) h)
  have F4 := Lib.hid (month_ni a b c e (m % 100) (by omega) h)
  have hS := monthS_size a b c e (m % 100) h
  change Code.wp _ _ _ ⟨#[_, _, _, _, _, _, _, _, _, _, .string (monthS a b c e (m % 100) h), _, _, _, _, _, _, _, _, _, _, _, _, _, _, _, _, _, _, _, _, _, _, _, _, _, _, _, _, _, _, _, _, _, _, _, _, _, _, _, _, _, .string (monthS a b c e (m % 100) h), _, _, _, _, _, _, _, _, _, _, _, _, _, _, _, _, _, _, _, _, _, _, _, _, _, _, _, _, _, _, _, _, _, _, _, _, _, _, _, _, _, _], _⟩ _
  generalize monthS a b c e (m % 100) h = S at hS F1 F2 F3 F4 ⊢
  have k1 : ¬ 9223372036854775807 < 4 + S.size := by omega
  have Z1 := Lib.hid (show ((⟨#[105, 113, 110, 46]⟩ : ByteArray) ++ S).size ≤ maxLen by rw [ByteArray.size_append]; have : (⟨#[105, 113, 110, 46]⟩ : ByteArray).size = 4 := rfl; unfold maxLen; omega)
  have Z2 := Lib.hid (show ((⟨#[110, 113, 110, 46]⟩ : ByteArray) ++ S).size ≤ maxLen by rw [ByteArray.size_append]; have : (⟨#[110, 113, 110, 46]⟩ : ByteArray).size = 4 := rfl; unfold maxLen; omega)
  clear hS za zb zc ze zf zg
  go_wp2_with (fail)
  refine (iqn_any _ _ Z1.out).mono ?_; rintro e w7 ⟨rfl, hb⟩
  rw [F1.out]
  have B7 := Lib.hid (B6.out.trans (hb.mono B6.out.size)); clear hb
  go_wp2_with (fail)
  refine (nqn_any _ _ Z2.out).mono ?_; rintro e w8 ⟨rfl, hb⟩
  rw [F2.out]
  have B8 := Lib.hid (B7.out.trans (hb.mono B7.out.size)); clear hb
  go_wp2_with (fail)
  refine (iqn_any _ _ Z2.out).mono ?_; rintro e w9 ⟨rfl, hb⟩
  rw [F3.out]
  have B9 := Lib.hid (B8.out.trans (hb.mono B8.out.size)); clear hb
  go_wp2_with (fail)
  refine (nqn_any _ _ Z1.out).mono ?_; rintro e w10 ⟨rfl, hb⟩
  rw [F4.out]
  have B10 := Lib.hid (B9.out.trans (hb.mono B9.out.size)); clear hb
  go_wp2_with (fail)
  refine (wakes_any _).mono ?_; rintro e w11 ⟨rfl, hb⟩
  have B11 := Lib.hid (B10.out.trans (hb.mono B10.out.size)); clear hb
  go_wp2_with (fail)
  go_ret
  exact ⟨rfl, B11.out⟩
set_option maxHeartbeats 2000000 in
theorem months_high (h : ByteArray) (y m : Nat) (w : World) (hh : h.size ≤ 200) (hy : y < 65536) (hm : m < 65536) (g : 12 < m % 100) :
    Calls Try.prog 6 #[.string h, .int .u16 y, .int .u16 m] w fun e w' => e = .returned (.bool true) ∧ Below w.heap.size w w' := by
  have HW := Lib.hid (show wantB (m % 100) h = false by unfold wantB; rw [decide_eq_false (by omega), Bool.false_and, Bool.false_and])
  have d1 : decide ((1 : Int) ≤ (m : Int) % 100) = true := decide_eq_true (by omega)
  have d2 : decide ((m : Int) % 100 ≤ 12) = false := decide_eq_false (by omega)
  have hz : h.size ≤ 9223372036854775807 := by omega
  go_enter Try.func6, Try.ntmps6
  go_wp2_with (fail)
  refine (dg_int ((y : Int) % 10000 / 1000) _ (by omega) (by omega)).mono ?_; rintro e w1 ⟨rfl, hb⟩
  generalize ((y : Int) % 10000 / 1000).toNat = a
  have za : (dgS a).size = 1 := rfl
  have B1 := Lib.hid hb; clear hb
  go_wp2_with (fail)
  refine (dg_int ((y : Int) % 10000 / 100) _ (by omega) (by omega)).mono ?_; rintro e w2 ⟨rfl, hb⟩
  generalize ((y : Int) % 10000 / 100).toNat = b
  have zb : (dgS b).size = 1 := rfl
  have B2 := Lib.hid (B1.out.trans (hb.mono B1.out.size)); clear hb
  go_wp2_with (fail)
  refine (dg_int ((y : Int) % 10000 / 10) _ (by omega) (by omega)).mono ?_; rintro e w3 ⟨rfl, hb⟩
  generalize ((y : Int) % 10000 / 10).toNat = c
  have zc : (dgS c).size = 1 := rfl
  have B3 := Lib.hid (B2.out.trans (hb.mono B2.out.size)); clear hb
  go_wp2_with (fail)
  refine (dg_int ((y : Int) % 10000) _ (by omega) (by omega)).mono ?_; rintro e w4 ⟨rfl, hb⟩
  generalize ((y : Int) % 10000).toNat = e
  have ze : (dgS e).size = 1 := rfl
  have B4 := Lib.hid (B3.out.trans (hb.mono B3.out.size)); clear hb
  go_wp2_with (fail)
  refine (dg_int ((m : Int) % 100 / 10) _ (by omega) (by omega)).mono ?_; rintro e w5 ⟨rfl, hb⟩
  rw [show ((m : Int) % 100 / 10).toNat = m % 100 / 10 by omega]
  have zf : (dgS (m % 100 / 10)).size = 1 := rfl
  have B5 := Lib.hid (B4.out.trans (hb.mono B4.out.size)); clear hb
  go_wp2_with (fail)
  refine (dg_int ((m : Int) % 100) _ (by omega) (by omega)).mono ?_; rintro e w6 ⟨rfl, hb⟩
  rw [show ((m : Int) % 100).toNat = m % 100 by omega]
  have zg : (dgS (m % 100)).size = 1 := rfl
  have B6 := Lib.hid (B5.out.trans (hb.mono B5.out.size)); clear hb
  go_upto_region 6 with (fail)
  have F1 := Lib.hid ((month_ii a b c e (m % 100) (by omega) h).trans HW.out)
  have F2 := Lib.hid ((month_nn a b c e (m % 100) (by omega) h).trans HW.out)
  have F3 := Lib.hid (month_in a b c e (m % 100) (by omega) h)
  have F4 := Lib.hid (month_ni a b c e (m % 100) (by omega) h)
  have hS := monthS_size a b c e (m % 100) h
  change Code.wp _ _ _ ⟨#[_, _, _, _, _, _, _, _, _, _, .string (monthS a b c e (m % 100) h), _, _, _, _, _, _, _, _, _, _, _, _, _, _, _, _, _, _, _, _, _, _, _, _, _, _, _, _, _, _, _, _, _, _, _, _, _, _, _, _, _, .string (monthS a b c e (m % 100) h), _, _, _, _, _, _, _, _, _, _, _, _, _, _, _, _, _, _, _, _, _, _, _, _, _, _, _, _, _, _, _, _, _, _, _, _, _, _, _, _, _, _], _⟩ _
  generalize monthS a b c e (m % 100) h = S at hS F1 F2 F3 F4 ⊢
  have k1 : ¬ 9223372036854775807 < 4 + S.size := by omega
  have Z1 := Lib.hid (show ((⟨#[105, 113, 110, 46]⟩ : ByteArray) ++ S).size ≤ maxLen by rw [ByteArray.size_append]; have : (⟨#[105, 113, 110, 46]⟩ : ByteArray).size = 4 := rfl; unfold maxLen; omega)
  have Z2 := Lib.hid (show ((⟨#[110, 113, 110, 46]⟩ : ByteArray) ++ S).size ≤ maxLen by rw [ByteArray.size_append]; have : (⟨#[110, 113, 110, 46]⟩ : ByteArray).size = 4 := rfl; unfold maxLen; omega)
  clear hS za zb zc ze zf zg
  go_wp2_with (fail)
  refine (iqn_any _ _ Z1.out).mono ?_; rintro e w7 ⟨rfl, hb⟩
  rw [F1.out]
  have B7 := Lib.hid (B6.out.trans (hb.mono B6.out.size)); clear hb
  go_wp2_with (fail)
  refine (nqn_any _ _ Z2.out).mono ?_; rintro e w8 ⟨rfl, hb⟩
  rw [F2.out]
  have B8 := Lib.hid (B7.out.trans (hb.mono B7.out.size)); clear hb
  go_wp2_with (fail)
  refine (iqn_any _ _ Z2.out).mono ?_; rintro e w9 ⟨rfl, hb⟩
  rw [F3.out]
  have B9 := Lib.hid (B8.out.trans (hb.mono B8.out.size)); clear hb
  go_wp2_with (fail)
  refine (nqn_any _ _ Z1.out).mono ?_; rintro e w10 ⟨rfl, hb⟩
  rw [F4.out]
  have B10 := Lib.hid (B9.out.trans (hb.mono B9.out.size)); clear hb
  go_wp2_with (fail)
  refine (wakes_any _).mono ?_; rintro e w11 ⟨rfl, hb⟩
  have B11 := Lib.hid (B10.out.trans (hb.mono B10.out.size)); clear hb
  go_wp2_with (fail)
  go_ret
  exact ⟨rfl, B11.out⟩
set_option maxHeartbeats 2000000 in
theorem months_noname (h : ByteArray) (y m : Nat) (w : World) (hh : h.size ≤ 200) (hy : y < 65536) (hm : m < 65536) (g : 1 ≤ m % 100) (g2 : m % 100 ≤ 12) (gn : nameB h = false) :
    Calls Try.prog 6 #[.string h, .int .u16 y, .int .u16 m] w fun e w' => e = .returned (.bool true) ∧ Below w.heap.size w w' := by
  have HW := Lib.hid (show wantB (m % 100) h = false by unfold wantB; rw [gn, Bool.and_false, Bool.false_and])
  have d1 : decide ((1 : Int) ≤ (m : Int) % 100) = true := decide_eq_true (by omega)
  have d2 : decide ((m : Int) % 100 ≤ 12) = true := decide_eq_true (by omega)
  have HN := Lib.hid gn; clear gn
  have hz : h.size ≤ 9223372036854775807 := by omega
  go_enter Try.func6, Try.ntmps6
  go_wp2_with (fail)
  refine (dg_int ((y : Int) % 10000 / 1000) _ (by omega) (by omega)).mono ?_; rintro e w1 ⟨rfl, hb⟩
  generalize ((y : Int) % 10000 / 1000).toNat = a
  have za : (dgS a).size = 1 := rfl
  have B1 := Lib.hid hb; clear hb
  go_wp2_with (fail)
  refine (dg_int ((y : Int) % 10000 / 100) _ (by omega) (by omega)).mono ?_; rintro e w2 ⟨rfl, hb⟩
  generalize ((y : Int) % 10000 / 100).toNat = b
  have zb : (dgS b).size = 1 := rfl
  have B2 := Lib.hid (B1.out.trans (hb.mono B1.out.size)); clear hb
  go_wp2_with (fail)
  refine (dg_int ((y : Int) % 10000 / 10) _ (by omega) (by omega)).mono ?_; rintro e w3 ⟨rfl, hb⟩
  generalize ((y : Int) % 10000 / 10).toNat = c
  have zc : (dgS c).size = 1 := rfl
  have B3 := Lib.hid (B2.out.trans (hb.mono B2.out.size)); clear hb
  go_wp2_with (fail)
  refine (dg_int ((y : Int) % 10000) _ (by omega) (by omega)).mono ?_; rintro e w4 ⟨rfl, hb⟩
  generalize ((y : Int) % 10000).toNat = e
  have ze : (dgS e).size = 1 := rfl
  have B4 := Lib.hid (B3.out.trans (hb.mono B3.out.size)); clear hb
  go_wp2_with (fail)
  refine (dg_int ((m : Int) % 100 / 10) _ (by omega) (by omega)).mono ?_; rintro e w5 ⟨rfl, hb⟩
  rw [show ((m : Int) % 100 / 10).toNat = m % 100 / 10 by omega]
  have zf : (dgS (m % 100 / 10)).size = 1 := rfl
  have B5 := Lib.hid (B4.out.trans (hb.mono B4.out.size)); clear hb
  go_wp2_with (fail)
  refine (dg_int ((m : Int) % 100) _ (by omega) (by omega)).mono ?_; rintro e w6 ⟨rfl, hb⟩
  rw [show ((m : Int) % 100).toNat = m % 100 by omega]
  have zg : (dgS (m % 100)).size = 1 := rfl
  have B6 := Lib.hid (B5.out.trans (hb.mono B5.out.size)); clear hb
  go_upto_region 6 with (fail)
  have F1 := Lib.hid ((month_ii a b c e (m % 100) (by omega) h).trans HW.out)
  have F2 := Lib.hid ((month_nn a b c e (m % 100) (by omega) h).trans HW.out)
  have F3 := Lib.hid (month_in a b c e (m % 100) (by omega) h)
  have F4 := Lib.hid (month_ni a b c e (m % 100) (by omega) h)
  have hS := monthS_size a b c e (m % 100) h
  change Code.wp _ _ _ ⟨#[_, _, _, _, _, _, _, _, _, _, .string (monthS a b c e (m % 100) h), _, _, _, _, _, _, _, _, _, _, _, _, _, _, _, _, _, _, _, _, _, _, _, _, _, _, _, _, _, _, _, _, _, _, _, _, _, _, _, _, _, .string (monthS a b c e (m % 100) h), _, _, _, _, _, _, _, _, _, _, _, _, _, _, _, _, _, _, _, _, _, _, _, _, _, _, _, _, _, _, _, _, _, _, _, _, _, _, _, _, _, _], _⟩ _
  generalize monthS a b c e (m % 100) h = S at hS F1 F2 F3 F4 ⊢
  have k1 : ¬ 9223372036854775807 < 4 + S.size := by omega
  have Z1 := Lib.hid (show ((⟨#[105, 113, 110, 46]⟩ : ByteArray) ++ S).size ≤ maxLen by rw [ByteArray.size_append]; have : (⟨#[105, 113, 110, 46]⟩ : ByteArray).size = 4 := rfl; unfold maxLen; omega)
  have Z2 := Lib.hid (show ((⟨#[110, 113, 110, 46]⟩ : ByteArray) ++ S).size ≤ maxLen by rw [ByteArray.size_append]; have : (⟨#[110, 113, 110, 46]⟩ : ByteArray).size = 4 := rfl; unfold maxLen; omega)
  clear hS za zb zc ze zf zg
  go_wp2_with (fail)
  refine (name_any _ _ (by unfold maxLen; omega)).mono ?_; rintro e w7 ⟨rfl, hb⟩
  rw [HN.out]
  have B7 := Lib.hid (B6.out.trans (hb.mono B6.out.size)); clear hb
  go_wp2_with (fail)
  refine (iqn_any _ _ Z1.out).mono ?_; rintro e w8 ⟨rfl, hb⟩
  rw [F1.out]
  have B8 := Lib.hid (B7.out.trans (hb.mono B7.out.size)); clear hb
  go_wp2_with (fail)
  refine (nqn_any _ _ Z2.out).mono ?_; rintro e w9 ⟨rfl, hb⟩
  rw [F2.out]
  have B9 := Lib.hid (B8.out.trans (hb.mono B8.out.size)); clear hb
  go_wp2_with (fail)
  refine (iqn_any _ _ Z2.out).mono ?_; rintro e w10 ⟨rfl, hb⟩
  rw [F3.out]
  have B10 := Lib.hid (B9.out.trans (hb.mono B9.out.size)); clear hb
  go_wp2_with (fail)
  refine (nqn_any _ _ Z1.out).mono ?_; rintro e w11 ⟨rfl, hb⟩
  rw [F4.out]
  have B11 := Lib.hid (B10.out.trans (hb.mono B10.out.size)); clear hb
  go_wp2_with (fail)
  refine (wakes_any _).mono ?_; rintro e w12 ⟨rfl, hb⟩
  have B12 := Lib.hid (B11.out.trans (hb.mono B11.out.size)); clear hb
  go_wp2_with (fail)
  go_ret
  exact ⟨rfl, B12.out⟩
set_option maxHeartbeats 2000000 in
theorem months_long (h : ByteArray) (y m : Nat) (w : World) (hh : h.size ≤ 200) (hy : y < 65536) (hm : m < 65536) (g : 1 ≤ m % 100) (g2 : m % 100 ≤ 12) (gn : nameB h = true) (gz : 52 < h.size) :
    Calls Try.prog 6 #[.string h, .int .u16 y, .int .u16 m] w fun e w' => e = .returned (.bool true) ∧ Below w.heap.size w w' := by
  have HW := Lib.hid (show wantB (m % 100) h = false by unfold wantB; rw [decide_eq_false (p := h.size ≤ 52) (by omega), Bool.and_false])
  have d1 : decide ((1 : Int) ≤ (m : Int) % 100) = true := decide_eq_true (by omega)
  have d2 : decide ((m : Int) % 100 ≤ 12) = true := decide_eq_true (by omega)
  have d3 : decide ((h.size : Int) ≤ 52) = false := decide_eq_false (by omega)
  have HN := Lib.hid gn; clear gn
  have hz : h.size ≤ 9223372036854775807 := by omega
  go_enter Try.func6, Try.ntmps6
  go_wp2_with (fail)
  refine (dg_int ((y : Int) % 10000 / 1000) _ (by omega) (by omega)).mono ?_; rintro e w1 ⟨rfl, hb⟩
  generalize ((y : Int) % 10000 / 1000).toNat = a
  have za : (dgS a).size = 1 := rfl
  have B1 := Lib.hid hb; clear hb
  go_wp2_with (fail)
  refine (dg_int ((y : Int) % 10000 / 100) _ (by omega) (by omega)).mono ?_; rintro e w2 ⟨rfl, hb⟩
  generalize ((y : Int) % 10000 / 100).toNat = b
  have zb : (dgS b).size = 1 := rfl
  have B2 := Lib.hid (B1.out.trans (hb.mono B1.out.size)); clear hb
  go_wp2_with (fail)
  refine (dg_int ((y : Int) % 10000 / 10) _ (by omega) (by omega)).mono ?_; rintro e w3 ⟨rfl, hb⟩
  generalize ((y : Int) % 10000 / 10).toNat = c
  have zc : (dgS c).size = 1 := rfl
  have B3 := Lib.hid (B2.out.trans (hb.mono B2.out.size)); clear hb
  go_wp2_with (fail)
  refine (dg_int ((y : Int) % 10000) _ (by omega) (by omega)).mono ?_; rintro e w4 ⟨rfl, hb⟩
  generalize ((y : Int) % 10000).toNat = e
  have ze : (dgS e).size = 1 := rfl
  have B4 := Lib.hid (B3.out.trans (hb.mono B3.out.size)); clear hb
  go_wp2_with (fail)
  refine (dg_int ((m : Int) % 100 / 10) _ (by omega) (by omega)).mono ?_; rintro e w5 ⟨rfl, hb⟩
  rw [show ((m : Int) % 100 / 10).toNat = m % 100 / 10 by omega]
  have zf : (dgS (m % 100 / 10)).size = 1 := rfl
  have B5 := Lib.hid (B4.out.trans (hb.mono B4.out.size)); clear hb
  go_wp2_with (fail)
  refine (dg_int ((m : Int) % 100) _ (by omega) (by omega)).mono ?_; rintro e w6 ⟨rfl, hb⟩
  rw [show ((m : Int) % 100).toNat = m % 100 by omega]
  have zg : (dgS (m % 100)).size = 1 := rfl
  have B6 := Lib.hid (B5.out.trans (hb.mono B5.out.size)); clear hb
  go_upto_region 6 with (fail)
  have F1 := Lib.hid ((month_ii a b c e (m % 100) (by omega) h).trans HW.out)
  have F2 := Lib.hid ((month_nn a b c e (m % 100) (by omega) h).trans HW.out)
  have F3 := Lib.hid (month_in a b c e (m % 100) (by omega) h)
  have F4 := Lib.hid (month_ni a b c e (m % 100) (by omega) h)
  have hS := monthS_size a b c e (m % 100) h
  change Code.wp _ _ _ ⟨#[_, _, _, _, _, _, _, _, _, _, .string (monthS a b c e (m % 100) h), _, _, _, _, _, _, _, _, _, _, _, _, _, _, _, _, _, _, _, _, _, _, _, _, _, _, _, _, _, _, _, _, _, _, _, _, _, _, _, _, _, .string (monthS a b c e (m % 100) h), _, _, _, _, _, _, _, _, _, _, _, _, _, _, _, _, _, _, _, _, _, _, _, _, _, _, _, _, _, _, _, _, _, _, _, _, _, _, _, _, _, _], _⟩ _
  generalize monthS a b c e (m % 100) h = S at hS F1 F2 F3 F4 ⊢
  have k1 : ¬ 9223372036854775807 < 4 + S.size := by omega
  have Z1 := Lib.hid (show ((⟨#[105, 113, 110, 46]⟩ : ByteArray) ++ S).size ≤ maxLen by rw [ByteArray.size_append]; have : (⟨#[105, 113, 110, 46]⟩ : ByteArray).size = 4 := rfl; unfold maxLen; omega)
  have Z2 := Lib.hid (show ((⟨#[110, 113, 110, 46]⟩ : ByteArray) ++ S).size ≤ maxLen by rw [ByteArray.size_append]; have : (⟨#[110, 113, 110, 46]⟩ : ByteArray).size = 4 := rfl; unfold maxLen; omega)
  clear hS za zb zc ze zf zg
  go_wp2_with (fail)
  refine (name_any _ _ (by unfold maxLen; omega)).mono ?_; rintro e w7 ⟨rfl, hb⟩
  rw [HN.out]
  have B7 := Lib.hid (B6.out.trans (hb.mono B6.out.size)); clear hb
  go_wp2_with (fail)
  refine (iqn_any _ _ Z1.out).mono ?_; rintro e w8 ⟨rfl, hb⟩
  rw [F1.out]
  have B8 := Lib.hid (B7.out.trans (hb.mono B7.out.size)); clear hb
  go_wp2_with (fail)
  refine (nqn_any _ _ Z2.out).mono ?_; rintro e w9 ⟨rfl, hb⟩
  rw [F2.out]
  have B9 := Lib.hid (B8.out.trans (hb.mono B8.out.size)); clear hb
  go_wp2_with (fail)
  refine (iqn_any _ _ Z2.out).mono ?_; rintro e w10 ⟨rfl, hb⟩
  rw [F3.out]
  have B10 := Lib.hid (B9.out.trans (hb.mono B9.out.size)); clear hb
  go_wp2_with (fail)
  refine (nqn_any _ _ Z1.out).mono ?_; rintro e w11 ⟨rfl, hb⟩
  rw [F4.out]
  have B11 := Lib.hid (B10.out.trans (hb.mono B10.out.size)); clear hb
  go_wp2_with (fail)
  refine (wakes_any _).mono ?_; rintro e w12 ⟨rfl, hb⟩
  have B12 := Lib.hid (B11.out.trans (hb.mono B11.out.size)); clear hb
  go_wp2_with (fail)
  go_ret
  exact ⟨rfl, B12.out⟩
set_option maxHeartbeats 2000000 in
theorem months_good (h : ByteArray) (y m : Nat) (w : World) (hh : h.size ≤ 200) (hy : y < 65536) (hm : m < 65536) (g : 1 ≤ m % 100) (g2 : m % 100 ≤ 12) (gn : nameB h = true) (gz : h.size ≤ 52) :
    Calls Try.prog 6 #[.string h, .int .u16 y, .int .u16 m] w fun e w' => e = .returned (.bool true) ∧ Below w.heap.size w w' := by
  have HW := Lib.hid (show wantB (m % 100) h = true by unfold wantB; rw [decide_eq_true (p := h.size ≤ 52) (by omega), gn, decide_eq_true ⟨g, g2⟩]; rfl)
  have d1 : decide ((1 : Int) ≤ (m : Int) % 100) = true := decide_eq_true (by omega)
  have d2 : decide ((m : Int) % 100 ≤ 12) = true := decide_eq_true (by omega)
  have d3 : decide ((h.size : Int) ≤ 52) = true := decide_eq_true (by omega)
  have HN := Lib.hid gn; clear gn
  have hz : h.size ≤ 9223372036854775807 := by omega
  go_enter Try.func6, Try.ntmps6
  go_wp2_with (fail)
  refine (dg_int ((y : Int) % 10000 / 1000) _ (by omega) (by omega)).mono ?_; rintro e w1 ⟨rfl, hb⟩
  generalize ((y : Int) % 10000 / 1000).toNat = a
  have za : (dgS a).size = 1 := rfl
  have B1 := Lib.hid hb; clear hb
  go_wp2_with (fail)
  refine (dg_int ((y : Int) % 10000 / 100) _ (by omega) (by omega)).mono ?_; rintro e w2 ⟨rfl, hb⟩
  generalize ((y : Int) % 10000 / 100).toNat = b
  have zb : (dgS b).size = 1 := rfl
  have B2 := Lib.hid (B1.out.trans (hb.mono B1.out.size)); clear hb
  go_wp2_with (fail)
  refine (dg_int ((y : Int) % 10000 / 10) _ (by omega) (by omega)).mono ?_; rintro e w3 ⟨rfl, hb⟩
  generalize ((y : Int) % 10000 / 10).toNat = c
  have zc : (dgS c).size = 1 := rfl
  have B3 := Lib.hid (B2.out.trans (hb.mono B2.out.size)); clear hb
  go_wp2_with (fail)
  refine (dg_int ((y : Int) % 10000) _ (by omega) (by omega)).mono ?_; rintro e w4 ⟨rfl, hb⟩
  generalize ((y : Int) % 10000).toNat = e
  have ze : (dgS e).size = 1 := rfl
  have B4 := Lib.hid (B3.out.trans (hb.mono B3.out.size)); clear hb
  go_wp2_with (fail)
  refine (dg_int ((m : Int) % 100 / 10) _ (by omega) (by omega)).mono ?_; rintro e w5 ⟨rfl, hb⟩
  rw [show ((m : Int) % 100 / 10).toNat = m % 100 / 10 by omega]
  have zf : (dgS (m % 100 / 10)).size = 1 := rfl
  have B5 := Lib.hid (B4.out.trans (hb.mono B4.out.size)); clear hb
  go_wp2_with (fail)
  refine (dg_int ((m : Int) % 100) _ (by omega) (by omega)).mono ?_; rintro e w6 ⟨rfl, hb⟩
  rw [show ((m : Int) % 100).toNat = m % 100 by omega]
  have zg : (dgS (m % 100)).size = 1 := rfl
  have B6 := Lib.hid (B5.out.trans (hb.mono B5.out.size)); clear hb
  go_upto_region 6 with (fail)
  have F1 := Lib.hid ((month_ii a b c e (m % 100) (by omega) h).trans HW.out)
  have F2 := Lib.hid ((month_nn a b c e (m % 100) (by omega) h).trans HW.out)
  have F3 := Lib.hid (month_in a b c e (m % 100) (by omega) h)
  have F4 := Lib.hid (month_ni a b c e (m % 100) (by omega) h)
  have hS := monthS_size a b c e (m % 100) h
  change Code.wp _ _ _ ⟨#[_, _, _, _, _, _, _, _, _, _, .string (monthS a b c e (m % 100) h), _, _, _, _, _, _, _, _, _, _, _, _, _, _, _, _, _, _, _, _, _, _, _, _, _, _, _, _, _, _, _, _, _, _, _, _, _, _, _, _, _, .string (monthS a b c e (m % 100) h), _, _, _, _, _, _, _, _, _, _, _, _, _, _, _, _, _, _, _, _, _, _, _, _, _, _, _, _, _, _, _, _, _, _, _, _, _, _, _, _, _, _], _⟩ _
  generalize monthS a b c e (m % 100) h = S at hS F1 F2 F3 F4 ⊢
  have k1 : ¬ 9223372036854775807 < 4 + S.size := by omega
  have Z1 := Lib.hid (show ((⟨#[105, 113, 110, 46]⟩ : ByteArray) ++ S).size ≤ maxLen by rw [ByteArray.size_append]; have : (⟨#[105, 113, 110, 46]⟩ : ByteArray).size = 4 := rfl; unfold maxLen; omega)
  have Z2 := Lib.hid (show ((⟨#[110, 113, 110, 46]⟩ : ByteArray) ++ S).size ≤ maxLen by rw [ByteArray.size_append]; have : (⟨#[110, 113, 110, 46]⟩ : ByteArray).size = 4 := rfl; unfold maxLen; omega)
  clear hS za zb zc ze zf zg
  go_wp2_with (fail)
  refine (name_any _ _ (by unfold maxLen; omega)).mono ?_; rintro e w7 ⟨rfl, hb⟩
  rw [HN.out]
  have B7 := Lib.hid (B6.out.trans (hb.mono B6.out.size)); clear hb
  go_wp2_with (fail)
  refine (iqn_any _ _ Z1.out).mono ?_; rintro e w8 ⟨rfl, hb⟩
  rw [F1.out]
  have B8 := Lib.hid (B7.out.trans (hb.mono B7.out.size)); clear hb
  go_wp2_with (fail)
  refine (nqn_any _ _ Z2.out).mono ?_; rintro e w9 ⟨rfl, hb⟩
  rw [F2.out]
  have B9 := Lib.hid (B8.out.trans (hb.mono B8.out.size)); clear hb
  go_wp2_with (fail)
  refine (iqn_any _ _ Z2.out).mono ?_; rintro e w10 ⟨rfl, hb⟩
  rw [F3.out]
  have B10 := Lib.hid (B9.out.trans (hb.mono B9.out.size)); clear hb
  go_wp2_with (fail)
  refine (nqn_any _ _ Z1.out).mono ?_; rintro e w11 ⟨rfl, hb⟩
  rw [F4.out]
  have B11 := Lib.hid (B10.out.trans (hb.mono B10.out.size)); clear hb
  go_wp2_with (fail)
  refine (wakes_any _).mono ?_; rintro e w12 ⟨rfl, hb⟩
  have B12 := Lib.hid (B11.out.trans (hb.mono B11.out.size)); clear hb
  go_wp2_with (fail)
  go_ret
  exact ⟨rfl, B12.out⟩
theorem months_any (h : ByteArray) (y m : Nat) (w : World) (hs : h.size ≤ maxLen) (hy : y < 65536) (hm : m < 65536) :
    Calls Try.prog 6 #[.string h, .int .u16 y, .int .u16 m] w fun e w' => e = .returned (.bool true) ∧ Below w.heap.size w w' := by
  by_cases hh : h.size ≤ 200
  · by_cases g : 1 ≤ m % 100
    · by_cases g2 : m % 100 ≤ 12
      · cases gn : nameB h with
        | false => exact months_noname h y m w hh hy hm g g2 gn
        | true =>
          by_cases gz : h.size ≤ 52
          · exact months_good h y m w hh hy hm g g2 gn gz
          · exact months_long h y m w hh hy hm g g2 gn (by omega)
      · exact months_high h y m w hh hy hm (by omega)
    · exact months_low h y m w hh hy hm (by omega)
  · unfold maxLen at hs
    have h' : 200 < h.size := by omega
    clear hh
    go_enter Try.func6, Try.ntmps6
    go_wp2_with (fail)
    refine (wakes_any _).mono ?_; rintro e w3 ⟨rfl, hb3⟩
    go_wp2_with (fail)
    go_ret
    exact ⟨rfl, hb3⟩
end Go.Proofs.Ytiijjbepoonknaa
