/- Big and Little of the code, and the question of the document whether bytes stand there, at every input. -/
import Derived.Test.YtdggipgieanpeaaDoorReads
namespace Go.Proofs.YtdggipgieanpeaaDoor
open Go.RowKit
def okB (s : ByteArray) (a n : Int) : Bool := decide (1 ≤ n ∧ n ≤ 8 ∧ 0 ≤ a ∧ a + n ≤ s.size)
def bigR (s : ByteArray) (a n : Int) : Nat := if okB s a n = true then bigV (readV s a.toNat) n.toNat else 0
def litR (s : ByteArray) (a n : Int) : Nat := if okB s a n = true then litV (readV s a.toNat) n.toNat else 0
theorem okB_yes {s : ByteArray} {a n : Int} (h : 1 ≤ n ∧ n ≤ 8 ∧ 0 ≤ a ∧ a + n ≤ s.size) : okB s a n = true := by unfold okB; exact decide_eq_true h
theorem okB_no {s : ByteArray} {a n : Int} (h : ¬ (1 ≤ n ∧ n ≤ 8 ∧ 0 ≤ a ∧ a + n ≤ s.size)) : okB s a n = false := by unfold okB; exact decide_eq_false h
theorem bigR_yes {s : ByteArray} {a n : Nat} (h : okB s a n = true) : bigR s a n = bigV (readV s a) n := by unfold bigR; rw [if_pos h]; rfl
theorem litR_yes {s : ByteArray} {a n : Nat} (h : okB s a n = true) : litR s a n = litV (readV s a) n := by unfold litR; rw [if_pos h]; rfl
theorem bigR_no {s : ByteArray} {a n : Int} (h : okB s a n = false) : bigR s a n = 0 := by unfold bigR; rw [h]; rfl
theorem litR_no {s : ByteArray} {a n : Int} (h : okB s a n = false) : litR s a n = 0 := by unfold litR; rw [h]; rfl
theorem ret_two {k : IntKind} {a b : Int} {c d : Bool} (h : a = b) (g : c = d) : Ending.returned (.tuple #[.int k a, .bool c]) = .returned (.tuple #[.int k b, .bool d]) := by rw [h, g]

set_option maxHeartbeats 400000 in
theorem big_any (s : ByteArray) (a n : Int) (w : World) (hs : s.size ≤ maxLen) :
    Calls Tryd.prog 30 #[.string s, .int .i64 a, .int .i64 n] w fun e w' => e = .returned (.tuple #[.int .u64 (bigR s a n : Nat), .bool (okB s a n)]) ∧ Below w.heap.size w w' := by
  by_cases h : 1 ≤ n ∧ n ≤ 8 ∧ 0 ≤ a ∧ a + n ≤ s.size
  · have h' := okB_yes h
    obtain ⟨h1, h2, h3, h4⟩ := h
    obtain ⟨a, rfl⟩ := Int.eq_ofNat_of_zero_le h3
    obtain ⟨n, rfl⟩ := Int.eq_ofNat_of_zero_le (show 0 ≤ n by omega)
    have HB := Lib.hid (bigR_yes h')
    have HK := Lib.hid h'; clear h'
    go_enter Tryd.func30, Tryd.ntmps30
    go_wp2_with (fail)
    refine (readHi s a n _ hs (by omega) (by omega) (by omega)).mono ?_; rintro e w' ⟨rfl, hb⟩
    go_wp2
    go_ret2
    exact ⟨ret_two (by rw [HB.out]) (by rw [HK.out]), hb⟩
  · have HK := Lib.hid (okB_no h)
    have HB := Lib.hid (bigR_no HK.out)
    have H := Lib.hid h; clear h
    go_enter Tryd.func30, Tryd.ntmps30
    go_wp2_with (fail)
    refine (readNo s a n _ _ hs H.out).mono ?_; rintro e w' ⟨rfl, hb⟩
    go_wp2
    go_ret2
    exact ⟨ret_two (by rw [HB.out]; rfl) (by rw [HK.out]), hb⟩
end Go.Proofs.YtdggipgieanpeaaDoor
