/- PutBig and PutLittle of the code, at every input. -/
import Derived.Test.YtdggipgieanpeaaDoorPuts
namespace Go.Proofs.YtdggipgieanpeaaDoor
open Go.RowKit
theorem bv_get (l : List UInt8) (w : World) (base n : Nat) (g cap : Nat) (h : w.ownsRow base 5 1 (.slice (some ⟨g, 0, none⟩) n cap) n (bv l)) :
    ∀ j (hj : j < l.length), w.cell? ((⟨g, 0, none⟩ : Addr).add j) = some (.int .u8 (l[j].toNat : Int)) := fun j hj => by
  have hn : n = l.length := by have := h.1; rw [bv_length] at this; omega
  rw [Addr.add_lit, Nat.zero_add, h.cellAt j (by omega)]
  simp [bv, hj]
theorem own_slice {w : World} {base n : Nat} {v : Value} {xs : List Value} (h : w.ownsRow base 5 1 v n xs) (hn : 0 < n) : ∃ g cap, v = .slice (some ⟨g, 0, none⟩) n cap := by
  rcases h.2 with ⟨_, h0⟩ | ⟨g, cap, cur, rfl, _⟩
  · omega
  · exact ⟨g, cap, rfl⟩
set_option maxHeartbeats 400000 in
theorem writeHi (x n : Nat) (w : World) (h1 : 1 ≤ n) (h8 : n ≤ 8) :
    Calls Tryd.prog 26 #[.int .u64 x, .int .i64 n, .func (.func 27) #[] #[]] w fun e w' => e = .returned (.string ⟨(outB (hiG x n) n).toArray⟩) ∧ Below w.heap.size w w' := by
  obtain ⟨i0, hi, hz0, hz1, hz2⟩ := info_parts Tryd.info5
  have hmf : ∀ (fn : Fn) (first cap : Array Value) (w : World), (Instr.makeFunc fn first cap).run Tryd.prog w = .ok (.func fn first cap) w := fun _ _ _ _ => rfl
  go_enter Tryd.func26, Tryd.ntmps26
  go_wp2_with (fail)
  refine (isSize_yes _ _ (by omega) (by omega)).mono ?_; rintro e w' ⟨rfl, rfl⟩
  go_wp2_with (at_make; refine wpList_make_own _ rfl _ _ 47 rfl (w.heap.size + 1) 5 i0 (.int .u8 0) 1 Tryd.underlying47 hi hz0 hz1 _ _ _ 8 rfl rfl (by decide) ?b2 ?b3 (by simp) ?_)
  case b2 => rw [hz2]; decide
  case b3 => unfold maxLen; decide
  intro w0 hown0 hgrow0
  have hB0 : w0.cell? ⟨w.heap.size, 0, none⟩ = some (.int .u64 x) := hgrow0.cell (by simp [go_sem]) (by simp)
  have hs0 := hgrow0.size
  have hs1 : w.heap.size + 1 ≤ w0.heap.size := by simpa using hs0
  have hbel0 := ((Below.refl w.heap.size w).alloc (Nat.le_refl _) _).grown hgrow0 (by simp) (fun k hk => by cases hk)
  clear hs0
  have HB0 := Lib.hid hbel0; clear hbel0
  go_wp2_with (fail)
  refine (acrossPutHi x w.heap.size (w.heap.size + 1) n _ w0 h8 (by omega) hown0 hs1 hB0).mono ?_; rintro e w1 ⟨v', rfl, hown1, hbel1⟩
  obtain ⟨g, cap, rfl⟩ := own_slice hown1 (by omega)
  have hcv := run_convert_bytes_back (P := Tryd.prog) w1 47 9 5 ⟨g, 0, none⟩ cap (outB (hiG x n) n) Tryd.underlying47 Tryd.underlying5 Tryd.underlying9 (bv_get _ _ _ _ _ _ hown1)
  rw [outB_length] at hcv
  have HB1 := Lib.hid (HB0.out.trans (hbel1.mono (by omega)))
  clear hbel1 hown1 hown0 hgrow0 hB0
  go_wp2
  go_ret
  exact ⟨rfl, HB1.out⟩
set_option maxHeartbeats 400000 in
theorem writeNo (x n : Int) (f : Value) (w : World) (h : ¬ (1 ≤ n ∧ n ≤ 8)) :
    Calls Tryd.prog 26 #[.int .u64 x, .int .i64 n, f] w fun e w' => e = .returned (.string ⟨#[]⟩) ∧ Below w.heap.size w w' := by
  have H := Lib.hid h
  clear h
  go_enter Tryd.func26, Tryd.ntmps26
  go_wp2_with (fail)
  refine (isSize_no _ _ H.out).mono ?_; rintro e w' ⟨rfl, rfl⟩
  go_wp2
  go_ret
  exact ⟨rfl, (Below.refl _ _).alloc (Nat.le_refl _) _⟩
def putHi (x : Nat) (n : Int) : ByteArray := if 1 ≤ n ∧ n ≤ 8 then ⟨(outB (hiG x n.toNat) n.toNat).toArray⟩ else ⟨#[]⟩
def putLo (x : Nat) (n : Int) : ByteArray := if 1 ≤ n ∧ n ≤ 8 then ⟨(outB (loG x) n.toNat).toArray⟩ else ⟨#[]⟩
theorem putHi_yes {x n : Nat} (h1 : 1 ≤ n) (h8 : n ≤ 8) : putHi x n = ⟨(outB (hiG x n) n).toArray⟩ := by unfold putHi; rw [if_pos (by omega), Int.toNat_natCast]
theorem putLo_yes {x n : Nat} (h1 : 1 ≤ n) (h8 : n ≤ 8) : putLo x n = ⟨(outB (loG x) n).toArray⟩ := by unfold putLo; rw [if_pos (by omega), Int.toNat_natCast]
theorem putHi_no {x : Nat} {n : Int} (h : ¬ (1 ≤ n ∧ n ≤ 8)) : putHi x n = ⟨#[]⟩ := by unfold putHi; rw [if_neg h]
theorem putLo_no {x : Nat} {n : Int} (h : ¬ (1 ≤ n ∧ n ≤ 8)) : putLo x n = ⟨#[]⟩ := by unfold putLo; rw [if_neg h]
theorem ret_str {a b : ByteArray} (h : a = b) : Ending.returned (.string a) = .returned (.string b) := by rw [h]
set_option maxHeartbeats 400000 in
theorem putBig_any (x : Nat) (n : Int) (w : World) :
    Calls Tryd.prog 14 #[.int .u64 x, .int .i64 n] w fun e w' => e = .returned (.string (putHi x n)) ∧ Below w.heap.size w w' := by
  by_cases h : 1 ≤ n ∧ n ≤ 8
  · obtain ⟨h1, h2⟩ := h
    obtain ⟨n, rfl⟩ := Int.eq_ofNat_of_zero_le (show 0 ≤ n by omega)
    have HP := Lib.hid (putHi_yes (x := x) (n := n) (by omega) (by omega))
    go_enter Tryd.func14, Tryd.ntmps14
    go_wp2_with (fail)
    refine (writeHi x n _ (by omega) (by omega)).mono ?_; rintro e w' ⟨rfl, hb⟩
    go_wp2
    go_ret
    exact ⟨ret_str HP.out.symm, hb⟩
  · have HP := Lib.hid (putHi_no (x := x) h)
    have H := Lib.hid h; clear h
    go_enter Tryd.func14, Tryd.ntmps14
    go_wp2_with (fail)
    refine (writeNo x n _ _ H.out).mono ?_; rintro e w' ⟨rfl, hb⟩
    go_wp2
    go_ret
    exact ⟨ret_str HP.out.symm, hb⟩
end Go.Proofs.YtdggipgieanpeaaDoor
