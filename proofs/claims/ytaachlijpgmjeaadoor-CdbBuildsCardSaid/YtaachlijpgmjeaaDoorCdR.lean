/- Other bytes in the place of a text's own, as the document puts them. -/
import Derived.Test.YtaachlijpgmjeaaDoorCdQ
namespace Go.Proofs.YtaachlijpgmjeaaDoor
open Go.RowKit
theorem below_dn {n : Nat} {w w' : World} (h : Below n w w') : ∀ k, Below n w (w'.drewN k)
  | 0 => h
  | k + 1 => (below_dn h k).drew
set_option maxRecDepth 100000 in
set_option maxHeartbeats 4000000 in
theorem refSet_ok (s m : ByteArray) (k : Nat) (w : World) (hs : s.size ≤ 100000) (hm : k + m.size ≤ s.size) : Calls Tryd.prog 41 #[.string s, .int .i64 (k : Int), .string m] w fun e w' => e = .returned (.tuple #[.string (setB s k m), .bool true]) ∧ Below w.heap.size w w' := by
  have HT := Lib.hid (there_yes s (k : Int) (m.size : Int) w (by unfold maxLen; omega) (by omega) (by omega) (by omega))
  have k0 : (0 : Int) ≤ k := by omega
  have k1 : (k : Int) ≤ s.size := by omega
  have hw : IntKind.i64.wrap ((k : Int) + (m.size : Int)) = ((k + m.size : Nat) : Int) := by rw [IntWalk.i64_in _ (by omega)]; omega
  have k2 : (0 : Int) ≤ ((k + m.size : Nat) : Int) := by omega
  have k3 : ((k + m.size : Nat) : Int) ≤ s.size := by omega
  have hx1 : (s.extract 0 k).size = k := ext_size (by omega)
  have hx2 : (s.extract (k + m.size) s.size).size = s.size - (k + m.size) := by rw [ByteArray.size_extract]; omega
  have a1 : ¬ 9223372036854775807 < k + m.size := by omega
  have a2 : ¬ 9223372036854775807 < k + m.size + (s.size - (k + m.size)) := by omega
  have hnt := True.intro
  go_enter Tryd.func41, Tryd.ntmps41
  go_wp2_with (fail)
  refine HT.out.mono ?_; rintro e w1 ⟨rfl, hb⟩
  go_upto_region 3 with (fail)
  go_quiet (fail)
  subst hb
  go_wp2_with (fail)
  go_ret2
  exact ⟨rfl, below_dn (Below.refl _ _) nq⟩
set_option maxRecDepth 100000 in
theorem refPut01_ok (s m : ByteArray) (k : Nat) (w : World) (hs : s.size ≤ 100000) (hm : k + m.size ≤ s.size) : Calls Tryd.prog 35 #[.string s, .int .i64 (k : Int), .string m] w fun e w' => e = .returned (.string (setB s k m)) ∧ Below w.heap.size w w' := by
  have HC := Lib.hid (refSet_ok s m k w hs hm)
  clear hs hm
  go_enter Tryd.func35, Tryd.ntmps35
  go_wp2_with (fail)
  refine HC.out.mono ?_; rintro e w1 ⟨rfl, hb⟩
  have HB := Lib.hid hb; clear hb
  go_wp2_with (fail)
  go_ret
  exact ⟨rfl, HB.out⟩
set_option maxRecDepth 100000 in
theorem refPut_any (s : ByteArray) (k x n : Nat) (w : World) (hs : s.size ≤ 100000) (h1 : 1 ≤ n) (h8 : n ≤ 8) (hm : k + n ≤ s.size) (hx : x < 1099511627776) : Calls Tryd.prog 28 #[.string s, .int .i64 (k : Int), .int .i64 (x : Int), .int .i64 (n : Int)] w fun e w' => e = .returned (.string (put s k x n)) ∧ Below w.heap.size w w' := by
  have HP := Lib.hid (fun v => refPutBig_any x (n : Int) v (by omega))
  have HC := Lib.hid (fun v => refPut01_ok s (putHi x n) k v hs (by rw [putHi_size x n h1 h8]; exact hm))
  have hw : IntKind.u64.wrap (x : Int) = (x : Int) := IntWalk.u64_in _ (by omega)
  clear hs h1 h8 hm hx
  go_enter Tryd.func28, Tryd.ntmps28
  go_wp2_with (fail)
  refine (HP.out w).mono ?_; rintro e w1 ⟨rfl, hb⟩
  have HB := Lib.hid hb; clear hb
  go_wp2_with (fail)
  refine (HC.out w1).mono ?_; rintro e w2 ⟨rfl, hb⟩
  have HB2 := Lib.hid (HB.out.trans (hb.mono HB.out.size)); clear hb
  go_wp2_with (fail)
  go_ret
  exact ⟨rfl, HB2.out⟩
end Go.Proofs.YtaachlijpgmjeaaDoor
