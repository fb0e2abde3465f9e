/- Pages and lists: the small functions of the document's, and what pages there are. -/
import Derived.Test.YtgncllhhajjnlaaCdA
import Derived.Test.YtgncllhhajjnlaaDevMem
import Derived.Test.YtgncllhhajjnlaaPutRefs
import Derived.Test.YtgncllhhajjnlaaBack
import Derived.BigQuiet
import Derived.Deep.Cut
import Derived.Deep.RegionHeld3
import Derived.Lib.ConvBytes
namespace Go.Proofs.Ytgncllhhajjnlaa
open Go.RowKit
theorem ext_size {s : ByteArray} {k : Nat} (hk : k ≤ s.size) : (s.extract 0 k).size = k := by rw [ByteArray.size_extract]; omega
theorem below_dn {n : Nat} {w w' : World} (h : Below n w w') : ∀ k, Below n w (w'.drewN k)
  | 0 => h
  | k + 1 => (below_dn h k).drew
set_option maxRecDepth 100000 in
set_option maxHeartbeats 4000000 in
theorem refSet_ok (s m : ByteArray) (k : Nat) (w : World) (hs : s.size ≤ 100000) (hm : k + m.size ≤ s.size) : Calls Try.prog 43 #[.string s, .int .i64 (k : Int), .string m] w fun e w' => e = .returned (.tuple #[.string (setB s k m), .bool true]) ∧ Below w.heap.size w w' := by
  have HT := Lib.hid (there_yes s (k : Int) (m.size : Int) w (by unfold maxLen; omega) (by omega) (by omega) (by omega))
  have k0 : (0 : Int) ≤ k := by omega
  have k1 : (k : Int) ≤ s.size := by omega
  have hw : IntKind.i64.wrap ((k : Int) + (m.size : Int)) = ((k + m.size : Nat) : Int) := by rw [IntWalk.i64_in _ (by omega)]; omega
  have k2 : (0 : Int) ≤ ((k + m.size : Nat) : Int) := by omega
  have k3 : ((k + m.size : Nat) : Int) ≤ s.size := by omega
  have hx1 : (s.extract 0 k).size = k := ext_size (by omega)
  have hx2 : (s.extract (k + m.size) s.size).size = s.size - (k + m.size) := by rw [ByteArray.size_extract]; omega
  have a1 : ¬ 9223372036854775807 < k + m.size := by omega
  have a2 : ¬ 9223372036854775807 < k + m.size + (s.size - (k + m.size)) := by omega
  have hnt := True.intro
  go_enter Try.func43, Try.ntmps43
  go_wp2_with (fail)
  refine HT.out.mono ?_; rintro e w1 ⟨rfl, hb⟩
  go_upto_region 3 with (fail)
  go_quiet (fail)
  subst hb
  go_wp2_with (fail)
  go_ret2
  exact ⟨rfl, below_dn (Below.refl _ _) nq⟩
set_option maxRecDepth 100000 in
theorem refPut01_ok (s m : ByteArray) (k : Nat) (w : World) (hs : s.size ≤ 100000) (hm : k + m.size ≤ s.size) : Calls Try.prog 37 #[.string s, .int .i64 (k : Int), .string m] w fun e w' => e = .returned (.string (setB s k m)) ∧ Below w.heap.size w w' := by
  have HC := Lib.hid (refSet_ok s m k w hs hm)
  clear hs hm
  go_enter Try.func37, Try.ntmps37
  go_wp2_with (fail)
  refine HC.out.mono ?_; rintro e w1 ⟨rfl, hb⟩
  have HB := Lib.hid hb; clear hb
  go_wp2_with (fail)
  go_ret
  exact ⟨rfl, HB.out⟩
set_option maxRecDepth 100000 in
theorem refPut_any (s : ByteArray) (k x n : Nat) (w : World) (hs : s.size ≤ 100000) (h1 : 1 ≤ n) (h8 : n ≤ 8) (hm : k + n ≤ s.size) (hx : x < 1099511627776) : Calls Try.prog 25 #[.string s, .int .i64 (k : Int), .int .i64 (x : Int), .int .i64 (n : Int)] w fun e w' => e = .returned (.string (put s k x n)) ∧ Below w.heap.size w w' := by
  have HP := Lib.hid (fun v => refPutBig_any x (n : Int) v (by omega))
  have HC := Lib.hid (fun v => refPut01_ok s (putHi x n) k v hs (by rw [putHi_size x n h1 h8]; exact hm))
  have hw : IntKind.u64.wrap (x : Int) = (x : Int) := IntWalk.u64_in _ (by omega)
  clear hs h1 h8 hm hx
  go_enter Try.func25, Try.ntmps25
  go_wp2_with (fail)
  refine (HP.out w).mono ?_; rintro e w1 ⟨rfl, hb⟩
  have HB := Lib.hid hb; clear hb
  go_wp2_with (fail)
  refine (HC.out w1).mono ?_; rintro e w2 ⟨rfl, hb⟩
  have HB2 := Lib.hid (HB.out.trans (hb.mono HB.out.size)); clear hb
  go_wp2_with (fail)
  go_ret
  exact ⟨rfl, HB2.out⟩
/-- So many zeros. -/
def zerS (n : Nat) : ByteArray := ⟨(List.replicate n (0 : UInt8)).toArray⟩
theorem zerS_size (n : Nat) : (zerS n).size = n := by
  show (List.replicate n (0 : UInt8)).toArray.size = n
  simp
abbrev bvA (l : List UInt8) : Array Value := (bv l).toArray
def bzero (M : Nat) : Array Value := madeCells (Value.int .u8 0).cells M
theorem bzero_is (M : Nat) : bzero M = bvA (List.replicate M 0) := by
  unfold bzero madeCells bvA bv
  refine Array.ext (by simp) fun i h1 h2 => ?_
  have e : (Value.int .u8 0).cells = #[.int .u8 0] := rfl
  simp [e, Nat.mod_one]
theorem make_bytes (M : Nat) (h2 : M ≤ 140737488355328) (w : World) : (Instr.makeSlice 55 (.int .i64 (M : Int)) (.int .i64 (M : Int))).run Try.prog w = .ok (.slice (some ⟨w.heap.size, 0, none⟩) M M) (w.alloc (.cells (bvA (List.replicate M 0)) 5)) := by
  obtain ⟨i0, hi0, hz0, hz1, hz2⟩ := info_parts Try.info5
  have := run_make (P := Try.prog) w 55 5 i0 _ Try.underlying55 hi0 hz0 .i64 .i64 (M : Int) (M : Int) (by omega) (by omega) (by rw [hz2]; omega) (by omega)
  rw [this, hz1, ← bzero_is]
  simp [bzero]
theorem bytes_str (w : World) (g M : Nat) (l : List UInt8) (hl : l.length = M) (h : Blk w g 5 (bvA l)) : (convert 55 9 (.slice (some ⟨g, 0, none⟩) M M)).run Try.prog w = .ok (.string ⟨l.toArray⟩) w := by
  subst hl
  exact run_convert_bytes_back (P := Try.prog) w 55 9 5 ⟨g, 0, none⟩ l.length l Try.underlying55 Try.underlying5 Try.underlying9 (fun j hj => by
    rw [Addr.add_lit, Nat.zero_add, h.cell]
    simp [bvA, bv, List.getElem?_eq_getElem hj])
theorem refZeros_any (n : Nat) (hn : n ≤ 100000) (w : World) : Calls Try.prog 26 #[.int .i64 (n : Int)] w fun e w' => e = .returned (.string (zerS n)) ∧ Below w.heap.size w w' := by
  have hmk := make_bytes n (by omega) w
  have hcv := bytes_str (w.alloc (.cells (bvA (List.replicate n 0)) 5)) w.heap.size n (List.replicate n 0) (by simp) (Blk.new w 5 _)
  have hZ : (⟨(List.replicate n (0 : UInt8)).toArray⟩ : ByteArray) = zerS n := rfl
  rw [hZ] at hcv
  have HB := Lib.hid ((Below.refl w.heap.size w).alloc (Nat.le_refl _) (.cells (bvA (List.replicate n 0)) 5))
  clear hn hZ
  generalize zerS n = z at *
  go_enter Try.func26, Try.ntmps26
  go_wp2_with (fail)
  go_ret
  exact ⟨rfl, HB.out⟩
/-- The standard page, of a unit that is there or not. -/
def hgS : ByteArray := ⟨#[72, 69, 65, 68, 71, 65, 84, 69, 66, 76, 79, 67, 75, 32, 85, 78, 73, 84, 32, 32, 32, 32, 32, 32, 48, 48, 48, 49]⟩
def stdS (th : Bool) : ByteArray := ⟨#[if th = true then 0 else 127, 0, 6, 2, 31, 0, 0, 0]⟩ ++ hgS
def listP : ByteArray := ⟨#[0, 0, 0, 3, 0, 131, 176]⟩
def idP : ByteArray := ⟨#[0, 131, 0, 20, 1, 1, 0, 16]⟩
def limP : ByteArray := put (put (put (put (put (put (zerS 64) 1 176 1) 3 60 1) 5 32 1) 8 64 4) 20 4096 4) 24 16 4
/-- The page of a unit with this Id. -/
def pageX (id : ByteArray) (th : Bool) (p : Int) : Option ByteArray :=
  if p = 0 then some (stdS th) else if th = false then none else if p = 256 then some listP else if p = 387 ∧ id.size = 16 then some (idP ++ id) else if p = 432 then some limP else none
theorem std_put : put (put (put (zerS 8) 2 6 1) 3 2 1) 4 31 1 = ⟨#[0, 0, 6, 2, 31, 0, 0, 0]⟩ := by kernel_rfl
theorem std_not : put (stdS true) 0 127 1 = stdS false := by kernel_rfl
/-- The capacity. -/
def capS (b : Int) : ByteArray := putHi (if b < 1 ∨ 4294967296 ≤ b then 0 else (b - 1).toNat) ((4 : Nat) : Int) ++ putHi 512 ((4 : Nat) : Int)
def rowL (i : Nat) : ByteArray := ⟨#[0]⟩ ++ ⟨#[UInt8.ofNat i]⟩ ++ zerS 6
def rowsL : Nat → ByteArray
  | 0 => ⟨#[]⟩
  | n + 1 => rowsL n ++ rowL n
/-- The list of so many units. -/
def listS (n : Int) : ByteArray :=
  let k := if n < 0 ∨ 256 < n then 0 else n.toNat
  putHi (8 * k) ((4 : Nat) : Int) ++ zerS 4 ++ rowsL k
end Go.Proofs.Ytgncllhhajjnlaa
