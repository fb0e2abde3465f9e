/- What the code appends, byte by byte, when it writes a number. -/
import Derived.Test.YtdggipgieanpeaaRefs
namespace Go.Proofs.Ytdggipgieanpeaa
open Go.RowKit
def bv (l : List UInt8) : List Value := l.map fun b => .int .u8 (b.toNat : Int)
theorem Try.info5 : (Try.prog.info? 5).map (fun i => (i.zero, i.size, i.bytes)) = some (some (.int .u8 0), 1, 1) := by kernel_rfl
def Appended (base n : Nat) (l : List UInt8) (w : World) (e : Ending) (w' : World) : Prop :=
  ∃ v', e = .returned v' ∧ w'.ownsRow base 5 1 v' n (bv l) ∧ Below base w w'
theorem bv_snoc (x sh : Nat) (l : List UInt8) : bv l ++ [.int .u8 ((x : Int) / 2 ^ sh % 256)] = bv (l ++ [UInt8.ofNat (x / 2 ^ sh)]) := by
  have e : (x : Int) / 2 ^ sh = ((x / 2 ^ sh : Nat) : Int) := by rw [Int.natCast_ediv, Int.natCast_pow]; rfl
  simp only [bv, List.map_append, List.map_cons, List.map_nil, UInt8.toNat_ofNat', e]
  rfl
theorem bv_length (l : List UInt8) : (bv l).length = l.length := by simp [bv]
set_option maxHeartbeats 400000 in
theorem writeClo (x i sh B base n : Nat) (v0 : Value) (l : List UInt8) (w : World) (hsh : sh ≤ 56)
    (hown : w.ownsRow base 5 1 v0 n (bv l)) (hn : n ≤ 7) (hbase : base ≤ w.heap.size) (hB : w.cell? ⟨B, 0, none⟩ = some (.int .u64 x)) :
    Calls Try.prog 40 #[v0, .int .i64 i, .int .i64 sh, .pointer (some ⟨B, 0, none⟩)] w (Appended base (n + 1) (l ++ [UInt8.ofNat (x / 2 ^ sh)]) w) := by
  obtain ⟨i0, hi, hz0, hz1, hz2⟩ := info_parts Try.info5
  have HE := Lib.hid (bv_snoc x sh l)
  have hlt := hown.lt
  have HL := Lib.hid hlt; clear hlt
  go_enter Try.func40, Try.ntmps40
  go_wp2_with (at_builtin; refine wpList_append_own _ rfl _ _ 66 rfl base 5 i0 (.int .u8 0) 1 1 Try.underlying66 hi hz0 hz1 hz2 rfl (by decide) _ _ _ rfl (hown.alloc _) ⟨w.heap.size, 0, none⟩ 1 1 [.int .u8 ((x : Int) / 2 ^ sh % 256)] rfl rfl ?c1 ?c2 ?c3 ?c4 ?c5 ?_)
  case c1 =>
    intro j u hj
    match j, hj with
    | 0, hj => simp at hj; subst hj; simp [Addr.add]
  case c2 => intro u hu; simp at hu; subst hu; rfl
  case c3 => unfold maxLen; omega
  case c4 => omega
  case c5 => simp; omega
  intro v' w1 hown' hgrow _
  rw [HE.out] at hown'
  go_wp2
  go_ret
  exact ⟨v', rfl, hown', ((Below.refl _ _).alloc hbase _).grown hgrow (by simp; omega) (fun k hk => (HL.out k hk).1)⟩
def outB (g : Nat → Nat) (k : Nat) : List UInt8 := (List.range k).map fun i => UInt8.ofNat (g i)
theorem outB_succ (g : Nat → Nat) (k : Nat) : outB g (k + 1) = outB g k ++ [UInt8.ofNat (g k)] := by simp [outB, List.range_succ]
theorem outB_length (g : Nat → Nat) (k : Nat) : (outB g k).length = k := by simp [outB]
def hiG (x n i : Nat) : Nat := x / 2 ^ (8 * (n - 1 - i))
def loG (x i : Nat) : Nat := x / 2 ^ (8 * i)
set_option maxHeartbeats 400000 in
theorem acrossPutHi (x B base n : Nat) (v0 : Value) (w : World) (h8 : n ≤ 8) (hBb : B < base)
    (hown : w.ownsRow base 5 1 v0 0 []) (hbase : base ≤ w.heap.size) (hB : w.cell? ⟨B, 0, none⟩ = some (.int .u64 x)) :
    Calls Try.prog 39 #[v0, .int .i64 n, .func (.func 34) #[] #[], .func (.func 40) #[] #[.pointer (some ⟨B, 0, none⟩)]] w (Appended base n (outB (hiG x n) n) w) := by
  go_enter Try.func39, Try.ntmps39
  go_wp2
  go_loopw [9, 13] (fun v i wr => ∃ k : Nat, k ≤ n ∧ i = .int .i64 k ∧ wr.ownsRow base 5 1 v k (bv (outB (hiG x n) k)) ∧ Below base w wr) (fun _ i _ => n - (intOf i).toNat)
  case atStart => exact ⟨0, Nat.zero_le _, rfl, hown, Below.refl _ _⟩
  case round =>
    obtain ⟨k, hk, rfl, hownr, hbel⟩ := hrel
    by_cases hlt : k < n
    · have hsh : 8 * (n - 1 - k) ≤ 56 := by omega
      have hBr := (hbel.cell (p := ⟨B, 0, none⟩) hBb).trans hB
      have hsz := hbel.size
      have HO := Lib.hid (outB_succ (hiG x n) k)
      go_wp2_with (fail)
      refine (highFirst_any k n _ hlt h8).mono ?_; rintro e w' ⟨rfl, rfl⟩
      go_wp2_with (fail)
      refine (writeClo x k (8 * (n - 1 - k)) B base k _ _ _ hsh hownr (by omega) (by omega) hBr).mono ?_; rintro e w1 ⟨v', rfl, hown1, hbel1⟩
      go_wp2
      go_roundw
      case rel => exact ⟨k + 1, by omega, by go_num, by rw [HO.out]; exact hown1, hbel.trans hbel1⟩
      case measure => simp [intOf]; omega
    · obtain rfl : k = n := by omega
      go_wp2
      go_ret
      exact ⟨_, rfl, hownr, hbel⟩
end Go.Proofs.Ytdggipgieanpeaa
