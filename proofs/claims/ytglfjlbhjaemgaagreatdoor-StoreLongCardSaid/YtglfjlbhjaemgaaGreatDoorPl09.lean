/- What the code does when it reads a number (both ways) and when it refuses. Big and Little of the code, and the question of the document whether bytes stand there, at every input. What the code appends, byte by byte, when it writes a number. PutBig and PutLittle of the code, at every input. PutBig and PutLittle of the document, at every input. What the code and the document's own words make of bytes: fourBits, More and Sum of the code, step, More and Sum of the document. -/
import Derived.Test.YtglfjlbhjaemgaaGreatDoorRows
import Derived.Test.YtglfjlbhjaemgaaGreatDoorPl08
import Derived.WalkKit
import Derived.WalkSpells
import Derived.WalkLawsBesides
import Derived.Lib.Hide
import Derived.IntWalk
import Derived.Deep.QuietTactic
import Derived.BigQuiet
namespace Go.Proofs.YtglfjlbhjaemgaaGreatDoor
open Go.RowKit
def byt (s : ByteArray) (i : Nat) : Nat := (s.data.toList.getD i 0).toNat
theorem byt_lt (s : ByteArray) (i : Nat) : byt s i < 256 := UInt8.toNat_lt _
theorem byt_eq (s : ByteArray) (i : Nat) (h : i < s.size) : byt s i = s[i].toNat := by
  have h' : i < s.data.toList.length := by simpa using h
  unfold byt
  rw [List.getD_eq_getElem?_getD, List.getElem?_eq_getElem h']
  rfl
theorem ret_int {k : IntKind} {a b : Int} (h : a = b) : Ending.returned (.int k a) = .returned (.int k b) := by rw [h]
theorem orStep (v b sh : Nat) (hv : v < 18446744073709551616) (hb : b < 256) (hsh : sh ≤ 56) :
    bits BinOp.or IntKind.u64 (v : Int) (IntKind.u64.wrap (IntKind.u64.wrap (b : Int) * 2 ^ sh)) = ((v ||| b * 2 ^ sh : Nat) : Int) := by
  have h1 : 2 ^ sh ≤ 2 ^ 56 := Nat.pow_le_pow_right (by omega) hsh
  have h2 : b * 2 ^ sh ≤ 255 * 2 ^ 56 := Nat.mul_le_mul (by omega) h1
  have h3 : b * 2 ^ sh < 18446744073709551616 := Nat.lt_of_le_of_lt h2 (by decide)
  rw [IntKind.wrap_u64, IntKind.wrap_u64, ← u64_or_nat v _ hv h3]
  have e : (b : Int) % 18446744073709551616 = b := by omega
  rw [e]
  have e2 : (b : Int) * 2 ^ sh = ((b * 2 ^ sh : Nat) : Int) := by rw [Int.natCast_mul, Int.natCast_pow]; rfl
  rw [e2]
  congr 1
  omega
def readV (s : ByteArray) (a : Nat) : Nat → Nat := fun i => byt s (a + i)

set_option maxHeartbeats 400000 in
theorem readClo (s : ByteArray) (a v i sh : Nat) (A B : Addr) (w : World) (hs : s.size ≤ maxLen) (ha : a + i < s.size) (hsh : sh ≤ 56)
    (hv : v < 18446744073709551616)
    (hA : w.cell? A = some (.string s)) (hB : w.cell? B = some (.int .i64 a)) :
    Calls Tryz.prog 224 #[.int .u64 v, .int .i64 i, .int .i64 sh, .pointer (some A), .pointer (some B)] w fun e w' => e = .returned (.int .u64 ((v ||| (readV s a i * 2 ^ sh) : Nat) : Int)) ∧ w = w' := by
  unfold maxLen at hs
  have hb := byt_eq s (a + i) ha
  have hbl := byt_lt s (a + i)
  have HB := Lib.hid hb; clear hb
  go_enter Tryz.func224, Tryz.ntmps224
  go_wp2
  go_ret
  exact ⟨ret_int (by rw [← HB.out]; exact orStep v _ sh hv hbl hsh), rfl⟩
set_option maxHeartbeats 400000 in
theorem isSize_yes (n : Int) (w : World) (h1 : 1 ≤ n) (h2 : n ≤ 8) :
    Calls Tryz.prog 207 #[.int .i64 n] w fun e w' => e = .returned (.bool true) ∧ w = w' := by
  go_enter Tryz.func207, Tryz.ntmps207
  go_wp2
  go_ret
  exact ⟨rfl, rfl⟩
set_option maxHeartbeats 400000 in
theorem isSize_no (n : Int) (w : World) (h : ¬ (1 ≤ n ∧ n ≤ 8)) :
    Calls Tryz.prog 207 #[.int .i64 n] w fun e w' => e = .returned (.bool false) ∧ w = w' := by
  by_cases h1 : 1 ≤ n
  · have h2 : ¬ n ≤ 8 := by omega
    clear h
    go_enter Tryz.func207, Tryz.ntmps207
    go_wp2
    go_ret
    exact ⟨rfl, rfl⟩
  · clear h
    go_enter Tryz.func207, Tryz.ntmps207
    go_wp2
    go_ret
    exact ⟨rfl, rfl⟩
set_option maxHeartbeats 400000 in
theorem highFirst_any (i n : Nat) (w : World) (h1 : i < n) (h2 : n ≤ 8) :
    Calls Tryz.prog 191 #[.int .i64 i, .int .i64 n] w fun e w' => e = .returned (.int .i64 ((8 * (n - 1 - i) : Nat) : Int)) ∧ w = w' := by
  go_enter Tryz.func191, Tryz.ntmps191
  go_wp2
  go_ret
  exact ⟨ret_int (by omega), rfl⟩
set_option maxHeartbeats 400000 in
theorem lowFirst_any (i n : Nat) (w : World) (h1 : i < n) (h2 : n ≤ 8) :
    Calls Tryz.prog 254 #[.int .i64 i, .int .i64 n] w fun e w' => e = .returned (.int .i64 ((8 * i : Nat) : Int)) ∧ w = w' := by
  go_enter Tryz.func254, Tryz.ntmps254
  go_wp2
  go_ret
  exact ⟨ret_int (by omega), rfl⟩
theorem readV_lt (s : ByteArray) (a i : Nat) : readV s a i < 256 := byt_lt _ _
theorem hiV_u64 (f : Nat → Nat) (hf : ∀ i, f i < 256) (n k : Nat) (hk : k ≤ n) (h8 : n ≤ 8) : hiV f n k < 18446744073709551616 :=
  Nat.lt_of_lt_of_le (hiV_lt f hf n k hk) (pow_le8 n h8)
theorem bigV_u64 (f : Nat → Nat) (hf : ∀ i, f i < 256) (k : Nat) (h8 : k ≤ 8) : bigV f k < 18446744073709551616 :=
  Nat.lt_of_lt_of_le (bigV_lt f hf k) (pow_le8 k h8)
set_option maxHeartbeats 400000 in
theorem acrossHi (s : ByteArray) (a n : Nat) (A B : Addr) (w : World) (hs : s.size ≤ maxLen) (ha : a + n ≤ s.size) (hn : n ≤ 8)
    (hA : w.cell? A = some (.string s)) (hB : w.cell? B = some (.int .i64 a)) :
    Calls Tryz.prog 223 #[.int .u64 0, .int .i64 n, .func (.func 191) #[] #[], .func (.func 224) #[] #[.pointer (some A), .pointer (some B)]] w
      fun e w' => e = .returned (.int .u64 (bigV (readV s a) n : Nat)) ∧ w = w' := by
  go_enter Tryz.func223, Tryz.ntmps223
  go_wp2
  go_loop [9, 13] (fun v i => ∃ k : Nat, k ≤ n ∧ i = .int .i64 k ∧ v = .int .u64 (hiV (readV s a) n k : Nat)) (fun _ i => n - (intOf i).toNat)
  case atStart => exact ⟨0, Nat.zero_le _, rfl, by rw [hiV_zero]; rfl⟩
  case round =>
    obtain ⟨k, hk, rfl, rfl⟩ := hrel
    have hu := hiV_u64 (readV s a) (readV_lt s a) n k hk hn
    by_cases hlt : k < n
    · have hsh : 8 * (n - 1 - k) ≤ 56 := by omega
      have HO := Lib.hid (hiV_or (readV s a) (readV_lt s a) n k hlt)
      go_wp2_with (fail)
      refine (highFirst_any k n _ hlt hn).mono ?_; rintro e w' ⟨rfl, rfl⟩
      go_wp2_with (fail)
      refine (readClo s a (hiV (readV s a) n k) k (8 * (n - 1 - k)) A B _ hs (by omega) hsh hu hA hB).mono ?_; rintro e w' ⟨rfl, rfl⟩
      rw [HO.out]
      go_wp2
      go_round
      case rel => exact ⟨k + 1, by omega, by go_num, rfl⟩
      case measure => simp [intOf]; omega
    · obtain rfl : k = n := by omega
      have HF := Lib.hid (hiV_full (readV s a) k)
      go_wp2
      go_ret
      exact ⟨ret_int (by rw [HF.out]), rfl⟩
set_option maxHeartbeats 400000 in
theorem readHi (s : ByteArray) (a n : Nat) (w : World) (hs : s.size ≤ maxLen) (h1 : 1 ≤ n) (h2 : n ≤ 8) (ha : a + n ≤ s.size) :
    Calls Tryz.prog 211 #[.string s, .int .i64 a, .int .i64 n, .func (.func 191) #[] #[]] w fun e w' => e = .returned (.tuple #[.int .u64 (bigV (readV s a) n : Nat), .bool true]) ∧ Below w.heap.size w w' := by
  have hs' := hs
  unfold maxLen at hs
  have hmf : ∀ (fn : Fn) (first cap : Array Value) (w : World), (Instr.makeFunc fn first cap).run Tryz.prog w = .ok (.func fn first cap) w := fun _ _ _ _ => rfl
  go_enter Tryz.func211, Tryz.ntmps211
  go_wp2_with (fail)
  refine (isSize_yes _ _ (by omega) (by omega)).mono ?_; rintro e w' ⟨rfl, rfl⟩
  go_wp2_with (fail)
  refine (acrossHi s a n _ _ _ hs' ha h2 (by simp [go_sem]) (by simp [go_sem])).mono ?_; rintro e w' ⟨rfl, rfl⟩
  go_wp2
  go_ret2
  exact ⟨rfl, ((Below.refl _ _).alloc (Nat.le_refl _) _).alloc (by simp) _⟩
set_option maxHeartbeats 400000 in
theorem readNo (s : ByteArray) (a n : Int) (f : Value) (w : World) (hs : s.size ≤ maxLen) (h : ¬ (1 ≤ n ∧ n ≤ 8 ∧ 0 ≤ a ∧ a + n ≤ s.size)) :
    Calls Tryz.prog 211 #[.string s, .int .i64 a, .int .i64 n, f] w fun e w' => e = .returned (.tuple #[.int .u64 0, .bool false]) ∧ Below w.heap.size w w' := by
  unfold maxLen at hs
  by_cases hn : 1 ≤ n ∧ n ≤ 8
  · have h1 := hn.1
    have h2 := hn.2
    by_cases h0 : 0 ≤ a
    · have h3 : (s.size : Int) - n < a := by omega
      clear h hn
      go_enter Tryz.func211, Tryz.ntmps211
      go_wp2_with (fail)
      refine (isSize_yes _ _ (by omega) (by omega)).mono ?_; rintro e w' ⟨rfl, rfl⟩
      go_wp2
      go_ret2
      exact ⟨rfl, ((Below.refl _ _).alloc (Nat.le_refl _) _).alloc (by simp) _⟩
    · clear h hn
      go_enter Tryz.func211, Tryz.ntmps211
      go_wp2_with (fail)
      refine (isSize_yes _ _ (by omega) (by omega)).mono ?_; rintro e w' ⟨rfl, rfl⟩
      go_wp2
      go_ret2
      exact ⟨rfl, ((Below.refl _ _).alloc (Nat.le_refl _) _).alloc (by simp) _⟩
  · have H := Lib.hid hn
    clear h hn
    go_enter Tryz.func211, Tryz.ntmps211
    go_wp2_with (fail)
    refine (isSize_no _ _ H.out).mono ?_; rintro e w' ⟨rfl, rfl⟩
    go_wp2
    go_ret2
    exact ⟨rfl, ((Below.refl _ _).alloc (Nat.le_refl _) _).alloc (by simp) _⟩
open Go.RowKit
def okB (s : ByteArray) (a n : Int) : Bool := decide (1 ≤ n ∧ n ≤ 8 ∧ 0 ≤ a ∧ a + n ≤ s.size)
def bigR (s : ByteArray) (a n : Int) : Nat := if okB s a n = true then bigV (readV s a.toNat) n.toNat else 0
theorem okB_yes {s : ByteArray} {a n : Int} (h : 1 ≤ n ∧ n ≤ 8 ∧ 0 ≤ a ∧ a + n ≤ s.size) : okB s a n = true := by unfold okB; exact decide_eq_true h
theorem okB_no {s : ByteArray} {a n : Int} (h : ¬ (1 ≤ n ∧ n ≤ 8 ∧ 0 ≤ a ∧ a + n ≤ s.size)) : okB s a n = false := by unfold okB; exact decide_eq_false h
theorem bigR_yes {s : ByteArray} {a n : Nat} (h : okB s a n = true) : bigR s a n = bigV (readV s a) n := by unfold bigR; rw [if_pos h]; rfl
theorem bigR_no {s : ByteArray} {a n : Int} (h : okB s a n = false) : bigR s a n = 0 := by unfold bigR; rw [h]; rfl
theorem ret_two {k : IntKind} {a b : Int} {c d : Bool} (h : a = b) (g : c = d) : Ending.returned (.tuple #[.int k a, .bool c]) = .returned (.tuple #[.int k b, .bool d]) := by rw [h, g]

set_option maxHeartbeats 400000 in
theorem big_any (s : ByteArray) (a n : Int) (w : World) (hs : s.size ≤ maxLen) :
    Calls Tryz.prog 194 #[.string s, .int .i64 a, .int .i64 n] w fun e w' => e = .returned (.tuple #[.int .u64 (bigR s a n : Nat), .bool (okB s a n)]) ∧ Below w.heap.size w w' := by
  by_cases h : 1 ≤ n ∧ n ≤ 8 ∧ 0 ≤ a ∧ a + n ≤ s.size
  · have h' := okB_yes h
    obtain ⟨h1, h2, h3, h4⟩ := h
    obtain ⟨a, rfl⟩ := Int.eq_ofNat_of_zero_le h3
    obtain ⟨n, rfl⟩ := Int.eq_ofNat_of_zero_le (show 0 ≤ n by omega)
    have HB := Lib.hid (bigR_yes h')
    have HK := Lib.hid h'; clear h'
    go_enter Tryz.func194, Tryz.ntmps194
    go_wp2_with (fail)
    refine (readHi s a n _ hs (by omega) (by omega) (by omega)).mono ?_; rintro e w' ⟨rfl, hb⟩
    go_wp2
    go_ret2
    exact ⟨ret_two (by rw [HB.out]) (by rw [HK.out]), hb⟩
  · have HK := Lib.hid (okB_no h)
    have HB := Lib.hid (bigR_no HK.out)
    have H := Lib.hid h; clear h
    go_enter Tryz.func194, Tryz.ntmps194
    go_wp2_with (fail)
    refine (readNo s a n _ _ hs H.out).mono ?_; rintro e w' ⟨rfl, hb⟩
    go_wp2
    go_ret2
    exact ⟨ret_two (by rw [HB.out]; rfl) (by rw [HK.out]), hb⟩
open Go.RowKit
def bv (l : List UInt8) : List Value := l.map fun b => .int .u8 (b.toNat : Int)
theorem Tryz.info5 : (Tryz.prog.info? 5).map (fun i => (i.zero, i.size, i.bytes)) = some (some (.int .u8 0), 1, 1) := by kernel_rfl
def Appended (base n : Nat) (l : List UInt8) (w : World) (e : Ending) (w' : World) : Prop :=
  ∃ v', e = .returned v' ∧ w'.ownsRow base 5 1 v' n (bv l) ∧ Below base w w'
theorem bv_snoc (x sh : Nat) (l : List UInt8) : bv l ++ [.int .u8 ((x : Int) / 2 ^ sh % 256)] = bv (l ++ [UInt8.ofNat (x / 2 ^ sh)]) := by
  have e : (x : Int) / 2 ^ sh = ((x / 2 ^ sh : Nat) : Int) := by rw [Int.natCast_ediv, Int.natCast_pow]; rfl
  simp only [bv, List.map_append, List.map_cons, List.map_nil, UInt8.toNat_ofNat', e]
  rfl
theorem bv_length (l : List UInt8) : (bv l).length = l.length := by simp [bv]
set_option maxHeartbeats 400000 in
theorem writeClo (x i sh B base n : Nat) (v0 : Value) (l : List UInt8) (w : World) (hsh : sh ≤ 56)
    (hown : w.ownsRow base 5 1 v0 n (bv l)) (hn : n ≤ 7) (hbase : base ≤ w.heap.size) (hB : w.cell? ⟨B, 0, none⟩ = some (.int .u64 x)) :
    Calls Tryz.prog 209 #[v0, .int .i64 i, .int .i64 sh, .pointer (some ⟨B, 0, none⟩)] w (Appended base (n + 1) (l ++ [UInt8.ofNat (x / 2 ^ sh)]) w) := by
  obtain ⟨i0, hi, hz0, hz1, hz2⟩ := info_parts Tryz.info5
  have HE := Lib.hid (bv_snoc x sh l)
  have hlt := hown.lt
  have HL := Lib.hid hlt; clear hlt
  go_enter Tryz.func209, Tryz.ntmps209
  go_wp2_with (at_builtin; refine wpList_append_own _ rfl _ _ 100 rfl base 5 i0 (.int .u8 0) 1 1 Tryz.underlying100 hi hz0 hz1 hz2 rfl (by decide) _ _ _ rfl (hown.alloc _) ⟨w.heap.size, 0, none⟩ 1 1 [.int .u8 ((x : Int) / 2 ^ sh % 256)] rfl rfl ?c1 ?c2 ?c3 ?c4 ?c5 ?_)
  case c1 =>
    intro j u hj
    match j, hj with
    | 0, hj => simp at hj; subst hj; simp [Addr.add]
  case c2 => intro u hu; simp at hu; subst hu; rfl
  case c3 => unfold maxLen; omega
  case c4 => omega
  case c5 => simp; omega
  intro v' w1 hown' hgrow _
  rw [HE.out] at hown'
  go_wp2
  go_ret
  exact ⟨v', rfl, hown', ((Below.refl _ _).alloc hbase _).grown hgrow (by simp; omega) (fun k hk => (HL.out k hk).1)⟩
def outB (g : Nat → Nat) (k : Nat) : List UInt8 := (List.range k).map fun i => UInt8.ofNat (g i)
theorem outB_succ (g : Nat → Nat) (k : Nat) : outB g (k + 1) = outB g k ++ [UInt8.ofNat (g k)] := by simp [outB, List.range_succ]
theorem outB_length (g : Nat → Nat) (k : Nat) : (outB g k).length = k := by simp [outB]
def hiG (x n i : Nat) : Nat := x / 2 ^ (8 * (n - 1 - i))
def loG (x i : Nat) : Nat := x / 2 ^ (8 * i)
set_option maxHeartbeats 400000 in
theorem acrossPutHi (x B base n : Nat) (v0 : Value) (w : World) (h8 : n ≤ 8) (hBb : B < base)
    (hown : w.ownsRow base 5 1 v0 0 []) (hbase : base ≤ w.heap.size) (hB : w.cell? ⟨B, 0, none⟩ = some (.int .u64 x)) :
    Calls Tryz.prog 208 #[v0, .int .i64 n, .func (.func 191) #[] #[], .func (.func 209) #[] #[.pointer (some ⟨B, 0, none⟩)]] w (Appended base n (outB (hiG x n) n) w) := by
  go_enter Tryz.func208, Tryz.ntmps208
  go_wp2
  go_loopw [9, 13] (fun v i wr => ∃ k : Nat, k ≤ n ∧ i = .int .i64 k ∧ wr.ownsRow base 5 1 v k (bv (outB (hiG x n) k)) ∧ Below base w wr) (fun _ i _ => n - (intOf i).toNat)
  case atStart => exact ⟨0, Nat.zero_le _, rfl, hown, Below.refl _ _⟩
  case round =>
    obtain ⟨k, hk, rfl, hownr, hbel⟩ := hrel
    by_cases hlt : k < n
    · have hsh : 8 * (n - 1 - k) ≤ 56 := by omega
      have hBr := (hbel.cell (p := ⟨B, 0, none⟩) hBb).trans hB
      have hsz := hbel.size
      have HO := Lib.hid (outB_succ (hiG x n) k)
      go_wp2_with (fail)
      refine (highFirst_any k n _ hlt h8).mono ?_; rintro e w' ⟨rfl, rfl⟩
      go_wp2_with (fail)
      refine (writeClo x k (8 * (n - 1 - k)) B base k _ _ _ hsh hownr (by omega) (by omega) hBr).mono ?_; rintro e w1 ⟨v', rfl, hown1, hbel1⟩
      go_wp2
      go_roundw
      case rel => exact ⟨k + 1, by omega, by go_num, by rw [HO.out]; exact hown1, hbel.trans hbel1⟩
      case measure => simp [intOf]; omega
    · obtain rfl : k = n := by omega
      go_wp2
      go_ret
      exact ⟨_, rfl, hownr, hbel⟩
set_option maxHeartbeats 400000 in
theorem acrossPutLo (x B base n : Nat) (v0 : Value) (w : World) (h8 : n ≤ 8) (hBb : B < base)
    (hown : w.ownsRow base 5 1 v0 0 []) (hbase : base ≤ w.heap.size) (hB : w.cell? ⟨B, 0, none⟩ = some (.int .u64 x)) :
    Calls Tryz.prog 208 #[v0, .int .i64 n, .func (.func 254) #[] #[], .func (.func 209) #[] #[.pointer (some ⟨B, 0, none⟩)]] w (Appended base n (outB (loG x) n) w) := by
  go_enter Tryz.func208, Tryz.ntmps208
  go_wp2
  go_loopw [9, 13] (fun v i wr => ∃ k : Nat, k ≤ n ∧ i = .int .i64 k ∧ wr.ownsRow base 5 1 v k (bv (outB (loG x) k)) ∧ Below base w wr) (fun _ i _ => n - (intOf i).toNat)
  case atStart => exact ⟨0, Nat.zero_le _, rfl, hown, Below.refl _ _⟩
  case round =>
    obtain ⟨k, hk, rfl, hownr, hbel⟩ := hrel
    by_cases hlt : k < n
    · have hsh : 8 * k ≤ 56 := by omega
      have hBr := (hbel.cell (p := ⟨B, 0, none⟩) hBb).trans hB
      have hsz := hbel.size
      have HO := Lib.hid (outB_succ (loG x) k)
      go_wp2_with (fail)
      refine (lowFirst_any k n _ hlt h8).mono ?_; rintro e w' ⟨rfl, rfl⟩
      go_wp2_with (fail)
      refine (writeClo x k (8 * k) B base k _ _ _ hsh hownr (by omega) (by omega) hBr).mono ?_; rintro e w1 ⟨v', rfl, hown1, hbel1⟩
      go_wp2
      go_roundw
      case rel => exact ⟨k + 1, by omega, by go_num, by rw [HO.out]; exact hown1, hbel.trans hbel1⟩
      case measure => simp [intOf]; omega
    · obtain rfl : k = n := by omega
      go_wp2
      go_ret
      exact ⟨_, rfl, hownr, hbel⟩
open Go.RowKit
theorem bv_get (l : List UInt8) (w : World) (base n : Nat) (g cap : Nat) (h : w.ownsRow base 5 1 (.slice (some ⟨g, 0, none⟩) n cap) n (bv l)) :
    ∀ j (hj : j < l.length), w.cell? ((⟨g, 0, none⟩ : Addr).add j) = some (.int .u8 (l[j].toNat : Int)) := fun j hj => by
  have hn : n = l.length := by have := h.1; rw [bv_length] at this; omega
  rw [Addr.add_lit, Nat.zero_add, h.cellAt j (by omega)]
  simp [bv, hj]
theorem own_slice {w : World} {base n : Nat} {v : Value} {xs : List Value} (h : w.ownsRow base 5 1 v n xs) (hn : 0 < n) : ∃ g cap, v = .slice (some ⟨g, 0, none⟩) n cap := by
  rcases h.2 with ⟨_, h0⟩ | ⟨g, cap, cur, rfl, _⟩
  · omega
  · exact ⟨g, cap, rfl⟩
set_option maxHeartbeats 400000 in
theorem writeHi (x n : Nat) (w : World) (h1 : 1 ≤ n) (h8 : n ≤ 8) :
    Calls Tryz.prog 190 #[.int .u64 x, .int .i64 n, .func (.func 191) #[] #[]] w fun e w' => e = .returned (.string ⟨(outB (hiG x n) n).toArray⟩) ∧ Below w.heap.size w w' := by
  obtain ⟨i0, hi, hz0, hz1, hz2⟩ := info_parts Tryz.info5
  have hmf : ∀ (fn : Fn) (first cap : Array Value) (w : World), (Instr.makeFunc fn first cap).run Tryz.prog w = .ok (.func fn first cap) w := fun _ _ _ _ => rfl
  go_enter Tryz.func190, Tryz.ntmps190
  go_wp2_with (fail)
  refine (isSize_yes _ _ (by omega) (by omega)).mono ?_; rintro e w' ⟨rfl, rfl⟩
  go_wp2_with (at_make; refine wpList_make_own _ rfl _ _ 100 rfl (w.heap.size + 1) 5 i0 (.int .u8 0) 1 Tryz.underlying100 hi hz0 hz1 _ _ _ 8 rfl rfl (by decide) ?b2 ?b3 (by simp) ?_)
  case b2 => rw [hz2]; decide
  case b3 => unfold maxLen; decide
  intro w0 hown0 hgrow0
  have hB0 : w0.cell? ⟨w.heap.size, 0, none⟩ = some (.int .u64 x) := hgrow0.cell (by simp [go_sem]) (by simp)
  have hs0 := hgrow0.size
  have hs1 : w.heap.size + 1 ≤ w0.heap.size := by simpa using hs0
  have hbel0 := ((Below.refl w.heap.size w).alloc (Nat.le_refl _) _).grown hgrow0 (by simp) (fun k hk => by cases hk)
  clear hs0
  have HB0 := Lib.hid hbel0; clear hbel0
  go_wp2_with (fail)
  refine (acrossPutHi x w.heap.size (w.heap.size + 1) n _ w0 h8 (by omega) hown0 hs1 hB0).mono ?_; rintro e w1 ⟨v', rfl, hown1, hbel1⟩
  obtain ⟨g, cap, rfl⟩ := own_slice hown1 (by omega)
  have hcv := run_convert_bytes_back (P := Tryz.prog) w1 100 9 5 ⟨g, 0, none⟩ cap (outB (hiG x n) n) Tryz.underlying100 Tryz.underlying5 Tryz.underlying9 (bv_get _ _ _ _ _ _ hown1)
  rw [outB_length] at hcv
  have HB1 := Lib.hid (HB0.out.trans (hbel1.mono (by omega)))
  clear hbel1 hown1 hown0 hgrow0 hB0
  go_wp2
  go_ret
  exact ⟨rfl, HB1.out⟩
set_option maxHeartbeats 400000 in
theorem writeLo (x n : Nat) (w : World) (h1 : 1 ≤ n) (h8 : n ≤ 8) :
    Calls Tryz.prog 190 #[.int .u64 x, .int .i64 n, .func (.func 254) #[] #[]] w fun e w' => e = .returned (.string ⟨(outB (loG x) n).toArray⟩) ∧ Below w.heap.size w w' := by
  obtain ⟨i0, hi, hz0, hz1, hz2⟩ := info_parts Tryz.info5
  have hmf : ∀ (fn : Fn) (first cap : Array Value) (w : World), (Instr.makeFunc fn first cap).run Tryz.prog w = .ok (.func fn first cap) w := fun _ _ _ _ => rfl
  go_enter Tryz.func190, Tryz.ntmps190
  go_wp2_with (fail)
  refine (isSize_yes _ _ (by omega) (by omega)).mono ?_; rintro e w' ⟨rfl, rfl⟩
  go_wp2_with (at_make; refine wpList_make_own _ rfl _ _ 100 rfl (w.heap.size + 1) 5 i0 (.int .u8 0) 1 Tryz.underlying100 hi hz0 hz1 _ _ _ 8 rfl rfl (by decide) ?b2 ?b3 (by simp) ?_)
  case b2 => rw [hz2]; decide
  case b3 => unfold maxLen; decide
  intro w0 hown0 hgrow0
  have hB0 : w0.cell? ⟨w.heap.size, 0, none⟩ = some (.int .u64 x) := hgrow0.cell (by simp [go_sem]) (by simp)
  have hs0 := hgrow0.size
  have hs1 : w.heap.size + 1 ≤ w0.heap.size := by simpa using hs0
  have hbel0 := ((Below.refl w.heap.size w).alloc (Nat.le_refl _) _).grown hgrow0 (by simp) (fun k hk => by cases hk)
  clear hs0
  have HB0 := Lib.hid hbel0; clear hbel0
  go_wp2_with (fail)
  refine (acrossPutLo x w.heap.size (w.heap.size + 1) n _ w0 h8 (by omega) hown0 hs1 hB0).mono ?_; rintro e w1 ⟨v', rfl, hown1, hbel1⟩
  obtain ⟨g, cap, rfl⟩ := own_slice hown1 (by omega)
  have hcv := run_convert_bytes_back (P := Tryz.prog) w1 100 9 5 ⟨g, 0, none⟩ cap (outB (loG x) n) Tryz.underlying100 Tryz.underlying5 Tryz.underlying9 (bv_get _ _ _ _ _ _ hown1)
  rw [outB_length] at hcv
  have HB1 := Lib.hid (HB0.out.trans (hbel1.mono (by omega)))
  clear hbel1 hown1 hown0 hgrow0 hB0
  go_wp2
  go_ret
  exact ⟨rfl, HB1.out⟩
set_option maxHeartbeats 400000 in
theorem writeNo (x n : Int) (f : Value) (w : World) (h : ¬ (1 ≤ n ∧ n ≤ 8)) :
    Calls Tryz.prog 190 #[.int .u64 x, .int .i64 n, f] w fun e w' => e = .returned (.string ⟨#[]⟩) ∧ Below w.heap.size w w' := by
  have H := Lib.hid h
  clear h
  go_enter Tryz.func190, Tryz.ntmps190
  go_wp2_with (fail)
  refine (isSize_no _ _ H.out).mono ?_; rintro e w' ⟨rfl, rfl⟩
  go_wp2
  go_ret
  exact ⟨rfl, (Below.refl _ _).alloc (Nat.le_refl _) _⟩
def putHi (x : Nat) (n : Int) : ByteArray := if 1 ≤ n ∧ n ≤ 8 then ⟨(outB (hiG x n.toNat) n.toNat).toArray⟩ else ⟨#[]⟩
def putLo (x : Nat) (n : Int) : ByteArray := if 1 ≤ n ∧ n ≤ 8 then ⟨(outB (loG x) n.toNat).toArray⟩ else ⟨#[]⟩
theorem putHi_yes {x n : Nat} (h1 : 1 ≤ n) (h8 : n ≤ 8) : putHi x n = ⟨(outB (hiG x n) n).toArray⟩ := by unfold putHi; rw [if_pos (by omega), Int.toNat_natCast]
theorem putLo_yes {x n : Nat} (h1 : 1 ≤ n) (h8 : n ≤ 8) : putLo x n = ⟨(outB (loG x) n).toArray⟩ := by unfold putLo; rw [if_pos (by omega), Int.toNat_natCast]
theorem putHi_no {x : Nat} {n : Int} (h : ¬ (1 ≤ n ∧ n ≤ 8)) : putHi x n = ⟨#[]⟩ := by unfold putHi; rw [if_neg h]
theorem putLo_no {x : Nat} {n : Int} (h : ¬ (1 ≤ n ∧ n ≤ 8)) : putLo x n = ⟨#[]⟩ := by unfold putLo; rw [if_neg h]
theorem ret_str {a b : ByteArray} (h : a = b) : Ending.returned (.string a) = .returned (.string b) := by rw [h]
set_option maxHeartbeats 400000 in
theorem putBig_any (x : Nat) (n : Int) (w : World) :
    Calls Tryz.prog 162 #[.int .u64 x, .int .i64 n] w fun e w' => e = .returned (.string (putHi x n)) ∧ Below w.heap.size w w' := by
  by_cases h : 1 ≤ n ∧ n ≤ 8
  · obtain ⟨h1, h2⟩ := h
    obtain ⟨n, rfl⟩ := Int.eq_ofNat_of_zero_le (show 0 ≤ n by omega)
    have HP := Lib.hid (putHi_yes (x := x) (n := n) (by omega) (by omega))
    go_enter Tryz.func162, Tryz.ntmps162
    go_wp2_with (fail)
    refine (writeHi x n _ (by omega) (by omega)).mono ?_; rintro e w' ⟨rfl, hb⟩
    go_wp2
    go_ret
    exact ⟨ret_str HP.out.symm, hb⟩
  · have HP := Lib.hid (putHi_no (x := x) h)
    have H := Lib.hid h; clear h
    go_enter Tryz.func162, Tryz.ntmps162
    go_wp2_with (fail)
    refine (writeNo x n _ _ H.out).mono ?_; rintro e w' ⟨rfl, hb⟩
    go_wp2
    go_ret
    exact ⟨ret_str HP.out.symm, hb⟩
set_option maxHeartbeats 400000 in
theorem putLittle_any (x : Nat) (n : Int) (w : World) :
    Calls Tryz.prog 240 #[.int .u64 x, .int .i64 n] w fun e w' => e = .returned (.string (putLo x n)) ∧ Below w.heap.size w w' := by
  by_cases h : 1 ≤ n ∧ n ≤ 8
  · obtain ⟨h1, h2⟩ := h
    obtain ⟨n, rfl⟩ := Int.eq_ofNat_of_zero_le (show 0 ≤ n by omega)
    have HP := Lib.hid (putLo_yes (x := x) (n := n) (by omega) (by omega))
    go_enter Tryz.func240, Tryz.ntmps240
    go_wp2_with (fail)
    refine (writeLo x n _ (by omega) (by omega)).mono ?_; rintro e w' ⟨rfl, hb⟩
    go_wp2
    go_ret
    exact ⟨ret_str HP.out.symm, hb⟩
  · have HP := Lib.hid (putLo_no (x := x) h)
    have H := Lib.hid h; clear h
    go_enter Tryz.func240, Tryz.ntmps240
    go_wp2_with (fail)
    refine (writeNo x n _ _ H.out).mono ?_; rintro e w' ⟨rfl, hb⟩
    go_wp2
    go_ret
    exact ⟨ret_str HP.out.symm, hb⟩
open Go.RowKit
theorem hiG_eq (x n k : Nat) : hiG x n k = x / 256 ^ (n - (k + 1)) := by unfold hiG; rw [pow8, show n - 1 - k = n - (k + 1) by omega]
open Go.RowKit
-- the table of four steps stands in its variable
structure Tab (w : World) : Prop where
  pos : 1 < w.heap.size
  cell : ∀ i, i < 16 → w.cell? ⟨1, i, none⟩ = some (.int .u32 (st4 i : Nat))
theorem Tab.below {w w' : World} (h : Tab w) (hb : Below w.heap.size w w') : Tab w' :=
  ⟨Nat.lt_of_lt_of_le h.pos hb.size, fun i hi => (hb.cell (p := ⟨1, i, none⟩) h.pos).trans (h.cell i hi)⟩
theorem xorU (a b : Nat) (ha : a < 4294967296) (hb : b < 4294967296) : bits BinOp.xor IntKind.u32 (a : Int) (b : Int) = ((a ^^^ b : Nat) : Int) := u32_xor_nat a b ha hb
theorem andU (x : Nat) (hx : x < 4294967296) : bits BinOp.and IntKind.u32 (x : Int) 15 = ((x % 16 : Nat) : Int) := by
  have h := u32_and_nat x 15 hx (by decide)
  rw [show x &&& 15 = x % 16 from Nat.and_two_pow_sub_one_eq_mod x 4] at h
  exact h
set_option maxHeartbeats 400000 in
theorem fourBits_any (x : Nat) (w : World) (hx : x < 4294967296) (ht : Tab w) :
    Calls Tryz.prog 263 #[.int .u32 x] w fun e w' => e = .returned (.int .u32 (st4 x : Nat)) ∧ w = w' := by
  have hc := ht.cell (x % 16) (by omega)
  have ha := andU x hx
  have hm : x % 16 < 16 := by omega
  have HX := Lib.hid ((xorU (x / 16) (st4 (x % 16)) (by omega) (st4_lt _ (by omega))).trans (congrArg (fun n : Nat => (n : Int)) (st4_table x).symm))
  go_enter Tryz.func263, Tryz.ntmps263
  go_wp2
  go_ret
  exact ⟨ret_int HX.out, rfl⟩
def lst (s : ByteArray) : List UInt8 := s.data.toList
theorem lst_len (s : ByteArray) : (lst s).length = s.size := by simp [lst]
theorem feed_next (s : ByteArray) (k w : Nat) (h : k < s.size) : feed ((lst s).take (k + 1)) w = st8 (feed ((lst s).take k) w ^^^ byt s k) := by
  rw [take_snoc _ _ (by rw [lst_len]; exact h), feed_append, feed_cons, feed_nil]; rfl
theorem feed_all (s : ByteArray) (w : Nat) : feed ((lst s).take s.size) w = feed (lst s) w := by
  rw [← lst_len, List.take_length]
theorem invU (x : Nat) (hx : x < 4294967296) : bits BinOp.xor IntKind.u32 IntKind.u32.max (x : Int) = ((inv x : Nat) : Int) := by
  have := xorU 4294967295 x (by decide) hx
  rw [← inv_eq, ← this]; rfl
set_option maxHeartbeats 400000 in
theorem more_any (s : ByteArray) (x : Nat) (w : World) (hs : s.size ≤ maxLen) (hx : x < 4294967296) (ht : Tab w) :
    Calls Tryz.prog 255 #[.int .u32 x, .string s] w fun e w' => e = .returned (.int .u32 (moreV x (lst s) : Nat)) ∧ w = w' := by
  unfold maxLen at hs
  have hi := invU x hx
  have hil := inv_lt x hx
  have HF := Lib.hid (show moreV x (lst s) = inv (feed (lst s) (inv x)) from rfl)
  generalize inv x = y at hi hil HF
  go_enter Tryz.func255, Tryz.ntmps255
  go_wp2
  clear hi
  go_loop [0, 10] (fun v i => ∃ k z : Nat, k ≤ s.size ∧ i = .int .i64 k ∧ v = .int .u32 z ∧ z = feed ((lst s).take k) y) (fun _ i => s.size - (intOf i).toNat)
  case atStart => exact ⟨0, y, Nat.zero_le _, rfl, rfl, rfl⟩
  case round =>
    obtain ⟨k, z, hk, rfl, rfl, hz⟩ := hrel
    have hlt := feed_lt ((lst s).take k) y hil
    rw [← hz] at hlt
    by_cases hks : k < s.size
    · have HN := Lib.hid (show st8 (z ^^^ byt s k) = feed ((lst s).take (k + 1)) y by rw [hz, feed_next s k y hks])
      clear hz
      have hbl := byt_lt s k
      have hx1 := xorU z (byt s k) hlt (by omega)
      have hx2 := x32 hlt (show byt s k < 4294967296 by omega)
      rw [byt_eq s k hks] at hx1 hx2 HN hbl
      have hbw : IntKind.u32.wrap (s[k].toNat : Int) = (s[k].toNat : Int) := by rw [IntKind.wrap_u32]; omega
      go_wp2_with (fail)
      refine (fourBits_any _ _ hx2 ht).mono ?_; rintro e w' ⟨rfl, rfl⟩
      go_wp2_with (fail)
      refine (fourBits_any _ _ (st4_lt _ hx2) ht).mono ?_; rintro e w' ⟨rfl, rfl⟩
      go_wp2
      go_round
      case rel => exact ⟨k + 1, _, by omega, by go_num, rfl, HN.out⟩
      case measure => simp [intOf]; omega
    · obtain rfl : k = s.size := by omega
      rw [feed_all] at hz
      have hj := invU z hlt
      rw [hz] at hj hlt
      have HZ := Lib.hid hz; clear hz
      have HJ := Lib.hid hj; clear hj
      go_wp2
      go_ret
      exact ⟨ret_int (by rw [HZ.out, HJ.out, HF.out]), rfl⟩
def sumV (s : ByteArray) : Nat := moreV 0 (lst s)
theorem sumV_lt (s : ByteArray) : sumV s < 4294967296 := moreV_lt _ _ (by decide)
set_option maxHeartbeats 400000 in
theorem sum_any (s : ByteArray) (w : World) (hs : s.size ≤ maxLen) (ht : Tab w) :
    Calls Tryz.prog 241 #[.string s] w fun e w' => e = .returned (.int .u32 (sumV s : Nat)) ∧ w = w' := by
  go_enter Tryz.func241, Tryz.ntmps241
  go_wp2_with (fail)
  refine (more_any s 0 _ hs (by decide) ht).mono ?_; rintro e w' ⟨rfl, rfl⟩
  go_wp2
  go_ret
  exact ⟨rfl, rfl⟩
def digV (s : ByteArray) : ByteArray := putLo (sumV s) 4
set_option maxHeartbeats 400000 in
theorem digest_any (s : ByteArray) (w : World) (hs : s.size ≤ maxLen) (ht : Tab w) :
    Calls Tryz.prog 221 #[.string s] w fun e w' => e = .returned (.string (digV s)) ∧ Below w.heap.size w w' := by
  have hl := sumV_lt s
  go_enter Tryz.func221, Tryz.ntmps221
  go_wp2_with (fail)
  refine (sum_any s _ hs ht).mono ?_; rintro e w' ⟨rfl, rfl⟩
  go_wp2_with (fail)
  refine (putLittle_any (sumV s) 4 _).mono ?_; rintro e w1 ⟨rfl, hb⟩
  go_wp2
  go_ret
  exact ⟨rfl, hb⟩
set_option maxHeartbeats 400000 in
theorem right_any (s d : ByteArray) (w : World) (hs : s.size ≤ maxLen) (ht : Tab w) :
    Calls Tryz.prog 245 #[.string s, .string d] w fun e w' => e = .returned (.bool (d.toList == (digV s).toList)) ∧ Below w.heap.size w w' := by
  go_enter Tryz.func245, Tryz.ntmps245
  go_wp2_with (fail)
  refine (digest_any s _ hs ht).mono ?_; rintro e w1 ⟨rfl, hb⟩
  go_wp2
  go_ret
  exact ⟨rfl, hb⟩
end Go.Proofs.YtglfjlbhjaemgaaGreatDoor
