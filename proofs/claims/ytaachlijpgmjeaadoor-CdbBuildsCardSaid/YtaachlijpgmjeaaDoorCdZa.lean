/- What the code writes for what a block can ask is that block. -/
import Derived.Test.YtaachlijpgmjeaaDoorCdZ
import Derived.Test.YtaachlijpgmjeaaDoorCdX
namespace Go.Proofs.YtaachlijpgmjeaaDoor
open Go.RowKit
theorem u64N_nat {n : Nat} (h : n < 18446744073709551616) : u64N (n : Int) = n := by
  unfold u64N
  rw [IntKind.wrap_u64]
  omega
theorem putL_none (l : List UInt8) (z : Nat) : putL l 0 (putHi z ((0 : Nat) : Int)) = l := by
  unfold putL
  rw [putHi_no (by omega)]
  simp
  rfl
theorem put_list (s : ByteArray) (k x n : Nat) : (put s k x n).data.toList = putL s.data.toList k (putHi x n) := setB_list _ _ _
theorem putHi_one (x : Nat) : (putHi x ((1 : Nat) : Int)).data.toList = [UInt8.ofNat x] := by
  rw [putHi_yes (n := 1) (by decide) (by decide)]
  simp [outB, hiG]
theorem putL_one (l : List UInt8) (k x : Nat) : putL l k (putHi x ((1 : Nat) : Int)) = l.take k ++ [UInt8.ofNat x] ++ l.drop (k + 1) := by
  unfold putL
  rw [putHi_one, putHi_len x 1 (by decide)]
theorem zero_list (b n : Nat) : (zeroS b n).data.toList = UInt8.ofNat b :: List.replicate n 0 := by
  unfold zeroS
  simp
def firstC (x : Ak) : Int := if x.op < 256 then x.op else x.op / 256
def actC (x : Ak) : Int := if x.op < 256 then 0 else x.op % 256
/-- What is said of an ask: its form is there, and what is written is its block. -/
def WrOk (x : Ak) : Prop := ∃ i, fmI (firstC x) = some i ∧ (actC x) = ((actC x).toNat : Int) ∧ (actC x).toNat < 256 ∧ wrS (fm i) x (actC x).toNat = makeS x
theorem wr_ok {x : Ak} {b i a : Nat} {op : Nat} (hop : x.op = (op : Int)) (hb : b = if op < 256 then op else op / 256) (ha : a = if op < 256 then 0 else op % 256) (hi : fmI (b : Int) = some i) (h : wrS (fm i) x a = makeS x) : WrOk x := by
  have e1 : firstC x = (b : Int) := by unfold firstC; rw [hop, hb]; split <;> split <;> omega
  have e2 : actC x = (a : Int) := by unfold actC; rw [hop, ha]; split <;> split <;> omega
  refine ⟨i, by rw [e1]; exact hi, by rw [e2]; rfl, by rw [e2, Int.toNat_natCast, ha]; split <;> omega, ?_⟩
  rw [e2]; exact h
theorem wr_bare0  : WrOk { zA with op := ((0 : Nat) : Int) } := by
  refine wr_ok (b := 0) (i := 0) (a := 0) (op := 0) rfl rfl rfl (by decide +kernel) ?_
  have e5 : wr5 (fm 0) { zA with op := ((0 : Nat) : Int) } 0 = [UInt8.ofNat 0, 0, 0, 0, 0, 0] := by rfl
  show ByteArray.mk (putL (putL (putL (wr5 (fm 0) { zA with op := ((0 : Nat) : Int) } 0) 0 (putHi (u64N 0) ((0 : Nat) : Int))) 0 (putHi (u64N 0) ((0 : Nat) : Int))) 0 (putHi (u64N 0) ((0 : Nat) : Int))).toArray = _
  rw [e5, putL_none, putL_none, putL_none]
  have em : makeS { zA with op := ((0 : Nat) : Int) } = zeroS 0 5 := by
    unfold makeS
    rw [show (firstA { zA with op := ((0 : Nat) : Int) }).toNat = 0 from rfl]
    dsimp only
    rfl
  rw [em]
  apply bytes_ext
  rw [zero_list]
  rfl
theorem wr_bare37  : WrOk { zA with op := ((37 : Nat) : Int) } := by
  refine wr_ok (b := 37) (i := 2) (a := 0) (op := 37) rfl rfl rfl (by decide +kernel) ?_
  have e5 : wr5 (fm 2) { zA with op := ((37 : Nat) : Int) } 0 = [UInt8.ofNat 37, 0, 0, 0, 0, 0, 0, 0, 0, 0] := by rfl
  show ByteArray.mk (putL (putL (putL (wr5 (fm 2) { zA with op := ((37 : Nat) : Int) } 0) 0 (putHi (u64N 0) ((0 : Nat) : Int))) 0 (putHi (u64N 0) ((0 : Nat) : Int))) 0 (putHi (u64N 0) ((0 : Nat) : Int))).toArray = _
  rw [e5, putL_none, putL_none, putL_none]
  have em : makeS { zA with op := ((37 : Nat) : Int) } = zeroS 37 9 := by
    unfold makeS
    rw [show (firstA { zA with op := ((37 : Nat) : Int) }).toNat = 37 from rfl]
    dsimp only
    rfl
  rw [em]
  apply bytes_ext
  rw [zero_list]
  rfl
theorem wr_bare53  : WrOk { zA with op := ((53 : Nat) : Int) } := by
  refine wr_ok (b := 53) (i := 7) (a := 0) (op := 53) rfl rfl rfl (by decide +kernel) ?_
  have e5 : wr5 (fm 7) { zA with op := ((53 : Nat) : Int) } 0 = [UInt8.ofNat 53, 0, 0, 0, 0, 0, 0, 0, 0, 0] := by rfl
  show ByteArray.mk (putL (putL (putL (wr5 (fm 7) { zA with op := ((53 : Nat) : Int) } 0) 0 (putHi (u64N 0) ((0 : Nat) : Int))) 0 (putHi (u64N 0) ((0 : Nat) : Int))) 0 (putHi (u64N 0) ((0 : Nat) : Int))).toArray = _
  rw [e5, putL_none, putL_none, putL_none]
  have em : makeS { zA with op := ((53 : Nat) : Int) } = zeroS 53 9 := by
    unfold makeS
    rw [show (firstA { zA with op := ((53 : Nat) : Int) }).toNat = 53 from rfl]
    dsimp only
    rfl
  rw [em]
  apply bytes_ext
  rw [zero_list]
  rfl
theorem wr_inq {p w : Nat} (hp : p < 256) (hw : w < 65536) : WrOk { zA with op := 18, page := ((256 + p : Nat) : Int), want := (w : Int) } := by
  refine wr_ok (b := 18) (i := 1) (a := 0) (op := 18) rfl rfl rfl (by decide +kernel) ?_
  have hpg : ¬ (((256 + p : Nat) : Int) = 0) := by omega
  have h8 : w8 ((256 + p : Nat) : Int) = UInt8.ofNat p := by
    unfold w8
    rw [IntKind.wrap_u8]
    congr 1
    omega
  have e5 : wr5 (fm 1) { zA with op := 18, page := ((256 + p : Nat) : Int), want := (w : Int) } 0 = [UInt8.ofNat 18, UInt8.ofNat 1, UInt8.ofNat p, 0, 0, 0] := by
    show (if (0 : Int) = 0 then (if ((256 + p : Nat) : Int) = 0 then _ else ((_ : List UInt8).set 1 _).set 2 (w8 ((256 + p : Nat) : Int))) else _) = _
    rw [if_pos rfl, if_neg hpg, h8, show wr1 (fm 1) { zA with op := 18, page := ((256 + p : Nat) : Int), want := (w : Int) } 0 ||| (fm 1).page = 1 by unfold wr1; rw [if_neg (show ¬ (zA.fu = true) by decide)]; decide +kernel, show wr3 (fm 1) { zA with op := 18, page := ((256 + p : Nat) : Int), want := (w : Int) } 0 = [UInt8.ofNat 18, 0, 0, 0, 0, 0] from rfl]
    rfl
  show ByteArray.mk (putL (putL (putL (wr5 (fm 1) { zA with op := 18, page := ((256 + p : Nat) : Int), want := (w : Int) } 0) 0 (putHi (u64N 0) ((0 : Nat) : Int))) 0 (putHi (u64N 0) ((0 : Nat) : Int))) 3 (putHi (u64N (w : Int)) ((2 : Nat) : Int))).toArray = _
  rw [e5, u64N_nat (n := w) (by omega), putL_none, putL_none]
  have em : makeS { zA with op := 18, page := ((256 + p : Nat) : Int), want := (w : Int) } = put (put (put (zeroS 18 5) 1 1 1) 2 p 1) 3 w 2 := by
    unfold makeS
    rw [show (firstA { zA with op := 18, page := ((256 + p : Nat) : Int), want := (w : Int) }).toNat = 18 from rfl]
    dsimp only
    rw [if_pos rfl, if_pos (by omega), show (((256 + p : Nat) : Int) - 256).toNat = p by omega, Int.toNat_natCast]
    rfl
  rw [em]
  apply bytes_ext
  rw [put_list, put_list, put_list, zero_list, putL_one, putL_one]
  rfl
theorem wr_inq0 {w : Nat} (hw : w < 65536) : WrOk { zA with op := 18, want := (w : Int) } := by
  refine wr_ok (b := 18) (i := 1) (a := 0) (op := 18) rfl rfl rfl (by decide +kernel) ?_
  have e5 : wr5 (fm 1) { zA with op := 18, want := (w : Int) } 0 = [UInt8.ofNat 18, 0, 0, 0, 0, 0] := by rfl
  show ByteArray.mk (putL (putL (putL (wr5 (fm 1) { zA with op := 18, want := (w : Int) } 0) 0 (putHi (u64N 0) ((0 : Nat) : Int))) 0 (putHi (u64N 0) ((0 : Nat) : Int))) 3 (putHi (u64N (w : Int)) ((2 : Nat) : Int))).toArray = _
  rw [e5, u64N_nat (n := w) (by omega), putL_none, putL_none]
  have em : makeS { zA with op := 18, want := (w : Int) } = put (zeroS 18 5) 3 w 2 := by
    unfold makeS
    rw [show (firstA { zA with op := 18, want := (w : Int) }).toNat = 18 from rfl]
    dsimp only
    rw [if_pos rfl, if_neg (by decide), Int.toNat_natCast]
    rfl
  rw [em]
  apply bytes_ext
  rw [put_list, zero_list]
  rfl
theorem wr_ten40f {l k : Nat} (hl : l < 4294967296) (hk : k < 65536) : WrOk { zA with op := ((40 : Nat) : Int), lba := (l : Int), blk := (k : Int), fu := false } := by
  refine wr_ok (b := 40) (i := 3) (a := 0) (op := 40) rfl rfl rfl (by decide +kernel) ?_
  have e5 : wr5 (fm 3) { zA with op := ((40 : Nat) : Int), lba := (l : Int), blk := (k : Int), fu := false } 0 = [UInt8.ofNat 40, UInt8.ofNat 0, 0, 0, 0, 0, 0, 0, 0, 0] := by rfl
  show ByteArray.mk (putL (putL (putL (wr5 (fm 3) { zA with op := ((40 : Nat) : Int), lba := (l : Int), blk := (k : Int), fu := false } 0) 2 (putHi (u64N (l : Int)) ((4 : Nat) : Int))) 7 (putHi (u64N (k : Int)) ((2 : Nat) : Int))) 0 (putHi (u64N 0) ((0 : Nat) : Int))).toArray = _
  rw [e5, u64N_nat (n := l) (by omega), u64N_nat (n := k) (by omega), putL_none]
  have em : makeS { zA with op := ((40 : Nat) : Int), lba := (l : Int), blk := (k : Int), fu := false } = put (put (put (zeroS 40 9) 1 0 1) 2 l 4) 7 k 2 := by
    unfold makeS
    rw [show (firstA { zA with op := ((40 : Nat) : Int), lba := (l : Int), blk := (k : Int), fu := false }).toNat = 40 from rfl]
    dsimp only
    rw [if_neg (show ¬ (40 = 18) by decide), if_pos (show 40 = 40 ∨ 40 = 42 by decide), Int.toNat_natCast, Int.toNat_natCast]
    rfl
  rw [em]
  apply bytes_ext
  rw [put_list, put_list, put_list, zero_list, putL_one]
  rfl
theorem wr_ten42f {l k : Nat} (hl : l < 4294967296) (hk : k < 65536) : WrOk { zA with op := ((42 : Nat) : Int), lba := (l : Int), blk := (k : Int), fu := false } := by
  refine wr_ok (b := 42) (i := 5) (a := 0) (op := 42) rfl rfl rfl (by decide +kernel) ?_
  have e5 : wr5 (fm 5) { zA with op := ((42 : Nat) : Int), lba := (l : Int), blk := (k : Int), fu := false } 0 = [UInt8.ofNat 42, UInt8.ofNat 0, 0, 0, 0, 0, 0, 0, 0, 0] := by rfl
  show ByteArray.mk (putL (putL (putL (wr5 (fm 5) { zA with op := ((42 : Nat) : Int), lba := (l : Int), blk := (k : Int), fu := false } 0) 2 (putHi (u64N (l : Int)) ((4 : Nat) : Int))) 7 (putHi (u64N (k : Int)) ((2 : Nat) : Int))) 0 (putHi (u64N 0) ((0 : Nat) : Int))).toArray = _
  rw [e5, u64N_nat (n := l) (by omega), u64N_nat (n := k) (by omega), putL_none]
  have em : makeS { zA with op := ((42 : Nat) : Int), lba := (l : Int), blk := (k : Int), fu := false } = put (put (put (zeroS 42 9) 1 0 1) 2 l 4) 7 k 2 := by
    unfold makeS
    rw [show (firstA { zA with op := ((42 : Nat) : Int), lba := (l : Int), blk := (k : Int), fu := false }).toNat = 42 from rfl]
    dsimp only
    rw [if_neg (show ¬ (42 = 18) by decide), if_pos (show 42 = 40 ∨ 42 = 42 by decide), Int.toNat_natCast, Int.toNat_natCast]
    rfl
  rw [em]
  apply bytes_ext
  rw [put_list, put_list, put_list, zero_list, putL_one]
  rfl
theorem wr_ten42t {l k : Nat} (hl : l < 4294967296) (hk : k < 65536) : WrOk { zA with op := ((42 : Nat) : Int), lba := (l : Int), blk := (k : Int), fu := true } := by
  refine wr_ok (b := 42) (i := 5) (a := 0) (op := 42) rfl rfl rfl (by decide +kernel) ?_
  have e5 : wr5 (fm 5) { zA with op := ((42 : Nat) : Int), lba := (l : Int), blk := (k : Int), fu := true } 0 = [UInt8.ofNat 42, UInt8.ofNat 8, 0, 0, 0, 0, 0, 0, 0, 0] := by rfl
  show ByteArray.mk (putL (putL (putL (wr5 (fm 5) { zA with op := ((42 : Nat) : Int), lba := (l : Int), blk := (k : Int), fu := true } 0) 2 (putHi (u64N (l : Int)) ((4 : Nat) : Int))) 7 (putHi (u64N (k : Int)) ((2 : Nat) : Int))) 0 (putHi (u64N 0) ((0 : Nat) : Int))).toArray = _
  rw [e5, u64N_nat (n := l) (by omega), u64N_nat (n := k) (by omega), putL_none]
  have em : makeS { zA with op := ((42 : Nat) : Int), lba := (l : Int), blk := (k : Int), fu := true } = put (put (put (zeroS 42 9) 1 8 1) 2 l 4) 7 k 2 := by
    unfold makeS
    rw [show (firstA { zA with op := ((42 : Nat) : Int), lba := (l : Int), blk := (k : Int), fu := true }).toNat = 42 from rfl]
    dsimp only
    rw [if_neg (show ¬ (42 = 18) by decide), if_pos (show 42 = 40 ∨ 42 = 42 by decide), Int.toNat_natCast, Int.toNat_natCast]
    rfl
  rw [em]
  apply bytes_ext
  rw [put_list, put_list, put_list, zero_list, putL_one]
  rfl
theorem wr_six136f {l k : Nat} (hl : l < 2147483648) (hk : k < 2147483648) : WrOk { zA with op := ((136 : Nat) : Int), lba := (l : Int), blk := (k : Int), fu := false } := by
  refine wr_ok (b := 136) (i := 4) (a := 0) (op := 136) rfl rfl rfl (by decide +kernel) ?_
  have e5 : wr5 (fm 4) { zA with op := ((136 : Nat) : Int), lba := (l : Int), blk := (k : Int), fu := false } 0 = [UInt8.ofNat 136, UInt8.ofNat 0, 0, 0, 0, 0, 0, 0, 0, 0, 0, 0, 0, 0, 0, 0] := by rfl
  show ByteArray.mk (putL (putL (putL (wr5 (fm 4) { zA with op := ((136 : Nat) : Int), lba := (l : Int), blk := (k : Int), fu := false } 0) 2 (putHi (u64N (l : Int)) ((8 : Nat) : Int))) 10 (putHi (u64N (k : Int)) ((4 : Nat) : Int))) 0 (putHi (u64N 0) ((0 : Nat) : Int))).toArray = _
  rw [e5, u64N_nat (n := l) (by omega), u64N_nat (n := k) (by omega), putL_none]
  have em : makeS { zA with op := ((136 : Nat) : Int), lba := (l : Int), blk := (k : Int), fu := false } = put (put (put (zeroS 136 15) 1 0 1) 2 l 8) 10 k 4 := by
    unfold makeS
    rw [show (firstA { zA with op := ((136 : Nat) : Int), lba := (l : Int), blk := (k : Int), fu := false }).toNat = 136 from rfl]
    dsimp only
    rw [if_neg (show ¬ (136 = 18) by decide), if_neg (show ¬ (136 = 40 ∨ 136 = 42) by decide), if_pos (show 136 = 136 ∨ 136 = 138 by decide), Int.toNat_natCast, Int.toNat_natCast]
    rfl
  rw [em]
  apply bytes_ext
  rw [put_list, put_list, put_list, zero_list, putL_one]
  rfl
theorem wr_six138f {l k : Nat} (hl : l < 2147483648) (hk : k < 2147483648) : WrOk { zA with op := ((138 : Nat) : Int), lba := (l : Int), blk := (k : Int), fu := false } := by
  refine wr_ok (b := 138) (i := 6) (a := 0) (op := 138) rfl rfl rfl (by decide +kernel) ?_
  have e5 : wr5 (fm 6) { zA with op := ((138 : Nat) : Int), lba := (l : Int), blk := (k : Int), fu := false } 0 = [UInt8.ofNat 138, UInt8.ofNat 0, 0, 0, 0, 0, 0, 0, 0, 0, 0, 0, 0, 0, 0, 0] := by rfl
  show ByteArray.mk (putL (putL (putL (wr5 (fm 6) { zA with op := ((138 : Nat) : Int), lba := (l : Int), blk := (k : Int), fu := false } 0) 2 (putHi (u64N (l : Int)) ((8 : Nat) : Int))) 10 (putHi (u64N (k : Int)) ((4 : Nat) : Int))) 0 (putHi (u64N 0) ((0 : Nat) : Int))).toArray = _
  rw [e5, u64N_nat (n := l) (by omega), u64N_nat (n := k) (by omega), putL_none]
  have em : makeS { zA with op := ((138 : Nat) : Int), lba := (l : Int), blk := (k : Int), fu := false } = put (put (put (zeroS 138 15) 1 0 1) 2 l 8) 10 k 4 := by
    unfold makeS
    rw [show (firstA { zA with op := ((138 : Nat) : Int), lba := (l : Int), blk := (k : Int), fu := false }).toNat = 138 from rfl]
    dsimp only
    rw [if_neg (show ¬ (138 = 18) by decide), if_neg (show ¬ (138 = 40 ∨ 138 = 42) by decide), if_pos (show 138 = 136 ∨ 138 = 138 by decide), Int.toNat_natCast, Int.toNat_natCast]
    rfl
  rw [em]
  apply bytes_ext
  rw [put_list, put_list, put_list, zero_list, putL_one]
  rfl
theorem wr_six138t {l k : Nat} (hl : l < 2147483648) (hk : k < 2147483648) : WrOk { zA with op := ((138 : Nat) : Int), lba := (l : Int), blk := (k : Int), fu := true } := by
  refine wr_ok (b := 138) (i := 6) (a := 0) (op := 138) rfl rfl rfl (by decide +kernel) ?_
  have e5 : wr5 (fm 6) { zA with op := ((138 : Nat) : Int), lba := (l : Int), blk := (k : Int), fu := true } 0 = [UInt8.ofNat 138, UInt8.ofNat 8, 0, 0, 0, 0, 0, 0, 0, 0, 0, 0, 0, 0, 0, 0] := by rfl
  show ByteArray.mk (putL (putL (putL (wr5 (fm 6) { zA with op := ((138 : Nat) : Int), lba := (l : Int), blk := (k : Int), fu := true } 0) 2 (putHi (u64N (l : Int)) ((8 : Nat) : Int))) 10 (putHi (u64N (k : Int)) ((4 : Nat) : Int))) 0 (putHi (u64N 0) ((0 : Nat) : Int))).toArray = _
  rw [e5, u64N_nat (n := l) (by omega), u64N_nat (n := k) (by omega), putL_none]
  have em : makeS { zA with op := ((138 : Nat) : Int), lba := (l : Int), blk := (k : Int), fu := true } = put (put (put (zeroS 138 15) 1 8 1) 2 l 8) 10 k 4 := by
    unfold makeS
    rw [show (firstA { zA with op := ((138 : Nat) : Int), lba := (l : Int), blk := (k : Int), fu := true }).toNat = 138 from rfl]
    dsimp only
    rw [if_neg (show ¬ (138 = 18) by decide), if_neg (show ¬ (138 = 40 ∨ 138 = 42) by decide), if_pos (show 138 = 136 ∨ 138 = 138 by decide), Int.toNat_natCast, Int.toNat_natCast]
    rfl
  rw [em]
  apply bytes_ext
  rw [put_list, put_list, put_list, zero_list, putL_one]
  rfl
theorem wr_six147 {l k : Nat} (hl : l < 2147483648) (hk : k < 2147483648) : WrOk { zA with op := ((147 : Nat) : Int), lba := (l : Int), blk := (k : Int), fu := false } := by
  refine wr_ok (b := 147) (i := 10) (a := 0) (op := 147) rfl rfl rfl (by decide +kernel) ?_
  have e5 : wr5 (fm 10) { zA with op := ((147 : Nat) : Int), lba := (l : Int), blk := (k : Int), fu := false } 0 = [UInt8.ofNat 147, UInt8.ofNat 1, 0, 0, 0, 0, 0, 0, 0, 0, 0, 0, 0, 0, 0, 0] := by rfl
  show ByteArray.mk (putL (putL (putL (wr5 (fm 10) { zA with op := ((147 : Nat) : Int), lba := (l : Int), blk := (k : Int), fu := false } 0) 2 (putHi (u64N (l : Int)) ((8 : Nat) : Int))) 10 (putHi (u64N (k : Int)) ((4 : Nat) : Int))) 0 (putHi (u64N 0) ((0 : Nat) : Int))).toArray = _
  rw [e5, u64N_nat (n := l) (by omega), u64N_nat (n := k) (by omega), putL_none]
  have em : makeS { zA with op := ((147 : Nat) : Int), lba := (l : Int), blk := (k : Int), fu := false } = put (put (put (zeroS 147 15) 1 1 1) 2 l 8) 10 k 4 := by
    unfold makeS
    rw [show (firstA { zA with op := ((147 : Nat) : Int), lba := (l : Int), blk := (k : Int), fu := false }).toNat = 147 from rfl]
    dsimp only
    rw [if_neg (show ¬ (147 = 18) by decide), if_neg (show ¬ (147 = 40 ∨ 147 = 42) by decide), if_neg (show ¬ (147 = 136 ∨ 147 = 138) by decide), if_pos (show 147 = 147 by decide), Int.toNat_natCast, Int.toNat_natCast]
    rfl
  rw [em]
  apply bytes_ext
  rw [put_list, put_list, put_list, zero_list, putL_one]
  rfl
theorem wr_cmp {l k : Nat} (hl : l < 2147483648) (hk : k < 256) : WrOk { zA with op := 137, lba := (l : Int), blk := (k : Int) } := by
  refine wr_ok (b := 137) (i := 9) (a := 0) (op := 137) rfl rfl rfl (by decide +kernel) ?_
  have e5 : wr5 (fm 9) { zA with op := 137, lba := (l : Int), blk := (k : Int) } 0 = [UInt8.ofNat 137, 0, 0, 0, 0, 0, 0, 0, 0, 0, 0, 0, 0, 0, 0, 0] := by rfl
  show ByteArray.mk (putL (putL (putL (wr5 (fm 9) { zA with op := 137, lba := (l : Int), blk := (k : Int) } 0) 2 (putHi (u64N (l : Int)) ((8 : Nat) : Int))) 13 (putHi (u64N (k : Int)) ((1 : Nat) : Int))) 0 (putHi (u64N 0) ((0 : Nat) : Int))).toArray = _
  rw [e5, u64N_nat (n := l) (by omega), u64N_nat (n := k) (by omega), putL_none]
  have em : makeS { zA with op := 137, lba := (l : Int), blk := (k : Int) } = put (put (zeroS 137 15) 2 l 8) 13 k 1 := by
    unfold makeS
    rw [show (firstA { zA with op := 137, lba := (l : Int), blk := (k : Int) }).toNat = 137 from rfl]
    dsimp only
    rw [if_neg (show ¬ (137 = 18) by decide), if_neg (show ¬ (137 = 40 ∨ 137 = 42) by decide), if_neg (show ¬ (137 = 136 ∨ 137 = 138) by decide), if_neg (show ¬ (137 = 147) by decide), if_pos (show 137 = 137 by decide), Int.toNat_natCast, Int.toNat_natCast]
    rfl
  rw [em]
  apply bytes_ext
  rw [put_list, put_list, zero_list]
  rfl
theorem wr_unm {w : Nat} (hw : w < 65536) : WrOk { zA with op := 66, want := (w : Int) } := by
  refine wr_ok (b := 66) (i := 8) (a := 0) (op := 66) rfl rfl rfl (by decide +kernel) ?_
  have e5 : wr5 (fm 8) { zA with op := 66, want := (w : Int) } 0 = [UInt8.ofNat 66, 0, 0, 0, 0, 0, 0, 0, 0, 0] := by rfl
  show ByteArray.mk (putL (putL (putL (wr5 (fm 8) { zA with op := 66, want := (w : Int) } 0) 0 (putHi (u64N 0) ((0 : Nat) : Int))) 0 (putHi (u64N 0) ((0 : Nat) : Int))) 7 (putHi (u64N (w : Int)) ((2 : Nat) : Int))).toArray = _
  rw [e5, u64N_nat (n := w) (by omega), putL_none, putL_none]
  have em : makeS { zA with op := 66, want := (w : Int) } = put (zeroS 66 9) 7 w 2 := by
    unfold makeS
    rw [show (firstA { zA with op := 66, want := (w : Int) }).toNat = 66 from rfl]
    dsimp only
    rw [if_neg (show ¬ (66 = 18) by decide), if_neg (show ¬ (66 = 40 ∨ 66 = 42) by decide), if_neg (show ¬ (66 = 136 ∨ 66 = 138) by decide), if_neg (show ¬ (66 = 147) by decide), if_neg (show ¬ (66 = 137) by decide), if_pos (show 66 = 66 by decide), Int.toNat_natCast]
    rfl
  rw [em]
  apply bytes_ext
  rw [put_list, zero_list]
  rfl
theorem wr_lun {w : Nat} (hw : w < 4294967296) : WrOk { zA with op := 160, want := (w : Int) } := by
  refine wr_ok (b := 160) (i := 13) (a := 0) (op := 160) rfl rfl rfl (by decide +kernel) ?_
  have e5 : wr5 (fm 13) { zA with op := 160, want := (w : Int) } 0 = [UInt8.ofNat 160, 0, 0, 0, 0, 0, 0, 0, 0, 0, 0, 0] := by rfl
  show ByteArray.mk (putL (putL (putL (wr5 (fm 13) { zA with op := 160, want := (w : Int) } 0) 0 (putHi (u64N 0) ((0 : Nat) : Int))) 0 (putHi (u64N 0) ((0 : Nat) : Int))) 6 (putHi (u64N (w : Int)) ((4 : Nat) : Int))).toArray = _
  rw [e5, u64N_nat (n := w) (by omega), putL_none, putL_none]
  have em : makeS { zA with op := 160, want := (w : Int) } = put (zeroS 160 11) 6 w 4 := by
    unfold makeS
    rw [show (firstA { zA with op := 160, want := (w : Int) }).toNat = 160 from rfl]
    dsimp only
    rw [if_neg (show ¬ (160 = 18) by decide), if_neg (show ¬ (160 = 40 ∨ 160 = 42) by decide), if_neg (show ¬ (160 = 136 ∨ 160 = 138) by decide), if_neg (show ¬ (160 = 147) by decide), if_neg (show ¬ (160 = 137) by decide), if_neg (show ¬ (160 = 66) by decide), if_pos (show 160 = 160 by decide), Int.toNat_natCast]
    rfl
  rw [em]
  apply bytes_ext
  rw [put_list, zero_list]
  rfl
theorem wr_rin0 {w : Nat} (hw : w < 65536) : WrOk { zA with op := ((256 * 94 + 0 : Nat) : Int), want := (w : Int) } := by
  refine wr_ok (b := 94) (i := 11) (a := 0) (op := (256 * 94 + 0)) rfl rfl rfl (by decide +kernel) ?_
  have e5 : wr5 (fm 11) { zA with op := ((256 * 94 + 0 : Nat) : Int), want := (w : Int) } 0 = [UInt8.ofNat 94, UInt8.ofNat 0, 0, 0, 0, 0, 0, 0, 0, 0] := by rfl
  show ByteArray.mk (putL (putL (putL (wr5 (fm 11) { zA with op := ((256 * 94 + 0 : Nat) : Int), want := (w : Int) } 0) 0 (putHi (u64N 0) ((0 : Nat) : Int))) 0 (putHi (u64N 0) ((0 : Nat) : Int))) 7 (putHi (u64N (w : Int)) ((2 : Nat) : Int))).toArray = _
  rw [e5, u64N_nat (n := w) (by omega), putL_none, putL_none]
  have em : makeS { zA with op := ((256 * 94 + 0 : Nat) : Int), want := (w : Int) } = put (put (zeroS 94 9) 1 0 1) 7 w 2 := by
    unfold makeS
    rw [show (firstA { zA with op := ((256 * 94 + 0 : Nat) : Int), want := (w : Int) }).toNat = 94 from rfl]
    dsimp only
    rw [if_neg (show ¬ (94 = 18) by decide), if_neg (show ¬ (94 = 40 ∨ 94 = 42) by decide), if_neg (show ¬ (94 = 136 ∨ 94 = 138) by decide), if_neg (show ¬ (94 = 147) by decide), if_neg (show ¬ (94 = 137) by decide), if_neg (show ¬ (94 = 66) by decide), if_neg (show ¬ (94 = 160) by decide), if_pos (show 94 = 94 by decide), Int.toNat_natCast]
    rfl
  rw [em]
  apply bytes_ext
  rw [put_list, put_list, zero_list, putL_one]
  rfl
theorem wr_rin1 {w : Nat} (hw : w < 65536) : WrOk { zA with op := ((256 * 94 + 1 : Nat) : Int), want := (w : Int) } := by
  refine wr_ok (b := 94) (i := 11) (a := 1) (op := (256 * 94 + 1)) rfl rfl rfl (by decide +kernel) ?_
  have e5 : wr5 (fm 11) { zA with op := ((256 * 94 + 1 : Nat) : Int), want := (w : Int) } 1 = [UInt8.ofNat 94, UInt8.ofNat 1, 0, 0, 0, 0, 0, 0, 0, 0] := by rfl
  show ByteArray.mk (putL (putL (putL (wr5 (fm 11) { zA with op := ((256 * 94 + 1 : Nat) : Int), want := (w : Int) } 1) 0 (putHi (u64N 0) ((0 : Nat) : Int))) 0 (putHi (u64N 0) ((0 : Nat) : Int))) 7 (putHi (u64N (w : Int)) ((2 : Nat) : Int))).toArray = _
  rw [e5, u64N_nat (n := w) (by omega), putL_none, putL_none]
  have em : makeS { zA with op := ((256 * 94 + 1 : Nat) : Int), want := (w : Int) } = put (put (zeroS 94 9) 1 1 1) 7 w 2 := by
    unfold makeS
    rw [show (firstA { zA with op := ((256 * 94 + 1 : Nat) : Int), want := (w : Int) }).toNat = 94 from rfl]
    dsimp only
    rw [if_neg (show ¬ (94 = 18) by decide), if_neg (show ¬ (94 = 40 ∨ 94 = 42) by decide), if_neg (show ¬ (94 = 136 ∨ 94 = 138) by decide), if_neg (show ¬ (94 = 147) by decide), if_neg (show ¬ (94 = 137) by decide), if_neg (show ¬ (94 = 66) by decide), if_neg (show ¬ (94 = 160) by decide), if_pos (show 94 = 94 by decide), Int.toNat_natCast]
    rfl
  rw [em]
  apply bytes_ext
  rw [put_list, put_list, zero_list, putL_one]
  rfl
theorem wr_rout0  : WrOk { zA with op := ((256 * 95 + 0 : Nat) : Int), want := 24 } := by
  refine wr_ok (b := 95) (i := 12) (a := 0) (op := (256 * 95 + 0)) rfl rfl rfl (by decide +kernel) ?_
  have e5 : wr5 (fm 12) { zA with op := ((256 * 95 + 0 : Nat) : Int), want := 24 } 0 = [UInt8.ofNat 95, UInt8.ofNat 0, 0, 0, 0, 0, 0, 0, 0, 0] := by rfl
  show ByteArray.mk (putL (putL (putL (wr5 (fm 12) { zA with op := ((256 * 95 + 0 : Nat) : Int), want := 24 } 0) 0 (putHi (u64N 0) ((0 : Nat) : Int))) 0 (putHi (u64N 0) ((0 : Nat) : Int))) 5 (putHi (u64N ((24 : Nat) : Int)) ((4 : Nat) : Int))).toArray = _
  rw [e5, u64N_nat (n := 24) (by omega), putL_none, putL_none]
  have em : makeS { zA with op := ((256 * 95 + 0 : Nat) : Int), want := 24 } = put (put (put (zeroS 95 9) 1 0 1) 2 0 1) 5 24 4 := by
    unfold makeS
    rw [show (firstA { zA with op := ((256 * 95 + 0 : Nat) : Int), want := 24 }).toNat = 95 from rfl]
    dsimp only
    rw [if_neg (show ¬ (95 = 18) by decide), if_neg (show ¬ (95 = 40 ∨ 95 = 42) by decide), if_neg (show ¬ (95 = 136 ∨ 95 = 138) by decide), if_neg (show ¬ (95 = 147) by decide), if_neg (show ¬ (95 = 137) by decide), if_neg (show ¬ (95 = 66) by decide), if_neg (show ¬ (95 = 160) by decide), if_neg (show ¬ (95 = 94) by decide), if_pos (show 95 = 95 by decide)]
    rfl
  rw [em]
  apply bytes_ext
  rw [put_list, put_list, put_list, zero_list, putL_one, putL_one]
  rfl
theorem wr_rout3  : WrOk { zA with op := ((256 * 95 + 3 : Nat) : Int), want := 24 } := by
  refine wr_ok (b := 95) (i := 12) (a := 3) (op := (256 * 95 + 3)) rfl rfl rfl (by decide +kernel) ?_
  have e5 : wr5 (fm 12) { zA with op := ((256 * 95 + 3 : Nat) : Int), want := 24 } 3 = [UInt8.ofNat 95, UInt8.ofNat 3, 0, 0, 0, 0, 0, 0, 0, 0] := by rfl
  show ByteArray.mk (putL (putL (putL (wr5 (fm 12) { zA with op := ((256 * 95 + 3 : Nat) : Int), want := 24 } 3) 0 (putHi (u64N 0) ((0 : Nat) : Int))) 0 (putHi (u64N 0) ((0 : Nat) : Int))) 5 (putHi (u64N ((24 : Nat) : Int)) ((4 : Nat) : Int))).toArray = _
  rw [e5, u64N_nat (n := 24) (by omega), putL_none, putL_none]
  have em : makeS { zA with op := ((256 * 95 + 3 : Nat) : Int), want := 24 } = put (put (put (zeroS 95 9) 1 3 1) 2 0 1) 5 24 4 := by
    unfold makeS
    rw [show (firstA { zA with op := ((256 * 95 + 3 : Nat) : Int), want := 24 }).toNat = 95 from rfl]
    dsimp only
    rw [if_neg (show ¬ (95 = 18) by decide), if_neg (show ¬ (95 = 40 ∨ 95 = 42) by decide), if_neg (show ¬ (95 = 136 ∨ 95 = 138) by decide), if_neg (show ¬ (95 = 147) by decide), if_neg (show ¬ (95 = 137) by decide), if_neg (show ¬ (95 = 66) by decide), if_neg (show ¬ (95 = 160) by decide), if_neg (show ¬ (95 = 94) by decide), if_pos (show 95 = 95 by decide)]
    rfl
  rw [em]
  apply bytes_ext
  rw [put_list, put_list, put_list, zero_list, putL_one, putL_one]
  rfl
theorem wr_rout6  : WrOk { zA with op := ((256 * 95 + 6 : Nat) : Int), want := 24 } := by
  refine wr_ok (b := 95) (i := 12) (a := 6) (op := (256 * 95 + 6)) rfl rfl rfl (by decide +kernel) ?_
  have e5 : wr5 (fm 12) { zA with op := ((256 * 95 + 6 : Nat) : Int), want := 24 } 6 = [UInt8.ofNat 95, UInt8.ofNat 6, 0, 0, 0, 0, 0, 0, 0, 0] := by rfl
  show ByteArray.mk (putL (putL (putL (wr5 (fm 12) { zA with op := ((256 * 95 + 6 : Nat) : Int), want := 24 } 6) 0 (putHi (u64N 0) ((0 : Nat) : Int))) 0 (putHi (u64N 0) ((0 : Nat) : Int))) 5 (putHi (u64N ((24 : Nat) : Int)) ((4 : Nat) : Int))).toArray = _
  rw [e5, u64N_nat (n := 24) (by omega), putL_none, putL_none]
  have em : makeS { zA with op := ((256 * 95 + 6 : Nat) : Int), want := 24 } = put (put (put (zeroS 95 9) 1 6 1) 2 0 1) 5 24 4 := by
    unfold makeS
    rw [show (firstA { zA with op := ((256 * 95 + 6 : Nat) : Int), want := 24 }).toNat = 95 from rfl]
    dsimp only
    rw [if_neg (show ¬ (95 = 18) by decide), if_neg (show ¬ (95 = 40 ∨ 95 = 42) by decide), if_neg (show ¬ (95 = 136 ∨ 95 = 138) by decide), if_neg (show ¬ (95 = 147) by decide), if_neg (show ¬ (95 = 137) by decide), if_neg (show ¬ (95 = 66) by decide), if_neg (show ¬ (95 = 160) by decide), if_neg (show ¬ (95 = 94) by decide), if_pos (show 95 = 95 by decide)]
    rfl
  rw [em]
  apply bytes_ext
  rw [put_list, put_list, put_list, zero_list, putL_one, putL_one]
  rfl
theorem wr_rty1 {t : Int} (ht : 1 ≤ t ∧ t ≤ 6) : WrOk { zA with op := ((256 * 95 + 1 : Nat) : Int), want := 24, ty := t } := by
  refine wr_ok (b := 95) (i := 12) (a := 1) (op := (256 * 95 + 1)) rfl rfl rfl (by decide +kernel) ?_
  obtain ⟨_, n1, n8⟩ := num_typ ht
  have hty : ¬ (t = 0) := by omega
  have h8 : w8 (numN t) = UInt8.ofNat (numN t).toNat := by
    unfold w8
    rw [IntKind.wrap_u8]
    congr 1
    omega
  have e5 : wr5 (fm 12) { zA with op := ((256 * 95 + 1 : Nat) : Int), want := 24, ty := t } 1 = [UInt8.ofNat 95, UInt8.ofNat 1, UInt8.ofNat (numN t).toNat, 0, 0, 0, 0, 0, 0, 0] := by
    show (if t = 0 then _ else (_ : List UInt8).set 2 (w8 (numN t))) = _
    rw [if_neg hty, h8]
    rfl
  show ByteArray.mk (putL (putL (putL (wr5 (fm 12) { zA with op := ((256 * 95 + 1 : Nat) : Int), want := 24, ty := t } 1) 0 (putHi (u64N 0) ((0 : Nat) : Int))) 0 (putHi (u64N 0) ((0 : Nat) : Int))) 5 (putHi (u64N ((24 : Nat) : Int)) ((4 : Nat) : Int))).toArray = _
  rw [e5, u64N_nat (n := 24) (by omega), putL_none, putL_none]
  have em : makeS { zA with op := ((256 * 95 + 1 : Nat) : Int), want := 24, ty := t } = put (put (put (zeroS 95 9) 1 1 1) 2 (numN t).toNat 1) 5 24 4 := by
    unfold makeS
    rw [show (firstA { zA with op := ((256 * 95 + 1 : Nat) : Int), want := 24, ty := t }).toNat = 95 from rfl]
    dsimp only
    rw [if_neg (show ¬ (95 = 18) by decide), if_neg (show ¬ (95 = 40 ∨ 95 = 42) by decide), if_neg (show ¬ (95 = 136 ∨ 95 = 138) by decide), if_neg (show ¬ (95 = 147) by decide), if_neg (show ¬ (95 = 137) by decide), if_neg (show ¬ (95 = 66) by decide), if_neg (show ¬ (95 = 160) by decide), if_neg (show ¬ (95 = 94) by decide), if_pos (show 95 = 95 by decide)]
    rfl
  rw [em]
  apply bytes_ext
  rw [put_list, put_list, put_list, zero_list, putL_one, putL_one]
  rfl
theorem wr_rty2 {t : Int} (ht : 1 ≤ t ∧ t ≤ 6) : WrOk { zA with op := ((256 * 95 + 2 : Nat) : Int), want := 24, ty := t } := by
  refine wr_ok (b := 95) (i := 12) (a := 2) (op := (256 * 95 + 2)) rfl rfl rfl (by decide +kernel) ?_
  obtain ⟨_, n1, n8⟩ := num_typ ht
  have hty : ¬ (t = 0) := by omega
  have h8 : w8 (numN t) = UInt8.ofNat (numN t).toNat := by
    unfold w8
    rw [IntKind.wrap_u8]
    congr 1
    omega
  have e5 : wr5 (fm 12) { zA with op := ((256 * 95 + 2 : Nat) : Int), want := 24, ty := t } 2 = [UInt8.ofNat 95, UInt8.ofNat 2, UInt8.ofNat (numN t).toNat, 0, 0, 0, 0, 0, 0, 0] := by
    show (if t = 0 then _ else (_ : List UInt8).set 2 (w8 (numN t))) = _
    rw [if_neg hty, h8]
    rfl
  show ByteArray.mk (putL (putL (putL (wr5 (fm 12) { zA with op := ((256 * 95 + 2 : Nat) : Int), want := 24, ty := t } 2) 0 (putHi (u64N 0) ((0 : Nat) : Int))) 0 (putHi (u64N 0) ((0 : Nat) : Int))) 5 (putHi (u64N ((24 : Nat) : Int)) ((4 : Nat) : Int))).toArray = _
  rw [e5, u64N_nat (n := 24) (by omega), putL_none, putL_none]
  have em : makeS { zA with op := ((256 * 95 + 2 : Nat) : Int), want := 24, ty := t } = put (put (put (zeroS 95 9) 1 2 1) 2 (numN t).toNat 1) 5 24 4 := by
    unfold makeS
    rw [show (firstA { zA with op := ((256 * 95 + 2 : Nat) : Int), want := 24, ty := t }).toNat = 95 from rfl]
    dsimp only
    rw [if_neg (show ¬ (95 = 18) by decide), if_neg (show ¬ (95 = 40 ∨ 95 = 42) by decide), if_neg (show ¬ (95 = 136 ∨ 95 = 138) by decide), if_neg (show ¬ (95 = 147) by decide), if_neg (show ¬ (95 = 137) by decide), if_neg (show ¬ (95 = 66) by decide), if_neg (show ¬ (95 = 160) by decide), if_neg (show ¬ (95 = 94) by decide), if_pos (show 95 = 95 by decide)]
    rfl
  rw [em]
  apply bytes_ext
  rw [put_list, put_list, put_list, zero_list, putL_one, putL_one]
  rfl
theorem wr_rty4 {t : Int} (ht : 1 ≤ t ∧ t ≤ 6) : WrOk { zA with op := ((256 * 95 + 4 : Nat) : Int), want := 24, ty := t } := by
  refine wr_ok (b := 95) (i := 12) (a := 4) (op := (256 * 95 + 4)) rfl rfl rfl (by decide +kernel) ?_
  obtain ⟨_, n1, n8⟩ := num_typ ht
  have hty : ¬ (t = 0) := by omega
  have h8 : w8 (numN t) = UInt8.ofNat (numN t).toNat := by
    unfold w8
    rw [IntKind.wrap_u8]
    congr 1
    omega
  have e5 : wr5 (fm 12) { zA with op := ((256 * 95 + 4 : Nat) : Int), want := 24, ty := t } 4 = [UInt8.ofNat 95, UInt8.ofNat 4, UInt8.ofNat (numN t).toNat, 0, 0, 0, 0, 0, 0, 0] := by
    show (if t = 0 then _ else (_ : List UInt8).set 2 (w8 (numN t))) = _
    rw [if_neg hty, h8]
    rfl
  show ByteArray.mk (putL (putL (putL (wr5 (fm 12) { zA with op := ((256 * 95 + 4 : Nat) : Int), want := 24, ty := t } 4) 0 (putHi (u64N 0) ((0 : Nat) : Int))) 0 (putHi (u64N 0) ((0 : Nat) : Int))) 5 (putHi (u64N ((24 : Nat) : Int)) ((4 : Nat) : Int))).toArray = _
  rw [e5, u64N_nat (n := 24) (by omega), putL_none, putL_none]
  have em : makeS { zA with op := ((256 * 95 + 4 : Nat) : Int), want := 24, ty := t } = put (put (put (zeroS 95 9) 1 4 1) 2 (numN t).toNat 1) 5 24 4 := by
    unfold makeS
    rw [show (firstA { zA with op := ((256 * 95 + 4 : Nat) : Int), want := 24, ty := t }).toNat = 95 from rfl]
    dsimp only
    rw [if_neg (show ¬ (95 = 18) by decide), if_neg (show ¬ (95 = 40 ∨ 95 = 42) by decide), if_neg (show ¬ (95 = 136 ∨ 95 = 138) by decide), if_neg (show ¬ (95 = 147) by decide), if_neg (show ¬ (95 = 137) by decide), if_neg (show ¬ (95 = 66) by decide), if_neg (show ¬ (95 = 160) by decide), if_neg (show ¬ (95 = 94) by decide), if_pos (show 95 = 95 by decide)]
    rfl
  rw [em]
  apply bytes_ext
  rw [put_list, put_list, put_list, zero_list, putL_one, putL_one]
  rfl
theorem okA_wr {x : Ak} (h : OkA x) : WrOk x := by
  cases h with
  | bare b h => rcases h with rfl | rfl | rfl; exact wr_bare0; exact wr_bare37; exact wr_bare53
  | inq p w hp hw => exact wr_inq hp hw
  | inq0 w hw => exact wr_inq0 hw
  | ten b l k f h hl hk hf =>
    rcases h with rfl | rfl
    · cases f with
      | true => exact absurd (hf rfl) (by decide)
      | false => exact wr_ten40f hl hk
    · cases f with
      | true => exact wr_ten42t hl hk
      | false => exact wr_ten42f hl hk
  | six b l k f h hl hk hf =>
    rcases h with rfl | rfl | rfl
    · cases f with
      | true => exact absurd (hf rfl) (by decide)
      | false => exact wr_six136f hl hk
    · cases f with
      | true => exact wr_six138t hl hk
      | false => exact wr_six138f hl hk
    · cases f with
      | true => exact absurd (hf rfl) (by decide)
      | false => exact wr_six147 hl hk
  | cmp l k hl hk => exact wr_cmp hl hk
  | unm w hw => exact wr_unm hw
  | lun w hw => exact wr_lun hw
  | rin a w ha hw =>
    have : a = 0 ∨ a = 1 := by omega
    rcases this with rfl | rfl; exact wr_rin0 hw; exact wr_rin1 hw
  | rout a ha => rcases ha with rfl | rfl | rfl; exact wr_rout0; exact wr_rout3; exact wr_rout6
  | rty a t ha ht => rcases ha with rfl | rfl | rfl; exact wr_rty1 ht; exact wr_rty2 ht; exact wr_rty4 ht
/-- What the code's Build comes to. -/
theorem build_no {x : Ak} {i : Nat} (h : fmI (firstC x) = some i) (hp : parseS (wrS (fm i) x (actC x).toNat) ≠ some x) : buildS x = none := by
  cases hb : buildS x with
  | none => rfl
  | some t =>
    obtain ⟨j, h1, _, _, h2⟩ := okA_wr (build_iff.1 hb).1
    obtain rfl : i = j := Option.some.inj (h.symm.trans h1)
    rw [h2, ← (build_iff.1 hb).2] at hp
    exact absurd (build_parse hb).1 hp
theorem build_none {x : Ak} (h : fmI (firstC x) = none) : buildS x = none := by
  cases hb : buildS x with
  | none => rfl
  | some t =>
    obtain ⟨j, h1, _⟩ := okA_wr (build_iff.1 hb).1
    rw [h] at h1; cases h1
theorem build_yes {x : Ak} {i : Nat} (h : fmI (firstC x) = some i) (hp : parseS (wrS (fm i) x (actC x).toNat) = some x) : buildS x = some (wrS (fm i) x (actC x).toNat) := by
  have hok := (parse_ok hp).1
  obtain ⟨j, h1, _, _, h2⟩ := okA_wr hok
  obtain rfl : i = j := Option.some.inj (h.symm.trans h1)
  exact build_iff.2 ⟨hok, h2⟩
theorem actC_nat (x : Ak) : actC x = ((actC x).toNat : Int) ∧ (actC x).toNat < 256 := by
  unfold actC
  split <;> omega
end Go.Proofs.YtaachlijpgmjeaaDoor
