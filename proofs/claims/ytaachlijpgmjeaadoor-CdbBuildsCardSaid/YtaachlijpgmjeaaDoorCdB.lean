/- What a block can ask. -/
import Derived.Test.YtaachlijpgmjeaaDoorCdA
namespace Go.Proofs.YtaachlijpgmjeaaDoor
open Go.RowKit
/-- What a block can ask. -/
inductive OkA : Ak → Prop
  | bare (b : Nat) (h : b = 0 ∨ b = 37 ∨ b = 53) : OkA { zA with op := b }
  | inq (p w : Nat) (hp : p < 256) (hw : w < 65536) : OkA { zA with op := 18, page := (256 + p : Nat), want := w }
  | inq0 (w : Nat) (hw : w < 65536) : OkA { zA with op := 18, want := w }
  | ten (b l k : Nat) (f : Bool) (h : b = 40 ∨ b = 42) (hl : l < 4294967296) (hk : k < 65536) (hf : f = true → b = 42) : OkA { zA with op := b, lba := l, blk := k, fu := f }
  | six (b l k : Nat) (f : Bool) (h : b = 136 ∨ b = 138 ∨ b = 147) (hl : l < 2147483648) (hk : k < 2147483648) (hf : f = true → b = 138) : OkA { zA with op := b, lba := l, blk := k, fu := f }
  | cmp (l k : Nat) (hl : l < 2147483648) (hk : k < 256) : OkA { zA with op := 137, lba := l, blk := k }
  | unm (w : Nat) (hw : w < 65536) : OkA { zA with op := 66, want := w }
  | lun (w : Nat) (hw : w < 4294967296) : OkA { zA with op := 160, want := w }
  | rin (a w : Nat) (ha : a ≤ 1) (hw : w < 65536) : OkA { zA with op := (256 * 94 + a : Nat), want := w }
  | rout (a : Nat) (ha : a = 0 ∨ a = 3 ∨ a = 6) : OkA { zA with op := (256 * 95 + a : Nat), want := 24 }
  | rty (a : Nat) (t : Int) (ha : a = 1 ∨ a = 2 ∨ a = 4) (ht : 1 ≤ t ∧ t ≤ 6) : OkA { zA with op := (256 * 95 + a : Nat), want := 24, ty := t }
theorem typN_num {n : Int} (h : typN n ≠ 0) : 1 ≤ typN n ∧ typN n ≤ 6 := by
  unfold typN at h ⊢
  split <;> rename_i h1
  · omega
  · rw [if_neg h1] at h
    split <;> rename_i h2
    · omega
    · rw [if_neg h2] at h
      split <;> rename_i h3
      · omega
      · rw [if_neg h3] at h; exact absurd rfl h
theorem num_typ {t : Int} (h : 1 ≤ t ∧ t ≤ 6) : typN (numN t) = t ∧ 1 ≤ numN t ∧ numN t ≤ 8 := by
  unfold typN numN
  have : t = 1 ∨ t = 2 ∨ t = 3 ∨ t = 4 ∨ t = 5 ∨ t = 6 := by omega
  rcases this with rfl | rfl | rfl | rfl | rfl | rfl <;> decide
theorem b2 (s : ByteArray) (a : Nat) : big s a 2 < 65536 := big_lt s a 2
theorem b4 (s : ByteArray) (a : Nat) : big s a 4 < 4294967296 := big_lt s a 4
theorem ask_ok {s : ByteArray} {y : Ak} (hb : isB s = true) (h : ask s = some y) : OkA y ∧ lenB (firstA y).toNat = s.size := by
  obtain ⟨h1, h2, h3⟩ := of_decide_eq_true hb
  have hz : s.size ≠ 0 := by intro e; unfold lenS at h1; rw [if_pos e] at h1; exact h1 rfl
  have hl : lenS s = lenB (byt s 0) := by unfold lenS; rw [if_neg hz]
  rw [h2, hl]
  rw [hl] at h1
  have hb0 := byt_lt s 0
  have hb1 := byt_lt s 1
  have hb2 := byt_lt s 2
  have hb13 := byt_lt s 13
  unfold ask at h
  dsimp only at h
  generalize hbb : byt s 0 = b at *
  by_cases c1 : b = 0 ∨ b = 37 ∨ b = 53
  · rw [if_pos c1] at h
    cases h
    refine ⟨OkA.bare b c1, ?_⟩
    unfold firstA; dsimp only
    rw [if_neg (by omega), Int.toNat_natCast]
  rw [if_neg c1] at h
  by_cases c2 : b = 18
  · rw [if_pos c2] at h
    cases h
    subst c2
    refine ⟨?_, rfl⟩
    split
    · have := OkA.inq (byt s 2) (big s 3 2) hb2 (b2 s 3)
      simpa using this
    · exact OkA.inq0 (big s 3 2) (b2 s 3)
  rw [if_neg c2] at h
  by_cases c3 : b = 40 ∨ b = 42
  · rw [if_pos c3] at h
    cases h
    refine ⟨OkA.ten b (big s 2 4) (big s 7 2) _ c3 (b4 s 2) (b2 s 7) (fun hf => ?_), ?_⟩
    · rw [Bool.and_eq_true] at hf; simpa using hf.1
    · unfold firstA; dsimp only
      rw [if_neg (by omega), Int.toNat_natCast]
  rw [if_neg c3] at h
  by_cases c4 : b = 136 ∨ b = 138 ∨ b = 147
  · rw [if_pos c4] at h
    by_cases c5 : b = 147 ∧ byt s 1 % 2 = 0
    · rw [if_pos c5] at h
      cases h
    rw [if_neg c5] at h
    by_cases c6 : 2147483648 ≤ big s 2 8 ∨ 2147483648 ≤ big s 10 4
    · rw [if_pos c6] at h
      cases h
    rw [if_neg c6] at h
    cases h
    refine ⟨OkA.six b (big s 2 8) (big s 10 4) _ c4 (by omega) (by omega) (fun hf => ?_), ?_⟩
    · rw [Bool.and_eq_true] at hf; simpa using hf.1
    · unfold firstA; dsimp only
      rw [if_neg (by omega), Int.toNat_natCast]
  rw [if_neg c4] at h
  by_cases c7 : b = 137
  · rw [if_pos c7] at h
    by_cases c8 : 2147483648 ≤ big s 2 8
    · rw [if_pos c8] at h
      cases h
    rw [if_neg c8] at h
    cases h
    subst c7
    exact ⟨OkA.cmp (big s 2 8) (byt s 13) (by omega) hb13, rfl⟩
  rw [if_neg c7] at h
  by_cases c9 : b = 66
  · rw [if_pos c9] at h
    cases h
    subst c9
    exact ⟨OkA.unm (big s 7 2) (b2 s 7), rfl⟩
  rw [if_neg c9] at h
  by_cases c10 : b = 160
  · rw [if_pos c10] at h
    cases h
    subst c10
    exact ⟨OkA.lun (big s 6 4) (b4 s 6), rfl⟩
  rw [if_neg c10] at h
  by_cases c11 : b = 94
  · rw [if_pos c11] at h
    by_cases c12 : 1 < byt s 1 % 32
    · rw [if_pos c12] at h
      cases h
    rw [if_neg c12] at h
    cases h
    subst c11
    refine ⟨OkA.rin (byt s 1 % 32) (big s 7 2) (by omega) (b2 s 7), ?_⟩
    unfold firstA; dsimp only
    rw [if_pos (by omega), show (((256 * 94 + byt s 1 % 32 : Nat) : Int) / 256).toNat = 94 by omega]
  rw [if_neg c11] at h
  have hb95 : b = 95 := by
    by_cases h95 : b = 95
    · exact h95
    · refine absurd ?_ h1
      unfold lenB
      rw [if_neg (by omega), if_neg (by omega), if_neg (by omega), if_neg (by omega)]
  subst hb95
  by_cases c13 : big s 5 4 ≠ 24 ∨ 15 < byt s 2 ∨ 6 < byt s 1 % 32 ∨ byt s 1 % 32 = 5
  · rw [if_pos c13] at h
    cases h
  rw [if_neg c13] at h
  by_cases c14 : byt s 1 % 32 = 1 ∨ byt s 1 % 32 = 2 ∨ byt s 1 % 32 = 4
  · rw [if_pos c14] at h
    by_cases c15 : typN (byt s 2) = 0
    · rw [if_pos c15] at h
      cases h
    rw [if_neg c15] at h
    cases h
    refine ⟨OkA.rty (byt s 1 % 32) _ c14 (typN_num c15), ?_⟩
    unfold firstA; dsimp only
    rw [if_pos (by omega), show (((256 * 95 + byt s 1 % 32 : Nat) : Int) / 256).toNat = 95 by omega]
  · rw [if_neg c14] at h
    cases h
    refine ⟨OkA.rout (byt s 1 % 32) (by omega), ?_⟩
    unfold firstA; dsimp only
    rw [if_pos (by omega), show (((256 * 95 + byt s 1 % 32 : Nat) : Int) / 256).toNat = 95 by omega]
end Go.Proofs.YtaachlijpgmjeaaDoor
