/- What is made for an ask asks for it. -/
import Derived.Test.YtaachlijpgmjeaaDoorCdB
namespace Go.Proofs.YtaachlijpgmjeaaDoor
open Go.RowKit
theorem pz {s : ByteArray} {k n x : Nat} (h1 : 1 ≤ n) (h8 : n ≤ 8) {N : Nat} (hz : s.size = N) (hm : k + n ≤ N) : (put s k x n).size = N := (put_size' h1 h8 (hz ▸ hm)).trans hz
theorem pf {s : ByteArray} {k n x i : Nat} (h1 : 1 ≤ n) (h8 : n ≤ 8) {N : Nat} (hz : s.size = N) (hm : k + n ≤ N) (hi : i < k ∨ k + n ≤ i) : byt (put s k x n) i = byt s i := byt_far h1 h8 (hz ▸ hm) hi
theorem pb {s : ByteArray} {k n x : Nat} (h1 : 1 ≤ n) (h8 : n ≤ 8) {N : Nat} (hz : s.size = N) (hm : k + n ≤ N) (hx : x < 256 ^ n) : big (put s k x n) k n = x := (big_setB h1 h8 (hz ▸ hm)).trans (Nat.mod_eq_of_lt hx)
theorem pg {s : ByteArray} {k n x a c : Nat} (h1 : 1 ≤ n) (h8 : n ≤ 8) {N : Nat} (hz : s.size = N) (hm : k + n ≤ N) (hi : a + c ≤ k ∨ k + n ≤ a) : big (put s k x n) a c = big s a c := big_far h1 h8 (hz ▸ hm) hi
theorem pa {s : ByteArray} {k x : Nat} {N : Nat} (hz : s.size = N) (hm : k + 1 ≤ N) (hx : x < 256) : byt (put s k x 1) k = x := (byt_at (hz ▸ hm)).trans (Nat.mod_eq_of_lt hx)
theorem isB_of {t : ByteArray} {b N : Nat} (h0 : byt t 0 = b) (hb : lenB b = N) (hN : N ≠ 0) (hz : t.size = N) (hl : byt t (N - 1) = 0) : isB t = true := by
  have hls : lenS t = N := by unfold lenS; rw [if_neg (by omega), h0, hb]
  exact decide_eq_true ⟨by rw [hls]; exact hN, by rw [hls]; exact hz, by rw [hz]; exact hl⟩
theorem parse_of {t : ByteArray} {b N : Nat} {y : Ak} (h0 : byt t 0 = b) (hb : lenB b = N) (hN : N ≠ 0) (hz : t.size = N) (hl : byt t (N - 1) = 0) (ha : ask t = some y) : parseS t = some y ∧ t.size = N := by
  refine ⟨?_, hz⟩
  unfold parseS
  rw [if_pos (isB_of h0 hb hN hz hl)]
  exact ha
theorem rout_ok {a x : Nat} {y : Ak} (ha : a < 32) (hx : x < 16) (h : ∀ s, byt s 0 = 95 → byt s 1 = a → byt s 2 = x → big s 5 4 = 24 → ask s = some y) :
    parseS (put (put (put (zeroS 95 9) 1 a 1) 2 x 1) 5 24 4) = some y ∧ (put (put (put (zeroS 95 9) 1 a 1) 2 x 1) 5 24 4).size = lenB 95 := by
  generalize hs1 : zeroS 95 9 = s1
  have z1 : s1.size = 10 := by rw [← hs1]; exact zeroS_size _ _
  have a1 : byt s1 0 = 95 := by rw [← hs1]; exact zeroS_zero _ _ (by decide)
  have l1 : byt s1 9 = 0 := by rw [← hs1]; exact zeroS_else _ _ _ (by decide)
  clear hs1
  generalize hs2 : put s1 1 a 1 = s2
  have z2 : s2.size = 10 := by rw [← hs2]; exact pz (by decide) (by decide) z1 (by decide)
  have a2 : byt s2 0 = 95 := by rw [← hs2, pf (by decide) (by decide) z1 (by decide) (by decide)]; exact a1
  have l2 : byt s2 9 = 0 := by rw [← hs2, pf (by decide) (by decide) z1 (by decide) (by decide)]; exact l1
  have q2 : byt s2 1 = a := by rw [← hs2]; exact pa z1 (by decide) (by omega)
  clear hs2
  generalize hs3 : put s2 2 x 1 = s3
  have z3 : s3.size = 10 := by rw [← hs3]; exact pz (by decide) (by decide) z2 (by decide)
  have a3 : byt s3 0 = 95 := by rw [← hs3, pf (by decide) (by decide) z2 (by decide) (by decide)]; exact a2
  have l3 : byt s3 9 = 0 := by rw [← hs3, pf (by decide) (by decide) z2 (by decide) (by decide)]; exact l2
  have q3 : byt s3 1 = a := by rw [← hs3, pf (by decide) (by decide) z2 (by decide) (by decide)]; exact q2
  have r3 : byt s3 2 = x := by rw [← hs3]; exact pa z2 (by decide) (by omega)
  clear hs3
  have g : ∀ i, i < 5 ∨ 9 ≤ i → byt (put s3 5 24 4) i = byt s3 i := fun i hi => pf (by decide) (by decide) z3 (by decide) hi
  exact parse_of (b := 95) (N := 10) ((g 0 (by decide)).trans a3) rfl (by decide) (pz (by decide) (by decide) z3 (by decide)) ((g 9 (by decide)).trans l3)
    (h _ ((g 0 (by decide)).trans a3) ((g 1 (by decide)).trans q3) ((g 2 (by decide)).trans r3) (pb (by decide) (by decide) z3 (by decide) (by decide)))
theorem make_ok {y : Ak} (h : OkA y) : parseS (makeS y) = some y ∧ (makeS y).size = lenB (firstA y).toNat := by
  cases h with
  | bare b h =>
    rcases h with rfl | rfl | rfl
    · exact parse_of (b := 0) (N := 6) (zeroS_zero _ _ (by decide)) rfl (by decide) (zeroS_size _ _) (zeroS_else _ _ _ (by decide)) (by unfold ask; dsimp only; rw [show byt (makeS { zA with op := ((0 : Nat) : Int) }) 0 = 0 from zeroS_zero _ _ (by decide)]; rfl)
    · exact parse_of (b := 37) (N := 10) (zeroS_zero _ _ (by decide)) rfl (by decide) (zeroS_size _ _) (zeroS_else _ _ _ (by decide)) (by unfold ask; dsimp only; rw [show byt (makeS { zA with op := ((37 : Nat) : Int) }) 0 = 37 from zeroS_zero _ _ (by decide)]; rfl)
    · exact parse_of (b := 53) (N := 10) (zeroS_zero _ _ (by decide)) rfl (by decide) (zeroS_size _ _) (zeroS_else _ _ _ (by decide)) (by unfold ask; dsimp only; rw [show byt (makeS { zA with op := ((53 : Nat) : Int) }) 0 = 53 from zeroS_zero _ _ (by decide)]; rfl)
  | inq p w hp hw =>
    have e : makeS { zA with op := 18, page := ((256 + p : Nat) : Int), want := (w : Int) } = put (put (put (zeroS 18 5) 1 1 1) 2 p 1) 3 w 2 := by
      unfold makeS
      rw [show (firstA { zA with op := 18, page := ((256 + p : Nat) : Int), want := (w : Int) }).toNat = 18 from rfl]
      dsimp only
      rw [if_pos rfl, if_pos (by omega), show (((256 + p : Nat) : Int) - 256).toNat = p by omega, Int.toNat_natCast]
      rfl
    rw [e]
    generalize hs0 : zeroS 18 5 = s0
    have z0 : s0.size = 6 := by rw [← hs0]; exact zeroS_size _ _
    have a0 : byt s0 0 = 18 := by rw [← hs0]; exact zeroS_zero _ _ (by decide)
    have l0 : byt s0 5 = 0 := by rw [← hs0]; exact zeroS_else _ _ _ (by decide)
    clear hs0 e
    generalize hs1 : put s0 1 1 1 = s1
    have z1 : s1.size = 6 := by rw [← hs1]; exact pz (by decide) (by decide) z0 (by decide)
    have a1 : byt s1 0 = 18 := by rw [← hs1, pf (by decide) (by decide) z0 (by decide) (by decide)]; exact a0
    have l1 : byt s1 5 = 0 := by rw [← hs1, pf (by decide) (by decide) z0 (by decide) (by decide)]; exact l0
    have p1 : byt s1 1 = 1 := by rw [← hs1]; exact pa z0 (by decide) (by decide)
    clear hs1
    generalize hs2 : put s1 2 p 1 = s2
    have z2 : s2.size = 6 := by rw [← hs2]; exact pz (by decide) (by decide) z1 (by decide)
    have a2 : byt s2 0 = 18 := by rw [← hs2, pf (by decide) (by decide) z1 (by decide) (by decide)]; exact a1
    have l2 : byt s2 5 = 0 := by rw [← hs2, pf (by decide) (by decide) z1 (by decide) (by decide)]; exact l1
    have p2 : byt s2 1 = 1 := by rw [← hs2, pf (by decide) (by decide) z1 (by decide) (by decide)]; exact p1
    have q2 : byt s2 2 = p := by rw [← hs2]; exact pa z1 (by decide) hp
    clear hs2
    refine parse_of (b := 18) (N := 6) ((pf (by decide) (by decide) z2 (by decide) (by decide)).trans a2) rfl (by decide) (pz (by decide) (by decide) z2 (by decide)) ((pf (by decide) (by decide) z2 (by decide) (by decide)).trans l2) ?_
    unfold ask
    dsimp only
    rw [(pf (i := 0) (by decide) (by decide) z2 (by decide) (by decide)).trans a2, (pf (i := 1) (by decide) (by decide) z2 (by decide) (by decide)).trans p2, (pf (i := 2) (by decide) (by decide) z2 (by decide) (by decide)).trans q2, pb (by decide) (by decide) z2 (by decide) hw]
    rfl
  | inq0 w hw =>
    have e : makeS { zA with op := 18, want := (w : Int) } = put (zeroS 18 5) 3 w 2 := by
      unfold makeS
      rw [show (firstA { zA with op := 18, want := (w : Int) }).toNat = 18 from rfl]
      dsimp only
      rw [if_pos rfl, if_neg (by decide), Int.toNat_natCast]
      rfl
    rw [e]
    have z0 : (zeroS 18 5).size = 6 := zeroS_size _ _
    have g : ∀ i, i < 3 ∨ 5 ≤ i → byt (put (zeroS 18 5) 3 w 2) i = byt (zeroS 18 5) i := fun i hi => pf (by decide) (by decide) z0 (by decide) hi
    refine parse_of (b := 18) (N := 6) ((g 0 (by decide)).trans (zeroS_zero _ _ (by decide))) rfl (by decide) (pz (by decide) (by decide) z0 (by decide)) ((g 5 (by decide)).trans (zeroS_else _ _ _ (by decide))) ?_
    unfold ask
    dsimp only
    rw [(g 0 (by decide)).trans (zeroS_zero _ _ (by decide)), (g 1 (by decide)).trans (zeroS_else _ _ _ (by decide)), pb (by decide) (by decide) z0 (by decide) hw]
    rfl
  | ten b l k f h hl hk hf =>
    have e : makeS { zA with op := (b : Int), lba := (l : Int), blk := (k : Int), fu := f } = put (put (put (zeroS b 9) 1 (if f = true then 8 else 0) 1) 2 l 4) 7 k 2 := by
      unfold makeS firstA
      dsimp only
      rcases h with rfl | rfl <;> rfl
    have hb : lenB b = 10 := by rcases h with rfl | rfl <;> rfl
    have hF : (firstA { zA with op := (b : Int), lba := (l : Int), blk := (k : Int), fu := f }).toNat = b := by unfold firstA; dsimp only; rw [if_neg (by omega), Int.toNat_natCast]
    rw [e, hF, hb]
    generalize hs0 : zeroS b 9 = s0
    have z0 : s0.size = 10 := by rw [← hs0]; exact zeroS_size _ _
    have a0 : byt s0 0 = b := by rw [← hs0]; exact zeroS_zero _ _ (by omega)
    have l0 : byt s0 9 = 0 := by rw [← hs0]; exact zeroS_else _ _ _ (by decide)
    clear hs0 e
    obtain ⟨x, hx, hx8⟩ : ∃ x, x = (if f = true then 8 else 0) ∧ x < 256 := ⟨_, rfl, by split <;> decide⟩
    rw [← hx]
    generalize hs1 : put s0 1 x 1 = s1
    have z1 : s1.size = 10 := by rw [← hs1]; exact pz (by decide) (by decide) z0 (by decide)
    have a1 : byt s1 0 = b := by rw [← hs1, pf (by decide) (by decide) z0 (by decide) (by decide)]; exact a0
    have l1 : byt s1 9 = 0 := by rw [← hs1, pf (by decide) (by decide) z0 (by decide) (by decide)]; exact l0
    have p1 : byt s1 1 = x := by rw [← hs1]; exact pa z0 (by decide) hx8
    clear hs1
    generalize hs2 : put s1 2 l 4 = s2
    have z2 : s2.size = 10 := by rw [← hs2]; exact pz (by decide) (by decide) z1 (by decide)
    have a2 : byt s2 0 = b := by rw [← hs2, pf (by decide) (by decide) z1 (by decide) (by decide)]; exact a1
    have l2 : byt s2 9 = 0 := by rw [← hs2, pf (by decide) (by decide) z1 (by decide) (by decide)]; exact l1
    have p2 : byt s2 1 = x := by rw [← hs2, pf (by decide) (by decide) z1 (by decide) (by decide)]; exact p1
    have q2 : big s2 2 4 = l := by rw [← hs2]; exact pb (by decide) (by decide) z1 (by decide) hl
    clear hs2
    have g : ∀ i, i < 7 ∨ 9 ≤ i → byt (put s2 7 k 2) i = byt s2 i := fun i hi => pf (by decide) (by decide) z2 (by decide) hi
    refine parse_of (b := b) (N := 10) ((g 0 (by decide)).trans a2) hb (by decide) (pz (by decide) (by decide) z2 (by decide)) ((g 9 (by decide)).trans l2) ?_
    unfold ask
    dsimp only
    rw [(g 0 (by decide)).trans a2, (g 1 (by decide)).trans p2, pg (a := 2) (c := 4) (by decide) (by decide) z2 (by decide) (by decide), q2, pb (by decide) (by decide) z2 (by decide) hk]
    rcases h with rfl | rfl
    · cases f with
      | true => exact absurd (hf rfl) (by decide)
      | false => rfl
    · subst hx; cases f <;> rfl
  | six b l k f h hl hk hf =>
    have e : makeS { zA with op := (b : Int), lba := (l : Int), blk := (k : Int), fu := f } = put (put (put (zeroS b 15) 1 (if b = 147 then 1 else if f = true then 8 else 0) 1) 2 l 8) 10 k 4 := by
      unfold makeS firstA
      dsimp only
      rcases h with rfl | rfl | rfl <;> rfl
    have hb : lenB b = 16 := by rcases h with rfl | rfl | rfl <;> rfl
    have hF : (firstA { zA with op := (b : Int), lba := (l : Int), blk := (k : Int), fu := f }).toNat = b := by unfold firstA; dsimp only; rw [if_neg (by omega), Int.toNat_natCast]
    rw [e, hF, hb]
    generalize hs0 : zeroS b 15 = s0
    have z0 : s0.size = 16 := by rw [← hs0]; exact zeroS_size _ _
    have a0 : byt s0 0 = b := by rw [← hs0]; exact zeroS_zero _ _ (by omega)
    have l0 : byt s0 15 = 0 := by rw [← hs0]; exact zeroS_else _ _ _ (by decide)
    clear hs0 e
    obtain ⟨x, hx, hx8⟩ : ∃ x, x = (if b = 147 then 1 else if f = true then 8 else 0) ∧ x < 256 := ⟨_, rfl, by split; decide; split <;> decide⟩
    rw [← hx]
    generalize hs1 : put s0 1 x 1 = s1
    have z1 : s1.size = 16 := by rw [← hs1]; exact pz (by decide) (by decide) z0 (by decide)
    have a1 : byt s1 0 = b := by rw [← hs1, pf (by decide) (by decide) z0 (by decide) (by decide)]; exact a0
    have l1 : byt s1 15 = 0 := by rw [← hs1, pf (by decide) (by decide) z0 (by decide) (by decide)]; exact l0
    have p1 : byt s1 1 = x := by rw [← hs1]; exact pa z0 (by decide) hx8
    clear hs1
    generalize hs2 : put s1 2 l 8 = s2
    have z2 : s2.size = 16 := by rw [← hs2]; exact pz (by decide) (by decide) z1 (by decide)
    have a2 : byt s2 0 = b := by rw [← hs2, pf (by decide) (by decide) z1 (by decide) (by decide)]; exact a1
    have l2 : byt s2 15 = 0 := by rw [← hs2, pf (by decide) (by decide) z1 (by decide) (by decide)]; exact l1
    have p2 : byt s2 1 = x := by rw [← hs2, pf (by decide) (by decide) z1 (by decide) (by decide)]; exact p1
    have q2 : big s2 2 8 = l := by rw [← hs2]; exact pb (by decide) (by decide) z1 (by decide) (by omega)
    clear hs2
    have g : ∀ i, i < 10 ∨ 14 ≤ i → byt (put s2 10 k 4) i = byt s2 i := fun i hi => pf (by decide) (by decide) z2 (by decide) hi
    refine parse_of (b := b) (N := 16) ((g 0 (by decide)).trans a2) hb (by decide) (pz (by decide) (by decide) z2 (by decide)) ((g 15 (by decide)).trans l2) ?_
    unfold ask
    dsimp only
    rw [(g 0 (by decide)).trans a2, (g 1 (by decide)).trans p2, pg (a := 2) (c := 8) (by decide) (by decide) z2 (by decide) (by decide), q2, pb (by decide) (by decide) z2 (by decide) (by omega)]
    have nn : ¬ (2147483648 ≤ l ∨ 2147483648 ≤ k) := by omega
    rcases h with rfl | rfl | rfl
    · cases f with
      | true => exact absurd (hf rfl) (by decide)
      | false =>
        rw [if_neg (by decide), if_neg (by decide), if_neg (by decide), if_pos (by decide), if_neg (by omega), if_neg nn]; rfl
    · rw [if_neg (by decide), if_neg (by decide), if_neg (by decide), if_pos (by decide), if_neg (by omega), if_neg nn]
      subst hx; cases f <;> rfl
    · cases f with
      | true => exact absurd (hf rfl) (by decide)
      | false =>
        subst hx
        rw [if_neg (by decide), if_neg (by decide), if_neg (by decide), if_pos (by decide), if_neg (by decide), if_neg nn]; rfl
  | cmp l k hl hk =>
    have e : makeS { zA with op := 137, lba := (l : Int), blk := (k : Int) } = put (put (zeroS 137 15) 2 l 8) 13 k 1 := rfl
    rw [e]
    generalize hs1 : zeroS 137 15 = s1
    have z1 : s1.size = 16 := by rw [← hs1]; exact zeroS_size _ _
    have a1 : byt s1 0 = 137 := by rw [← hs1]; exact zeroS_zero _ _ (by decide)
    have l1 : byt s1 15 = 0 := by rw [← hs1]; exact zeroS_else _ _ _ (by decide)
    clear hs1 e
    generalize hs2 : put s1 2 l 8 = s2
    have z2 : s2.size = 16 := by rw [← hs2]; exact pz (by decide) (by decide) z1 (by decide)
    have a2 : byt s2 0 = 137 := by rw [← hs2, pf (by decide) (by decide) z1 (by decide) (by decide)]; exact a1
    have l2 : byt s2 15 = 0 := by rw [← hs2, pf (by decide) (by decide) z1 (by decide) (by decide)]; exact l1
    have q2 : big s2 2 8 = l := by rw [← hs2]; exact pb (by decide) (by decide) z1 (by decide) (by omega)
    clear hs2
    have g : ∀ i, i < 13 ∨ 14 ≤ i → byt (put s2 13 k 1) i = byt s2 i := fun i hi => pf (by decide) (by decide) z2 (by decide) hi
    refine parse_of (b := 137) (N := 16) ((g 0 (by decide)).trans a2) rfl (by decide) (pz (by decide) (by decide) z2 (by decide)) ((g 15 (by decide)).trans l2) ?_
    unfold ask
    dsimp only
    rw [(g 0 (by decide)).trans a2, pg (a := 2) (c := 8) (by decide) (by decide) z2 (by decide) (by decide), q2, pa z2 (by decide) hk]
    rw [if_neg (by decide), if_neg (by decide), if_neg (by decide), if_neg (by decide), if_pos rfl, if_neg (by omega)]
    rfl
  | unm w hw =>
    have e : makeS { zA with op := 66, want := (w : Int) } = put (zeroS 66 9) 7 w 2 := rfl
    rw [e]
    have z0 : (zeroS 66 9).size = 10 := zeroS_size _ _
    have g : ∀ i, i < 7 ∨ 9 ≤ i → byt (put (zeroS 66 9) 7 w 2) i = byt (zeroS 66 9) i := fun i hi => pf (by decide) (by decide) z0 (by decide) hi
    refine parse_of (b := 66) (N := 10) ((g 0 (by decide)).trans (zeroS_zero _ _ (by decide))) rfl (by decide) (pz (by decide) (by decide) z0 (by decide)) ((g 9 (by decide)).trans (zeroS_else _ _ _ (by decide))) ?_
    unfold ask
    dsimp only
    rw [(g 0 (by decide)).trans (zeroS_zero _ _ (by decide)), pb (by decide) (by decide) z0 (by decide) hw]
    rfl
  | lun w hw =>
    have e : makeS { zA with op := 160, want := (w : Int) } = put (zeroS 160 11) 6 w 4 := rfl
    rw [e]
    have z0 : (zeroS 160 11).size = 12 := zeroS_size _ _
    have g : ∀ i, i < 6 ∨ 10 ≤ i → byt (put (zeroS 160 11) 6 w 4) i = byt (zeroS 160 11) i := fun i hi => pf (by decide) (by decide) z0 (by decide) hi
    refine parse_of (b := 160) (N := 12) ((g 0 (by decide)).trans (zeroS_zero _ _ (by decide))) rfl (by decide) (pz (by decide) (by decide) z0 (by decide)) ((g 11 (by decide)).trans (zeroS_else _ _ _ (by decide))) ?_
    unfold ask
    dsimp only
    rw [(g 0 (by decide)).trans (zeroS_zero _ _ (by decide)), pb (by decide) (by decide) z0 (by decide) hw]
    rfl
  | rin a w ha hw =>
    have hF : (firstA { zA with op := ((256 * 94 + a : Nat) : Int), want := (w : Int) }).toNat = 94 := by unfold firstA; dsimp only; rw [if_pos (by omega)]; omega
    have e : makeS { zA with op := ((256 * 94 + a : Nat) : Int), want := (w : Int) } = put (put (zeroS 94 9) 1 a 1) 7 w 2 := by
      unfold makeS
      rw [hF]
      dsimp only
      rw [if_neg (by decide), if_neg (by decide), if_neg (by decide), if_neg (by decide), if_neg (by decide), if_neg (by decide), if_neg (by decide), if_pos rfl, show (((256 * 94 + a : Nat) : Int) % 32).toNat = a by omega, Int.toNat_natCast]
      rfl
    rw [e, hF]
    generalize hs1 : zeroS 94 9 = s1
    have z1 : s1.size = 10 := by rw [← hs1]; exact zeroS_size _ _
    have a1 : byt s1 0 = 94 := by rw [← hs1]; exact zeroS_zero _ _ (by decide)
    have l1 : byt s1 9 = 0 := by rw [← hs1]; exact zeroS_else _ _ _ (by decide)
    clear hs1 e
    generalize hs2 : put s1 1 a 1 = s2
    have z2 : s2.size = 10 := by rw [← hs2]; exact pz (by decide) (by decide) z1 (by decide)
    have a2 : byt s2 0 = 94 := by rw [← hs2, pf (by decide) (by decide) z1 (by decide) (by decide)]; exact a1
    have l2 : byt s2 9 = 0 := by rw [← hs2, pf (by decide) (by decide) z1 (by decide) (by decide)]; exact l1
    have q2 : byt s2 1 = a := by rw [← hs2]; exact pa z1 (by decide) (by omega)
    clear hs2
    have g : ∀ i, i < 7 ∨ 9 ≤ i → byt (put s2 7 w 2) i = byt s2 i := fun i hi => pf (by decide) (by decide) z2 (by decide) hi
    refine parse_of (b := 94) (N := 10) ((g 0 (by decide)).trans a2) rfl (by decide) (pz (by decide) (by decide) z2 (by decide)) ((g 9 (by decide)).trans l2) ?_
    unfold ask
    dsimp only
    rw [(g 0 (by decide)).trans a2, (g 1 (by decide)).trans q2, pb (by decide) (by decide) z2 (by decide) hw, show a % 32 = a by omega]
    rw [if_neg (by decide), if_neg (by decide), if_neg (by decide), if_neg (by decide), if_neg (by decide), if_neg (by decide), if_neg (by decide), if_pos rfl, if_neg (by omega)]
  | rout a ha =>
    have hF : (firstA { zA with op := ((256 * 95 + a : Nat) : Int), want := 24 }).toNat = 95 := by unfold firstA; dsimp only; rw [if_pos (by omega)]; omega
    have e : makeS { zA with op := ((256 * 95 + a : Nat) : Int), want := 24 } = put (put (put (zeroS 95 9) 1 a 1) 2 0 1) 5 24 4 := by
      unfold makeS
      rw [hF]
      dsimp only
      rw [if_neg (by decide), if_neg (by decide), if_neg (by decide), if_neg (by decide), if_neg (by decide), if_neg (by decide), if_neg (by decide), if_neg (by decide), if_pos rfl, show (((256 * 95 + a : Nat) : Int) % 32).toNat = a by omega]
      rfl
    rw [e, hF]
    refine rout_ok (x := 0) (by omega) (by decide) ?_
    intro s h0 h1 h2 h3
    unfold ask
    dsimp only
    rw [h0, h1, h2, h3, show a % 32 = a by omega]
    rw [if_neg (by decide), if_neg (by decide), if_neg (by decide), if_neg (by decide), if_neg (by decide), if_neg (by decide), if_neg (by decide), if_neg (by decide), if_neg (by omega), if_neg (by omega)]
  | rty a t ha ht =>
    obtain ⟨k1, k2, k3⟩ := num_typ ht
    obtain ⟨x, hx⟩ : ∃ x : Nat, numN t = x := ⟨(numN t).toNat, by omega⟩
    have hF : (firstA { zA with op := ((256 * 95 + a : Nat) : Int), want := 24, ty := t }).toNat = 95 := by unfold firstA; dsimp only; rw [if_pos (by omega)]; omega
    have e : makeS { zA with op := ((256 * 95 + a : Nat) : Int), want := 24, ty := t } = put (put (put (zeroS 95 9) 1 a 1) 2 x 1) 5 24 4 := by
      unfold makeS
      rw [hF]
      dsimp only
      rw [if_neg (by decide), if_neg (by decide), if_neg (by decide), if_neg (by decide), if_neg (by decide), if_neg (by decide), if_neg (by decide), if_neg (by decide), if_pos rfl, show (((256 * 95 + a : Nat) : Int) % 32).toNat = a by omega, hx, Int.toNat_natCast]
      rfl
    rw [e, hF]
    refine rout_ok (x := x) (by omega) (by omega) ?_
    intro s h0 h1 h2 h3
    unfold ask
    dsimp only
    rw [h0, h1, h2, h3, show a % 32 = a by omega, ← hx, k1]
    rw [if_neg (by decide), if_neg (by decide), if_neg (by decide), if_neg (by decide), if_neg (by decide), if_neg (by decide), if_neg (by decide), if_neg (by decide), if_neg (by omega), if_pos ha, if_neg (by omega)]
end Go.Proofs.YtaachlijpgmjeaaDoor
