/- What the document makes of any text: its Parse, joined. -/
import Derived.Test.YtaachlijpgmjeaaDoorCdJ
namespace Go.Proofs.YtaachlijpgmjeaaDoor
open Go.RowKit
theorem lenB_in {b : Nat} (h : lenB b ≠ 0) : b = 0 ∨ b = 18 ∨ b = 37 ∨ b = 40 ∨ b = 42 ∨ b = 53 ∨ b = 66 ∨ b = 94 ∨ b = 95 ∨ b = 160 ∨ b = 136 ∨ b = 137 ∨ b = 138 ∨ b = 147 := by
  refine Classical.byContradiction fun hn => h ?_
  unfold lenB
  rw [if_neg (by omega), if_neg (by omega), if_neg (by omega), if_neg (by omega)]
theorem refParse_any (s : ByteArray) (w : World) (hs : s.size ≤ 100000) : Calls Tryd.prog 10 #[.string s] w (AskOut (parseS s) w) := by
  by_cases hL : lenS s = 0
  · rw [isB_no (.inr hL)]; exact rp_none s w hs hL
  by_cases hz : s.size ≠ lenS s
  · rw [isB_no (.inl hz)]; exact rp_size s w hs _ rfl hL hz
  have hz := Decidable.not_not.1 hz
  by_cases hl : byt s (s.size - 1) ≠ 0
  · have : parseS s = none := by
      unfold parseS
      rw [if_neg]
      intro hb
      exact hl (of_decide_eq_true hb).2.2
    rw [this]
    exact rp_last s w hs _ rfl hL hz (by rw [← hz]; exact hl)
  have hl := Decidable.not_not.1 hl
  have hp : parseS s = ask s := by
    unfold parseS
    rw [if_pos (show isB s = true from decide_eq_true ⟨hL, hz, hl⟩)]
  rw [hp]
  have h0 : s.size ≠ 0 := by omega
  have hls := lenS_yes h0
  have hB : lenB (byt s 0) ≠ 0 := by rw [← hls]; exact hL
  have hS : s.size = lenB (byt s 0) := by rw [← hls]; exact hz
  clear hp hL hz hls hs h0
  rcases lenB_in hB with hb | hb | hb | hb | hb | hb | hb | hb | hb | hb | hb | hb | hb | hb
  · have h1 : s.size = 6 := by rw [hS, hb]; rfl
    have h2 : byt s 5 = 0 := by rw [h1] at hl; exact hl
    clear hS hl hB
    rw [show ask s = some { zA with op := 0 } from by unfold ask; dsimp only; rw [hb]; rfl]
    exact rp_0 s w h1 hb h2
  · have h1 : s.size = 6 := by rw [hS, hb]; rfl
    have h2 : byt s 5 = 0 := by rw [h1] at hl; exact hl
    clear hS hl hB
    rw [show ask s = some { zA with op := 18, page := if byt s 1 % 2 = 1 then ((256 + byt s 2 : Nat) : Int) else 0, want := big s 3 2 } from by unfold ask; dsimp only; rw [hb]; rfl]
    by_cases hy : byt s 1 % 2 = 1
    · rw [if_pos hy]; exact rp_18a s w h1 hb h2 hy
    · rw [if_neg hy]; exact rp_18b s w h1 hb h2 hy
  · have h1 : s.size = 10 := by rw [hS, hb]; rfl
    have h2 : byt s 9 = 0 := by rw [h1] at hl; exact hl
    clear hS hl hB
    rw [show ask s = some { zA with op := 37 } from by unfold ask; dsimp only; rw [hb]; rfl]
    exact rp_37 s w h1 hb h2
  · have h1 : s.size = 10 := by rw [hS, hb]; rfl
    have h2 : byt s 9 = 0 := by rw [h1] at hl; exact hl
    clear hS hl hB
    rw [show ask s = some { zA with op := 40, lba := big s 2 4, blk := big s 7 2, fu := false } from by unfold ask; dsimp only; rw [hb]; rfl]
    exact rp_40 s w h1 hb h2
  · have h1 : s.size = 10 := by rw [hS, hb]; rfl
    have h2 : byt s 9 = 0 := by rw [h1] at hl; exact hl
    clear hS hl hB
    rw [show ask s = some { zA with op := 42, lba := big s 2 4, blk := big s 7 2, fu := byt s 1 / 8 % 2 == 1 } from by unfold ask; dsimp only; rw [hb]; rfl]
    exact rp_42 s w h1 hb h2
  · have h1 : s.size = 10 := by rw [hS, hb]; rfl
    have h2 : byt s 9 = 0 := by rw [h1] at hl; exact hl
    clear hS hl hB
    rw [show ask s = some { zA with op := 53 } from by unfold ask; dsimp only; rw [hb]; rfl]
    exact rp_53 s w h1 hb h2
  · have h1 : s.size = 10 := by rw [hS, hb]; rfl
    have h2 : byt s 9 = 0 := by rw [h1] at hl; exact hl
    clear hS hl hB
    rw [show ask s = some { zA with op := 66, want := big s 7 2 } from by unfold ask; dsimp only; rw [hb]; rfl]
    exact rp_66 s w h1 hb h2
  · have h1 : s.size = 10 := by rw [hS, hb]; rfl
    have h2 : byt s 9 = 0 := by rw [h1] at hl; exact hl
    clear hS hl hB
    exact rp_94 s w h1 hb h2
  · have h1 : s.size = 10 := by rw [hS, hb]; rfl
    have h2 : byt s 9 = 0 := by rw [h1] at hl; exact hl
    clear hS hl hB
    exact rp_95 s w h1 hb h2
  · have h1 : s.size = 12 := by rw [hS, hb]; rfl
    have h2 : byt s 11 = 0 := by rw [h1] at hl; exact hl
    clear hS hl hB
    rw [show ask s = some { zA with op := 160, want := big s 6 4 } from by unfold ask; dsimp only; rw [hb]; rfl]
    exact rp_160 s w h1 hb h2
  · have h1 : s.size = 16 := by rw [hS, hb]; rfl
    have h2 : byt s 15 = 0 := by rw [h1] at hl; exact hl
    clear hS hl hB
    rw [show ask s = if 136 = 147 ∧ byt s 1 % 2 = 0 then none else if 2147483648 ≤ big s 2 8 ∨ 2147483648 ≤ big s 10 4 then none else some { zA with op := 136, lba := big s 2 8, blk := big s 10 4, fu := false } from by unfold ask; dsimp only; rw [hb]; rfl]
    rw [if_neg (fun h => absurd h.1 (by decide))]
    by_cases h3 : 2147483648 ≤ big s 2 8
    · rw [if_pos (.inl h3)]; exact rp_136l s w h1 hb h2 ⟨numS_hi h3, rfl⟩
    by_cases h4 : 2147483648 ≤ big s 10 4
    · rw [if_pos (.inr h4)]; exact rp_136k s w h1 hb h2 ⟨by rw [numS_lo (by omega)]; omega, h4⟩
    rw [if_neg (by omega), ← numS_lo (by omega)]
    exact rp_136 s w h1 hb h2 ⟨by rw [numS_lo (by omega)]; omega, by omega⟩
  · have h1 : s.size = 16 := by rw [hS, hb]; rfl
    have h2 : byt s 15 = 0 := by rw [h1] at hl; exact hl
    clear hS hl hB
    rw [show ask s = if 2147483648 ≤ big s 2 8 then none else some { zA with op := 137, lba := big s 2 8, blk := byt s 13 } from by unfold ask; dsimp only; rw [hb]; rfl]
    by_cases h3 : 2147483648 ≤ big s 2 8
    · rw [if_pos h3]; exact rp_137l s w h1 hb h2 (numS_hi h3)
    · rw [if_neg h3, ← numS_lo (by omega)]; exact rp_137 s w h1 hb h2 (by rw [numS_lo (by omega)]; omega)
  · have h1 : s.size = 16 := by rw [hS, hb]; rfl
    have h2 : byt s 15 = 0 := by rw [h1] at hl; exact hl
    clear hS hl hB
    rw [show ask s = if 138 = 147 ∧ byt s 1 % 2 = 0 then none else if 2147483648 ≤ big s 2 8 ∨ 2147483648 ≤ big s 10 4 then none else some { zA with op := 138, lba := big s 2 8, blk := big s 10 4, fu := byt s 1 / 8 % 2 == 1 } from by unfold ask; dsimp only; rw [hb]; rfl]
    rw [if_neg (fun h => absurd h.1 (by decide))]
    by_cases h3 : 2147483648 ≤ big s 2 8
    · rw [if_pos (.inl h3)]; exact rp_138l s w h1 hb h2 ⟨numS_hi h3, rfl⟩
    by_cases h4 : 2147483648 ≤ big s 10 4
    · rw [if_pos (.inr h4)]; exact rp_138k s w h1 hb h2 ⟨by rw [numS_lo (by omega)]; omega, h4⟩
    rw [if_neg (by omega), ← numS_lo (by omega)]
    exact rp_138 s w h1 hb h2 ⟨by rw [numS_lo (by omega)]; omega, by omega⟩
  · have h1 : s.size = 16 := by rw [hS, hb]; rfl
    have h2 : byt s 15 = 0 := by rw [h1] at hl; exact hl
    clear hS hl hB
    rw [show ask s = if 147 = 147 ∧ byt s 1 % 2 = 0 then none else if 2147483648 ≤ big s 2 8 ∨ 2147483648 ≤ big s 10 4 then none else some { zA with op := 147, lba := big s 2 8, blk := big s 10 4, fu := false } from by unfold ask; dsimp only; rw [hb]; rfl]
    by_cases hy : byt s 1 % 2 = 0
    · rw [if_pos ⟨rfl, hy⟩]; exact rp_147e s w h1 hb h2 ⟨rfl, rfl, hy⟩
    rw [if_neg (fun h => hy h.2)]
    by_cases h3 : 2147483648 ≤ big s 2 8
    · rw [if_pos (.inl h3)]; exact rp_147l s w h1 hb h2 ⟨numS_hi h3, rfl, by omega⟩
    by_cases h4 : 2147483648 ≤ big s 10 4
    · rw [if_pos (.inr h4)]; exact rp_147k s w h1 hb h2 ⟨by rw [numS_lo (by omega)]; omega, h4, by omega⟩
    rw [if_neg (by omega), ← numS_lo (by omega)]
    exact rp_147 s w h1 hb h2 ⟨by rw [numS_lo (by omega)]; omega, by omega, by omega⟩
end Go.Proofs.YtaachlijpgmjeaaDoor
