/- PutBig and PutLittle of the document, at every input. -/
import Derived.Test.YtdggipgieanpeaaDoorWrites
namespace Go.Proofs.YtdggipgieanpeaaDoor
open Go.RowKit
def mixB (g : Nat → Nat) (p : Nat → Bool) (n : Nat) : List UInt8 := (List.range n).map fun i => if p i then UInt8.ofNat (g i) else 0
theorem mix_set (g : Nat → Nat) (p q : Nat → Bool) (n j : Nat) (h : ∀ i, i < n → i ≠ j → q i = p i) (hq : q j = true) (u : Int) (hu : u = ((g j % 256 : Nat) : Int)) :
    (bv (mixB g p n)).set j (.int .u8 u) = bv (mixB g q n) := by
  subst hu
  apply List.ext_getElem?
  intro i
  by_cases hi : i < n
  · by_cases hij : j = i
    · subst hij
      simp [bv, mixB, hi, hq]
    · have := h i hi (fun e => hij e.symm)
      simp [bv, mixB, hi, hij, this]
  · simp [bv, mixB, hi]
theorem mix_none (g : Nat → Nat) (n : Nat) : bv (mixB g (fun _ => false) n) = List.replicate n (.int .u8 0) := by
  apply List.ext_getElem?
  intro i
  by_cases hi : i < n <;> simp [bv, mixB, hi]
theorem mix_all (g : Nat → Nat) (p : Nat → Bool) (n : Nat) (h : ∀ i, i < n → p i = true) : mixB g p n = outB g n := by
  unfold mixB outB
  exact List.map_congr_left fun i hi => by rw [h i (List.mem_range.1 hi)]; rfl
theorem mix_cell (g : Nat → Nat) (p : Nat → Bool) (n j : Nat) (hj : j < n) (u : Value) (B : Nat) (wr : World) (hu : wr.ownsRow B 5 1 u n (bv (mixB g p n))) (b : Nat) (hb : u = .slice (some ⟨b, 0, none⟩) n n) :
    ∃ y, wr.cell? ⟨b, j, none⟩ = some y := by
  subst hb
  rw [hu.cellAt j (by omega)]
  exact ⟨_, by simp [bv, mixB, hj]; rfl⟩
theorem div_step (x k : Nat) : x / 256 ^ k / 256 = x / 256 ^ (k + 1) := by rw [Nat.div_div_eq_div_mul, Nat.pow_succ]
theorem div_fits (x k : Nat) (hx : x < 18446744073709551616) : x / 256 ^ k < 18446744073709551616 := Nat.lt_of_le_of_lt (Nat.div_le_self _ _) hx
theorem loG_eq (x k : Nat) : loG x k = x / 256 ^ k := by unfold loG; rw [pow8]
theorem hiG_eq (x n k : Nat) : hiG x n k = x / 256 ^ (n - (k + 1)) := by unfold hiG; rw [pow8, show n - 1 - k = n - (k + 1) by omega]
theorem div_next (x n k : Nat) (h : k + 1 ≤ n) : x / 256 ^ (n - (k + 1)) / 256 = x / 256 ^ (n - k) := by rw [div_step, show n - (k + 1) + 1 = n - k by omega]
end Go.Proofs.YtdggipgieanpeaaDoor
