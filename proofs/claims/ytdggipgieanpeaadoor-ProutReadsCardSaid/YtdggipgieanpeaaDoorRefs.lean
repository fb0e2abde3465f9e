/- Big and Little of the document, at every input. -/
import Derived.Test.YtdggipgieanpeaaDoorAsk
namespace Go.Proofs.YtdggipgieanpeaaDoor
open Go.RowKit
theorem bigStep (f : Nat → Nat) (hf : ∀ i, f i < 256) (k : Nat) (hk : k < 8) : bigV f k * 256 + f k < 18446744073709551616 := by
  have := bigV_u64 f hf (k + 1) (by omega)
  simpa [bigV] using this
theorem wrapStep (v b : Nat) (h : v * 256 + b < 18446744073709551616) : IntKind.u64.wrap ((v : Int) * 256 + IntKind.u64.wrap (b : Int)) = ((v * 256 + b : Nat) : Int) := by
  rw [IntKind.wrap_u64, IntKind.wrap_u64]; omega
theorem bigStepV (f : Nat → Nat) (hf : ∀ i, f i < 256) (k : Nat) (hk : k < 8) :
    Value.int .u64 (IntKind.u64.wrap ((bigV f k : Int) * 256 + IntKind.u64.wrap (f k : Int))) = .int .u64 (bigV f (k + 1) : Nat) := by
  rw [wrapStep _ _ (bigStep f hf k hk)]; rfl
-- what the document's own way of reading, from the right, has: v rounds behind, k to come
theorem litDown (f : Nat → Nat) (n k v : Nat) (h : v * 256 ^ (k + 1) + litV f (k + 1) = litV f n) : (v * 256 + f k) * 256 ^ k + litV f k = litV f n := by
  rw [← h]; simp only [litV]; rw [Nat.pow_succ, Nat.add_mul, Nat.mul_assoc v, Nat.mul_comm 256]; omega
theorem litDown_lt (f : Nat → Nat) (n k v : Nat) (hf : ∀ i, f i < 256) (hn : n ≤ 8) (h : v * 256 ^ k + litV f k = litV f n) : v < 18446744073709551616 := by
  have h1 := litV_u64 f hf n hn
  have h2 : v * 1 ≤ v * 256 ^ k := Nat.mul_le_mul_left _ (Nat.pow_pos (by omega))
  omega
end Go.Proofs.YtdggipgieanpeaaDoor
