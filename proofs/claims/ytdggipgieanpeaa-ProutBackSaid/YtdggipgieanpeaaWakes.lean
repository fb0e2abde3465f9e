/- Pad of the code, and that the small example with which each statement asks first comes out true. -/
import Derived.Test.YtdggipgieanpeaaPutRefs
namespace Go.Proofs.Ytdggipgieanpeaa
open Go.RowKit
def padB (s : ByteArray) (n : Nat) : ByteArray := s ++ ⟨Array.replicate (n - s.size % n) 0⟩
theorem wakeBig (w : World) : Calls Try.prog 29 #[.string ⟨#[1, 2, 3]⟩, .int .i64 1, .int .i64 2] w fun e w' => e = .returned (.tuple #[.int .u64 515, .bool true]) ∧ Below w.heap.size w w' :=
  (big_any ⟨#[1, 2, 3]⟩ 1 2 w (by unfold maxLen; decide)).mono fun _ _ ⟨he, hb⟩ => ⟨he.trans (ret_two (by decide) (by decide)), hb⟩
theorem wakePut (w : World) : Calls Try.prog 26 #[.int .u64 258, .int .i64 4] w fun e w' => e = .returned (.string ⟨#[0, 0, 1, 2]⟩) ∧ Below w.heap.size w w' :=
  (putBig_any 258 4 w).mono fun _ _ ⟨he, hb⟩ => ⟨he.trans (ret_str (by decide)), hb⟩
end Go.Proofs.Ytdggipgieanpeaa
