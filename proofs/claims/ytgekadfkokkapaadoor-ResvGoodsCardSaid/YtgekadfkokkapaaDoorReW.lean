/- A change worked on: the program's Do, whatever the operation. -/
import Derived.Test.YtgekadfkokkapaaDoorReW0
import Derived.Test.YtgekadfkokkapaaDoorReW8
import Derived.Test.YtgekadfkokkapaaDoorReW9
import Derived.Test.YtgekadfkokkapaaDoorReW10
import Derived.Test.YtgekadfkokkapaaDoorReW11
import Derived.Test.YtgekadfkokkapaaDoorReW12
namespace Go.Proofs.YtgekadfkokkapaaDoor
open Go.RowKit
theorem do_any (A : Option Addr) (c : Nat) (t : Tl) (m : Cm) (w : World) (hl : Rgs w A t.rs) (hm : t.rs.length ≤ 1000) (hx : ∀ x ∈ t.rs, x.h.size ≤ 1000) (hh : t.ho.size ≤ 1000) (hs : m.ho.size ≤ 1000) (hrt : RTab w) :
    Calls Tryd.prog 22 #[tlV A c t, cmV m] w fun e w' => DoOut w t m e w' := by
  cases hg : doG t m with
  | false => exact do_wrong A c t m w hl hm hx hh hs hrt hg
  | true =>
    obtain ⟨⟨h1, h2⟩, hgt, hnm⟩ := doG_iff.1 hg
    have hgb := goodB_iff.2 hgt
    rcases (show m.op = 8 ∨ m.op = 9 ∨ m.op = 10 ∨ m.op = 11 ∨ m.op = 12 by omega) with h | h | h | h | h
    · exact do_op8 A c t m w hl hm hx hh hs hrt h hgb hnm
    · exact do_op9 A c t m w hl hm hx hh hs hrt h hgb hnm
    · exact do_op10 A c t m w hl hm hx hh hs hrt h hgb hnm
    · exact do_op11 A c t m w hl hm hx hh hs hrt h hgb hnm
    · exact do_op12 A c t m w hl hm hx hh hs hrt h hgb hnm
end Go.Proofs.YtgekadfkokkapaaDoor
