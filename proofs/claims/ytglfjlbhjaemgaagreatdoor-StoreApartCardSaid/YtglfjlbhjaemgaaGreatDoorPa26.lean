/- headgatekeep.Texts. The small example. -/
import Derived.Test.YtglfjlbhjaemgaaGreatDoorPa25
namespace Go.Proofs.YtglfjlbhjaemgaaGreatDoor
open Go.RowKit
/-- Texts that can be read. -/
def Seen (w : World) (A : Option Addr) (xs : List ByteArray) : Prop := ∀ i s, xs[i]? = some s → ∃ b o, A = some ⟨b, o, none⟩ ∧ w.cell? ⟨b, o + i, none⟩ = some (.string s)
theorem Recs.seen {w : World} {A : Option Addr} {n c : Nat} {xs : List ByteArray} (h : Recs w (.slice A n c) xs) : Seen w A xs := fun _ _ hi => h.cell hi
theorem Seen.below {w w' : World} {A : Option Addr} {xs : List ByteArray} (h : Seen w A xs) (hb : Below w.heap.size w w') : Seen w' A xs := fun i s hi => by
  obtain ⟨b, o, e, hc⟩ := h i s hi
  exact ⟨b, o, e, (hb.cell (p := ⟨b, o + i, none⟩) (World.block_lt_of_cell? _ _ hc)).trans hc⟩
theorem Seen.only {S : Nat → Prop} {w w' : World} {A : Option Addr} {xs : List ByteArray} (h : Seen w A xs) (ho : Only S w w') (hs : ∀ a, A = some a → ¬ S a.block) : Seen w' A xs := fun i s hi => by
  obtain ⟨b, o, e, hc⟩ := h i s hi
  exact ⟨b, o, e, ho.cell hc (show ¬ S b from hs ⟨b, o, none⟩ e)⟩
theorem below_go {w a b : World} {S : Nat → Prop} (h : Below w.heap.size w a) (ho : Only S a b) (hs : ∀ k, S k → w.heap.size ≤ k) : Below w.heap.size w b := h.trans (ho.toBelow h.size hs)
theorem grew_lo {B : Nat} {a : World} {S T : Nat → Prop} (h : Grew S a T) (hs : ∀ k, S k → B ≤ k) (hB : B ≤ a.heap.size) : ∀ k, T k → B ≤ k := fun k hk => (h k hk).elim (hs k) (Nat.le_trans hB)
theorem lo_far {w : World} {S : Nat → Prop} (ht : Tab w) (hs : ∀ k, S k → w.heap.size ≤ k) : ¬ S gTab := fun hk => absurd ht.pos (Nat.not_lt.2 (hs _ hk))
/-- A device and a journal above a world. -/
structure Up (w0 w : World) (p q n : Nat) (x : St) (j : Jn) : Prop where
  jd : ∃ S, JD w S p q n x j ∧ ∀ k, S k → w0.heap.size ≤ k
  below : Below w0.heap.size w0 w
theorem Up.go {w0 w w' : World} {p q n : Nat} {x y : St} {j i : Jn} (h : Up w0 w p q n x j) (k : ∀ S, JD w S p q n x j → JOut S w p q n y i w') : Up w0 w' p q n y i := by
  obtain ⟨S, hj, hs⟩ := h.jd
  obtain ⟨S', hj', ho, hg⟩ := k S hj
  exact ⟨⟨S', hj', grew_lo hg hs h.below.size⟩, below_go h.below ho hs⟩
theorem Up.more {w0 w w' : World} {p q n : Nat} {x : St} {j : Jn} (h : Up w0 w p q n x j) (hb : Below w.heap.size w w') : Up w0 w' p q n x j := h.go fun _ hj => JOut.below hj hb
end Go.Proofs.YtglfjlbhjaemgaaGreatDoor
