/- Both devices, and blocks beside them that no call on them touches. -/
import Derived.Test.YtlcaokgdbocmiaaDevInts
namespace Go.Proofs.Ytlcaokgdbocmiaa
open Go.RowKit
def Two (A C : Thing) : Thing := fun w G => ∃ G1 G2, A w G1 ∧ C w G2 ∧ (∀ k, G1 k → ¬ G2 k) ∧ ∀ k, G k ↔ G1 k ∨ G2 k
theorem framed_two {A C : Thing} (hA : Framed A) (hC : Framed C) : Framed (Two A C) := by
  refine ⟨fun w w' G S h ho hd => ?_, fun w G h k hk => ?_⟩
  · obtain ⟨G1, G2, h1, h2, h3, h4⟩ := h
    exact ⟨G1, G2, hA.keep _ _ _ _ h1 ho (fun k hk => hd k ((h4 k).2 (.inl hk))), hC.keep _ _ _ _ h2 ho (fun k hk => hd k ((h4 k).2 (.inr hk))), h3, h4⟩
  · obtain ⟨G1, G2, h1, h2, h3, h4⟩ := h
    rcases (h4 k).1 hk with hk | hk
    · exact hA.lt _ _ h1 k hk
    · exact hC.lt _ _ h2 k hk
theorem Duo.turn {B : Nat} {w0 w : World} {A1 A2 C : Thing} (h : Duo B w0 A1 (Two A2 C) w) : Duo B w0 A2 (Two A1 C) w := by
  obtain ⟨F, G, h⟩ := h
  obtain ⟨G1, G2, h1, h2, h3, h4⟩ := h.two
  refine ⟨G1, fun k => F k ∨ G2 k, h1, ⟨F, G2, h.one, h2, fun k hf hg => h.apart k hf ((h4 k).2 (.inr hg)), fun k => Iff.rfl⟩, fun k hk hf => ?_, fun k hk => h.lo2 k ((h4 k).2 (.inl hk)), fun k hk => ?_, h.below⟩
  · rcases hf with hf | hf
    · exact h.apart k hf ((h4 k).2 (.inl hk))
    · exact h3 k hk hf
  · rcases hk with hk | hk
    · exact h.lo1 k hk
    · exact h.lo2 k ((h4 k).2 (.inr hk))
/-- The blocks of S are as they were in wz. -/
def SnapA (wz : World) (S : Nat → Prop) : Thing := fun w G => (∀ k, G k ↔ S k) ∧ ∀ k, S k → k < w.heap.size ∧ w.heap[k]? = wz.heap[k]?
theorem framed_snap (wz : World) (S : Nat → Prop) : Framed (SnapA wz S) := by
  refine ⟨fun w w' G S' h ho hd => ⟨h.1, fun k hk => ⟨Nat.lt_of_lt_of_le (h.2 k hk).1 ho.size, (ho.block k (h.2 k hk).1 (hd k ((h.1 k).2 hk))).trans (h.2 k hk).2⟩⟩, fun w G h k hk => (h.2 k ((h.1 k).1 hk)).1⟩
/-- Bo, with the blocks of S as in wz. -/
def Bt (wz : World) (S : Nat → Prop) (w0 : World) (P Q : Value) (n : Nat) (x y : OSt) (w : World) : Prop :=
  (P = .pointer none ∧ Q = .pointer none ∧ x = none ∧ y = none ∧ Duo w0.heap.size w0 NoA (SnapA wz S) w) ∨
  ∃ p q x' y', P = .pointer (some ⟨p, 0, none⟩) ∧ Q = .pointer (some ⟨q, 0, none⟩) ∧ x = some x' ∧ y = some y' ∧ Duo w0.heap.size w0 (DvA p n x') (Two (RfA q n y') (SnapA wz S)) w
section
variable {w0 w wz : World} {S : Nat → Prop} {P Q : Value} {n : Nat} {x y : OSt}
theorem Bo.join (h : Bo w0 P Q n x y w) {w' : World} (hb : Below w.heap.size w w') (hS : ∀ k, S k → w.heap.size ≤ k ∧ k < w'.heap.size) : Bt w' S w0 P Q n x y w' := by
  have hs := h.below.size
  rcases h with ⟨h1, h2, h3, h4, h⟩ | ⟨p, q, x', y', h1, h2, h3, h4, F, G, h⟩
  · exact .inl ⟨h1, h2, h3, h4, fun _ => False, S, fun _ h => h, ⟨fun k => Iff.rfl, fun k hk => ⟨(hS k hk).2, rfl⟩⟩, fun _ h => h.elim, fun _ h => h.elim, fun k hk => Nat.le_trans hs (hS k hk).1, h.trans (hb.mono hs)⟩
  · have ho : Only nobody w w' := Only.of_below hb
    have l1 := (framed_dv p n x').lt w F h.one
    have l2 := (framed_rf q n y').lt w G h.two
    refine .inr ⟨p, q, x', y', h1, h2, h3, h4, F, fun k => G k ∨ S k, (framed_dv _ _ _).keep _ _ _ _ h.one ho (fun _ _ h => h), ⟨G, S, (framed_rf _ _ _).keep _ _ _ _ h.two ho (fun _ _ h => h), ⟨fun k => Iff.rfl, fun k hk => ⟨(hS k hk).2, rfl⟩⟩, fun k hk hs' => ?_, fun k => Iff.rfl⟩, fun k hk hs' => ?_, h.lo1, fun k hk => ?_, h.below.trans (hb.mono hs)⟩
    · have := l2 k hk
      have := (hS k hs').1
      omega
    · rcases hs' with hg | hs'
      · exact h.apart k hk hg
      · have := l1 k hk
        have := (hS k hs').1
        omega
    · rcases hk with hk | hk
      · exact h.lo2 k hk
      · exact Nat.le_trans hs (hS k hk).1
theorem Bt.drop (h : Bt wz S w0 P Q n x y w) : Bo w0 P Q n x y w := by
  rcases h with ⟨h1, h2, h3, h4, F, G, h⟩ | ⟨p, q, x', y', h1, h2, h3, h4, F, G, h⟩
  · exact .inl ⟨h1, h2, h3, h4, h.below⟩
  · obtain ⟨G1, G2, a1, a2, a3, a4⟩ := h.two
    exact .inr ⟨p, q, x', y', h1, h2, h3, h4, F, G1, h.one, a1, fun k hk hg => h.apart k hk ((a4 k).2 (.inl hg)), h.lo1, fun k hk => h.lo2 k ((a4 k).2 (.inl hk)), h.below⟩
theorem Bt.snap (h : Bt wz S w0 P Q n x y w) {k : Nat} (hk : S k) : w.heap[k]? = wz.heap[k]? := by
  rcases h with ⟨h1, h2, h3, h4, F, G, h⟩ | ⟨p, q, x', y', h1, h2, h3, h4, F, G, h⟩
  · exact (h.two.2 k hk).2
  · obtain ⟨G1, G2, a1, a2, a3, a4⟩ := h.two
    exact (a2.2 k hk).2
theorem Bt.blk (h : Bt wz S w0 P Q n x y w) {k : Nat} (hk : S k) {t : TypeId} {cs : Array Value} (hb : Blk wz k t cs) : Blk w k t cs := (h.snap hk).trans hb
theorem same_keep {w : World} {e : Ending} {w' : World} {v : Ending} (hq : e = v ∧ w = w') (h : Bt wz S w0 P Q n x y w) : e = v ∧ Bt wz S w0 P Q n x y w' := ⟨hq.1, by rw [← hq.2]; exact h⟩
theorem tp_write (h : Bt wz S w0 P Q n x y w) (i : Int) (s : ByteArray) (hi : -9223372036854775808 ≤ i ∧ i ≤ 9223372036854775807) (hs : s.size ≤ 140737488355328) (hk : oOps x ≤ 1000000000000) :
    Calls Try.prog 14 #[P, .int .i64 i, .string s] w fun e w' => e = .returned (.int .i64 (oWrite n i s x).2) ∧ Bt wz S w0 P Q n (oWrite n i s x).1 y w' := by
  rcases h with ⟨rfl, rfl, rfl, rfl, h⟩ | ⟨p, q, x, y, rfl, rfl, rfl, rfl, h⟩
  · exact (write_nil w i s hs).mono fun e w' hq => same_keep hq (.inl ⟨rfl, rfl, rfl, rfl, h⟩)
  · exact (p_write (Nat.le_refl _) (framed_two (framed_rf _ _ _) (framed_snap _ _)) h i s hi hs hk).mono fun e w' hq => ⟨hq.1, .inr ⟨p, q, _, _, rfl, rfl, rfl, rfl, hq.2⟩⟩
theorem tq_write (h : Bt wz S w0 P Q n x y w) (i : Int) (s : ByteArray) (hs : s.size ≤ 140737488355328) (hk : oOps y ≤ 1000000000000) :
    Calls Try.prog 15 #[Q, .int .i64 i, .string s] w fun e w' => e = .returned (.int .i64 (oWrite n i s y).2) ∧ Bt wz S w0 P Q n x (oWrite n i s y).1 w' := by
  rcases h with ⟨rfl, rfl, rfl, rfl, h⟩ | ⟨p, q, x, y, rfl, rfl, rfl, rfl, h⟩
  · exact (rwrite_nil w i s).mono fun e w' hq => same_keep hq (.inl ⟨rfl, rfl, rfl, rfl, h⟩)
  · exact (r_write (Nat.le_refl _) (framed_two (framed_dv _ _ _) (framed_snap _ _)) h.turn i s hs hk).mono fun e w' hq => ⟨hq.1, .inr ⟨p, q, _, _, rfl, rfl, rfl, rfl, hq.2.turn⟩⟩
theorem tp_read (h : Bt wz S w0 P Q n x y w) (i k : Int) (hi : -9223372036854775808 ≤ i ∧ i ≤ 9223372036854775807) :
    Calls Try.prog 16 #[P, .int .i64 i, .int .i64 k] w fun e w' => e = .returned (.tuple #[.string (oRead n i k x), .int .i64 (oWhy n i k x)]) ∧ Bt wz S w0 P Q n x y w' := by
  rcases h with ⟨rfl, rfl, rfl, rfl, h⟩ | ⟨p, q, x, y, rfl, rfl, rfl, rfl, h⟩
  · exact (read_nil w i k).mono fun e w' hq => same_keep hq (.inl ⟨rfl, rfl, rfl, rfl, h⟩)
  · exact (p_read (Nat.le_refl _) (framed_two (framed_rf _ _ _) (framed_snap _ _)) h i k hi).mono fun e w' hq => ⟨hq.1, .inr ⟨p, q, _, _, rfl, rfl, rfl, rfl, hq.2⟩⟩
theorem tp_arm (h : Bt wz S w0 P Q n x y w) (k : Int) (hk : k ≤ 9223372036854775807) : Calls Try.prog 20 #[P, .int .i64 k] w fun e w' => e = .returned (.tuple #[]) ∧ Bt wz S w0 P Q n (oArm k x) y w' := by
  rcases h with ⟨rfl, rfl, rfl, rfl, h⟩ | ⟨p, q, x, y, rfl, rfl, rfl, rfl, h⟩
  · exact (arm_nil w k).mono fun e w' hq => same_keep hq (.inl ⟨rfl, rfl, rfl, rfl, h⟩)
  · exact (d_arm (Nat.le_refl _) (framed_two (framed_rf _ _ _) (framed_snap _ _)) h k hk).mono fun e w' hq => ⟨hq.1, .inr ⟨p, q, _, _, rfl, rfl, rfl, rfl, hq.2⟩⟩
theorem tp_crash (h : Bt wz S w0 P Q n x y w) (hk : oOps x ≤ 1000000000000) (A : Option Addr) (c : Nat) (ks : List Int) (hks : Nums w A ks) (hoff : 0 < ks.length → ∀ a, A = some a → S a.block) (hlen : ks.length ≤ maxLen) :
    Calls Try.prog 22 #[P, .slice A ks.length c] w fun e w' => e = .returned (.tuple #[]) ∧ Bt wz S w0 P Q n (oCrash ks x) y w' := by
  rcases h with ⟨rfl, rfl, rfl, rfl, h⟩ | ⟨p, q, x, y, rfl, rfl, rfl, rfl, F, G, h⟩
  · exact (crash_nil w _).mono fun e w' hq => same_keep hq (.inl ⟨rfl, rfl, rfl, rfl, h⟩)
  · obtain ⟨G1, G2, a1, a2, a3, a4⟩ := h.two
    refine (crash_any w h.one hk A c ks hks (fun hn a ha hf => ?_) hlen).mono fun e w' hq => ⟨hq.1, .inr ⟨p, q, _, _, rfl, rfl, rfl, rfl, Duo.step (Nat.le_refl _) (framed_two (framed_rf _ _ _) (framed_snap _ _)) h hq.2⟩⟩
    exact h.apart _ hf ((a4 _).2 (.inr ((a2.1 _).2 (hoff hn a ha))))
theorem tq_crash (h : Bt wz S w0 P Q n x y w) (hk : oOps y ≤ 1000000000000) (A : Option Addr) (c : Nat) (ks : List Int) (hks : Nums w A ks) (hoff : 0 < ks.length → ∀ a, A = some a → a.block < w0.heap.size) (hlen : ks.length ≤ maxLen) :
    Calls Try.prog 23 #[Q, .slice A ks.length c] w fun e w' => e = .returned (.tuple #[]) ∧ Bt wz S w0 P Q n x (oCrash ks y) w' := by
  rcases h with ⟨rfl, rfl, rfl, rfl, h⟩ | ⟨p, q, x, y, rfl, rfl, rfl, rfl, h⟩
  · exact (rcrash_nil w _).mono fun e w' hq => same_keep hq (.inl ⟨rfl, rfl, rfl, rfl, h⟩)
  · exact (r_crash (Nat.le_refl _) (framed_two (framed_dv _ _ _) (framed_snap _ _)) h.turn hk A c ks hks hoff hlen).mono fun e w' hq => ⟨hq.1, .inr ⟨p, q, _, _, rfl, rfl, rfl, rfl, hq.2.turn⟩⟩
end
end Go.Proofs.Ytlcaokgdbocmiaa
