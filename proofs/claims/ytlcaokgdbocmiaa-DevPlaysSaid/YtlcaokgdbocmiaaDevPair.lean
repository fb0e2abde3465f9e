/- Both devices, made or not: one word for the two cases. -/
import Derived.Test.YtlcaokgdbocmiaaDevBoth
namespace Go.Proofs.Ytlcaokgdbocmiaa
open Go.RowKit
abbrev OSt := Option St
/-- The program's device P has the state x, the document's Q the state y. -/
def Bo (w0 : World) (P Q : Value) (n : Nat) (x y : OSt) (w : World) : Prop :=
  (P = .pointer none ∧ Q = .pointer none ∧ x = none ∧ y = none ∧ Below w0.heap.size w0 w) ∨
  ∃ p q x' y', P = .pointer (some ⟨p, 0, none⟩) ∧ Q = .pointer (some ⟨q, 0, none⟩) ∧ x = some x' ∧ y = some y' ∧ Duo w0.heap.size w0 (DvA p n x') (RfA q n y') w
theorem Bo.below {w0 : World} {P Q : Value} {n : Nat} {x y : OSt} {w : World} (h : Bo w0 P Q n x y w) : Below w0.heap.size w0 w := by
  rcases h with ⟨_, _, _, _, h⟩ | ⟨p, q, x', y', _, _, _, _, F, G, h⟩
  · exact h
  · exact h.below
theorem Bo.more {w0 : World} {P Q : Value} {n : Nat} {x y : OSt} {w w' : World} (h : Bo w0 P Q n x y w) (hb : Below w.heap.size w w') : Bo w0 P Q n x y w' := by
  have hs := h.below.size
  rcases h with ⟨h1, h2, h3, h4, h⟩ | ⟨p, q, x', y', h1, h2, h3, h4, h⟩
  · exact .inl ⟨h1, h2, h3, h4, h.trans (hb.mono hs)⟩
  · exact .inr ⟨p, q, x', y', h1, h2, h3, h4, h.more (Nat.le_refl _) (framed_dv _ _ _) (framed_rf _ _ _) hb⟩
theorem Bo.drew {w0 : World} {P Q : Value} {n : Nat} {x y : OSt} {w : World} (h : Bo w0 P Q n x y w) : Bo w0 P Q n x y w.drew := h.more (Below.refl _ _).drew
theorem Bo.alloc {w0 : World} {P Q : Value} {n : Nat} {x y : OSt} {w : World} (h : Bo w0 P Q n x y w) (o : Obj) : Bo w0 P Q n x y (w.alloc o) := h.more ((Below.refl _ _).alloc (Nat.le_refl _) o)
theorem Bo.cell {w0 : World} {P Q : Value} {n : Nat} {x y : OSt} {w : World} (h : Bo w0 P Q n x y w) {a : Addr} {v : Value} (hc : w0.cell? a = some v) : w.cell? a = some v :=
  (h.below.cell (World.block_lt_of_cell? _ _ hc)).trans hc
theorem Bo.nums {w0 : World} {P Q : Value} {n : Nat} {x y : OSt} {w : World} (h : Bo w0 P Q n x y w) {A : Option Addr} {ks : List Int} (hk : Nums w0 A ks) : Nums w A ks := fun hn => by
  obtain ⟨b, o, rfl, hc⟩ := hk hn
  exact ⟨b, o, rfl, fun j v hj => h.cell (hc j v hj)⟩
def oOps : OSt → Nat | none => 0 | some x => x.ops
def oHeld : OSt → Nat | none => 0 | some x => x.held.length
def oDown : OSt → Bool | none => false | some x => x.down
def oSize (n : Nat) : OSt → Nat | none => 0 | some _ => n
def oWrite (n : Nat) (i : Int) (s : ByteArray) : OSt → OSt × Int | none => (none, 1) | some x => (some (x.write n i s).1, (x.write n i s).2)
def oFlush : OSt → OSt × Int | none => (none, 1) | some x => (some x.flush.1, x.flush.2)
def oArm (k : Int) : OSt → OSt | none => none | some x => some (x.arm k)
def oCrash (ks : List Int) : OSt → OSt | none => none | some x => some (x.crash ks)
def oRead (n : Nat) (i k : Int) : OSt → ByteArray | none => ⟨#[]⟩ | some x => x.read n i k
def oWhy (n : Nat) (i k : Int) : OSt → Int | none => 1 | some x => x.why n i k
theorem oWrite_ops (n : Nat) (i : Int) (s : ByteArray) (hs : s.size ≤ 4096) (x : OSt) : oOps (oWrite n i s x).1 ≤ oOps x + 8 := by
  cases x with
  | none => exact Nat.zero_le _
  | some x => exact write_ops x n i s hs
theorem oFlush_ops (x : OSt) : oOps (oFlush x).1 ≤ oOps x + 8 := by
  cases x with
  | none => exact Nat.zero_le _
  | some x => exact flush_ops x
theorem oArm_ops (k : Int) (x : OSt) : oOps (oArm k x) ≤ oOps x + 8 := by
  cases x with
  | none => exact Nat.zero_le _
  | some x => exact Nat.le_add_right _ _
theorem oCrash_ops (ks : List Int) (x : OSt) : oOps (oCrash ks x) ≤ oOps x + 8 := by
  cases x with
  | none => exact Nat.zero_le _
  | some x => exact Nat.le_add_right _ _
section
variable {w0 w : World} {P Q : Value} {n : Nat} {x y : OSt}
theorem same_more {w : World} {e : Ending} {w' : World} {v : Ending} (hq : e = v ∧ w = w') (h : Bo w0 P Q n x y w) : e = v ∧ Bo w0 P Q n x y w' := ⟨hq.1, by rw [← hq.2]; exact h⟩
theorem bp_write (h : Bo w0 P Q n x y w) (i : Int) (s : ByteArray) (hi : -9223372036854775808 ≤ i ∧ i ≤ 9223372036854775807) (hs : s.size ≤ 140737488355328) (hk : oOps x ≤ 1000000000000) :
    Calls Try.prog 14 #[P, .int .i64 i, .string s] w fun e w' => e = .returned (.int .i64 (oWrite n i s x).2) ∧ Bo w0 P Q n (oWrite n i s x).1 y w' := by
  rcases h with ⟨rfl, rfl, rfl, rfl, h⟩ | ⟨p, q, x, y, rfl, rfl, rfl, rfl, h⟩
  · exact (write_nil w i s hs).mono fun e w' hq => same_more hq (.inl ⟨rfl, rfl, rfl, rfl, h⟩)
  · exact (p_write (Nat.le_refl _) (framed_rf _ _ _) h i s hi hs hk).mono fun e w' hq => ⟨hq.1, .inr ⟨p, q, _, _, rfl, rfl, rfl, rfl, hq.2⟩⟩
theorem bq_write (h : Bo w0 P Q n x y w) (i : Int) (s : ByteArray) (hs : s.size ≤ 140737488355328) (hk : oOps y ≤ 1000000000000) :
    Calls Try.prog 15 #[Q, .int .i64 i, .string s] w fun e w' => e = .returned (.int .i64 (oWrite n i s y).2) ∧ Bo w0 P Q n x (oWrite n i s y).1 w' := by
  rcases h with ⟨rfl, rfl, rfl, rfl, h⟩ | ⟨p, q, x, y, rfl, rfl, rfl, rfl, h⟩
  · exact (rwrite_nil w i s).mono fun e w' hq => same_more hq (.inl ⟨rfl, rfl, rfl, rfl, h⟩)
  · exact (r_write (Nat.le_refl _) (framed_dv _ _ _) h.swap i s hs hk).mono fun e w' hq => ⟨hq.1, .inr ⟨p, q, _, _, rfl, rfl, rfl, rfl, hq.2.swap⟩⟩
theorem bp_read (h : Bo w0 P Q n x y w) (i k : Int) (hi : -9223372036854775808 ≤ i ∧ i ≤ 9223372036854775807) :
    Calls Try.prog 16 #[P, .int .i64 i, .int .i64 k] w fun e w' => e = .returned (.tuple #[.string (oRead n i k x), .int .i64 (oWhy n i k x)]) ∧ Bo w0 P Q n x y w' := by
  rcases h with ⟨rfl, rfl, rfl, rfl, h⟩ | ⟨p, q, x, y, rfl, rfl, rfl, rfl, h⟩
  · exact (read_nil w i k).mono fun e w' hq => same_more hq (.inl ⟨rfl, rfl, rfl, rfl, h⟩)
  · exact (p_read (Nat.le_refl _) (framed_rf _ _ _) h i k hi).mono fun e w' hq => ⟨hq.1, .inr ⟨p, q, _, _, rfl, rfl, rfl, rfl, hq.2⟩⟩
theorem bq_read (h : Bo w0 P Q n x y w) (i k : Int) :
    Calls Try.prog 17 #[Q, .int .i64 i, .int .i64 k] w fun e w' => e = .returned (.tuple #[.string (oRead n i k y), .int .i64 (oWhy n i k y)]) ∧ Bo w0 P Q n x y w' := by
  rcases h with ⟨rfl, rfl, rfl, rfl, h⟩ | ⟨p, q, x, y, rfl, rfl, rfl, rfl, h⟩
  · exact (rread_nil w i k).mono fun e w' hq => same_more hq (.inl ⟨rfl, rfl, rfl, rfl, h⟩)
  · exact (r_read (Nat.le_refl _) (framed_dv _ _ _) h.swap i k).mono fun e w' hq => ⟨hq.1, .inr ⟨p, q, _, _, rfl, rfl, rfl, rfl, hq.2.swap⟩⟩
theorem bp_flush (h : Bo w0 P Q n x y w) (hk : oOps x ≤ 1000000000000) : Calls Try.prog 18 #[P] w fun e w' => e = .returned (.int .i64 (oFlush x).2) ∧ Bo w0 P Q n (oFlush x).1 y w' := by
  rcases h with ⟨rfl, rfl, rfl, rfl, h⟩ | ⟨p, q, x, y, rfl, rfl, rfl, rfl, h⟩
  · exact (flush_nil w).mono fun e w' hq => same_more hq (.inl ⟨rfl, rfl, rfl, rfl, h⟩)
  · exact (d_flush (Nat.le_refl _) (framed_rf _ _ _) h hk).mono fun e w' hq => ⟨hq.1, .inr ⟨p, q, _, _, rfl, rfl, rfl, rfl, hq.2⟩⟩
theorem bq_flush (h : Bo w0 P Q n x y w) (hk : oOps y ≤ 1000000000000) : Calls Try.prog 19 #[Q] w fun e w' => e = .returned (.int .i64 (oFlush y).2) ∧ Bo w0 P Q n x (oFlush y).1 w' := by
  rcases h with ⟨rfl, rfl, rfl, rfl, h⟩ | ⟨p, q, x, y, rfl, rfl, rfl, rfl, h⟩
  · exact (rflush_nil w).mono fun e w' hq => same_more hq (.inl ⟨rfl, rfl, rfl, rfl, h⟩)
  · exact (r_flush (Nat.le_refl _) (framed_dv _ _ _) h.swap hk).mono fun e w' hq => ⟨hq.1, .inr ⟨p, q, _, _, rfl, rfl, rfl, rfl, hq.2.swap⟩⟩
theorem bp_arm (h : Bo w0 P Q n x y w) (k : Int) (hk : k ≤ 9223372036854775807) : Calls Try.prog 20 #[P, .int .i64 k] w fun e w' => e = .returned (.tuple #[]) ∧ Bo w0 P Q n (oArm k x) y w' := by
  rcases h with ⟨rfl, rfl, rfl, rfl, h⟩ | ⟨p, q, x, y, rfl, rfl, rfl, rfl, h⟩
  · exact (arm_nil w k).mono fun e w' hq => same_more hq (.inl ⟨rfl, rfl, rfl, rfl, h⟩)
  · exact (d_arm (Nat.le_refl _) (framed_rf _ _ _) h k hk).mono fun e w' hq => ⟨hq.1, .inr ⟨p, q, _, _, rfl, rfl, rfl, rfl, hq.2⟩⟩
theorem bq_arm (h : Bo w0 P Q n x y w) (k : Int) (hk : k ≤ 9223372036854775807) : Calls Try.prog 21 #[Q, .int .i64 k] w fun e w' => e = .returned (.tuple #[]) ∧ Bo w0 P Q n x (oArm k y) w' := by
  rcases h with ⟨rfl, rfl, rfl, rfl, h⟩ | ⟨p, q, x, y, rfl, rfl, rfl, rfl, h⟩
  · exact (rarm_nil w k).mono fun e w' hq => same_more hq (.inl ⟨rfl, rfl, rfl, rfl, h⟩)
  · exact (r_arm (Nat.le_refl _) (framed_dv _ _ _) h.swap k hk).mono fun e w' hq => ⟨hq.1, .inr ⟨p, q, _, _, rfl, rfl, rfl, rfl, hq.2.swap⟩⟩
theorem bp_crash (h : Bo w0 P Q n x y w) {w1 : World} (hb : Below w.heap.size w w1) (hk : oOps x ≤ 1000000000000) (A : Option Addr) (c : Nat) (ks : List Int) (hks : Nums w1 A ks) (hoff : 0 < ks.length → ∀ a, A = some a → a.block < w0.heap.size ∨ w.heap.size ≤ a.block) (hlen : ks.length ≤ maxLen) :
    Calls Try.prog 22 #[P, .slice A ks.length c] w1 fun e w' => e = .returned (.tuple #[]) ∧ Bo w0 P Q n (oCrash ks x) y w' := by
  have hs := h.below.size
  rcases h with ⟨rfl, rfl, rfl, rfl, h⟩ | ⟨p, q, x, y, rfl, rfl, rfl, rfl, h⟩
  · exact (crash_nil w1 _).mono fun e w' hq => same_more hq (.inl ⟨rfl, rfl, rfl, rfl, h.trans (hb.mono hs)⟩)
  · exact (d_crash (Nat.le_refl _) (framed_rf _ _ _) h hb hk A c ks hks hoff hlen).mono fun e w' hq => ⟨hq.1, .inr ⟨p, q, _, _, rfl, rfl, rfl, rfl, hq.2⟩⟩
theorem bq_crash (h : Bo w0 P Q n x y w) (hk : oOps y ≤ 1000000000000) (A : Option Addr) (c : Nat) (ks : List Int) (hks : Nums w A ks) (hoff : 0 < ks.length → ∀ a, A = some a → a.block < w0.heap.size) (hlen : ks.length ≤ maxLen) :
    Calls Try.prog 23 #[Q, .slice A ks.length c] w fun e w' => e = .returned (.tuple #[]) ∧ Bo w0 P Q n x (oCrash ks y) w' := by
  rcases h with ⟨rfl, rfl, rfl, rfl, h⟩ | ⟨p, q, x, y, rfl, rfl, rfl, rfl, h⟩
  · exact (rcrash_nil w _).mono fun e w' hq => same_more hq (.inl ⟨rfl, rfl, rfl, rfl, h⟩)
  · exact (r_crash (Nat.le_refl _) (framed_dv _ _ _) h.swap hk A c ks hks hoff hlen).mono fun e w' hq => ⟨hq.1, .inr ⟨p, q, _, _, rfl, rfl, rfl, rfl, hq.2.swap⟩⟩
theorem bp_ops (h : Bo w0 P Q n x y w) : Calls Try.prog 25 #[P] w fun e w' => e = .returned (.int .i64 (oOps x : Int)) ∧ w = w' := by
  rcases h with ⟨rfl, rfl, rfl, rfl, h⟩ | ⟨p, q, x, y, rfl, rfl, rfl, rfl, h⟩
  · exact ops_nil w
  · exact d_ops h
theorem bq_ops (h : Bo w0 P Q n x y w) : Calls Try.prog 26 #[Q] w fun e w' => e = .returned (.int .i64 (oOps y : Int)) ∧ w = w' := by
  rcases h with ⟨rfl, rfl, rfl, rfl, h⟩ | ⟨p, q, x, y, rfl, rfl, rfl, rfl, h⟩
  · exact rops_nil w
  · exact r_ops h.swap
theorem bp_down (h : Bo w0 P Q n x y w) : Calls Try.prog 27 #[P] w fun e w' => e = .returned (.bool (oDown x)) ∧ w = w' := by
  rcases h with ⟨rfl, rfl, rfl, rfl, h⟩ | ⟨p, q, x, y, rfl, rfl, rfl, rfl, h⟩
  · exact down_nil w
  · exact d_down h
theorem bq_down (h : Bo w0 P Q n x y w) : Calls Try.prog 28 #[Q] w fun e w' => e = .returned (.bool (oDown y)) ∧ w = w' := by
  rcases h with ⟨rfl, rfl, rfl, rfl, h⟩ | ⟨p, q, x, y, rfl, rfl, rfl, rfl, h⟩
  · exact rdown_nil w
  · exact r_down h.swap
theorem bp_held (h : Bo w0 P Q n x y w) : Calls Try.prog 29 #[P] w fun e w' => e = .returned (.int .i64 (oHeld x : Int)) ∧ w = w' := by
  rcases h with ⟨rfl, rfl, rfl, rfl, h⟩ | ⟨p, q, x, y, rfl, rfl, rfl, rfl, h⟩
  · exact held_nil w
  · exact d_held h
theorem bq_held (h : Bo w0 P Q n x y w) : Calls Try.prog 30 #[Q] w fun e w' => e = .returned (.int .i64 (oHeld y : Int)) ∧ w = w' := by
  rcases h with ⟨rfl, rfl, rfl, rfl, h⟩ | ⟨p, q, x, y, rfl, rfl, rfl, rfl, h⟩
  · exact rheld_nil w
  · exact r_held h.swap
theorem bp_size (h : Bo w0 P Q n x y w) : Calls Try.prog 10 #[P] w fun e w' => e = .returned (.int .i64 (oSize n x : Int)) ∧ w = w' := by
  rcases h with ⟨rfl, rfl, rfl, rfl, h⟩ | ⟨p, q, x, y, rfl, rfl, rfl, rfl, h⟩
  · exact size_nil w
  · exact d_size h
theorem bq_size (h : Bo w0 P Q n x y w) : Calls Try.prog 11 #[Q] w fun e w' => e = .returned (.int .i64 (oSize n y : Int)) ∧ w = w' := by
  rcases h with ⟨rfl, rfl, rfl, rfl, h⟩ | ⟨p, q, x, y, rfl, rfl, rfl, rfl, h⟩
  · exact rsize_nil w
  · exact r_size h.swap
end
end Go.Proofs.Ytlcaokgdbocmiaa
