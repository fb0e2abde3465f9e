/- DevPlays: both devices made; the steps as they lie in memory. -/
import Derived.Test.YtlcaokgdbocmiaaDevTrio
import Derived.Test.YtlcaokgdbocmiaaRefNew
namespace Go.Proofs.Ytlcaokgdbocmiaa
open Go.RowKit
theorem cell_same {w w' : World} {a : Addr} {v : Value} (h : w'.heap[a.block]? = w.heap[a.block]?) (hc : w.cell? a = some v) : w'.cell? a = some v := (World.cell?_of_block h).trans hc
theorem Bt.nums {w0 w wz : World} {S : Nat → Prop} {P Q : Value} {n : Nat} {x y : OSt} (h : Bt wz S w0 P Q n x y w) {A : Option Addr} {ks : List Int} (hk : Nums wz A ks) (hS : 0 < ks.length → ∀ a, A = some a → S a.block) : Nums w A ks := fun hn => by
  obtain ⟨b, o, rfl, hc⟩ := hk hn
  exact ⟨b, o, rfl, fun j v hj => cell_same (a := ⟨b, o + j, none⟩) (h.snap (hS hn ⟨b, o, none⟩ rfl)) (hc j v hj)⟩
/-- The program's device, made or not, of m sectors. -/
def Ha (w0 : World) (m k : Int) (a : Option Addr) (w : World) : Prop :=
  (a = none ∧ k = 1 ∧ (m < 1 ∨ 8192 < m) ∧ w0 = w) ∨ ∃ p n : Nat, a = some ⟨p, 0, none⟩ ∧ k = 0 ∧ m = (n : Int) ∧ 1 ≤ n ∧ n ≤ 8192 ∧ Duo w0.heap.size w0 (DvA p n (St.new n)) NoA w
theorem begin_p (w : World) (m : Int) : Calls Try.prog 8 #[.int .i64 m] w fun e w' => ∃ a k, e = .returned (.tuple #[.pointer a, .int .i64 k]) ∧ Ha w m k a w' := by
  by_cases h : m < 1 ∨ 8192 < m
  · exact (new_bad w m h).mono fun e w' hq => ⟨none, 1, hq.1, .inl ⟨rfl, rfl, h, hq.2⟩⟩
  · obtain ⟨n, rfl⟩ : ∃ n : Nat, m = (n : Int) := ⟨m.toNat, by omega⟩
    refine (d_new (Nat.le_refl _) framed_no (Duo.start w) n (by omega) (by omega)).mono ?_
    rintro e w' ⟨q, rfl, hd⟩
    exact ⟨_, _, rfl, .inr ⟨q, n, rfl, rfl, rfl, by omega, by omega, hd⟩⟩
theorem begin_q {w0 w : World} {m k : Int} {a : Option Addr} (h : Ha w0 m k a w) : Calls Try.prog 9 #[.int .i64 m] w fun e w' => ∃ b x, e = .returned (.tuple #[.pointer b, .int .i64 k]) ∧ Bo w0 (.pointer a) (.pointer b) m.toNat x x w' ∧ oOps x = 0 := by
  rcases h with ⟨rfl, rfl, h, rfl⟩ | ⟨p, n, rfl, rfl, rfl, h1, h2, hd⟩
  · exact (rnew_bad w0 m h).mono fun e w' hq => ⟨none, none, hq.1, .inl ⟨rfl, rfl, rfl, rfl, by rw [← hq.2]; exact Below.refl _ _⟩, rfl⟩
  · refine (r_new (Nat.le_refl _) (framed_dv _ _ _) hd.swap n h1 h2).mono ?_
    rintro e w' ⟨q, rfl, hd⟩
    exact ⟨_, some (St.new n), rfl, .inr ⟨p, q, _, _, rfl, rfl, rfl, rfl, hd.swap⟩, rfl⟩
/-- One step. -/
structure Sp where
  kind : Int
  pos : Int
  n : Int
  fill : UInt8
  data : ByteArray
  A : Option Addr
  c : Nat
  ks : List Int
def Sp.cells (s : Sp) : Array Value := #[.int .i64 s.kind, .int .i64 s.pos, .int .i64 s.n, .int .u8 (s.fill.toNat : Int), .string s.data, .slice s.A s.ks.length s.c]
structure Sp.Ok (w : World) (s : Sp) : Prop where
  pos : -9223372036854775808 ≤ s.pos ∧ s.pos ≤ 9223372036854775807
  n : s.n ≤ 9223372036854775807
  data : s.data.size ≤ 140737488355328
  nums : Nums w s.A s.ks
  few : s.ks.length * 8 ≤ 140737488355328
/-- The steps in memory. -/
structure Steps (w : World) (A : Option Addr) (ss : List Sp) : Prop where
  lie : 0 < ss.length → ∃ b o, A = some ⟨b, o, none⟩ ∧ ∀ i s, ss[i]? = some s → ∀ j v, s.cells[j]? = some v → w.cell? ⟨b, o + i * 6 + j, none⟩ = some v
  ok : ∀ s ∈ ss, s.Ok w
theorem Bo.nums' {w0 w : World} {P Q : Value} {n : Nat} {x y : OSt} (h : Bo w0 P Q n x y w) {s : Sp} (hs : s.Ok w0) : Nums w s.A s.ks := h.nums hs.nums
end Go.Proofs.Ytlcaokgdbocmiaa
