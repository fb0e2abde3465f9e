/- A change's readers: who is another one, who is taken away. -/
import Derived.Test.YthedonkjnfeajaaDoorReA
namespace Go.Proofs.YthedonkjnfeajaaDoor
open Go.RowKit
abbrev regC (x : Rg) : Array Value := #[.string x.h, .int .u64 x.k]
/-- The box of a registration that came in by value. -/
theorem rg_box (w : World) (x : Rg) : ∀ v, v = w.alloc (.cells (regC x) 48) → Blk v w.heap.size 48 (regC x) ∧ Below w.heap.size w v ∧ v.heap.size = w.heap.size + 1 := by
  rintro v rfl
  exact ⟨Blk.new w _ _, (Below.refl w.heap.size w).alloc (Nat.le_refl _) _, by simp⟩
/-- The cells that the readers load. -/
structure ChR (w : World) (p : Nat) (A : Option Addr) (c : Nat) (t : Tl) (m : Cm) : Prop where
  rs : w.cell? ⟨p, 0, none⟩ = some (.slice A t.rs.length c)
  ty : w.cell? ⟨p, 1, none⟩ = some (.int .i64 t.ty)
  hh : w.cell? ⟨p, 2, none⟩ = some (.string t.ho)
  ge : w.cell? ⟨p, 3, none⟩ = some (.int .u32 t.ge)
  ap : w.cell? ⟨p, 4, none⟩ = some (.bool t.ap)
  ho : w.cell? ⟨p, 7, none⟩ = some (.string m.ho)
  ke : w.cell? ⟨p, 13, none⟩ = some (.int .u64 m.ke)
  nk : w.cell? ⟨p, 14, none⟩ = some (.int .u64 m.nk)
  ot : w.cell? ⟨p, 15, none⟩ = some (.int .u64 m.ot)
  mt : w.cell? ⟨p, 16, none⟩ = some (.int .i64 m.ty)
  ig : w.cell? ⟨p, 17, none⟩ = some (.bool m.ig)
  ma : w.cell? ⟨p, 18, none⟩ = some (.int .i64 m.ap)
end Go.Proofs.YthedonkjnfeajaaDoor
