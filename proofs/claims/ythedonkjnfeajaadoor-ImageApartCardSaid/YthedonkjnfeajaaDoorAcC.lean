/- Who holds, and who may: the program's functions. -/
import Derived.Test.YthedonkjnfeajaaDoorAcB
namespace Go.Proofs.YthedonkjnfeajaaDoor
open Go.RowKit
theorem wp_region_class {P : Program} {id : Nat} {Q : Exit → Act → World → Prop} {a : Act} {w : World} {l : List Oper} (C : World → Prop) (hm : P.follows .mixedOrders = true) (hB : Region.lexB .any l.toArray = true) (hC : C w.drew)
    (h : wpQuiet P l.toArray C (fun a' => ∀ w', C w' → Q .normal a' w') l a) : (Code.region id l.toArray true).wp P Q a w :=
  wp_region_quiet (C := C) hm hB hC (by simpa using h)
theorem quiet_run {P : Program} {o : Oper} {a : Act} {C : World → Prop} {K : Act → Prop} {v : Value} (h : ∀ w, C w → (execOp a.eval o).run P w = .ok (.value v) w) (hk : K (a.put o.dst v)) : o.quiet P a C K :=
  ⟨v, fun w hw => by unfold Oper.quietAt; rw [h w hw]; exact ⟨rfl, rfl⟩, hk⟩
theorem quiet_call {P : Program} {o : Oper} {a : Act} {C : World → Prop} {K : Act → Prop} {v : Value} {f : FuncId} {args : Array Value} (h : ∀ w, C w → (execOp a.eval o).run P w = .ok (.enter f args) w)
    (hc : ∀ w, C w → Calls P f args w (fun e w' => e = .returned v ∧ C w')) (hk : K (a.put o.dst v)) : o.quiet P a C K :=
  ⟨v, fun w hw => by unfold Oper.quietAt; rw [h w hw]; exact ⟨rfl, hc w hw⟩, hk⟩
theorem class_of (w0 : World) (R : World → Prop) (hR : ∀ v, Below w0.heap.size w0 v → R v) :
    ∃ C : World → Prop, C w0.drew ∧ (∀ v, C v → R v) ∧ (∀ v, C v → Below w0.heap.size w0 v) ∧ (∀ v v', C v → Below v.heap.size v v' → C v') :=
  ⟨fun v => Below w0.heap.size w0 v, (Below.refl _ _).drew, hR, fun _ h => h, fun _ _ h hb => h.trans (hb.mono h.size)⟩
/-- The cells of a table at block g. -/
def TlAt (w : World) (g : Nat) (A : Option Addr) (c : Nat) (t : Tl) : Prop :=
  w.cell? ⟨g, 0, none⟩ = some (.slice A t.rs.length c) ∧ w.cell? ⟨g, 1, none⟩ = some (.int .i64 t.ty) ∧ w.cell? ⟨g, 2, none⟩ = some (.string t.ho) ∧ w.cell? ⟨g, 3, none⟩ = some (.int .u32 t.ge) ∧ w.cell? ⟨g, 4, none⟩ = some (.bool t.ap)
theorem TlAt.of {w : World} {g : Nat} {A : Option Addr} {c : Nat} {t : Tl} (h : Blk w g 27 (tlC A c t)) : TlAt w g A c t := ⟨h.cell 0, h.cell 1, h.cell 2, h.cell 3, h.cell 4⟩
theorem TlAt.below {w v : World} {g : Nat} {A : Option Addr} {c : Nat} {t : Tl} (h : Blk w g 27 (tlC A c t)) (hb : Below w.heap.size w v) : TlAt v g A c t := TlAt.of (h.below hb h.lt)
theorem gH_bd (k : Nat) : 0 ≤ gH k ∧ gH k ≤ 3 := by unfold gH; split <;> omega
theorem gR_bd (k : Nat) : 0 ≤ gR k ∧ gR k ≤ 3 := by unfold gR; split <;> omega
theorem gC_bd (k : Nat) : 0 ≤ gC k ∧ gC k ≤ 3 := by unfold gC; split <;> omega
theorem othV_bd (k : Nat) (op : Int) : 0 ≤ othV k op ∧ othV k op ≤ 3 := by
  unfold othV
  have := gR_bd k; have := gC_bd k
  split
  · omega
  · split <;> omega
/-- Who holds. -/
def holdsB (t : Tl) (h : ByteArray) : Bool := hasB (gH (kindN t.ty)) t h
/-- Who may. -/
def mayB (t : Tl) (h : ByteArray) (op : Int) : Bool := hasB (gH (kindN t.ty)) t h || hasB (othV (kindN t.ty) op) t h
end Go.Proofs.YthedonkjnfeajaaDoor
