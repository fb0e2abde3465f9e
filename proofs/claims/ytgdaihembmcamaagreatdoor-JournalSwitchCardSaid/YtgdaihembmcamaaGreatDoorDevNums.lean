/- Lists of numbers and of bytes that came in; a list of numbers copied into a new one. -/
import Derived.Test.YtgdaihembmcamaaGreatDoorDevDuo
namespace Go.Proofs.YtgdaihembmcamaaGreatDoor
open Go.RowKit
/-- A list of bytes in memory. -/
def Byts (w : World) (A : Option Addr) (fs : List UInt8) : Prop := 0 < fs.length → ∃ b o, A = some ⟨b, o, none⟩ ∧ ∀ (j : Nat) (v : UInt8), fs[j]? = some v → w.cell? ⟨b, o + j, none⟩ = some (.int .u8 (v.toNat : Int))
theorem Byts.below {B : Nat} {w w' : World} {A : Option Addr} {fs : List UInt8} (h : Byts w A fs) (hb : Below B w w') (hB : B = w.heap.size) : Byts w' A fs := fun hn => by
  obtain ⟨b, o, rfl, hc⟩ := h hn
  exact ⟨b, o, rfl, fun j v hj => (hb.cell (p := ⟨b, o + j, none⟩) (by rw [hB]; exact World.block_lt_of_cell? _ _ (hc j v hj))).trans (hc j v hj)⟩
theorem Nums.below {B : Nat} {w w' : World} {A : Option Addr} {ks : List Int} (h : Nums w A ks) (hb : Below B w w') (hB : B = w.heap.size) : Nums w' A ks := fun hn => by
  obtain ⟨b, o, rfl, hc⟩ := h hn
  exact ⟨b, o, rfl, fun j v hj => (hb.cell (p := ⟨b, o + j, none⟩) (by rw [hB]; exact World.block_lt_of_cell? _ _ (hc j v hj))).trans (hc j v hj)⟩
theorem Nums.lt {w : World} {A : Option Addr} {ks : List Int} (h : Nums w A ks) (hn : 0 < ks.length) (a : Addr) (ha : A = some a) : a.block < w.heap.size := by
  obtain ⟨b, o, rfl, hc⟩ := h hn
  injection ha with ha
  subst ha
  exact World.block_lt_of_cell? w ⟨b, o + 0, none⟩ (hc 0 _ (List.getElem?_eq_getElem hn))
theorem Byts.at_ {w : World} {A : Option Addr} {fs : List UInt8} (h : Byts w A fs) {j : Nat} (hj : j < fs.length) : ∃ b o v, A = some ⟨b, o, none⟩ ∧ fs[j]? = some v ∧ w.cell? ⟨b, o + j, none⟩ = some (.int .u8 (v.toNat : Int)) := by
  obtain ⟨b, o, rfl, hc⟩ := h (by omega)
  exact ⟨b, o, _, rfl, List.getElem?_eq_getElem hj, hc j _ (List.getElem?_eq_getElem hj)⟩
theorem Nums.at_ {w : World} {A : Option Addr} {ks : List Int} (h : Nums w A ks) {j : Nat} (hj : j < ks.length) : ∃ b o v, A = some ⟨b, o, none⟩ ∧ ks[j]? = some v ∧ w.cell? ⟨b, o + j, none⟩ = some (.int .i64 v) := by
  obtain ⟨b, o, rfl, hc⟩ := h (by omega)
  exact ⟨b, o, _, rfl, List.getElem?_eq_getElem hj, hc j _ (List.getElem?_eq_getElem hj)⟩
theorem info3 : (Tryz.prog.info? 3).map (fun i => (i.zero, i.size, i.bytes)) = some (some (.int .i64 0), 1, 8) := by kernel_rfl
theorem run_append_none (w : World) (ty : TypeId) (base e : Nat) (i : TypeInfo) (t : TypeId) (ht : Tryz.prog.underlying t = some (.slice e)) (hi : Tryz.prog.info? e = some i) (v : Value) (n size : Nat) (xs : List Value) (hown : w.ownsRow base e size v n xs) (c : Nat) :
    (Builtin.append_ #[t, t] ty #[v, .slice none 0 c]).run Tryz.prog w = .ok v w := by
  rcases hown.2 with ⟨rfl, rfl⟩ | ⟨g, cap, cur, rfl, _, _, hnc, _⟩
  · simp [Builtin.append_, run_underlying ht, sizeOf, typeInfo, hi, Builtin.lenOf, Builtin.firstCells]
  · simp [Builtin.append_, run_underlying ht, sizeOf, typeInfo, hi, Builtin.lenOf, Builtin.firstCells, hnc, storeCells]
theorem ints_cell {ks : List Int} : ∀ u ∈ ks.map (Value.int .i64), u.oneCell' = true := fun u hu => by
  obtain ⟨k, _, rfl⟩ := List.mem_map.1 hu
  rfl
/-- A slice of numbers of its own, from block base on. -/
theorem nums_of_own {w : World} {base n : Nat} {v : Value} {ks : List Int} (h : w.ownsRow base 3 1 v n (ks.map (.int .i64))) : ∃ A c, v = .slice A ks.length c ∧ Nums w A ks ∧ (0 < ks.length → ∀ a, A = some a → base ≤ a.block) := by
  have hl : ks.length = n := by simpa using h.1
  obtain ⟨A, c, rfl⟩ := own_form h
  subst hl
  refine ⟨A, c, rfl, fun hn => ?_, fun hn a ha => ?_⟩
  · obtain ⟨g, cur, rfl, hg, ht⟩ := own_some h hn
    refine ⟨g, 0, rfl, fun j v hj => ?_⟩
    have hlt := (List.getElem?_eq_some_iff.1 hj).1
    rw [Nat.zero_add, hg.cell]
    have : (ks.map (Value.int .i64))[j]? = some (.int .i64 v) := by rw [List.getElem?_map, hj]; rfl
    rw [← ht, List.getElem?_take, if_pos (by omega)] at this
    simpa using this
  · subst ha
    exact (h.lt a.block rfl).1
/-- 'append([]int{}, ks...)'. -/
theorem wpList_append_nums {ops : Array Oper} {rest : List Oper} {o : Oper} {a : Act} {w : World} {Q : Exit → Act → World → Prop} (hgd : o.guard = none) (s x : Operand)
    (ho : o.op = .call { callee := .builtin .append, args := #[s, x], argTypes := #[40, 40] }) (B : Nat) (v : Value) (hs : a.eval s = v) (hown : w.ownsRow B 3 1 v 0 [])
    (A : Option Addr) (c : Nat) (ks : List Int) (hx : a.eval x = .slice A ks.length c) (hks : Nums w A ks) (hm : ks.length * 8 ≤ 140737488355328) (hB : B ≤ w.heap.size)
    (h : ∀ A' c' w', Nums w' A' ks → w.grownBy w' v.ownBlock → (0 < ks.length → ∀ a, A' = some a → B ≤ a.block) → wpList Tryz.prog ops Q rest (a.put o.dst (.slice A' ks.length c')) w') : wpList Tryz.prog ops Q (o :: rest) a w := by
  obtain ⟨i0, hi0, hz0, hz1, hz2⟩ := info_parts info3
  have key : ∃ v' w', (Builtin.append_ #[40, 40] o.type #[v, .slice A ks.length c]).run Tryz.prog w = .ok v' w' ∧ w'.ownsRow B 3 1 v' ks.length (ks.map (.int .i64)) ∧ w.grownBy w' v.ownBlock := by
    cases A with
    | none =>
      have h0 : ks = [] := by
        cases ks with
        | nil => rfl
        | cons k ks =>
          obtain ⟨b, o, e, _⟩ := hks (by simp)
          cases e
      subst h0
      exact ⟨v, w, run_append_none w o.type B 3 i0 40 Tryz.underlying40 hi0 v 0 1 [] hown c, hown, World.grownBy.refl w _⟩
    | some ad =>
      have hc : ∀ j u, (ks.map (Value.int .i64))[j]? = some u → w.cell? (ad.add j) = some u := by
        intro j u hu
        have hlt : j < ks.length := by have := (List.getElem?_eq_some_iff.1 hu).1; simpa using this
        obtain ⟨b, o, e, hc⟩ := hks (by omega)
        obtain rfl : ad = ⟨b, o, none⟩ := Option.some.inj e
        rw [Addr.add_lit]
        rw [List.getElem?_map, List.getElem?_eq_getElem hlt] at hu
        rw [← Option.some.inj hu]
        exact hc j _ (List.getElem?_eq_getElem hlt)
      obtain ⟨v', w', h1, h2, h3, _, _⟩ := run_append_own_at (P := Tryz.prog) w B 40 o.type 3 i0 _ 1 8 Tryz.underlying40 hi0 hz0 hz1 hz2 rfl (by omega) v 0 [] hown ad ks.length c (ks.map (.int .i64)) (by simp) hc ints_cell (by unfold maxLen; omega) (by omega) hB
      rw [Nat.zero_add, List.nil_append] at h2
      exact ⟨v', w', h1, h2, h3⟩
  obtain ⟨v', w', hr, h2, h3⟩ := key
  obtain ⟨A', c', rfl, hn, hb⟩ := nums_of_own h2
  refine wpList_plain hgd fun K hK => ?_
  unfold Oper.wp execOp
  simp only [ho, resolve, invoke, builtin, Sem.run_bind, Sem.run_pure, Result.andThen_ok, List.map_toArray, List.map_cons, List.map_nil, hs, hx, hr]
  exact hK _ _ (h A' c' w' hn h3 hb)
end Go.Proofs.YtgdaihembmcamaaGreatDoor
