/- Those for whom something is pending: in order; the range over the map, step by step. -/
import Derived.Test.YtacogfllnhopoaaUnJ
import Derived.Test.YtacogfllnhopoaaShelfB
import Derived.Maps.RangeWalk
import Derived.Sort.OwnSorted
import Derived.Maps.AppendAt
namespace Go.Proofs.Ytacogfllnhopoaa
open Go.RowKit Go.Maps Go.Sort
open Go.ChangeMaps (setBlock heap_setBlock_same heap_setBlock_other)
open Go.MapKept (heap_set)
/-- Just those hosts for whom something is pending at l, in the order of their bytes, each once. -/
structure HostsOf (f : PF) (l : Int) (hs : List ByteArray) : Prop where
  asc : hs.Pairwise (fun a b => a.data.toList ≤ b.data.toList)
  once : hs.Nodup
  iff : ∀ h, h ∈ hs ↔ f l h ≠ []
theorem HostsOf.unique {f : PF} {l : Int} {a b : List ByteArray} (ha : HostsOf f l a) (hb : HostsOf f l b) : a = b := by
  refine List.Perm.eq_of_pairwise (le := fun a b => a.data.toList ≤ b.data.toList) (fun x y _ _ h1 h2 => ?_) ha.asc hb.asc ((List.perm_ext_iff_of_nodup ha.once hb.once).2 fun h => (ha.iff h).trans (hb.iff h).symm)
  have := List.le_antisymm h1 h2
  cases x; cases y
  simp at this
  rw [this]
/-- There are few places at which something is pending. -/
def Small (f : PF) (m : Nat) : Prop := ∃ L : List (Int × ByteArray), L.length ≤ m ∧ ∀ l h, f l h ≠ [] → (l, h) ∈ L
theorem Small.zero : Small noF 0 := ⟨[], Nat.le_refl _, fun _ _ hn => absurd rfl hn⟩
theorem Small.upd {f : PF} {m : Nat} (hs : Small f m) (l : Int) (h : ByteArray) (zs : List Int) : Small (upd f l h zs) (m + 1) := by
  obtain ⟨L, h1, h2⟩ := hs
  refine ⟨(l, h) :: L, by simp; omega, fun l' h' hn => ?_⟩
  by_cases hh : l' = l ∧ h' = h
  · obtain ⟨rfl, rfl⟩ := hh
    simp
  · rw [upd_other hh] at hn
    exact List.mem_cons_of_mem _ (h2 l' h' hn)
theorem Small.mono {f : PF} {m m' : Nat} (hs : Small f m) (h : m ≤ m') : Small f m' := by
  obtain ⟨L, h1, h2⟩ := hs
  exact ⟨L, by omega, h2⟩
theorem Small.add {f : PF} {m : Nat} (hs : Small f m) (l : Int) (h : ByteArray) (x : Int) : Small (addF f l h x) (m + 1) := by
  unfold addF
  split
  · exact hs.upd _ _ _
  · exact hs.mono (by omega)
theorem Small.forget {f : PF} {m : Nat} (hs : Small f m) (h : ByteArray) : Small (forgetF f h) m := by
  obtain ⟨L, h1, h2⟩ := hs
  refine ⟨L, h1, fun l' h' hn => h2 l' h' fun h0 => hn ?_⟩
  unfold forgetF
  rw [h0]
  split <;> rfl
theorem nodup_len {α : Type} : ∀ {a b : List α}, a.Nodup → (∀ x ∈ a, x ∈ b) → a.length ≤ b.length
  | [], _, _, _ => Nat.zero_le _
  | x :: a, b, hn, hs => by
    obtain ⟨h1, h2⟩ := List.nodup_cons.1 hn
    obtain ⟨s, t, rfl⟩ := List.append_of_mem (hs x (by simp))
    have := nodup_len (a := a) (b := s ++ t) h2 (fun y hy => by
      have hy' := hs y (by simp [hy])
      simp only [List.mem_append, List.mem_cons] at hy' ⊢
      rcases hy' with h | rfl | h
      · exact .inl h
      · exact absurd hy h1
      · exact .inr h)
    simp only [List.length_append, List.length_cons] at this ⊢
    omega
theorem Small.len {f : PF} {m : Nat} (hs : Small f m) {l : Int} {hl : List ByteArray} (hn : hl.Nodup) (ha : ∀ h ∈ hl, f l h ≠ []) : hl.length ≤ m := by
  obtain ⟨L, h1, h2⟩ := hs
  have hn' : (hl.map fun h => (l, h)).Nodup := by
    rw [List.nodup_iff_pairwise_ne, List.pairwise_map]
    exact (List.nodup_iff_pairwise_ne.1 hn).imp (fun {a b} h e => h (by simpa using e))
  have := nodup_len hn' (b := L) (fun x hx => by
    obtain ⟨h, hh, rfl⟩ := List.mem_map.1 hx
    exact h2 l h (ha h hh))
  simp at this
  omega
/-- The iterator at block r, over the map at b; seen: what has come already. -/
def It (w : World) (b r clock : Nat) (seen : Array Nat) : Prop := ∃ c0, clock ≤ c0 ∧ w.heap[r]? = some (.mapIter (some b) clock seen c0)
theorem It.keep {w w' : World} {b r clock : Nat} {seen : Array Nat} (h : It w b r clock seen) (hk : w'.heap[r]? = w.heap[r]?) : It w' b r clock seen := by
  obtain ⟨c0, h1, h2⟩ := h
  exact ⟨c0, h1, hk.trans h2⟩
theorem It.lt {w : World} {b r clock : Nat} {seen : Array Nat} (h : It w b r clock seen) : r < w.heap.size := by
  obtain ⟨c0, h1, h2⟩ := h
  exact (Array.getElem?_eq_some_iff.1 h2).1
theorem It.left {w : World} {b r clock : Nat} {seen : Array Nat} {es : Array MapEntry} (h : It w b r clock seen) (hm : Mp w b es clock) : w.rangeLeft b r = (leftOf es seen).size := by
  obtain ⟨c0, h1, h2⟩ := h
  simp only [World.rangeLeft, hm.here, h2]
theorem It.ne {w : World} {b r clock : Nat} {seen : Array Nat} {es : Array MapEntry} (h : It w b r clock seen) (hm : Mp w b es clock) : r ≠ b := by
  obtain ⟨c0, h1, h2⟩ := h
  rintro rfl
  rw [hm.here] at h2
  cases h2
/-- One step of the range. -/
theorem It.next {w : World} {b r clock : Nat} {seen : Array Nat} {es : Array MapEntry} (h : It w b r clock seen) (hm : Mp w b es clock) (ty : TypeId) :
    ((∀ e ∈ es.toList, seen.contains e.born = true) ∧ (Instr.next (.pointer (some ⟨r, 0, none⟩)) false ty).run Try.prog w = .ok (.tuple #[.bool false]) w) ∨
    ∃ e ∈ es.toList, seen.contains e.born = false ∧ ∃ w', (Instr.next (.pointer (some ⟨r, 0, none⟩)) false ty).run Try.prog w = .ok (.tuple #[.bool true, e.key, e.val]) w' ∧ Mp w' b es clock ∧ It w' b r clock (seen.push e.born) ∧
      Only (fun k => k = r) w w' ∧ (leftOf es (seen.push e.born)).size < (leftOf es seen).size ∧ (Instr.entry (.pointer (some ⟨r, 0, none⟩))).run Try.prog w' = .ok (.tuple #[e.key, e.val]) w' := by
  have hne := h.ne hm
  obtain ⟨c0, h1, h2⟩ := h
  rcases run_next_at (P := Try.prog) w ty r b clock c0 seen es clock h2 hm.here hm.born h1 with ⟨h0, hr⟩ | ⟨e, he, w1, hw1, hr⟩
  · exact .inl ⟨all_seen es seen h0, hr⟩
  · obtain ⟨hin, hs⟩ := mem_left he
    have ho : Only (fun k => k = r) w w1 := by
      rcases hw1 with rfl | rfl
      · exact Only.refl _ _
      · exact (Only.refl _ _).drew
    have hr1 : w1.heap[r]? = some (.mapIter (some b) clock seen c0) := by rcases hw1 with rfl | rfl <;> exact h2
    have hb1 : w1.heap[b]? = some (.map es clock) := by rcases hw1 with rfl | rfl <;> exact hm.here
    have hset := heap_set (o' := .mapIter (some b) clock (seen.push e.born) clock) hr1
    have hb2 : (setBlock w1 r (.mapIter (some b) clock (seen.push e.born) clock)).heap[b]? = some (.map es clock) := (hset.2 b (fun e1 => hne e1.symm)).trans hb1
    have hm2 : Mp (setBlock w1 r (.mapIter (some b) clock (seen.push e.born) clock)) b es clock := ⟨hb2, hm.st, hm.keys⟩
    refine .inr ⟨e, hin, hs, _, hr, hm2, ⟨clock, Nat.le_refl _, hset.1⟩, ?_, left_shrinks es seen e he, run_entry_at _ r b clock seen es clock e hset.1 hb2 hin hm.nodup⟩
    exact ⟨ho.os, ho.tape, ho.output, by have := ho.size; simpa [setBlock] using this, fun k hk hs' => (hset.2 k hs').trans (ho.block k hk hs')⟩
/-- What the range has met of the hosts at l. -/
structure Met (f : PF) (l : Int) (es : Array MapEntry) (seen : Array Nat) (hs : List ByteArray) : Prop where
  once : hs.Nodup
  some : ∀ h ∈ hs, f l h ≠ []
  met : ∀ e ∈ es.toList, ∀ h, e.key = kv l h → (seen.contains e.born = true ↔ h ∈ hs)
end Go.Proofs.Ytacogfllnhopoaa
