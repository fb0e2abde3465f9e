/- What is kept at a place. -/
import Derived.Test.YtacogfllnhopoaaUnB
namespace Go.Proofs.Ytacogfllnhopoaa
open Go.RowKit Go.Maps
open Go.ChangeMaps (setBlock heap_setBlock_same heap_setBlock_other)
theorem only_setBlock {S : Nat → Prop} {a w : World} {b c0 : Nat} {es0 : Array MapEntry} {o' : Obj} (h : Only S a w) (hb : w.heap[b]? = some (.map es0 c0)) (hs : S b ∨ a.heap.size ≤ b) : Only S a (setBlock w b o') :=
  ⟨h.os, h.tape, h.output, by have := h.size; simpa [setBlock] using this, fun k hk hs' => (heap_setBlock_other hb o' (fun e => by subst e; exact hs.elim hs' (fun h' => by omega))).trans (h.block k hk hs')⟩
theorem setCell_noop {w : World} {g : Nat} {t : TypeId} {cs : Array Value} {i : Nat} {u : Value} (h : Blk w g t cs) (hi : cs[i]? = some u) : w.setCell ⟨g, i, none⟩ u = w := by
  have he : (w.setCell ⟨g, i, none⟩ u).heap = w.heap := by
    apply Array.ext_getElem?
    intro k
    by_cases hk : k = g
    · subst hk
      have h2 := h.put i u
      unfold Blk at h h2
      rw [h2, h]
      congr 2
      apply Array.ext_getElem?
      intro j
      rw [Array.getElem?_setIfInBounds]
      split
      · rename_i hj
        subst hj
        rw [hi]
        have := (Array.getElem?_eq_some_iff.1 hi).1
        simp [this]
      · rfl
    · exact Below.heap_setCell w ⟨g, i, none⟩ u k hk
  unfold World.setCell at he ⊢
  cases w
  simp_all
theorem keep_drop (w : World) {p b : Nat} {es : Array MapEntry} {clock : Nat} (hc : w.cell? ⟨p, 0, none⟩ = some (.map (some b))) (hm : Mp w b es clock) {l : Int} {h : ByteArray} (hk : IsKv (kv l h)) (A : Option Addr) (c : Nat) :
    Calls Try.prog 26 #[.pointer (some ⟨p, 0, none⟩), .agg #[.int .i64 l, .string h], .slice A 0 c] w fun e w' => e = .returned (.tuple #[]) ∧ Only (fun k => k = b) w w' ∧
      ∃ es', Mp w' b es' clock ∧ ∀ e, e ∈ es'.toList ↔ (e ∈ es.toList ∧ e.key ≠ kv l h) := by
  have hm1 : Mp (w.alloc (.cells #[.int .i64 l, .string h] 52)).drew b es clock := hm.keep (Below.heap_alloc w _ b hm.lt)
  obtain ⟨es', hr, hm2, hiff⟩ := hm1.drop hk 0
  have ho : Only (fun k => k = b) w (setBlock (w.alloc (.cells #[.int .i64 l, .string h] 52)).drew b (.map es' clock)) :=
    only_setBlock ((Only.refl _ w).alloc _).drew hm1.here (.inl rfl)
  have hc1 : (w.alloc (.cells #[.int .i64 l, .string h] 52)).cell? ⟨p, 0, none⟩ = some (.map (some b)) := by
    rw [World.cell?_of_block (Below.heap_alloc w _ p (World.block_lt_of_cell? w _ hc))]; exact hc
  unfold kv at hr
  clear hm hm1
  go_enter Try.func26, Try.ntmps26
  go_wp2
  go_region
  all_goals go_wp2
  all_goals (refine bodyPost_ret (results_none rfl _ _ _) rfl ?_; exact ⟨rfl, ho, es', hm2, hiff⟩)
theorem keep_store (w : World) {p b : Nat} {es : Array MapEntry} {clock : Nat} (hc : w.cell? ⟨p, 0, none⟩ = some (.map (some b))) (hm : Mp w b es clock) {l : Int} {h : ByteArray} (hk : IsKv (kv l h)) (hlim : h.size ≤ 281474976710656)
    (A : Option Addr) (n c : Nat) (hn : (0 : Int) < (n : Int)) :
    Calls Try.prog 26 #[.pointer (some ⟨p, 0, none⟩), .agg #[.int .i64 l, .string h], .slice A n c] w fun e w' => e = .returned (.tuple #[]) ∧ Only (fun k => k = b) w w' ∧
      ∃ es' clock', Mp w' b es' clock' ∧ (∀ e ∈ es'.toList, (e ∈ es.toList ∧ e.key ≠ kv l h) ∨ (e.key = kv l h ∧ e.val = .slice A n c)) ∧ (∀ e ∈ es.toList, e.key ≠ kv l h → e ∈ es'.toList) ∧ ∃ e ∈ es'.toList, e.key = kv l h ∧ e.val = .slice A n c := by
  have hpl : p < w.heap.size := World.block_lt_of_cell? w ⟨p, 0, none⟩ hc
  have hbl := hm.lt
  obtain ⟨w1, hw1⟩ : ∃ w1, w1 = w.alloc (.cells #[.int .i64 l, .string h] 52) := ⟨_, rfl⟩
  have hb1 : Blk w1 w.heap.size 52 #[.int .i64 l, .string h] := hw1 ▸ Blk.new w 52 _
  have ho1 : Only (fun k => k = b) w w1 := hw1 ▸ (Only.refl _ w).alloc _
  have hm1 : Mp w1 b es clock := hm.keep (hw1 ▸ Below.heap_alloc w _ b hm.lt)
  have hc1 : w1.cell? ⟨p, 0, none⟩ = some (.map (some b)) := by
    rw [hw1, World.cell?_of_block (Below.heap_alloc w _ p hpl)]; exact hc
  have hs1 : w1.heap.size = w.heap.size + 1 := by rw [hw1]; simp
  have hal := hw1.symm
  clear hw1
  have hcell1 : w1.cell? ⟨w.heap.size, 1, none⟩ = some (.string h) := hb1.cell 1
  have HO := Lib.hid ho1
  have HM := Lib.hid hm1
  have HC := Lib.hid hc1
  have HS := Lib.hid hs1
  have HB := Lib.hid hb1
  clear ho1 hm1 hc1 hs1 hb1 hm hc
  go_enter Try.func26, Try.ntmps26
  go_wp2_with (go_at_call 28; refine (sclone_any h _ hlim).mono ?_; rintro e w2 ⟨rfl, hb⟩; have H2 := Lib.hid hb; clear hb; have hB2 : Blk w2 w.heap.size 52 #[.int .i64 l, .string h] := Blk.below HB H2 (by have := HB.lt; exact this); have hd0 : w2.cell? ⟨w.heap.size, 0, none⟩ = some (.int .i64 l) := hB2.cell 0; have hd1 : w2.cell? ⟨w.heap.size, 1, none⟩ = some (.string h) := hB2.cell 1; have hf1 : w2.frozen? ⟨w.heap.size, 1, none⟩ = false := hB2.free 1; have hno : w2.setCell ⟨w.heap.size, 1, none⟩ (.string h) = w2 := setCell_noop hB2 rfl; have hM2 : Mp w2.drew b es clock := Mp.keep HM (H2.block b HM.lt); obtain ⟨es', clock', hr, hm2, e1, e2, e3⟩ := hM2.put hk (.slice A n c); have hP2 : w2.cell? ⟨p, 0, none⟩ = some (.map (some b)) := (World.cell?_of_block (H2.block p (World.block_lt_of_cell? w1 ⟨p, 0, none⟩ HC))).trans HC; have HO2 := Lib.hid (only_setBlock (o' := .map es' clock') ((HO.below H2).drew) hM2.here (.inl rfl)); have HM2 := Lib.hid hm2; have E1 := Lib.hid e1; have E2 := Lib.hid e2; have E3 := Lib.hid e3; clear hB2 hM2 hm2 e1 e2 e3; unfold kv at hr)
  go_region
  all_goals go_wp2
  all_goals (go_end0; exact ⟨rfl, HO2, es', clock', HM2, E1, E2, E3⟩)
end Go.Proofs.Ytacogfllnhopoaa
