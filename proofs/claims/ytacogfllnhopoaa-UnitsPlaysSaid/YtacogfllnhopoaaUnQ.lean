/- A list of numbers of one's own that is appended to, and cut at its beginning. -/
import Derived.Test.YtacogfllnhopoaaUnP
import Derived.Deep.AppendSrc
namespace Go.Proofs.Ytacogfllnhopoaa
open Go.RowKit Go.Maps
/-- The list v is zs; it lies somewhere in a row from base on, with room behind it. -/
def Ro (w : World) (base : Nat) (v : Value) (zs : List Int) : Prop :=
  (v = .slice none 0 0 ∧ zs = []) ∨ ∃ g o c cur, v = .slice (some ⟨g, o, none⟩) zs.length c ∧ base ≤ g ∧ Blk w g 3 cur ∧ cur.size = o + c ∧ zs.length ≤ c ∧ c ≤ maxLen ∧ ∀ i x, zs[i]? = some x → cur[o + i]? = some (.int .i64 x)
def blkOf : Value → Option Nat
  | .slice (some a) _ _ => some a.block
  | _ => none
theorem Ro.nil (w : World) (base : Nat) : Ro w base (.slice none 0 0) [] := .inl ⟨rfl, rfl⟩
theorem Ro.keep {w w' : World} {base : Nat} {v : Value} {zs : List Int} (h : Ro w base v zs) (hk : ∀ g, blkOf v = some g → w'.heap[g]? = w.heap[g]?) : Ro w' base v zs := by
  rcases h with h | ⟨g, o, c, cur, rfl, h1, h2, h3⟩
  · exact .inl h
  · exact .inr ⟨g, o, c, cur, rfl, h1, (hk g rfl).trans h2, h3⟩
theorem Ro.lt {w : World} {base : Nat} {v : Value} {zs : List Int} (h : Ro w base v zs) : ∀ g, blkOf v = some g → base ≤ g ∧ g < w.heap.size := by
  rcases h with ⟨rfl, _⟩ | ⟨g, o, c, cur, rfl, h1, h2, h3⟩
  · intro g hg; cases hg
  · intro g' hg
    cases hg
    exact ⟨h1, h2.lt⟩
theorem Ro.form {w : World} {base : Nat} {v : Value} {zs : List Int} (h : Ro w base v zs) : ∃ A c, v = .slice A zs.length c := by
  rcases h with ⟨rfl, rfl⟩ | ⟨g, o, c, cur, rfl, h1, h2, h3⟩
  · exact ⟨_, _, rfl⟩
  · exact ⟨_, _, rfl⟩
theorem Ro.at_ {w : World} {base : Nat} {A : Option Addr} {n c : Nat} {zs : List Int} (h : Ro w base (.slice A n c) zs) (hn : 0 < zs.length) : ∃ g o, A = some ⟨g, o, none⟩ ∧ n = zs.length ∧ ∀ i x, zs[i]? = some x → w.cell? ⟨g, o + i, none⟩ = some (.int .i64 x) := by
  rcases h with ⟨_, rfl⟩ | ⟨g, o, c, cur, hv, h1, h2, h3, _, _, h4⟩
  · simp at hn
  · cases hv
    exact ⟨g, o, rfl, rfl, fun i x hx => (h2.cell _).trans (h4 i x hx)⟩
/-- One number more. -/
theorem Ro.push {w : World} {base : Nat} {A : Option Addr} {n c : Nat} {zs : List Int} (h : Ro w base (.slice A n c) zs) (hn : zs.length ≤ 1000) {s : Nat} {x : Int} (hs : w.cell? ⟨s, 0, none⟩ = some (.int .i64 x)) (hB : base ≤ w.heap.size) (ty : TypeId) :
    ∃ A' c' w', (Builtin.append_ #[41, 41] ty #[.slice A n c, .slice (some ⟨s, 0, none⟩) 1 1]).run Try.prog w = .ok (.slice A' (n + 1) c') w' ∧ Ro w' base (.slice A' (n + 1) c') (zs ++ [x]) ∧
      Only (fun k => blkOf (.slice A n c) = some k) w w' ∧ (blkOf (.slice A' (n + 1) c') = blkOf (.slice A n c) ∨ blkOf (.slice A' (n + 1) c') = some w.heap.size) := by
  obtain ⟨i0, hi0, hz0, hz1, hz2⟩ := info_parts infoInt
  have hsrc : Src Try.prog i0.size 41 (.slice (some ⟨s, 0, none⟩) 1 1) 1 [.int .i64 x] w := Src.ofSlice w Try.underlying41 ⟨s, 0, none⟩ 1 1 [.int .i64 x] (by rw [hz1]; rfl) (fun j u hu => by
    match j, hu with
    | 0, hu =>
      simp at hu
      subst hu
      exact hs) (fun u hu => by rw [List.mem_singleton.1 hu]; rfl)
  have hcm : ∀ old, grownCap w (zs.length + 1) old 3 ≤ maxLen := fun old => grownCap_le_maxLen w _ old 3 (by unfold maxLen; omega)
  have grown : ∀ (old : Nat), Ro (w.drew.alloc (.cells (((zs.map (Value.int .i64)) ++ [Value.int .i64 x]).toArray ++ Builtin.zeroCells (Value.int .i64 0).cells (grownCap w (zs.length + 1) old 3 - (zs.length + 1))) 3)) base (.slice (some ⟨w.heap.size, 0, none⟩) (zs.length + 1) (grownCap w (zs.length + 1) old 3)) (zs ++ [x]) := fun old => by
    have hge := grownCap_ge w (zs.length + 1) old 3
    refine .inr ⟨w.heap.size, 0, _, _, by simp, hB, Blk.new w.drew 3 _, ?_, by simpa using hge, hcm old, fun i y hy => ?_⟩
    · rw [Array.size_append, size_zeroCells, List.size_toArray, List.length_append, List.length_map]
      simp [Value.cells]
      omega
    · have hil : i < (zs ++ [x]).length := (List.getElem?_eq_some_iff.1 hy).1
      rw [Nat.zero_add, Array.getElem?_append_left (by simpa using hil), List.getElem?_toArray]
      have : (zs.map (Value.int .i64) ++ [Value.int .i64 x]) = (zs ++ [x]).map (Value.int .i64) := by simp
      rw [this, List.getElem?_map, hy]
      rfl
  rcases h with ⟨hv, rfl⟩ | ⟨g, o, c', cur, hv, h1, h2, h3, h4, h5, h6⟩
  · cases hv
    have hr := run_append_grow_src w 41 41 ty 3 i0 (.int .i64 0) Try.underlying41 hi0 hz0 none 0 0 [] (run_firstCells_none w.drew _ 0 0 0) (.slice (some ⟨s, 0, none⟩) 1 1) 1 [.int .i64 x] hsrc (by omega) (by omega) (growslice_fits (by omega) (by rw [hz2]; omega))
    refine ⟨_, _, _, hr, ?_, (Only.refl _ w).drew.alloc _, .inr rfl⟩
    have := grown 0
    simpa using this
  · cases hv
    by_cases hroom : zs.length + 1 ≤ c
    · have hcell : o + zs.length < cur.size := by omega
      have hr := run_append_room_src w 41 41 ty 3 i0 Try.underlying41 hi0 g o zs.length c (.slice (some ⟨s, 0, none⟩) 1 1) 1 [.int .i64 x] hsrc hroom
        (fun j hj => by
          have : j = 0 := by simp at hj; omega
          subst this
          rw [hz1, h2.cell]
          simp
          omega)
        (fun j _ => h2.free _)
      rw [hz1, Nat.mul_one] at hr
      refine ⟨_, _, _, hr, .inr ⟨g, o, c, _, by simp, h1, h2.put (o + zs.length) (.int .i64 x), by simpa using h3, by simpa using hroom, h5, fun i y hy => ?_⟩, ((Only.refl (fun k => blkOf (.slice (some ⟨g, o, none⟩) zs.length c) = some k) w).setCell (p := ⟨g, o + zs.length, none⟩) (.inl rfl) (.int .i64 x) :), .inl rfl⟩
      rw [Array.getElem?_setIfInBounds]
      by_cases hi : i < zs.length
      · rw [if_neg (by omega)]
        rw [List.getElem?_append_left hi] at hy
        exact h6 i y hy
      · have hil : i < (zs ++ [x]).length := (List.getElem?_eq_some_iff.1 hy).1
        have hie : i = zs.length := by simp at hil; omega
        subst hie
        simp at hy
        subst hy
        rw [if_pos rfl, if_pos hcell]
    · have hr := run_append_grow_src w 41 41 ty 3 i0 (.int .i64 0) Try.underlying41 hi0 hz0 (some ⟨g, o, none⟩) zs.length c (zs.map (Value.int .i64))
        (run_firstCells_some _ _ zs.length ⟨g, o, none⟩ zs.length c _ (by simp [hz1]) (fun j u hu => by
          rw [List.getElem?_map] at hu
          obtain ⟨y, hy, rfl⟩ := Option.map_eq_some_iff.1 hu
          have := (h2.cell (o + j)).trans (h6 j y hy)
          show w.cell? _ = _
          unfold Addr.add
          split
          · rename_i h0
            have h0' : j = 0 := by simpa using h0
            subst h0'
            simpa using this
          · exact this)) (.slice (some ⟨s, 0, none⟩) 1 1) 1 [.int .i64 x] hsrc (by omega) (by omega) (growslice_fits (by omega) (by rw [hz2]; omega))
      exact ⟨_, _, _, hr, grown c, (Only.refl _ w).drew.alloc _, .inr rfl⟩
/-- Without the first one. -/
theorem Ro.cut {w : World} {base : Nat} {g o n c : Nat} {zs : List Int} (h : Ro w base (.slice (some ⟨g, o, none⟩) n c) zs) (hn : 2 ≤ zs.length) : Ro w base (.slice (some ⟨g, o + 1, none⟩) (n - 1) (c - 1)) (zs.drop 1) ∧ 1 < c ∧ n ≤ c ∧ n = zs.length := by
  rcases h with ⟨hv, _⟩ | ⟨g, o, c', cur, hv, h1, h2, h3, h4, h5, h6⟩
  · cases hv
  · cases hv
    refine ⟨.inr ⟨g, o + 1, c - 1, cur, by simp, h1, h2, by omega, by simp; omega, by omega, fun i x hx => ?_⟩, by omega, h4, rfl⟩
    rw [List.getElem?_drop] at hx
    have := h6 (1 + i) x hx
    rw [← this]
    congr 1
    omega
end Go.Proofs.Ytacogfllnhopoaa
