/- What the code writes: a number into its place. -/
import Derived.Test.YtaachlijpgmjeaaDoorCdW
import Derived.Test.YtaachlijpgmjeaaDoorWrites
import Derived.Lib.BufferWrite
import Derived.Lib.ConvBytes
namespace Go.Proofs.YtaachlijpgmjeaaDoor
open Go.RowKit
/-- A row of bytes with those of a text from a place on. -/
def putL (l : List UInt8) (a : Nat) (m : ByteArray) : List UInt8 := l.take a ++ m.data.toList ++ l.drop (a + m.size)
def u64N (x : Int) : Nat := (IntKind.u64.wrap x).toNat
theorem u64N_eq (x : Int) : IntKind.u64.wrap x = (u64N x : Int) ∧ u64N x < 18446744073709551616 := by
  unfold u64N
  rw [IntKind.wrap_u64]
  omega
abbrev bvA (l : List UInt8) : Array Value := (bv l).toArray
theorem putHi_len (x n : Nat) (h8 : n ≤ 8) : (putHi x n).size = n := by
  by_cases h1 : 1 ≤ n
  · exact putHi_size x n h1 h8
  · rw [putHi_no (by omega)]
    have : n = 0 := by omega
    subst this; rfl
theorem putL_length {l : List UInt8} {a : Nat} {m : ByteArray} (h : a + m.size ≤ l.length) : (putL l a m).length = l.length := by
  unfold putL
  have lm : m.data.toList.length = m.size := by simp
  simp only [List.length_append, List.length_take, List.length_drop, lm]
  omega
theorem size_u8 : (Tryd.prog.info? 5).map (·.size) = some 1 := by kernel_rfl
theorem copy_put (w : World) (g a dLen dCap : Nat) (l : List UInt8) (m : ByteArray) (hb : Blk w g 5 (bvA l)) (hd : m.size ≤ dLen) (hf : a + m.size ≤ l.length) :
    ∃ W, (Builtin.copy_ #[43, 9] 3 #[.slice (some ⟨g, a, none⟩) dLen dCap, .string m]).run Tryd.prog w = .ok (.int .i64 (m.size : Int)) W ∧ Blk W g 5 (bvA (putL l a m)) ∧ Only (fun k => k = g) w W := by
  have hrun := Lib.run_copy_row_string (P := Tryd.prog) w 43 9 3 5 g a dLen dCap m (bvA l) 5 Tryd.underlying43 size_u8 hb hd (by simpa [bvA, bv] using hf)
  have hcell : ((bvA l).toList.take a ++ Lib.byteCells m.data.toList ++ (bvA l).toList.drop (a + m.size)).toArray = bvA (putL l a m) := by
    unfold bvA putL bv
    rw [List.toList_toArray, ← List.map_take, ← List.map_drop, List.map_append, List.map_append]
    rfl
  rw [hcell] at hrun
  exact ⟨_, hrun, setRow_blk hb, setRow_only w g _⟩
set_option maxRecDepth 100000 in
set_option maxHeartbeats 4000000 in
theorem put_any (l : List UInt8) (M g a n : Nat) (x : Int) (w : World) (hl : l.length = M) (hb : Blk w g 5 (bvA l)) (ha : a < M) (hn : a + n ≤ M) (h8 : n ≤ 8) :
    Calls Tryd.prog 34 #[.slice (some ⟨g, 0, none⟩) M M, .agg #[.int .i64 (a : Int), .int .i64 (n : Int)], .int .i64 x] w fun e w' => e = .returned (.tuple #[]) ∧ Blk w' g 5 (bvA (putL l a (putHi (u64N x) n))) ∧ Only (fun k => k = g) w w' := by
  obtain ⟨hz, hzl⟩ := u64N_eq x
  have HPB := Lib.hid (fun v => putBig_any (u64N x) n v)
  have HS := Lib.hid (putHi_len (u64N x) n h8)
  generalize u64N x = z at *
  generalize putHi z n = m at *
  have HX0 := Lib.hid (Blk.new w 48 #[.int .i64 (a : Int), .int .i64 (n : Int)])
  have hal := (Below.refl w.heap.size w).alloc (Nat.le_refl _) (.cells #[.int .i64 (a : Int), .int .i64 (n : Int)] 48)
  have HO0 := Lib.hid (Only.of_below (S := fun k => k = g) hal)
  have HY0 := Lib.hid (hb.below hal hb.lt)
  have HGW := Lib.hid hb.lt
  have hla : (a : Int) ≤ (M : Int) := by omega
  have hne : ¬ M = a := by omega
  clear hb hal
  go_enter Tryd.func34, Tryd.ntmps34
  go_upto_region 1 with (fail)
  change Code.wp _ _ _ _ (w.alloc (.cells #[.int .i64 (a : Int), .int .i64 (n : Int)] 48))
  obtain ⟨p, hp⟩ : ∃ p, p = w.heap.size := ⟨_, rfl⟩
  rw [← hp] at HX0 HGW ⊢
  clear hp
  generalize w.alloc (.cells #[.int .i64 (a : Int), .int .i64 (n : Int)] 48) = v0 at *
  refine wp_region_held_drew (S := fun v => Blk v p 48 #[.int .i64 (a : Int), .int .i64 (n : Int)]) (by kernel_rfl) ?_ (fun hHeld => ?_)
  · exact HX0.out.drew
  have HO := Lib.hid HO0.out.drew; have HX := Lib.hid HX0.out.drew; have HY := Lib.hid HY0.out.drew
  generalize v0.drew = v0d at *
  clear HO0 HX0 HY0
  refine takeH (i := 0) (v := ?_) rfl (by kernel_rfl) (by kernel_rfl) (by kernel_rfl) (fun _ _ _ h => h) (some 6) rfl (Or.inl ⟨by rfl, ?_⟩) (by assumption) ?_
  rotate_left 1
  · intro wz hSw
    go_simp
    try with_reducible rfl
  simp only [Act.put, List.setIfInBounds_toArray, List.set_cons_zero, List.set_cons_succ]
  refine takeH (i := 1) (v := ?_) rfl (by kernel_rfl) (by kernel_rfl) (by kernel_rfl) (fun _ _ _ h => h) (some 7) rfl (Or.inl ⟨by rfl, ?_⟩) (by assumption) ?_
  rotate_left 1
  · intro wz hSw
    go_simp
    try with_reducible rfl
  simp only [Act.put, List.setIfInBounds_toArray, List.set_cons_zero, List.set_cons_succ]
  refine takeH (i := 2) (v := ?_) rfl (by kernel_rfl) (by kernel_rfl) (by kernel_rfl) (fun _ _ _ h => h) (some 8) rfl (Or.inl ⟨by rfl, ?_⟩) (by assumption) ?_
  rotate_left 1
  · intro wz hSw
    have c0 : wz.cell? ⟨p, 0, none⟩ = some (.int .i64 (a : Int)) := hSw.cell 0
    have c1 : wz.cell? ⟨p, 1, none⟩ = some (.int .i64 (n : Int)) := hSw.cell 1
    go_simp
    try with_reducible rfl
  simp only [Act.put, List.setIfInBounds_toArray, List.set_cons_zero, List.set_cons_succ]
  refine takeH (i := 3) (v := ?_) rfl (by kernel_rfl) (by kernel_rfl) (by kernel_rfl) (fun _ _ _ h => h) (some 9) rfl (Or.inl ⟨by rfl, ?_⟩) (by assumption) ?_
  rotate_left 1
  · intro wz hSw
    go_simp
    try with_reducible rfl
  simp only [Act.put, List.setIfInBounds_toArray, List.set_cons_zero, List.set_cons_succ]
  refine takeH (i := 4) (v := ?_) rfl (by kernel_rfl) (by kernel_rfl) (by kernel_rfl) (fun _ _ _ h => h) (some 10) rfl (Or.inl ⟨by rfl, ?_⟩) (by assumption) ?_
  rotate_left 1
  · intro wz hSw
    go_simp
    try with_reducible rfl
  simp only [Act.put, List.setIfInBounds_toArray, List.set_cons_zero, List.set_cons_succ]
  refine takeH (i := 5) (v := ?_) rfl (by kernel_rfl) (by kernel_rfl) (by kernel_rfl) (fun _ _ _ h => h) (some 11) rfl (Or.inl ⟨by rfl, ?_⟩) (by assumption) ?_
  rotate_left 1
  · intro wz hSw
    go_simp
    try with_reducible rfl
  simp only [Act.put, List.setIfInBounds_toArray, List.set_cons_zero, List.set_cons_succ]
  refine takeH (i := 6) (v := ?_) rfl (by kernel_rfl) (by kernel_rfl) (by kernel_rfl) (fun _ _ _ h => h) (some 12) rfl (Or.inl ⟨by rfl, ?_⟩) (by assumption) ?_
  rotate_left 1
  · intro wz hSw
    go_simp
    try with_reducible rfl
  simp only [Act.put, List.setIfInBounds_toArray, List.set_cons_zero, List.set_cons_succ]
  refine takeH (i := 7) (v := ?_) rfl (by kernel_rfl) (by kernel_rfl) (by kernel_rfl) (fun _ _ _ h => h) (some 13) rfl (Or.inl ⟨by rfl, ?_⟩) (by assumption) ?_
  rotate_left 1
  · intro wz hSw
    have c0 : wz.cell? ⟨p, 0, none⟩ = some (.int .i64 (a : Int)) := hSw.cell 0
    have c1 : wz.cell? ⟨p, 1, none⟩ = some (.int .i64 (n : Int)) := hSw.cell 1
    go_simp
    try with_reducible rfl
  simp only [Act.put, List.setIfInBounds_toArray, List.set_cons_zero, List.set_cons_succ]
  refine wpAnyH_ready (rs := [8]) (by kernel_rfl) (by simp) ?_
  refine AllReadyH.cons rfl (fun KK hKK => ?_) AllReadyH.nil
  refine step_call2 (by rfl) 40 (.tmp 11) (.tmp 13) _ (by rfl) _ _ (by rfl) (by rfl) (fun _ _ => rfl) _ (HPB.out v0d) (some 14) rfl ?_
  rintro e x1 ⟨rfl, hb⟩
  refine ⟨_, rfl, ?_⟩
  replace HO := Lib.hid (HO.out.trans (Only.of_below (S := fun k => k = g) hb) (fun _ h => .inl h)); replace HX := Lib.hid (HX.out.below hb HX.out.lt); replace HY := Lib.hid (HY.out.below hb HY.out.lt)
  clear hb
  refine hKK.out _ _ ?_ (fun hHeld => ?_)
  · exact HX.out
  clear hKK KK
  simp only [Act.put, List.setIfInBounds_toArray, List.set_cons_zero, List.set_cons_succ]
  obtain ⟨W, hcp, hW, hOW⟩ := copy_put x1 g a (M - a) (M - a) l m HY.out (by rw [HS.out]; omega) (by rw [HS.out]; omega)
  refine wpAnyH_ready (rs := [9]) (by kernel_rfl) (by simp) ?_
  refine AllReadyH.cons rfl (fun KK hKK => ?_) AllReadyH.nil
  refine step_alloc (by rfl) (.int .i64 (m.size : Int)) W (by go_simp) (some 15) rfl ?_
  refine hKK.out _ _ (HX.out.only hOW (by have := HGW.out; omega)) (fun hHeld => ?_)
  clear hKK KK hHeld
  refine wpAnyH_done (by kernel_rfl) ?_ _
  go_wp2_with (fail)
  refine bodyPost_end (results_none rfl _ _ _) rfl ?_
  exact ⟨rfl, hW, HO.out.trans hOW (fun _ h => .inl h)⟩
end Go.Proofs.YtaachlijpgmjeaaDoor
