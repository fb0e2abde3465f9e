/- The list of a change, written: the code's write. -/
import Derived.Test.YtdggipgieanpeaaPrP
import Derived.Test.YtdggipgieanpeaaWrites
import Derived.Lib.BufferWrite
import Derived.Lib.ConvBytes
namespace Go.Proofs.Ytdggipgieanpeaa.Pc
open Go.RowKit
abbrev bvA (l : List UInt8) : Array Value := (bv l).toArray
/-- A row of bytes with those of a text from a place on. -/
def putL (l : List UInt8) (a : Nat) (m : ByteArray) : List UInt8 := l.take a ++ m.data.toList ++ l.drop (a + m.size)
theorem bytesL {a b : ByteArray} (h : a.data.toList = b.data.toList) : a = b := by
  obtain ⟨⟨a⟩⟩ := a
  obtain ⟨⟨b⟩⟩ := b
  simp only at h
  rw [h]
theorem bvA_set (l : List UInt8) (i : Nat) (y : UInt8) : (bvA l).setIfInBounds i (.int .u8 (y.toNat : Int)) = bvA (l.set i y) := by
  simp [bvA, bv, List.map_set]
theorem bvA_at {l : List UInt8} {i : Nat} {y : UInt8} (h : l[i]? = some y) : (bvA l)[i]? = some (.int .u8 (y.toNat : Int)) := by
  simp [bvA, bv, h]
theorem size_u8 : (Try.prog.info? 5).map (·.size) = some 1 := by kernel_rfl
theorem copy_put (w : World) (g a dLen dCap : Nat) (l : List UInt8) (m : ByteArray) (hb : Blk w g 5 (bvA l)) (hd : m.size ≤ dLen) (hf : a + m.size ≤ l.length) :
    ∃ W, (Builtin.copy_ #[66, 9] 3 #[.slice (some ⟨g, a, none⟩) dLen dCap, .string m]).run Try.prog w = .ok (.int .i64 (m.size : Int)) W ∧ Blk W g 5 (bvA (putL l a m)) ∧ Only (fun k => k = g) w W := by
  have hrun := Lib.run_copy_row_string (P := Try.prog) w 66 9 3 5 g a dLen dCap m (bvA l) 5 Try.underlying66 size_u8 hb hd (by simpa [bvA, bv] using hf)
  have hcell : ((bvA l).toList.take a ++ Lib.byteCells m.data.toList ++ (bvA l).toList.drop (a + m.size)).toArray = bvA (putL l a m) := by
    unfold bvA putL bv
    rw [List.toList_toArray, ← List.map_take, ← List.map_drop, List.map_append, List.map_append]
    rfl
  rw [hcell] at hrun
  exact ⟨_, hrun, setRow_blk hb, setRow_only w g _⟩
def bzero (M : Nat) : Array Value := madeCells (Value.int .u8 0).cells M
theorem bzero_is (M : Nat) : bzero M = bvA (List.replicate M 0) := by
  unfold bzero madeCells bvA bv
  refine Array.ext (by simp) fun i h1 h2 => ?_
  have e : (Value.int .u8 0).cells = #[.int .u8 0] := rfl
  simp [e, Nat.mod_one]
theorem make_bytes (M : Nat) (h2 : M ≤ 140737488355328) (w : World) : (Instr.makeSlice 66 (.int .i64 (M : Int)) (.int .i64 (M : Int))).run Try.prog w = .ok (.slice (some ⟨w.heap.size, 0, none⟩) M M) (w.alloc (.cells (bvA (List.replicate M 0)) 5)) := by
  obtain ⟨i0, hi0, hz0, hz1, hz2⟩ := info_parts Try.info5
  have := run_make (P := Try.prog) w 66 5 i0 _ Try.underlying66 hi0 hz0 .i64 .i64 (M : Int) (M : Int) (by omega) (by omega) (by rw [hz2]; omega) (by omega)
  rw [this, hz1, ← bzero_is]
  simp [bzero]
theorem bytes_str (w : World) (g M : Nat) (l : List UInt8) (hl : l.length = M) (h : Blk w g 5 (bvA l)) : (convert 66 9 (.slice (some ⟨g, 0, none⟩) M M)).run Try.prog w = .ok (.string ⟨l.toArray⟩) w := by
  subst hl
  exact run_convert_bytes_back (P := Try.prog) w 66 9 5 ⟨g, 0, none⟩ l.length l Try.underlying66 Try.underlying5 Try.underlying9 (fun j hj => by
    rw [Addr.add_lit, Nat.zero_add, h.cell]
    simp [bvA, bv, List.getElem?_eq_getElem hj])
/-! The list's bytes. -/
def z24 : List UInt8 := List.replicate 24 0
def wr1 (l : Ls) : List UInt8 := putL z24 0 (putHi l.k ((8 : Nat) : Int))
def wr2 (l : Ls) : List UInt8 := putL (wr1 l) 8 (putHi l.s ((8 : Nat) : Int))
def wr3 (l : Ls) : List UInt8 := if l.a = true then (wr2 l).set 20 1 else wr2 l
theorem put_z (A B : ByteArray) (hA : A.size = 8) (hB : B.size = 8) : putL (putL z24 0 A) 8 B = A.data.toList ++ B.data.toList ++ List.replicate 8 0 := by
  have lA : A.data.toList.length = 8 := by simpa using hA
  unfold putL
  rw [hA, hB]
  show List.take 8 (([] : List UInt8) ++ A.data.toList ++ List.replicate 16 0) ++ B.data.toList ++ List.drop 16 (([] : List UInt8) ++ A.data.toList ++ List.replicate 16 0) = _
  rw [List.nil_append, List.take_append_of_le_length (by omega), List.take_of_length_le (by omega), List.drop_append, lA, List.drop_of_length_le (by omega)]
  rfl
theorem wr3_is (l : Ls) : (⟨(wr3 l).toArray⟩ : ByteArray) = wrL l := by
  apply bytesL
  unfold wr3 wrL lsS wr2 wr1
  have hA := put8 l.k
  have hB := put8 l.s
  generalize putHi l.k ((8 : Nat) : Int) = A at *
  generalize putHi l.s ((8 : Nat) : Int) = B at *
  rw [put_z A B hA hB]
  have lA : A.data.toList.length = 8 := by simpa using hA
  have lB : B.data.toList.length = 8 := by simpa using hB
  have e : ∀ t : ByteArray, (A ++ B ++ t).data.toList = A.data.toList ++ B.data.toList ++ t.data.toList := fun t => by simp
  cases l.a with
  | true =>
    show ((A.data.toList ++ B.data.toList ++ List.replicate 8 0).set 20 1).toArray.toList = (A ++ B ++ oS 1).data.toList
    rw [e, List.set_append_right _ _ (by simp [lA, lB]), List.length_append, lA, lB]
    simp
    rfl
  | false =>
    show (A.data.toList ++ B.data.toList ++ List.replicate 8 0).toArray.toList = (A ++ B ++ oS 0).data.toList
    rw [e]
    simp
    rfl
theorem putL_length {l : List UInt8} {a : Nat} {m : ByteArray} (h : a + m.size ≤ l.length) : (putL l a m).length = l.length := by
  unfold putL
  have lm : m.data.toList.length = m.size := by simp
  simp only [List.length_append, List.length_take, List.length_drop, lm]
  omega
theorem wr1_len (l : Ls) : (wr1 l).length = 24 := by
  unfold wr1
  rw [putL_length (by rw [put8]; decide)]
  rfl
theorem wr2_len (l : Ls) : (wr2 l).length = 24 := by
  unfold wr2
  rw [putL_length (by rw [put8, wr1_len]; decide), wr1_len]
theorem wr3_len (l : Ls) : (wr3 l).length = 24 := by unfold wr3; split <;> simp [wr2_len]
set_option maxRecDepth 100000 in
set_option maxHeartbeats 4000000 in
theorem write_any (l : Ls) (w : World) : Calls Try.prog 20 #[lsV l] w fun e w' => e = .returned (.string (wrL l)) ∧ Below w.heap.size w w' := by
  have HP1 := Lib.hid (fun v => putBig_any l.k ((8 : Nat) : Int) v)
  have HP2 := Lib.hid (fun v => putBig_any l.s ((8 : Nat) : Int) v)
  have HD1 := Lib.hid (show wr1 l = putL z24 0 (putHi l.k ((8 : Nat) : Int)) from rfl)
  have HD2 := Lib.hid (show wr2 l = putL (wr1 l) 8 (putHi l.s ((8 : Nat) : Int)) from rfl)
  have HD3 := Lib.hid (show wr3 l = if l.a = true then (wr2 l).set 20 1 else wr2 l from rfl)
  have HDS := Lib.hid (wr3_is l)
  have HS1 := Lib.hid (put8 l.k)
  have HS2 := Lib.hid (put8 l.s)
  have HL1 := Lib.hid (wr1_len l)
  have HL2 := Lib.hid (wr2_len l)
  have HL3 := Lib.hid (wr3_len l)
  generalize wrL l = R at *
  generalize wr3 l = l3 at *
  generalize wr2 l = l2 at *
  generalize wr1 l = l1 at *
  generalize putHi l.k ((8 : Nat) : Int) = m1 at *
  generalize putHi l.s ((8 : Nat) : Int) = m2 at *
  have HX0 := Lib.hid (Blk.new w 54 (lsC l))
  have HB0 := Lib.hid ((Below.refl w.heap.size w).alloc (Nat.le_refl _) (.cells (lsC l) 54))
  go_enter Try.func20, Try.ntmps20
  go_upto_region 1 with (fail)
  change Code.wp _ _ _ _ (w.alloc (.cells (lsC l) 54))
  generalize w.alloc (.cells (lsC l) 54) = v0 at *
  obtain ⟨p, hp⟩ : ∃ p, p = w.heap.size := ⟨_, rfl⟩
  have HP := Lib.hid hp
  rw [← hp] at HX0 ⊢
  clear hp
  have hmk : (Instr.makeSlice 66 (.int .i64 24) (.int .i64 24)).run Try.prog v0 = .ok (.slice (some ⟨v0.heap.size, 0, none⟩) 24 24) (v0.alloc (.cells (bvA z24) 5)) := make_bytes 24 (by decide) v0
  go_upto_region 2 with (fail)
  clear hmk
  change Code.wp _ _ _ _ (v0.alloc (.cells (bvA z24) 5))
  have hal := (Below.refl v0.heap.size v0).alloc (Nat.le_refl _) (.cells (bvA z24) 5)
  have HX := Lib.hid (HX0.out.below hal HX0.out.lt); have HB := Lib.hid (HB0.out.trans (hal.mono HB0.out.size))
  have HG := Lib.hid (Blk.new v0 5 (bvA z24))
  obtain ⟨g, hg⟩ : ∃ g, g = v0.heap.size := ⟨_, rfl⟩
  have HPG := Lib.hid (show p < g by rw [hg]; exact HX0.out.lt)
  rw [← hg] at HG ⊢
  clear hal hg HB0 HX0
  generalize v0.alloc (.cells (bvA z24) 5) = v1 at *
  refine wp_region_held_drew (S := fun v => Blk v p 54 (lsC l)) (by kernel_rfl) ?_ (fun hHeld => ?_)
  · exact HX.out.drew
  replace HX := Lib.hid HX.out.drew; replace HG := Lib.hid HG.out.drew; replace HB := Lib.hid HB.out.drew
  generalize v1.drew = v1d at *
  refine takeH (i := 0) (v := ?_) rfl (by kernel_rfl) (by kernel_rfl) (by kernel_rfl) (fun _ _ _ h => h) (some 5) rfl (Or.inl ⟨by rfl, ?_⟩) (by assumption) ?_
  rotate_left 1
  · intro wz hSw
    go_simp
    try with_reducible rfl
  simp only [Act.put, List.setIfInBounds_toArray, List.set_cons_zero, List.set_cons_succ]
  refine takeH (i := 1) (v := ?_) rfl (by kernel_rfl) (by kernel_rfl) (by kernel_rfl) (fun _ _ _ h => h) (some 6) rfl (Or.inl ⟨by rfl, ?_⟩) (by assumption) ?_
  rotate_left 1
  · intro wz hSw
    go_simp
    try with_reducible rfl
  simp only [Act.put, List.setIfInBounds_toArray, List.set_cons_zero, List.set_cons_succ]
  refine takeH (i := 2) (v := ?_) rfl (by kernel_rfl) (by kernel_rfl) (by kernel_rfl) (fun _ _ _ h => h) (some 7) rfl (Or.inl ⟨by rfl, ?_⟩) (by assumption) ?_
  rotate_left 1
  · intro wz hSw
    go_simp
    try with_reducible rfl
  simp only [Act.put, List.setIfInBounds_toArray, List.set_cons_zero, List.set_cons_succ]
  refine takeH (i := 3) (v := ?_) rfl (by kernel_rfl) (by kernel_rfl) (by kernel_rfl) (fun _ _ _ h => h) (some 8) rfl (Or.inl ⟨by rfl, ?_⟩) (by assumption) ?_
  rotate_left 1
  · intro wz hSw
    have c0 : wz.cell? ⟨p, 0, none⟩ = some (.int .u64 (l.k : Int)) := hSw.cell 0
    go_simp
    try with_reducible rfl
  simp only [Act.put, List.setIfInBounds_toArray, List.set_cons_zero, List.set_cons_succ]
  refine wpAnyH_ready (rs := [4]) (by kernel_rfl) (by simp) ?_
  refine AllReadyH.cons rfl (fun KK hKK => ?_) AllReadyH.nil
  refine step_enter (by rfl) 26 #[.int .u64 (l.k : Int), .int .i64 8] (by unfold execOp; simp [resolve, invoke, go_sem]) _ (HP1.out v1d) (some 9) rfl ?_
  rintro e x1 ⟨rfl, hb⟩
  refine ⟨_, rfl, ?_⟩
  replace HB := Lib.hid (HB.out.trans (hb.mono HB.out.size)); replace HX := Lib.hid (HX.out.below hb HX.out.lt); replace HG := Lib.hid (HG.out.below hb HG.out.lt)
  clear hb
  refine hKK.out _ _ ?_ (fun hHeld => ?_)
  · exact HX.out
  clear hKK KK
  simp only [Act.put, List.setIfInBounds_toArray, List.set_cons_zero, List.set_cons_succ]
  obtain ⟨W1, hcp, hW, hOW⟩ := copy_put x1 g 0 24 24 z24 m1 HG.out (by rw [HS1.out]; decide) (by rw [HS1.out, show z24.length = 24 from rfl]; decide)
  rw [← HD1.out] at hW
  refine wpAnyH_ready (rs := [5]) (by kernel_rfl) (by simp) ?_
  refine AllReadyH.cons rfl (fun KK hKK => ?_) AllReadyH.nil
  refine step_value (by rfl) (.int .i64 (m1.size : Int)) W1 (by go_simp) (some 10) rfl ?_
  refine hKK.out _ _ (HX.out.only hOW (by have := HPG.out; omega)) (fun hHeld => ?_)
  clear hKK KK hHeld
  replace HG := Lib.hid hW
  replace HX := Lib.hid (HX.out.only hOW (by have := HPG.out; omega))
  replace HB := Lib.hid (below_only HB.out hOW (by have := HP.out; have := HPG.out; omega))
  clear hcp hW hOW
  simp only [Act.put, List.setIfInBounds_toArray, List.set_cons_zero, List.set_cons_succ]
  refine wpAnyH_done (by kernel_rfl) ?_ _
  go_upto_region 3 with (fail)
  refine wp_region_held_drew (S := fun v => Blk v p 54 (lsC l)) (by kernel_rfl) ?_ (fun hHeld => ?_)
  · exact HX.out.drew
  replace HX := Lib.hid HX.out.drew; replace HG := Lib.hid HG.out.drew; replace HB := Lib.hid HB.out.drew
  generalize W1.drew = W1d at *
  refine takeH (i := 0) (v := ?_) rfl (by kernel_rfl) (by kernel_rfl) (by kernel_rfl) (fun _ _ _ h => h) (some 11) rfl (Or.inl ⟨by rfl, ?_⟩) (by assumption) ?_
  rotate_left 1
  · intro wz hSw
    go_simp
    try with_reducible rfl
  simp only [Act.put, List.setIfInBounds_toArray, List.set_cons_zero, List.set_cons_succ]
  refine takeH (i := 1) (v := ?_) rfl (by kernel_rfl) (by kernel_rfl) (by kernel_rfl) (fun _ _ _ h => h) (some 12) rfl (Or.inl ⟨by rfl, ?_⟩) (by assumption) ?_
  rotate_left 1
  · intro wz hSw
    go_simp
    try with_reducible rfl
  simp only [Act.put, List.setIfInBounds_toArray, List.set_cons_zero, List.set_cons_succ]
  refine takeH (i := 2) (v := ?_) rfl (by kernel_rfl) (by kernel_rfl) (by kernel_rfl) (fun _ _ _ h => h) (some 13) rfl (Or.inl ⟨by rfl, ?_⟩) (by assumption) ?_
  rotate_left 1
  · intro wz hSw
    go_simp
    try with_reducible rfl
  simp only [Act.put, List.setIfInBounds_toArray, List.set_cons_zero, List.set_cons_succ]
  refine takeH (i := 3) (v := ?_) rfl (by kernel_rfl) (by kernel_rfl) (by kernel_rfl) (fun _ _ _ h => h) (some 14) rfl (Or.inl ⟨by rfl, ?_⟩) (by assumption) ?_
  rotate_left 1
  · intro wz hSw
    have c1 : wz.cell? ⟨p, 1, none⟩ = some (.int .u64 (l.s : Int)) := hSw.cell 1
    go_simp
    try with_reducible rfl
  simp only [Act.put, List.setIfInBounds_toArray, List.set_cons_zero, List.set_cons_succ]
  refine wpAnyH_ready (rs := [4]) (by kernel_rfl) (by simp) ?_
  refine AllReadyH.cons rfl (fun KK hKK => ?_) AllReadyH.nil
  refine step_enter (by rfl) 26 #[.int .u64 (l.s : Int), .int .i64 8] (by unfold execOp; simp [resolve, invoke, go_sem]) _ (HP2.out W1d) (some 15) rfl ?_
  rintro e x2 ⟨rfl, hb⟩
  refine ⟨_, rfl, ?_⟩
  replace HB := Lib.hid (HB.out.trans (hb.mono HB.out.size)); replace HX := Lib.hid (HX.out.below hb HX.out.lt); replace HG := Lib.hid (HG.out.below hb HG.out.lt)
  clear hb
  refine hKK.out _ _ ?_ (fun hHeld => ?_)
  · exact HX.out
  clear hKK KK
  simp only [Act.put, List.setIfInBounds_toArray, List.set_cons_zero, List.set_cons_succ]
  obtain ⟨W2, hcp, hW, hOW⟩ := copy_put x2 g 8 16 16 l1 m2 HG.out (by rw [HS2.out]; decide) (by rw [HS2.out, HL1.out]; decide)
  rw [← HD2.out] at hW
  refine wpAnyH_ready (rs := [5]) (by kernel_rfl) (by simp) ?_
  refine AllReadyH.cons rfl (fun KK hKK => ?_) AllReadyH.nil
  refine step_value (by rfl) (.int .i64 (m2.size : Int)) W2 (by go_simp) (some 16) rfl ?_
  refine hKK.out _ _ (HX.out.only hOW (by have := HPG.out; omega)) (fun hHeld => ?_)
  clear hKK KK hHeld
  replace HG := Lib.hid hW
  replace HX := Lib.hid (HX.out.only hOW (by have := HPG.out; omega))
  replace HB := Lib.hid (below_only HB.out hOW (by have := HP.out; have := HPG.out; omega))
  clear hcp hW hOW
  simp only [Act.put, List.setIfInBounds_toArray, List.set_cons_zero, List.set_cons_succ]
  refine wpAnyH_done (by kernel_rfl) ?_ _
  have c2 : W2.cell? ⟨p, 2, none⟩ = some (.bool l.a) := HX.out.cell 2
  cases ha : l.a with
  | true =>
    rw [ha] at c2
    rw [ha, if_pos rfl] at HD3
    clear ha
    have g20 : ∃ u : UInt8, l2[20]? = some u := ⟨_, List.getElem?_eq_getElem (by rw [HL2.out]; decide)⟩
    obtain ⟨u, hu⟩ := g20
    have g20 : W2.cell? ⟨g, 20, none⟩ = some (.int .u8 (u.toNat : Int)) := (HG.out.cell 20).trans (bvA_at hu)
    have e20 := HG.out.free 20
    go_upto_region 6 with (fail)
    clear g20 e20 hu c2
    change Code.wp _ _ _ _ (World.setCell W2 ⟨g, 20, none⟩ (.int .u8 (((1 : UInt8).toNat : Nat) : Int)))
    replace HG := Lib.hid (HG.out.put 20 (.int .u8 (((1 : UInt8).toNat : Nat) : Int)))
    rw [bvA_set, ← HD3.out] at HG
    replace HB := Lib.hid (HB.out.setCell (p := ⟨g, 20, none⟩) (by have := HPG.out; have := HP.out; dsimp only; omega) (.int .u8 (((1 : UInt8).toNat : Nat) : Int)))
    generalize World.setCell W2 ⟨g, 20, none⟩ (.int .u8 (((1 : UInt8).toNat : Nat) : Int)) = v9 at *
    have hcv := bytes_str v9 g 24 _ HL3.out HG.out
    rw [HDS.out] at hcv
    go_wp2_with (fail)
    go_ret
    exact ⟨rfl, HB.out⟩
  | false =>
    rw [ha] at c2
    rw [ha, if_neg (by decide)] at HD3
    clear ha
    rw [← HD3.out] at HG
    go_upto_region 6 with (fail)
    clear c2
    have hcv := bytes_str W2 g 24 _ HL3.out HG.out
    rw [HDS.out] at hcv
    go_wp2_with (fail)
    go_ret
    exact ⟨rfl, HB.out⟩
end Go.Proofs.Ytdggipgieanpeaa.Pc
