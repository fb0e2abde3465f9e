/- Parts, and what is put together of them: the code's number and compose. -/
import Derived.Test.YtgncllhhajjnlaaInK
import Derived.Lib.BufferWrite
import Derived.Deep.MidRow
namespace Go.Proofs.Ytgncllhhajjnlaa
open Go.RowKit
section
variable {P : Program} {ops : Array Oper} {rest : List Oper} {o : Oper} {a : Act} {w : World} {K : Act → World → Prop} {Q : Exit → Act → World → Prop} {E : Prop}
theorem wpList_runs (hg : o.guard = none) (dst : Option Tmp) (hdst : o.dst = dst)
    (v : Value) (w' : World) (hrun : (execOp a.eval o).run P w = .ok (.value v) w')
    (h : wpList P ops Q rest (a.put dst v) w') : wpList P ops Q (o :: rest) a w :=
  wpList_plain hg fun K hK => by
    subst hdst
    unfold Oper.wp
    rw [hrun, Oper.upon_value]
    exact hK _ _ h
end
theorem wpList_calls {P : Program} {ops : Array Oper} {rest : List Oper} {o : Oper} {a : Act} {w : World} {Q : Exit → Act → World → Prop} (hg : o.guard = none) (dst : Option Tmp) (hdst : o.dst = dst)
    (f : Nat) (args : Array Value) (hrun : (execOp a.eval o).run P w = .ok (.enter f args) w) (post : Ending → World → Prop) (hc : Calls P f args w post)
    (h : ∀ e w', post e w' → ∃ v, e = .returned v ∧ wpList P ops Q rest (a.put dst v) w') : wpList P ops Q (o :: rest) a w :=
  wpList_plain hg fun K hK => by
    subst hdst
    unfold Oper.wp
    rw [hrun, Oper.upon_enter]
    refine hc.mono ?_
    intro e w' hp
    obtain ⟨v, rfl, hk⟩ := h e w' hp
    exact hK _ _ hk
theorem setRow_blk {w : World} {g : Nat} {T : TypeId} {cs cs' : Array Value} (h : Blk w g T cs) : Blk (w.setRow g cs') g T cs' := setRow_heap w g cs cs' T (0, 0) h
theorem setRow_only (w : World) (g : Nat) (cs : Array Value) : Only (fun k => k = g) w (w.setRow g cs) :=
  ⟨rfl, rfl, rfl, by simp [World.setRow], fun k _ hk => setRow_other w g k cs hk⟩
theorem below_only {w x y : World} {g : Nat} (h : Below w.heap.size w x) (ho : Only (fun k => k = g) x y) (hg : w.heap.size ≤ g) : Below w.heap.size w y :=
  h.trans (ho.toBelow h.size (fun k hk => by subst hk; exact hg))
/-- A part of a page: where it stands, and its bytes. -/
structure Pt where
  a : Nat
  t : ByteArray
abbrev ptC (p : Pt) : Array Value := #[.int .i64 (p.a : Int), .string p.t]
abbrev ptV (p : Pt) : Value := .agg (ptC p)
theorem ptC_one (p : Pt) : (ptC p).all (·.oneCell') = true := by simp [ptC, Value.oneCell']
theorem pt_info : (Try.prog.info? 50).map (·.size) = some 2 := by kernel_rfl
def pcs : List Pt → List Value
  | [] => []
  | p :: l => .int .i64 (p.a : Int) :: .string p.t :: pcs l
theorem pcs_get : ∀ {l : List Pt} {j : Nat} {p : Pt}, l[j]? = some p → (pcs l)[j * 2]? = some (.int .i64 (p.a : Int)) ∧ (pcs l)[j * 2 + 1]? = some (.string p.t)
  | y :: l, 0, r, h => by
    obtain rfl : y = r := by simpa using h
    exact ⟨rfl, rfl⟩
  | y :: l, j + 1, r, h => by
    obtain ⟨h1, h2⟩ := pcs_get (l := l) (j := j) (p := r) (by simpa using h)
    rw [show (j + 1) * 2 = j * 2 + 1 + 1 by omega]
    exact ⟨by simpa [pcs] using h1, by simpa [pcs] using h2⟩
theorem pcs_app : ∀ (l m : List Pt), pcs l ++ pcs m = pcs (l ++ m)
  | [], m => rfl
  | p :: l, m => by show _ :: _ :: (pcs l ++ pcs m) = _ :: _ :: pcs (l ++ m); rw [pcs_app l m]
theorem pcs_one {l : List Pt} : ∀ u ∈ pcs l, u.oneCell' = true := by
  induction l with
  | nil => intro u hu; cases hu
  | cons r l ih =>
    intro u hu
    rcases List.mem_cons.1 hu with rfl | hu
    · rfl
    · rcases List.mem_cons.1 hu with rfl | hu
      · rfl
      · exact ih u hu
/-- A row of bytes with those of a text from a place on. -/
def putL (l : List UInt8) (a : Nat) (m : ByteArray) : List UInt8 := l.take a ++ m.data.toList ++ l.drop (a + m.size)
theorem putL_length {l : List UInt8} {a : Nat} {m : ByteArray} (h : a + m.size ≤ l.length) : (putL l a m).length = l.length := by
  unfold putL
  have lm : m.data.toList.length = m.size := by simp
  simp only [List.length_append, List.length_take, List.length_drop, lm]
  omega
theorem putL_set (l : List UInt8) (a : Nat) (m : ByteArray) : (⟨(putL l a m).toArray⟩ : ByteArray) = setB ⟨l.toArray⟩ a m := by
  apply bytes_ext
  rw [setB_list]
  simp [putL]
/-- A text with these parts in the place of its own bytes, one behind the other. -/
def cmF (s : ByteArray) (l : List Pt) : ByteArray := l.foldl (fun s p => setB s p.a p.t) s
def cmS (n : Nat) (l : List Pt) : ByteArray := cmF (zerS n) l
theorem cmF_step {s : ByteArray} {l : List Pt} {k : Nat} {p : Pt} (h : l[k]? = some p) : cmF s (l.take (k + 1)) = setB (cmF s (l.take k)) p.a p.t := by
  unfold cmF
  rw [List.take_add_one, h, List.foldl_append]
  rfl
theorem cmF_app (s : ByteArray) (l m : List Pt) : cmF s (l ++ m) = cmF (cmF s l) m := by
  unfold cmF
  rw [List.foldl_append]
theorem size_u8 : (Try.prog.info? 5).map (·.size) = some 1 := by kernel_rfl
theorem copy_put (w : World) (g a dLen dCap : Nat) (l : List UInt8) (m : ByteArray) (hb : Blk w g 5 (bvA l)) (hd : m.size ≤ dLen) (hf : a + m.size ≤ l.length) :
    ∃ W, (Builtin.copy_ #[55, 9] 3 #[.slice (some ⟨g, a, none⟩) dLen dCap, .string m]).run Try.prog w = .ok (.int .i64 (m.size : Int)) W ∧ Blk W g 5 (bvA (putL l a m)) ∧ Only (fun k => k = g) w W := by
  have hrun := Lib.run_copy_row_string (P := Try.prog) w 55 9 3 5 g a dLen dCap m (bvA l) 5 Try.underlying55 size_u8 hb hd (by simpa [bvA, bv] using hf)
  have hcell : ((bvA l).toList.take a ++ Lib.byteCells m.data.toList ++ (bvA l).toList.drop (a + m.size)).toArray = bvA (putL l a m) := by
    unfold bvA putL bv
    rw [List.toList_toArray, ← List.map_take, ← List.map_drop, List.map_append, List.map_append]
    rfl
  rw [hcell] at hrun
  exact ⟨_, hrun, setRow_blk hb, setRow_only w g _⟩
set_option maxRecDepth 100000 in
set_option maxHeartbeats 4000000 in
theorem number_any (a n x : Nat) (hx : x < 9223372036854775808) (w : World) : Calls Try.prog 28 #[.int .i64 (a : Int), .int .i64 (n : Int), .int .i64 (x : Int)] w fun e w' => e = .returned (ptV ⟨a, putHi x (n : Int)⟩) ∧ Below w.heap.size w w' := by
  have HP := Lib.hid (fun v => putBig_any x (n : Int) v)
  have e1 : IntKind.u64.wrap (x : Int) = (x : Int) := IntWalk.u64_in _ (by omega)
  have HR0 := Lib.hid (Blk.new w 50 (ptC ⟨0, ⟨#[]⟩⟩))
  have HB0 := Lib.hid ((Below.refl w.heap.size w).alloc (Nat.le_refl _) (.cells (ptC ⟨0, ⟨#[]⟩⟩) 50))
  generalize putHi x (n : Int) = m at *
  clear hx
  go_enter Try.func28, Try.ntmps28
  go_upto_region 1 with (fail)
  change Code.wp _ _ _ _ (w.alloc (.cells (ptC ⟨0, ⟨#[]⟩⟩) 50))
  generalize w.alloc (.cells (ptC ⟨0, ⟨#[]⟩⟩) 50) = v0 at *
  obtain ⟨p, hp⟩ : ∃ p, p = w.heap.size := ⟨_, rfl⟩
  have HPP := Lib.hid hp
  rw [← hp] at HR0 ⊢
  clear hp
  refine wp_region_lit ?_
  refine wpList_runs rfl (some 7) rfl (.int .i64 (a : Int)) v0 (by rfl) ?_
  refine wpList_runs rfl (some 8) rfl (.int .i64 (x : Int)) v0 (by rfl) ?_
  refine wpList_runs rfl (some 9) rfl (.int .u64 (x : Int)) v0 (by go_simp) ?_
  refine wpList_runs rfl (some 10) rfl (.int .i64 (n : Int)) v0 (by rfl) ?_
  refine wpList_calls rfl (some 11) rfl 38 #[.int .u64 (x : Int), .int .i64 (n : Int)] (by unfold execOp; simp [resolve, invoke, go_sem]) _ (HP.out v0) ?_
  rintro e v1 ⟨rfl, hb⟩
  refine ⟨_, rfl, ?_⟩
  have HB := Lib.hid (HB0.out.trans (hb.mono HB0.out.size)); have HR := Lib.hid (HR0.out.below hb HR0.out.lt)
  clear hb HB0 HR0
  refine wpList_runs rfl (some 12) rfl (ptV ⟨a, m⟩) v1 (by kernel_rfl) ?_
  refine wpList_store_row rfl 50 (.tmp 6) (.tmp 12) rfl p (ptC ⟨a, m⟩) rfl rfl 50 (ptC ⟨0, ⟨#[]⟩⟩) HR.out pt_info rfl (ptC_one _) ?_
  go_wp2_with (fail)
  refine bodyPost_ret_by (results_cell_row rfl _ _ p 50 (ptC ⟨a, m⟩) (0, 0) _ rfl (setRow_blk HR.out) Try.underlying50 rfl pt_info) rfl ?_
  exact ⟨rfl, below_only HB.out (setRow_only _ _ _) (Nat.le_of_eq HPP.out.symm)⟩
set_option maxRecDepth 100000 in
set_option maxHeartbeats 4000000 in
theorem compose_any (M n c g0 : Nat) (base : Nat) (l : List Pt) (w : World) (hM : M ≤ 100000) (hln : l.length = n) (hn1 : 0 < n) (hn : n ≤ 100000) (hok : ∀ p ∈ l, p.a < M ∧ p.a + p.t.size ≤ M)
    (hv : w.ownsRow base 50 2 (.slice (some ⟨g0, 0, none⟩) n c) n (pcs l)) :
    Calls Try.prog 27 #[.int .i64 (M : Int), .slice (some ⟨g0, 0, none⟩) n c] w fun e w' => e = .returned (.string (cmS M l)) ∧ Below w.heap.size w w' := by
  obtain ⟨g1, cur, hA, _, hbk, htk⟩ := own_some hv hn1
  injection hA with hA
  injection hA with hA _ _
  subst hA
  have HG0 := Lib.hid (show Blk w g0 50 cur from hbk)
  have HAT := Lib.hid (show ∀ (k : Nat) (x : Pt), l[k]? = some x → cur[k * 2]? = some (.int .i64 (x.a : Int)) ∧ cur[k * 2 + 1]? = some (.string x.t) from fun k x hx => by
    obtain ⟨h1, h2⟩ := pcs_get hx
    have hk := (List.getElem?_eq_some_iff.1 hx).1
    rw [← htk, List.getElem?_take, if_pos (by omega)] at h1 h2
    exact ⟨by simpa using h1, by simpa using h2⟩)
  have HOK := Lib.hid hok
  have HLN := Lib.hid hln
  have hmk := make_bytes M (by omega) w
  have HY0 := Lib.hid (Blk.new w 5 (bvA (List.replicate M 0)))
  have hal := (Below.refl w.heap.size w).alloc (Nat.le_refl _) (.cells (bvA (List.replicate M 0)) 5)
  have HB0 := Lib.hid hal
  have HX0 := Lib.hid (HG0.out.below hal HG0.out.lt)
  have HM := Lib.hid hM
  have HN := Lib.hid hn
  clear hv hbk htk hok hln hal HG0 hM hn
  go_enter Try.func27, Try.ntmps27
  go_upto_region 2 with (fail)
  generalize w.alloc (.cells (bvA (List.replicate M 0)) 5) = v0 at *
  clear hmk
  obtain ⟨g, hg⟩ : ∃ g, g = w.heap.size := ⟨_, rfl⟩
  have HG := Lib.hid hg
  rw [← hg] at HY0 ⊢
  have HGX := Lib.hid (show g0 ≠ g from fun h => by
    have h1 := HX0.out; have h2 := HY0.out
    subst h
    unfold Blk at h1 h2
    rw [h1] at h2
    exact absurd h2 (by simp))
  clear hg
  go_wp2_with (fail)
  go_loopw [12] (fun i wr => ∃ k : Nat, k ≤ n ∧ i = .int .i64 k ∧ Hid (Below w.heap.size w wr) ∧ Hid (Blk wr g0 50 cur) ∧ Hid (∃ b : List UInt8, b.length = M ∧ (⟨b.toArray⟩ : ByteArray) = cmF (zerS M) (l.take k) ∧ Blk wr g 5 (bvA b))) (fun i _ => n - (intOf i).toNat)
  case atStart => exact ⟨0, by omega, rfl, HB0, HX0, Lib.hid ⟨_, by simp, rfl, HY0.out⟩⟩
  case round =>
    obtain ⟨k, hk, rfl, HB, HX, HQ⟩ := hrel
    obtain ⟨b, hb1, hb2, hb3⟩ := HQ.out
    have HL := Lib.hid hb1; have HE := Lib.hid hb2; have HY := Lib.hid hb3
    clear HQ hb1 hb2 hb3 HB0 HX0 HY0
    by_cases hkn : (k : Int) < (n : Int)
    · obtain ⟨x, hx⟩ : ∃ x, l[k]? = some x := ⟨_, List.getElem?_eq_getElem (by have := HLN.out; omega)⟩
      obtain ⟨c0, c1⟩ := HAT.out k x hx
      obtain ⟨o1, o2⟩ := HOK.out x (List.mem_of_getElem? hx)
      have d0 : wr.cell? ⟨g0, k * 2, none⟩ = some (.int .i64 (x.a : Int)) := (HX.out.cell _).trans c0
      have d1 : wr.cell? ⟨g0, k * 2 + 1, none⟩ = some (.string x.t) := (HX.out.cell _).trans c1
      have HS := Lib.hid (show cmF (zerS M) (l.take (k + 1)) = setB (cmF (zerS M) (l.take k)) x.a x.t from cmF_step hx)
      clear c0 c1 hx
      have hla : (x.a : Int) ≤ (M : Int) := by omega
      have hne : ¬ M = x.a := by omega
      have HO2 := Lib.hid o2
      have HW := Lib.hid (show wrap64 ((k : Int) + 1) = ((k + 1 : Nat) : Int) by rw [IntWalk.wrap64_in _ (by have := HN.out; omega)]; omega)
      go_upto_region 5 with (fail)
      change Code.wp _ _ _ _ (wr.alloc (.cells (ptC x) 50))
      have hal := (Below.refl wr.heap.size wr).alloc (Nat.le_refl _) (.cells (ptC x) 50)
      have HB1 := Lib.hid (HB.out.trans (hal.mono HB.out.size)); have HX1 := Lib.hid (HX.out.below hal HX.out.lt); have HY1 := Lib.hid (HY.out.below hal HY.out.lt)
      have HP1 := Lib.hid (Blk.new wr 50 (ptC x))
      obtain ⟨p, hp⟩ : ∃ p, p = wr.heap.size := ⟨_, rfl⟩
      have HPG := Lib.hid (show g < p by rw [hp]; exact HY.out.lt)
      rw [← hp] at HP1 ⊢
      clear hp hal d0 d1 HB HX HY
      generalize wr.alloc (.cells (ptC x) 50) = v1 at *
      refine wp_region_held_drew (S := fun v => Blk v p 50 (ptC x)) (by kernel_rfl) ?_ (fun hHeld => ?_)
      · exact HP1.out.drew
      have HB := Lib.hid HB1.out.drew; have HX := Lib.hid HX1.out.drew; have HY := Lib.hid HY1.out.drew; have HP2 := Lib.hid HP1.out.drew
      generalize v1.drew = v2 at *
      clear HB1 HX1 HY1 HP1
      refine takeH (i := 0) (v := ?_) rfl (by kernel_rfl) (by kernel_rfl) (by kernel_rfl) (fun _ _ _ h => h) (some 16) rfl (Or.inl ⟨by rfl, ?_⟩) (by assumption) ?_
      rotate_left 1
      · intro wz hSw
        go_simp
        try with_reducible rfl
      simp only [Act.put, List.setIfInBounds_toArray, List.set_cons_zero, List.set_cons_succ]
      refine takeH (i := 1) (v := ?_) rfl (by kernel_rfl) (by kernel_rfl) (by kernel_rfl) (fun _ _ _ h => h) (some 17) rfl (Or.inl ⟨by rfl, ?_⟩) (by assumption) ?_
      rotate_left 1
      · intro wz hSw
        go_simp
        try with_reducible rfl
      simp only [Act.put, List.setIfInBounds_toArray, List.set_cons_zero, List.set_cons_succ]
      refine takeH (i := 2) (v := ?_) rfl (by kernel_rfl) (by kernel_rfl) (by kernel_rfl) (fun _ _ _ h => h) (some 18) rfl (Or.inl ⟨by rfl, ?_⟩) (by assumption) ?_
      rotate_left 1
      · intro wz hSw
        have c0 : wz.cell? ⟨p, 0, none⟩ = some (.int .i64 (x.a : Int)) := hSw.cell 0
        have c1 : wz.cell? ⟨p, 1, none⟩ = some (.string x.t) := hSw.cell 1
        go_simp
        try with_reducible rfl
      simp only [Act.put, List.setIfInBounds_toArray, List.set_cons_zero, List.set_cons_succ]
      refine takeH (i := 3) (v := ?_) rfl (by kernel_rfl) (by kernel_rfl) (by kernel_rfl) (fun _ _ _ h => h) (some 19) rfl (Or.inl ⟨by rfl, ?_⟩) (by assumption) ?_
      rotate_left 1
      · intro wz hSw
        go_simp
        try with_reducible rfl
      simp only [Act.put, List.setIfInBounds_toArray, List.set_cons_zero, List.set_cons_succ]
      refine takeH (i := 4) (v := ?_) rfl (by kernel_rfl) (by kernel_rfl) (by kernel_rfl) (fun _ _ _ h => h) (some 20) rfl (Or.inl ⟨by rfl, ?_⟩) (by assumption) ?_
      rotate_left 1
      · intro wz hSw
        go_simp
        try with_reducible rfl
      simp only [Act.put, List.setIfInBounds_toArray, List.set_cons_zero, List.set_cons_succ]
      refine takeH (i := 5) (v := ?_) rfl (by kernel_rfl) (by kernel_rfl) (by kernel_rfl) (fun _ _ _ h => h) (some 21) rfl (Or.inl ⟨by rfl, ?_⟩) (by assumption) ?_
      rotate_left 1
      · intro wz hSw
        have c0 : wz.cell? ⟨p, 0, none⟩ = some (.int .i64 (x.a : Int)) := hSw.cell 0
        have c1 : wz.cell? ⟨p, 1, none⟩ = some (.string x.t) := hSw.cell 1
        go_simp
        try with_reducible rfl
      simp only [Act.put, List.setIfInBounds_toArray, List.set_cons_zero, List.set_cons_succ]
      obtain ⟨W, hcp, hW, hOW⟩ := copy_put v2 g x.a (M - x.a) (M - x.a) b x.t HY.out (by have := HO2.out; omega) (by rw [HL.out]; exact HO2.out)
      refine wpAnyH_ready (rs := [6]) (by kernel_rfl) (by simp) ?_
      refine AllReadyH.cons rfl (fun KK hKK => ?_) AllReadyH.nil
      refine step_alloc (by rfl) (.int .i64 (x.t.size : Int)) W (by go_simp) (some 22) rfl ?_
      refine hKK.out _ _ (HP2.out.only hOW (by have := HPG.out; omega)) (fun hHeld => ?_)
      clear hKK KK hHeld
      refine wpAnyH_done (by kernel_rfl) ?_ _
      have HB3 := Lib.hid (below_only HB.out hOW (Nat.le_of_eq HG.out.symm))
      have HX3 := Lib.hid (HX.out.only hOW HGX.out)
      have HQ3 : Hid (∃ b : List UInt8, b.length = M ∧ (⟨b.toArray⟩ : ByteArray) = cmF (zerS M) (l.take (k + 1)) ∧ Blk W g 5 (bvA b)) := Lib.hid ⟨_, (putL_length (by rw [HL.out]; exact HO2.out)).trans HL.out, by rw [putL_set, HE.out, HS.out], hW⟩
      clear hcp hW hOW HB HX HY HP2
      go_wp2_with (fail)
      go_roundw
      case rel => exact ⟨k + 1, by omega, by rw [HW.out], HB3, HX3, HQ3⟩
      case measure =>
        rw [HW.out]
        simp only [intOf, Int.toNat_natCast]
        omega
    · obtain rfl : k = n := by omega
      have hcv := bytes_str wr g M b HL.out HY.out
      have HV := Lib.hid (show (⟨b.toArray⟩ : ByteArray) = cmS M l by rw [HE.out, ← HLN.out, List.take_length]; rfl)
      rw [HV.out] at hcv
      go_wp2_with (fail)
      go_ret
      exact ⟨rfl, HB.out⟩
end Go.Proofs.Ytgncllhhajjnlaa
