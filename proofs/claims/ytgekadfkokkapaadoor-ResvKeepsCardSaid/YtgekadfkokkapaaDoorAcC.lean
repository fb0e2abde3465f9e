/- Who holds, and who may: the program's functions. -/
import Derived.Test.YtgekadfkokkapaaDoorAcB
namespace Go.Proofs.YtgekadfkokkapaaDoor
open Go.RowKit
theorem wp_region_class {P : Program} {id : Nat} {Q : Exit → Act → World → Prop} {a : Act} {w : World} {l : List Oper} (C : World → Prop) (hm : P.follows .mixedOrders = true) (hB : Region.lexB .any l.toArray = true) (hC : C w.drew)
    (h : wpQuiet P l.toArray C (fun a' => ∀ w', C w' → Q .normal a' w') l a) : (Code.region id l.toArray true).wp P Q a w :=
  wp_region_quiet (C := C) hm hB hC (by simpa using h)
theorem quiet_run {P : Program} {o : Oper} {a : Act} {C : World → Prop} {K : Act → Prop} {v : Value} (h : ∀ w, C w → (execOp a.eval o).run P w = .ok (.value v) w) (hk : K (a.put o.dst v)) : o.quiet P a C K :=
  ⟨v, fun w hw => by unfold Oper.quietAt; rw [h w hw]; exact ⟨rfl, rfl⟩, hk⟩
theorem quiet_call {P : Program} {o : Oper} {a : Act} {C : World → Prop} {K : Act → Prop} {v : Value} {f : FuncId} {args : Array Value} (h : ∀ w, C w → (execOp a.eval o).run P w = .ok (.enter f args) w)
    (hc : ∀ w, C w → Calls P f args w (fun e w' => e = .returned v ∧ C w')) (hk : K (a.put o.dst v)) : o.quiet P a C K :=
  ⟨v, fun w hw => by unfold Oper.quietAt; rw [h w hw]; exact ⟨rfl, hc w hw⟩, hk⟩
theorem class_of (w0 : World) (R : World → Prop) (hR : ∀ v, Below w0.heap.size w0 v → R v) :
    ∃ C : World → Prop, C w0.drew ∧ (∀ v, C v → R v) ∧ (∀ v, C v → Below w0.heap.size w0 v) ∧ (∀ v v', C v → Below v.heap.size v v' → C v') :=
  ⟨fun v => Below w0.heap.size w0 v, (Below.refl _ _).drew, hR, fun _ h => h, fun _ _ h hb => h.trans (hb.mono h.size)⟩
/-- The cells of a table at block g. -/
def TlAt (w : World) (g : Nat) (A : Option Addr) (c : Nat) (t : Tl) : Prop :=
  w.cell? ⟨g, 0, none⟩ = some (.slice A t.rs.length c) ∧ w.cell? ⟨g, 1, none⟩ = some (.int .i64 t.ty) ∧ w.cell? ⟨g, 2, none⟩ = some (.string t.ho) ∧ w.cell? ⟨g, 3, none⟩ = some (.int .u32 t.ge) ∧ w.cell? ⟨g, 4, none⟩ = some (.bool t.ap)
theorem TlAt.of {w : World} {g : Nat} {A : Option Addr} {c : Nat} {t : Tl} (h : Blk w g 27 (tlC A c t)) : TlAt w g A c t := ⟨h.cell 0, h.cell 1, h.cell 2, h.cell 3, h.cell 4⟩
theorem TlAt.below {w v : World} {g : Nat} {A : Option Addr} {c : Nat} {t : Tl} (h : Blk w g 27 (tlC A c t)) (hb : Below w.heap.size w v) : TlAt v g A c t := TlAt.of (h.below hb h.lt)
theorem gH_bd (k : Nat) : 0 ≤ gH k ∧ gH k ≤ 3 := by unfold gH; split <;> omega
theorem gR_bd (k : Nat) : 0 ≤ gR k ∧ gR k ≤ 3 := by unfold gR; split <;> omega
theorem gC_bd (k : Nat) : 0 ≤ gC k ∧ gC k ≤ 3 := by unfold gC; split <;> omega
theorem othV_bd (k : Nat) (op : Int) : 0 ≤ othV k op ∧ othV k op ≤ 3 := by
  unfold othV
  have := gR_bd k; have := gC_bd k
  split
  · omega
  · split <;> omega
/-- Who holds. -/
def holdsB (t : Tl) (h : ByteArray) : Bool := hasB (gH (kindN t.ty)) t h
/-- Who may. -/
def mayB (t : Tl) (h : ByteArray) (op : Int) : Bool := hasB (gH (kindN t.ty)) t h || hasB (othV (kindN t.ty) op) t h
set_option maxRecDepth 100000 in
set_option maxHeartbeats 1000000 in
theorem holds_any (A : Option Addr) (c : Nat) (t : Tl) (h : ByteArray) (w : World) (hl : Rgs w A t.rs) (hm : t.rs.length ≤ maxLen) (ht : RTab w) :
    Calls Tryd.prog 28 #[tlV A c t, .string h] w fun e w' => e = .returned (.bool (holdsB t h)) ∧ Below w.heap.size w w' := by
  have hf : hasB (gH (kindN t.ty)) t h = holdsB t h := rfl
  obtain ⟨b1, b2⟩ := gH_bd (kindN t.ty)
  have HX := Lib.hid (fun v (hv : Rgs v A t.rs) => has_any (gH (kindN t.ty)) A c t h v hv hm b1 b2)
  have HRu := Lib.hid (fun v (hv : RTab v) => rule_any t.ty v hv)
  rw [hf] at HX
  generalize kindN t.ty = k at *
  obtain ⟨h1, h2, h3⟩ := tl_box w A c t _ rfl
  have HT := Lib.hid h1; have HB := Lib.hid h2
  have HL0 := Lib.hid hl; have HT0 := Lib.hid ht
  clear h1 h2 h3 hl hm ht hf b1 b2
  go_enter Tryd.func28, Tryd.ntmps28
  go_upto_region 1 with (fail)
  change Code.wp _ _ _ _ (w.alloc (.cells (tlC A c t) 27))
  generalize w.alloc (.cells (tlC A c t) 27) = w0 at *
  obtain ⟨C, hC0, hCl, hCi, hCm⟩ := class_of w0 (fun v => TlAt v w.heap.size A c t) (fun v hb => TlAt.below HT.out hb)
  have HC0 := Lib.hid hC0; have HL := Lib.hid hCl; have HCi := Lib.hid hCi; have HCm := Lib.hid hCm
  have HRg := Lib.hid (fun v (hv : C v) => (HL0.out.below HB.out).below (hCi v hv)); have HTb := Lib.hid (fun v (hv : C v) => (HT0.out.below HB.out).below (hCi v hv))
  clear hC0 hCl hCi hCm
  refine wp_region_class C (by kernel_rfl) (by kernel_rfl) HC0.out ?_
  go_big_quiet_want
  go_big_quiet_op
  first | go_big_quiet_on | (refine ⟨_, fun _ _ => rfl, ?_⟩; go_big_quiet_on)
  go_big_quiet_want
  go_big_quiet_op
  first | go_big_quiet_on | (refine ⟨_, fun _ _ => rfl, ?_⟩; go_big_quiet_on)
  go_big_quiet_want
  refine quiet_run (v := .int .i64 t.ty) (fun v hv => by obtain ⟨c0, c1, c2, c3, c4⟩ := HL.out v hv; go_simp) ?_
  simp only [Act.put, List.setIfInBounds_toArray, List.set_cons_zero, List.set_cons_succ]
  go_big_quiet_on
  go_big_quiet_want
  refine quiet_call (f := 46) (args := #[.int .i64 t.ty]) (fun v _ => by go_simp) (fun v hv => (HRu.out v (HTb.out v hv)).mono (fun e w' h => ⟨h.1, HCm.out v w' hv h.2⟩)) ?_
  simp only [Act.put, List.setIfInBounds_toArray, List.set_cons_zero, List.set_cons_succ]
  go_big_quiet_on
  go_big_quiet_want
  refine quiet_run (v := .int .i64 (gH k)) (fun v hv => by rfl) ?_
  simp only [Act.put, List.setIfInBounds_toArray, List.set_cons_zero, List.set_cons_succ]
  go_big_quiet_on
  go_big_quiet_want
  refine quiet_run (v := tlV A c t) (fun v hv => by obtain ⟨c0, c1, c2, c3, c4⟩ := HL.out v hv; go_simp) ?_
  simp only [Act.put, List.setIfInBounds_toArray, List.set_cons_zero, List.set_cons_succ]
  go_big_quiet_on
  go_big_quiet_want
  go_big_quiet_op
  first | go_big_quiet_on | (refine ⟨_, fun _ _ => rfl, ?_⟩; go_big_quiet_on)
  go_big_quiet_want
  refine quiet_call (f := 47) (args := #[.int .i64 (gH k), tlV A c t, .string h]) (fun v _ => by go_simp) (fun v hv => (HX.out v (HRg.out v hv)).mono (fun e w' h => ⟨h.1, HCm.out v w' hv h.2⟩)) ?_
  simp only [Act.put, List.setIfInBounds_toArray, List.set_cons_zero, List.set_cons_succ]
  go_big_quiet_on
  go_big_quiet_want
  go_big_quiet_op
  first | go_big_quiet_on | (refine ⟨_, fun _ _ => rfl, ?_⟩; go_big_quiet_on)
  refine wpQuiet_nil ?_
  intro w5 hC5
  have HB5 := Lib.hid (HB.out.trans ((HCi.out _ hC5).mono HB.out.size))
  clear hC5
  go_wp2_with (fail)
  go_ret
  exact ⟨rfl, HB5.out⟩
set_option maxRecDepth 100000 in
set_option maxHeartbeats 2000000 in
theorem may_one (A : Option Addr) (c : Nat) (t : Tl) (h : ByteArray) (op : Int) (w : World) (hl : Rgs w A t.rs) (hm : t.rs.length ≤ maxLen) (ht : RTab w) (hy : hasB (gH (kindN t.ty)) t h = true) :
    Calls Tryd.prog 26 #[tlV A c t, .string h, .int .i64 op] w fun e w' => e = .returned (.bool true) ∧ Below w.heap.size w w' := by
  obtain ⟨b1, b2⟩ := gH_bd (kindN t.ty)
  obtain ⟨b3, b4⟩ := othV_bd (kindN t.ty) op
  have HX := Lib.hid (fun v (hv : Rgs v A t.rs) => has_any (gH (kindN t.ty)) A c t h v hv hm b1 b2)
  have HY := Lib.hid (fun v (hv : Rgs v A t.rs) => has_any (othV (kindN t.ty) op) A c t h v hv hm b3 b4)
  have HRu := Lib.hid (fun v (hv : RTab v) => rule_any t.ty v hv)
  have HO := Lib.hid (fun v => others_any (kindN t.ty) op v)
  rw [hy] at HX
  generalize kindN t.ty = k at *
  obtain ⟨h1, h2, h3⟩ := tl_box w A c t _ rfl
  have HT := Lib.hid h1; have HB := Lib.hid h2
  have HL0 := Lib.hid hl; have HT0 := Lib.hid ht
  clear h1 h2 h3 hl hm ht b1 b2 b3 b4 hy
  go_enter Tryd.func26, Tryd.ntmps26
  go_upto_region 1 with (fail)
  change Code.wp _ _ _ _ (w.alloc (.cells (tlC A c t) 27))
  generalize w.alloc (.cells (tlC A c t) 27) = w0 at *
  have c1 : w0.cell? ⟨w.heap.size, 1, none⟩ = some (.int .i64 t.ty) := HT.out.cell 1
  go_wp2_with (fail)
  refine (HRu.out _ (HT0.out.below HB.out)).mono ?_; rintro e w1 ⟨rfl, hb1⟩
  have HB1 := Lib.hid hb1
  clear hb1 c1
  go_upto_region 2 with (fail)
  change Code.wp _ _ _ _ (w1.alloc (.cells #[.int .i64 (gH k), .int .i64 (gR k), .int .i64 (gC k)] 74))
  obtain ⟨w2, hw2⟩ : ∃ w2, w1.alloc (.cells #[.int .i64 (gH k), .int .i64 (gR k), .int .i64 (gC k)] 74) = w2 := ⟨_, rfl⟩
  have HK := Lib.hid (show Blk w2 w1.heap.size 74 #[.int .i64 (gH k), .int .i64 (gR k), .int .i64 (gC k)] by rw [← hw2]; exact Blk.new w1 _ _)
  have HB2 := Lib.hid (show Below w0.heap.size w0 w2 by rw [← hw2]; exact HB1.out.alloc HB1.out.size _)
  rw [hw2]
  clear hw2
  have HT2 := Lib.hid (HT.out.below HB2.out HT.out.lt)
  obtain ⟨C, hC0, hCl, hCi, hCm⟩ := class_of w2 (fun v => TlAt v w.heap.size A c t ∧ v.cell? ⟨w1.heap.size, 0, none⟩ = some (.int .i64 (gH k)) ∧ v.cell? ⟨w1.heap.size, 1, none⟩ = some (.int .i64 (gR k)) ∧ v.cell? ⟨w1.heap.size, 2, none⟩ = some (.int .i64 (gC k))) (fun v hb => ⟨TlAt.below HT2.out hb, (HK.out.below hb HK.out.lt).cell 0, (HK.out.below hb HK.out.lt).cell 1, (HK.out.below hb HK.out.lt).cell 2⟩)
  have HC0 := Lib.hid hC0; have HL := Lib.hid hCl; have HCi := Lib.hid hCi; have HCm := Lib.hid hCm
  have HRg := Lib.hid (fun v (hv : C v) => ((HL0.out.below HB.out).below HB2.out).below (hCi v hv))
  clear hC0 hCl hCi hCm
  refine wp_region_class C (by kernel_rfl) (by kernel_rfl) HC0.out ?_
  go_big_quiet_want
  go_big_quiet_op
  first | go_big_quiet_on | (refine ⟨_, fun _ _ => rfl, ?_⟩; go_big_quiet_on)
  go_big_quiet_want
  refine quiet_run (v := .int .i64 (gH k)) (fun v hv => by obtain ⟨⟨c0, c1, c2, c3, c4⟩, d0, d1, d2⟩ := HL.out v hv; go_simp) ?_
  simp only [Act.put, List.setIfInBounds_toArray, List.set_cons_zero, List.set_cons_succ]
  go_big_quiet_on
  go_big_quiet_want
  refine quiet_run (v := tlV A c t) (fun v hv => by obtain ⟨⟨c0, c1, c2, c3, c4⟩, d0, d1, d2⟩ := HL.out v hv; go_simp) ?_
  simp only [Act.put, List.setIfInBounds_toArray, List.set_cons_zero, List.set_cons_succ]
  go_big_quiet_on
  go_big_quiet_want
  go_big_quiet_op
  first | go_big_quiet_on | (refine ⟨_, fun _ _ => rfl, ?_⟩; go_big_quiet_on)
  go_big_quiet_want
  refine quiet_call (f := 47) (args := #[.int .i64 (gH k), tlV A c t, .string h]) (fun v _ => by go_simp) (fun v hv => (HX.out v (HRg.out v hv)).mono (fun e w' h => ⟨h.1, HCm.out v w' hv h.2⟩)) ?_
  simp only [Act.put, List.setIfInBounds_toArray, List.set_cons_zero, List.set_cons_succ]
  go_big_quiet_on
  go_big_quiet_want
  go_big_quiet_op
  first | go_big_quiet_on | (refine ⟨_, fun _ _ => rfl, ?_⟩; go_big_quiet_on)
  go_big_quiet_skip
  go_big_quiet_skip
  go_big_quiet_skip
  go_big_quiet_skip
  go_big_quiet_skip
  go_big_quiet_skip
  go_big_quiet_want
  go_big_quiet_op
  first | go_big_quiet_on | (refine ⟨_, fun _ _ => rfl, ?_⟩; go_big_quiet_on)
  go_big_quiet_want
  go_big_quiet_op
  first | go_big_quiet_on | (refine ⟨_, fun _ _ => rfl, ?_⟩; go_big_quiet_on)
  refine wpQuiet_nil ?_
  intro w5 hC5
  have HB5 := Lib.hid ((HB.out.trans (HB2.out.mono HB.out.size)).trans ((HCi.out _ hC5).mono (HB.out.trans (HB2.out.mono HB.out.size)).size))
  clear hC5
  go_wp2_with (fail)
  go_ret
  exact ⟨rfl, HB5.out⟩
set_option maxRecDepth 100000 in
set_option maxHeartbeats 2000000 in
theorem may_two (A : Option Addr) (c : Nat) (t : Tl) (h : ByteArray) (op : Int) (w : World) (hl : Rgs w A t.rs) (hm : t.rs.length ≤ maxLen) (ht : RTab w) (hy : hasB (gH (kindN t.ty)) t h = false) :
    Calls Tryd.prog 26 #[tlV A c t, .string h, .int .i64 op] w fun e w' => e = .returned (.bool (hasB (othV (kindN t.ty) op) t h)) ∧ Below w.heap.size w w' := by
  obtain ⟨b1, b2⟩ := gH_bd (kindN t.ty)
  obtain ⟨b3, b4⟩ := othV_bd (kindN t.ty) op
  have HX := Lib.hid (fun v (hv : Rgs v A t.rs) => has_any (gH (kindN t.ty)) A c t h v hv hm b1 b2)
  have HY := Lib.hid (fun v (hv : Rgs v A t.rs) => has_any (othV (kindN t.ty) op) A c t h v hv hm b3 b4)
  have HRu := Lib.hid (fun v (hv : RTab v) => rule_any t.ty v hv)
  have HO := Lib.hid (fun v => others_any (kindN t.ty) op v)
  rw [hy] at HX
  generalize kindN t.ty = k at *
  obtain ⟨h1, h2, h3⟩ := tl_box w A c t _ rfl
  have HT := Lib.hid h1; have HB := Lib.hid h2
  have HL0 := Lib.hid hl; have HT0 := Lib.hid ht
  clear h1 h2 h3 hl hm ht b1 b2 b3 b4 hy
  go_enter Tryd.func26, Tryd.ntmps26
  go_upto_region 1 with (fail)
  change Code.wp _ _ _ _ (w.alloc (.cells (tlC A c t) 27))
  generalize w.alloc (.cells (tlC A c t) 27) = w0 at *
  have c1 : w0.cell? ⟨w.heap.size, 1, none⟩ = some (.int .i64 t.ty) := HT.out.cell 1
  go_wp2_with (fail)
  refine (HRu.out _ (HT0.out.below HB.out)).mono ?_; rintro e w1 ⟨rfl, hb1⟩
  have HB1 := Lib.hid hb1
  clear hb1 c1
  go_upto_region 2 with (fail)
  change Code.wp _ _ _ _ (w1.alloc (.cells #[.int .i64 (gH k), .int .i64 (gR k), .int .i64 (gC k)] 74))
  obtain ⟨w2, hw2⟩ : ∃ w2, w1.alloc (.cells #[.int .i64 (gH k), .int .i64 (gR k), .int .i64 (gC k)] 74) = w2 := ⟨_, rfl⟩
  have HK := Lib.hid (show Blk w2 w1.heap.size 74 #[.int .i64 (gH k), .int .i64 (gR k), .int .i64 (gC k)] by rw [← hw2]; exact Blk.new w1 _ _)
  have HB2 := Lib.hid (show Below w0.heap.size w0 w2 by rw [← hw2]; exact HB1.out.alloc HB1.out.size _)
  rw [hw2]
  clear hw2
  have HT2 := Lib.hid (HT.out.below HB2.out HT.out.lt)
  obtain ⟨C, hC0, hCl, hCi, hCm⟩ := class_of w2 (fun v => TlAt v w.heap.size A c t ∧ v.cell? ⟨w1.heap.size, 0, none⟩ = some (.int .i64 (gH k)) ∧ v.cell? ⟨w1.heap.size, 1, none⟩ = some (.int .i64 (gR k)) ∧ v.cell? ⟨w1.heap.size, 2, none⟩ = some (.int .i64 (gC k))) (fun v hb => ⟨TlAt.below HT2.out hb, (HK.out.below hb HK.out.lt).cell 0, (HK.out.below hb HK.out.lt).cell 1, (HK.out.below hb HK.out.lt).cell 2⟩)
  have HC0 := Lib.hid hC0; have HL := Lib.hid hCl; have HCi := Lib.hid hCi; have HCm := Lib.hid hCm
  have HRg := Lib.hid (fun v (hv : C v) => ((HL0.out.below HB.out).below HB2.out).below (hCi v hv))
  clear hC0 hCl hCi hCm
  refine wp_region_class C (by kernel_rfl) (by kernel_rfl) HC0.out ?_
  go_big_quiet_want
  go_big_quiet_op
  first | go_big_quiet_on | (refine ⟨_, fun _ _ => rfl, ?_⟩; go_big_quiet_on)
  go_big_quiet_want
  refine quiet_run (v := .int .i64 (gH k)) (fun v hv => by obtain ⟨⟨c0, c1, c2, c3, c4⟩, d0, d1, d2⟩ := HL.out v hv; go_simp) ?_
  simp only [Act.put, List.setIfInBounds_toArray, List.set_cons_zero, List.set_cons_succ]
  go_big_quiet_on
  go_big_quiet_want
  refine quiet_run (v := tlV A c t) (fun v hv => by obtain ⟨⟨c0, c1, c2, c3, c4⟩, d0, d1, d2⟩ := HL.out v hv; go_simp) ?_
  simp only [Act.put, List.setIfInBounds_toArray, List.set_cons_zero, List.set_cons_succ]
  go_big_quiet_on
  go_big_quiet_want
  go_big_quiet_op
  first | go_big_quiet_on | (refine ⟨_, fun _ _ => rfl, ?_⟩; go_big_quiet_on)
  go_big_quiet_want
  refine quiet_call (f := 47) (args := #[.int .i64 (gH k), tlV A c t, .string h]) (fun v _ => by go_simp) (fun v hv => (HX.out v (HRg.out v hv)).mono (fun e w' h => ⟨h.1, HCm.out v w' hv h.2⟩)) ?_
  simp only [Act.put, List.setIfInBounds_toArray, List.set_cons_zero, List.set_cons_succ]
  go_big_quiet_on
  go_big_quiet_want
  go_big_quiet_op
  first | go_big_quiet_on | (refine ⟨_, fun _ _ => rfl, ?_⟩; go_big_quiet_on)
  go_big_quiet_want
  refine quiet_run (v := ruV k) (fun v hv => by obtain ⟨⟨c0, c1, c2, c3, c4⟩, d0, d1, d2⟩ := HL.out v hv; go_simp) ?_
  simp only [Act.put, List.setIfInBounds_toArray, List.set_cons_zero, List.set_cons_succ]
  go_big_quiet_on
  go_big_quiet_want
  go_big_quiet_op
  first | go_big_quiet_on | (refine ⟨_, fun _ _ => rfl, ?_⟩; go_big_quiet_on)
  go_big_quiet_want
  refine quiet_call (f := 48) (args := #[ruV k, .int .i64 op]) (fun v _ => by go_simp) (fun v hv => (HO.out v).mono (fun e w' h => ⟨h.1, HCm.out v w' hv h.2⟩)) ?_
  simp only [Act.put, List.setIfInBounds_toArray, List.set_cons_zero, List.set_cons_succ]
  go_big_quiet_on
  go_big_quiet_want
  refine quiet_run (v := tlV A c t) (fun v hv => by obtain ⟨⟨c0, c1, c2, c3, c4⟩, d0, d1, d2⟩ := HL.out v hv; go_simp) ?_
  simp only [Act.put, List.setIfInBounds_toArray, List.set_cons_zero, List.set_cons_succ]
  go_big_quiet_on
  go_big_quiet_want
  go_big_quiet_op
  first | go_big_quiet_on | (refine ⟨_, fun _ _ => rfl, ?_⟩; go_big_quiet_on)
  go_big_quiet_want
  refine quiet_call (f := 47) (args := #[.int .i64 (othV k op), tlV A c t, .string h]) (fun v _ => by go_simp) (fun v hv => (HY.out v (HRg.out v hv)).mono (fun e w' h => ⟨h.1, HCm.out v w' hv h.2⟩)) ?_
  simp only [Act.put, List.setIfInBounds_toArray, List.set_cons_zero, List.set_cons_succ]
  go_big_quiet_on
  go_big_quiet_want
  go_big_quiet_op
  first | go_big_quiet_on | (refine ⟨_, fun _ _ => rfl, ?_⟩; go_big_quiet_on)
  go_big_quiet_want
  go_big_quiet_op
  first | go_big_quiet_on | (refine ⟨_, fun _ _ => rfl, ?_⟩; go_big_quiet_on)
  refine wpQuiet_nil ?_
  intro w5 hC5
  have HB5 := Lib.hid ((HB.out.trans (HB2.out.mono HB.out.size)).trans ((HCi.out _ hC5).mono (HB.out.trans (HB2.out.mono HB.out.size)).size))
  clear hC5
  go_wp2_with (fail)
  go_ret
  exact ⟨rfl, HB5.out⟩
theorem may_any (A : Option Addr) (c : Nat) (t : Tl) (h : ByteArray) (op : Int) (w : World) (hl : Rgs w A t.rs) (hm : t.rs.length ≤ maxLen) (ht : RTab w) :
    Calls Tryd.prog 26 #[tlV A c t, .string h, .int .i64 op] w fun e w' => e = .returned (.bool (mayB t h op)) ∧ Below w.heap.size w w' := by
  unfold mayB
  cases hy : hasB (gH (kindN t.ty)) t h with
  | true => exact may_one A c t h op w hl hm ht hy
  | false => simpa using may_two A c t h op w hl hm ht hy
end Go.Proofs.YtgekadfkokkapaaDoor
