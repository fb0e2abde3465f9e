/- A region that draws its order, walked once, in a class of worlds: the callees may make memory, if the class bears it. The head that a sector is. The last head. -/
import Derived.Test.YtglfjlbhjaemgaaGreatDoorPl22
import Derived.Laws.ResultCell
import Derived.Test.YtglfjlbhjaemgaaGreatDoorPl14
namespace Go.Proofs.YtglfjlbhjaemgaaGreatDoor
open Go.RowKit
theorem wp_region_class {P : Program} {id : Nat} {Q : Exit → Act → World → Prop} {a : Act} {w : World} {l : List Oper} (C : World → Prop) (hm : P.follows .mixedOrders = true) (hB : Region.lexB .any l.toArray = true) (hC : C w.drew)
    (h : wpQuiet P l.toArray C (fun a' => ∀ w', C w' → Q .normal a' w') l a) : (Code.region id l.toArray true).wp P Q a w :=
  wp_region_quiet (C := C) hm hB hC (by simpa using h)
theorem quiet_run {P : Program} {o : Oper} {a : Act} {C : World → Prop} {K : Act → Prop} {v : Value} (h : ∀ w, C w → (execOp a.eval o).run P w = .ok (.value v) w) (hk : K (a.put o.dst v)) : o.quiet P a C K :=
  ⟨v, fun w hw => by unfold Oper.quietAt; rw [h w hw]; exact ⟨rfl, rfl⟩, hk⟩
theorem quiet_call {P : Program} {o : Oper} {a : Act} {C : World → Prop} {K : Act → Prop} {v : Value} {f : FuncId} {args : Array Value} (h : ∀ w, C w → (execOp a.eval o).run P w = .ok (.enter f args) w)
    (hc : ∀ w, C w → Calls P f args w (fun e w' => e = .returned v ∧ C w')) (hk : K (a.put o.dst v)) : o.quiet P a C K :=
  ⟨v, fun w hw => by unfold Oper.quietAt; rw [h w hw]; exact ⟨rfl, hc w hw⟩, hk⟩
/-- The numbers that a sector tells. -/
def tailN (s : ByteArray) : Nat := bigV (readV s 504) 8
def halfN (s : ByteArray) : Nat := bigV (readV s 20) 4
def recsN (s : ByteArray) : Nat := bigV (readV s 24) 4
theorem tailN_lt (s : ByteArray) : tailN s < 18446744073709551616 := bigV_u64 _ (readV_lt s 504) 8 (by decide)
theorem halfN_lt (s : ByteArray) : halfN s < 4294967296 := bigV_lt _ (readV_lt s 20) 4
theorem recsN_lt (s : ByteArray) : recsN s < 4294967296 := bigV_lt _ (readV_lt s 24) 4
/-- Is a sector the head that it tells of, in this slot? -/
def isHead (fr se k : Nat) (s : ByteArray) : Bool := decide (hdS (tailN s) fr se (halfN s) (recsN s) = s ∧ tailN s % 4 = k ∧ halfN s < 2)
theorem beqB (a b : ByteArray) : (a.toList == b.toList) = decide (a = b) := beqS a b
theorem hd_world (w : World) (p fr se : Nat) : ∀ w0, w0 = (w.alloc (Obj.cells #[Value.pointer (some ⟨p, 0, none⟩), Value.int IntKind.i64 ↑fr, Value.int IntKind.i64 ↑se] 214)).alloc (Obj.cells #[Value.int IntKind.u64 0, Value.int IntKind.i64 0, Value.int IntKind.i64 0] 232) →
    Blk w0 w.heap.size 214 #[Value.pointer (some ⟨p, 0, none⟩), Value.int IntKind.i64 ↑fr, Value.int IntKind.i64 ↑se] ∧ Blk w0 (w.heap.size + 1) 232 #[Value.int IntKind.u64 0, Value.int IntKind.i64 0, Value.int IntKind.i64 0] ∧ Below w.heap.size w w0 ∧ w0.heap.size = w.heap.size + 2 := by
  rintro w0 rfl
  refine ⟨(Blk.new w _ _).alloc _, ?_, ((Below.refl w.heap.size w).alloc (Nat.le_refl _) _).alloc (by simp) _, by simp⟩
  have := Blk.new (w.alloc (Obj.cells #[Value.pointer (some ⟨p, 0, none⟩), Value.int IntKind.i64 ↑fr, Value.int IntKind.i64 ↑se] 214)) 232 #[Value.int IntKind.u64 0, Value.int IntKind.i64 0, Value.int IntKind.i64 0]
  simpa using this
set_option maxRecDepth 100000 in
set_option maxHeartbeats 1600000 in
theorem head_no1 (w : World) (p fr se k : Nat) (s : ByteArray) (h8 : 8 ≤ se) (hm : fr + se ≤ 8192) (hk : k < 4) (hs : s.size = 512) (g1 : ¬ hdS (tailN s) fr se (halfN s) (recsN s) = s) :
    Calls Tryz.prog 171 #[area p fr se, .int .i64 (k : Int), .string s] w fun e w' => e = .returned (.tuple #[headV (tailN s) (halfN s) (recsN s), .bool false]) ∧ Below w.heap.size w w' := by
  have q1 : okB s 504 8 = true := okB_yes (by omega)
  have q2 : okB s 20 4 = true := okB_yes (by omega)
  have q3 : okB s 24 4 = true := okB_yes (by omega)
  have n1 : bigR s 504 8 = tailN s := bigR_yes (a := 504) (n := 8) q1
  have n2 : bigR s 20 4 = halfN s := bigR_yes (a := 20) (n := 4) q2
  have n3 : bigR s 24 4 = recsN s := bigR_yes (a := 24) (n := 4) q3
  have l1 := tailN_lt s
  have l2 := halfN_lt s
  have l3 := recsN_lt s
  have HB1 := Lib.hid (fun v => big_any s 504 8 v (by unfold maxLen; omega))
  have HB2 := Lib.hid (fun v => big_any s 20 4 v (by unfold maxLen; omega))
  have HB3 := Lib.hid (fun v => big_any s 24 4 v (by unfold maxLen; omega))
  rw [n1, q1] at HB1
  rw [n2, q2] at HB2
  rw [n3, q3] at HB3
  clear q1 q2 q3 n1 n2 n3
  generalize tailN s = a at *
  generalize halfN s = b at *
  generalize recsN s = c at *
  have w1 : IntKind.i64.wrap (b : Int) = (b : Int) := i64w _ (by omega)
  have w2 : IntKind.i64.wrap (c : Int) = (c : Int) := i64w _ (by omega)
  have HSA := Lib.hid (fun v => slot_area v p fr se a hm)
  have HSB := Lib.hid (fun v => sector_area v p fr se a b c (by omega) (by omega) l2 l3)
  have hfk : IntKind.i64.wrap ((fr : Int) + k) = (fr : Int) + k := i64w _ (by omega)
  have hq : ((hdS a fr se b c).toList == s.toList) = false := by rw [beqB]; exact decide_eq_false g1
  generalize hdS a fr se b c = hds at *
  go_enter Tryz.func171, Tryz.ntmps171
  go_wp2_with (fail)
  refine (HB1.out _).mono ?_; rintro e w1 ⟨rfl, hb1⟩
  obtain ⟨b1, b2, hB, hs0⟩ := hd_world w p fr se _ rfl
  have A1 := Lib.hid (b1.below hb1 (by simp <;> omega))
  have R1 := Lib.hid (b2.below hb1 (by simp <;> omega))
  have H1 := Lib.hid (hB.trans (hb1.mono hB.size))
  clear hb1 b1 b2 hB hs0
  go_wp2_with (fail)
  refine (HB2.out _).mono ?_; rintro e w2 ⟨rfl, hb2⟩
  have A2 := Lib.hid (A1.out.below hb2 A1.out.lt)
  have R2 := Lib.hid (R1.out.below hb2 R1.out.lt)
  have H2 := Lib.hid (H1.out.trans (hb2.mono H1.out.size))
  clear hb2 A1 R1 H1
  go_wp2_with (fail)
  refine (HB3.out _).mono ?_; rintro e w3 ⟨rfl, hb3⟩
  have A3 := Lib.hid (A2.out.below hb3 A2.out.lt)
  have R3 := Lib.hid (R2.out.below hb3 R2.out.lt)
  have H3 := Lib.hid (H2.out.trans (hb3.mono H2.out.size))
  clear hb3 A2 R2 H2
  go_upto_region 5 with (fail)
  have hN := Blk.new w3 232 #[.int .u64 (a : Int), .int .i64 (b : Int), .int .i64 (c : Int)]
  have A4 := Lib.hid (A3.out.alloc (.cells #[.int .u64 (a : Int), .int .i64 (b : Int), .int .i64 (c : Int)] 232))
  have R4 := Lib.hid (R3.out.alloc (.cells #[.int .u64 (a : Int), .int .i64 (b : Int), .int .i64 (c : Int)] 232))
  have H4 := Lib.hid (H3.out.alloc H3.out.size (.cells #[.int .u64 (a : Int), .int .i64 (b : Int), .int .i64 (c : Int)] 232))
  generalize hw4 : w3.alloc (.cells #[.int .u64 (a : Int), .int .i64 (b : Int), .int .i64 (c : Int)] 232) = w4 at *
  have c0 : w4.cell? ⟨w.heap.size, 0, none⟩ = some (.pointer (some ⟨p, 0, none⟩)) := A4.out.cell 0
  have c1 : w4.cell? ⟨w.heap.size, 1, none⟩ = some (.int .i64 fr) := A4.out.cell 1
  have c2 : w4.cell? ⟨w.heap.size, 2, none⟩ = some (.int .i64 se) := A4.out.cell 2
  have d0 : w4.cell? ⟨w3.heap.size, 0, none⟩ = some (.int .u64 a) := hN.cell 0
  have d1 : w4.cell? ⟨w3.heap.size, 1, none⟩ = some (.int .i64 b) := hN.cell 1
  have d2 : w4.cell? ⟨w3.heap.size, 2, none⟩ = some (.int .i64 c) := hN.cell 2
  have lq := World.block_lt_of_cell? _ _ c0
  have lb := World.block_lt_of_cell? _ _ d0
  have r0 : w4.cell? ⟨w.heap.size + 1, 0, none⟩ = some (.int .u64 0) := R4.out.cell 0
  have lr := World.block_lt_of_cell? _ _ r0
  clear hw4 A3 R3 H3 r0
  obtain ⟨C, hCd⟩ : ∃ C : World → Prop, C = fun v => Below w4.heap.size w4 v := ⟨_, rfl⟩
  have HC0 : Hid (C w4.drew) := Lib.hid (by rw [hCd]; exact belDrew _ _ 1)
  have HCi : Hid (∀ v, C v → Below w4.heap.size w4 v) := Lib.hid (fun v h => by rw [hCd] at h; exact h)
  have HCm : Hid (∀ v v', C v → Below v.heap.size v v' → C v') := Lib.hid (fun v v' h hb => by rw [hCd] at h ⊢; exact h.trans (hb.mono h.size))
  have HL : Hid (∀ v, C v → v.cell? ⟨w.heap.size, 0, none⟩ = some (.pointer (some ⟨p, 0, none⟩)) ∧ v.cell? ⟨w.heap.size, 1, none⟩ = some (.int .i64 fr) ∧ v.cell? ⟨w.heap.size, 2, none⟩ = some (.int .i64 se) ∧ v.cell? ⟨w3.heap.size, 0, none⟩ = some (.int .u64 a) ∧ v.cell? ⟨w3.heap.size, 1, none⟩ = some (.int .i64 b) ∧ v.cell? ⟨w3.heap.size, 2, none⟩ = some (.int .i64 c)) :=
    Lib.hid (fun v h => by
      have hb := HCi.out v h
      exact ⟨(hb.cell (p := ⟨w.heap.size, 0, none⟩) lq).trans c0, (hb.cell (p := ⟨w.heap.size, 1, none⟩) lq).trans c1, (hb.cell (p := ⟨w.heap.size, 2, none⟩) lq).trans c2, (hb.cell (p := ⟨w3.heap.size, 0, none⟩) lb).trans d0, (hb.cell (p := ⟨w3.heap.size, 1, none⟩) lb).trans d1, (hb.cell (p := ⟨w3.heap.size, 2, none⟩) lb).trans d2⟩)
  have e0 := d0
  have e1 := d1
  have e2 := d2
  clear hCd c0 c1 c2 d0 d1 d2
  refine wp_region_class C (by kernel_rfl) (by kernel_rfl) HC0.out ?_
  go_big_quiet_want
  refine quiet_run (v := area p fr se) (fun v hv => by obtain ⟨c0, c1, c2, d0, d1, d2⟩ := HL.out v hv; go_simp) ?_
  simp only [Act.put, List.setIfInBounds_toArray, List.set_cons_zero, List.set_cons_succ]
  go_big_quiet_on
  go_big_quiet_want
  refine quiet_run (v := headV a b c) (fun v hv => by obtain ⟨c0, c1, c2, d0, d1, d2⟩ := HL.out v hv; go_simp) ?_
  simp only [Act.put, List.setIfInBounds_toArray, List.set_cons_zero, List.set_cons_succ]
  go_big_quiet_on
  go_big_quiet_want
  refine quiet_call (f := 189) (args := #[area p fr se, headV a b c]) (fun v _ => by go_simp) (fun v hv => (HSB.out v).mono (fun e w' h => ⟨h.1, HCm.out v w' hv h.2⟩)) ?_
  simp only [Act.put, List.setIfInBounds_toArray, List.set_cons_zero, List.set_cons_succ]
  go_big_quiet_on
  go_big_quiet_want
  go_big_quiet_op
  first | go_big_quiet_on | (refine ⟨_, fun _ _ => rfl, ?_⟩; go_big_quiet_on)
  go_big_quiet_want
  go_big_quiet_op
  first | go_big_quiet_on | (refine ⟨_, fun _ _ => rfl, ?_⟩; go_big_quiet_on)
  go_big_quiet_want
  go_big_quiet_op
  first | go_big_quiet_on | (refine ⟨_, fun _ _ => rfl, ?_⟩; go_big_quiet_on)
  go_big_quiet_skip
  go_big_quiet_skip
  go_big_quiet_skip
  go_big_quiet_skip
  go_big_quiet_skip
  go_big_quiet_skip
  go_big_quiet_skip
  go_big_quiet_skip
  go_big_quiet_want
  go_big_quiet_op
  first | go_big_quiet_on | (refine ⟨_, fun _ _ => rfl, ?_⟩; go_big_quiet_on)
  go_big_quiet_want
  go_big_quiet_op
  first | go_big_quiet_on | (refine ⟨_, fun _ _ => rfl, ?_⟩; go_big_quiet_on)
  go_big_quiet_skip
  go_big_quiet_skip
  go_big_quiet_want
  go_big_quiet_op
  first | go_big_quiet_on | (refine ⟨_, fun _ _ => rfl, ?_⟩; go_big_quiet_on)
  go_big_quiet_want
  go_big_quiet_op
  first | go_big_quiet_on | (refine ⟨_, fun _ _ => rfl, ?_⟩; go_big_quiet_on)
  refine wpQuiet_nil ?_
  intro w5 hC5
  have hB5 := HCi.out _ hC5
  have R5 := Lib.hid (R4.out.below hB5 lr)
  have H5 := Lib.hid (H4.out.trans (hB5.mono H4.out.size))
  have d0 := (hB5.cell (p := ⟨w3.heap.size, 0, none⟩) lb).trans e0
  have d1 := (hB5.cell (p := ⟨w3.heap.size, 1, none⟩) lb).trans e1
  have d2 := (hB5.cell (p := ⟨w3.heap.size, 2, none⟩) lb).trans e2
  have z0 := R5.out.cell 0
  have z1 := R5.out.cell 1
  have z2 := R5.out.cell 2
  simp at z0 z1 z2
  have y0 := R5.out.free 0
  have y1 := R5.out.free 1
  have y2 := R5.out.free 2
  have HH := Lib.hid (((H5.out.setCell (p := ⟨w.heap.size + 1, 0, none⟩) (by simp) (.int .u64 (a : Int))).setCell (p := ⟨w.heap.size + 1, 1, none⟩) (by simp) (.int .i64 (b : Int))).setCell (p := ⟨w.heap.size + 1, 2, none⟩) (by simp) (.int .i64 (c : Int)))
  clear hC5 hB5
  go_wp2_with (fail)
  refine bodyPost_ret_by (v := .tuple #[headV a b c, .bool false]) ?_ rfl ⟨rfl, HH.out⟩
  rw [results_cell_tmp rfl]
  go_simp
set_option maxRecDepth 100000 in
set_option maxHeartbeats 1600000 in
theorem head_no2 (w : World) (p fr se k : Nat) (s : ByteArray) (h8 : 8 ≤ se) (hm : fr + se ≤ 8192) (hk : k < 4) (hs : s.size = 512) (g1 : hdS (tailN s) fr se (halfN s) (recsN s) = s) (g2 : ¬ tailN s % 4 = k) :
    Calls Tryz.prog 171 #[area p fr se, .int .i64 (k : Int), .string s] w fun e w' => e = .returned (.tuple #[headV (tailN s) (halfN s) (recsN s), .bool false]) ∧ Below w.heap.size w w' := by
  have q1 : okB s 504 8 = true := okB_yes (by omega)
  have q2 : okB s 20 4 = true := okB_yes (by omega)
  have q3 : okB s 24 4 = true := okB_yes (by omega)
  have n1 : bigR s 504 8 = tailN s := bigR_yes (a := 504) (n := 8) q1
  have n2 : bigR s 20 4 = halfN s := bigR_yes (a := 20) (n := 4) q2
  have n3 : bigR s 24 4 = recsN s := bigR_yes (a := 24) (n := 4) q3
  have l1 := tailN_lt s
  have l2 := halfN_lt s
  have l3 := recsN_lt s
  have HB1 := Lib.hid (fun v => big_any s 504 8 v (by unfold maxLen; omega))
  have HB2 := Lib.hid (fun v => big_any s 20 4 v (by unfold maxLen; omega))
  have HB3 := Lib.hid (fun v => big_any s 24 4 v (by unfold maxLen; omega))
  rw [n1, q1] at HB1
  rw [n2, q2] at HB2
  rw [n3, q3] at HB3
  clear q1 q2 q3 n1 n2 n3
  generalize tailN s = a at *
  generalize halfN s = b at *
  generalize recsN s = c at *
  have w1 : IntKind.i64.wrap (b : Int) = (b : Int) := i64w _ (by omega)
  have w2 : IntKind.i64.wrap (c : Int) = (c : Int) := i64w _ (by omega)
  have HSA := Lib.hid (fun v => slot_area v p fr se a hm)
  have HSB := Lib.hid (fun v => sector_area v p fr se a b c (by omega) (by omega) l2 l3)
  have hfk : IntKind.i64.wrap ((fr : Int) + k) = (fr : Int) + k := i64w _ (by omega)
  have hq : ((hdS a fr se b c).toList == s.toList) = true := by rw [beqB]; exact decide_eq_true g1
  have hk2 : ((slotAt fr a : Int) == (fr : Int) + k) = false := by unfold slotAt; rw [beq_eq_false_iff_ne]; omega
  clear g1 g2
  generalize hdS a fr se b c = hds at *
  go_enter Tryz.func171, Tryz.ntmps171
  go_wp2_with (fail)
  refine (HB1.out _).mono ?_; rintro e w1 ⟨rfl, hb1⟩
  obtain ⟨b1, b2, hB, hs0⟩ := hd_world w p fr se _ rfl
  have A1 := Lib.hid (b1.below hb1 (by simp <;> omega))
  have R1 := Lib.hid (b2.below hb1 (by simp <;> omega))
  have H1 := Lib.hid (hB.trans (hb1.mono hB.size))
  clear hb1 b1 b2 hB hs0
  go_wp2_with (fail)
  refine (HB2.out _).mono ?_; rintro e w2 ⟨rfl, hb2⟩
  have A2 := Lib.hid (A1.out.below hb2 A1.out.lt)
  have R2 := Lib.hid (R1.out.below hb2 R1.out.lt)
  have H2 := Lib.hid (H1.out.trans (hb2.mono H1.out.size))
  clear hb2 A1 R1 H1
  go_wp2_with (fail)
  refine (HB3.out _).mono ?_; rintro e w3 ⟨rfl, hb3⟩
  have A3 := Lib.hid (A2.out.below hb3 A2.out.lt)
  have R3 := Lib.hid (R2.out.below hb3 R2.out.lt)
  have H3 := Lib.hid (H2.out.trans (hb3.mono H2.out.size))
  clear hb3 A2 R2 H2
  go_upto_region 5 with (fail)
  have hN := Blk.new w3 232 #[.int .u64 (a : Int), .int .i64 (b : Int), .int .i64 (c : Int)]
  have A4 := Lib.hid (A3.out.alloc (.cells #[.int .u64 (a : Int), .int .i64 (b : Int), .int .i64 (c : Int)] 232))
  have R4 := Lib.hid (R3.out.alloc (.cells #[.int .u64 (a : Int), .int .i64 (b : Int), .int .i64 (c : Int)] 232))
  have H4 := Lib.hid (H3.out.alloc H3.out.size (.cells #[.int .u64 (a : Int), .int .i64 (b : Int), .int .i64 (c : Int)] 232))
  generalize hw4 : w3.alloc (.cells #[.int .u64 (a : Int), .int .i64 (b : Int), .int .i64 (c : Int)] 232) = w4 at *
  have c0 : w4.cell? ⟨w.heap.size, 0, none⟩ = some (.pointer (some ⟨p, 0, none⟩)) := A4.out.cell 0
  have c1 : w4.cell? ⟨w.heap.size, 1, none⟩ = some (.int .i64 fr) := A4.out.cell 1
  have c2 : w4.cell? ⟨w.heap.size, 2, none⟩ = some (.int .i64 se) := A4.out.cell 2
  have d0 : w4.cell? ⟨w3.heap.size, 0, none⟩ = some (.int .u64 a) := hN.cell 0
  have d1 : w4.cell? ⟨w3.heap.size, 1, none⟩ = some (.int .i64 b) := hN.cell 1
  have d2 : w4.cell? ⟨w3.heap.size, 2, none⟩ = some (.int .i64 c) := hN.cell 2
  have lq := World.block_lt_of_cell? _ _ c0
  have lb := World.block_lt_of_cell? _ _ d0
  have r0 : w4.cell? ⟨w.heap.size + 1, 0, none⟩ = some (.int .u64 0) := R4.out.cell 0
  have lr := World.block_lt_of_cell? _ _ r0
  clear hw4 A3 R3 H3 r0
  obtain ⟨C, hCd⟩ : ∃ C : World → Prop, C = fun v => Below w4.heap.size w4 v := ⟨_, rfl⟩
  have HC0 : Hid (C w4.drew) := Lib.hid (by rw [hCd]; exact belDrew _ _ 1)
  have HCi : Hid (∀ v, C v → Below w4.heap.size w4 v) := Lib.hid (fun v h => by rw [hCd] at h; exact h)
  have HCm : Hid (∀ v v', C v → Below v.heap.size v v' → C v') := Lib.hid (fun v v' h hb => by rw [hCd] at h ⊢; exact h.trans (hb.mono h.size))
  have HL : Hid (∀ v, C v → v.cell? ⟨w.heap.size, 0, none⟩ = some (.pointer (some ⟨p, 0, none⟩)) ∧ v.cell? ⟨w.heap.size, 1, none⟩ = some (.int .i64 fr) ∧ v.cell? ⟨w.heap.size, 2, none⟩ = some (.int .i64 se) ∧ v.cell? ⟨w3.heap.size, 0, none⟩ = some (.int .u64 a) ∧ v.cell? ⟨w3.heap.size, 1, none⟩ = some (.int .i64 b) ∧ v.cell? ⟨w3.heap.size, 2, none⟩ = some (.int .i64 c)) :=
    Lib.hid (fun v h => by
      have hb := HCi.out v h
      exact ⟨(hb.cell (p := ⟨w.heap.size, 0, none⟩) lq).trans c0, (hb.cell (p := ⟨w.heap.size, 1, none⟩) lq).trans c1, (hb.cell (p := ⟨w.heap.size, 2, none⟩) lq).trans c2, (hb.cell (p := ⟨w3.heap.size, 0, none⟩) lb).trans d0, (hb.cell (p := ⟨w3.heap.size, 1, none⟩) lb).trans d1, (hb.cell (p := ⟨w3.heap.size, 2, none⟩) lb).trans d2⟩)
  have e0 := d0
  have e1 := d1
  have e2 := d2
  clear hCd c0 c1 c2 d0 d1 d2
  refine wp_region_class C (by kernel_rfl) (by kernel_rfl) HC0.out ?_
  go_big_quiet_want
  refine quiet_run (v := area p fr se) (fun v hv => by obtain ⟨c0, c1, c2, d0, d1, d2⟩ := HL.out v hv; go_simp) ?_
  simp only [Act.put, List.setIfInBounds_toArray, List.set_cons_zero, List.set_cons_succ]
  go_big_quiet_on
  go_big_quiet_want
  refine quiet_run (v := headV a b c) (fun v hv => by obtain ⟨c0, c1, c2, d0, d1, d2⟩ := HL.out v hv; go_simp) ?_
  simp only [Act.put, List.setIfInBounds_toArray, List.set_cons_zero, List.set_cons_succ]
  go_big_quiet_on
  go_big_quiet_want
  refine quiet_call (f := 189) (args := #[area p fr se, headV a b c]) (fun v _ => by go_simp) (fun v hv => (HSB.out v).mono (fun e w' h => ⟨h.1, HCm.out v w' hv h.2⟩)) ?_
  simp only [Act.put, List.setIfInBounds_toArray, List.set_cons_zero, List.set_cons_succ]
  go_big_quiet_on
  go_big_quiet_want
  go_big_quiet_op
  first | go_big_quiet_on | (refine ⟨_, fun _ _ => rfl, ?_⟩; go_big_quiet_on)
  go_big_quiet_want
  go_big_quiet_op
  first | go_big_quiet_on | (refine ⟨_, fun _ _ => rfl, ?_⟩; go_big_quiet_on)
  go_big_quiet_want
  go_big_quiet_op
  first | go_big_quiet_on | (refine ⟨_, fun _ _ => rfl, ?_⟩; go_big_quiet_on)
  go_big_quiet_want
  refine quiet_run (v := area p fr se) (fun v hv => by obtain ⟨c0, c1, c2, d0, d1, d2⟩ := HL.out v hv; go_simp) ?_
  simp only [Act.put, List.setIfInBounds_toArray, List.set_cons_zero, List.set_cons_succ]
  go_big_quiet_on
  go_big_quiet_want
  go_big_quiet_op
  first | go_big_quiet_on | (refine ⟨_, fun _ _ => rfl, ?_⟩; go_big_quiet_on)
  go_big_quiet_want
  refine quiet_call (f := 188) (args := #[area p fr se, .int .u64 a]) (fun v _ => by go_simp) (fun v hv => (HSA.out v).mono (fun e w' h => ⟨h.1, HCm.out v w' hv h.2⟩)) ?_
  simp only [Act.put, List.setIfInBounds_toArray, List.set_cons_zero, List.set_cons_succ]
  go_big_quiet_on
  go_big_quiet_want
  go_big_quiet_op
  first | go_big_quiet_on | (refine ⟨_, fun _ _ => rfl, ?_⟩; go_big_quiet_on)
  go_big_quiet_want
  refine quiet_run (v := .int .i64 fr) (fun v hv => by obtain ⟨c0, c1, c2, d0, d1, d2⟩ := HL.out v hv; go_simp) ?_
  simp only [Act.put, List.setIfInBounds_toArray, List.set_cons_zero, List.set_cons_succ]
  go_big_quiet_on
  go_big_quiet_want
  go_big_quiet_op
  first | go_big_quiet_on | (refine ⟨_, fun _ _ => rfl, ?_⟩; go_big_quiet_on)
  go_big_quiet_want
  go_big_quiet_op
  first | go_big_quiet_on | (refine ⟨_, fun _ _ => rfl, ?_⟩; go_big_quiet_on)
  go_big_quiet_want
  go_big_quiet_op
  first | go_big_quiet_on | (refine ⟨_, fun _ _ => rfl, ?_⟩; go_big_quiet_on)
  go_big_quiet_want
  go_big_quiet_op
  first | go_big_quiet_on | (refine ⟨_, fun _ _ => rfl, ?_⟩; go_big_quiet_on)
  go_big_quiet_want
  go_big_quiet_op
  first | go_big_quiet_on | (refine ⟨_, fun _ _ => rfl, ?_⟩; go_big_quiet_on)
  go_big_quiet_skip
  go_big_quiet_skip
  go_big_quiet_want
  go_big_quiet_op
  first | go_big_quiet_on | (refine ⟨_, fun _ _ => rfl, ?_⟩; go_big_quiet_on)
  go_big_quiet_want
  go_big_quiet_op
  first | go_big_quiet_on | (refine ⟨_, fun _ _ => rfl, ?_⟩; go_big_quiet_on)
  refine wpQuiet_nil ?_
  intro w5 hC5
  have hB5 := HCi.out _ hC5
  have R5 := Lib.hid (R4.out.below hB5 lr)
  have H5 := Lib.hid (H4.out.trans (hB5.mono H4.out.size))
  have d0 := (hB5.cell (p := ⟨w3.heap.size, 0, none⟩) lb).trans e0
  have d1 := (hB5.cell (p := ⟨w3.heap.size, 1, none⟩) lb).trans e1
  have d2 := (hB5.cell (p := ⟨w3.heap.size, 2, none⟩) lb).trans e2
  have z0 := R5.out.cell 0
  have z1 := R5.out.cell 1
  have z2 := R5.out.cell 2
  simp at z0 z1 z2
  have y0 := R5.out.free 0
  have y1 := R5.out.free 1
  have y2 := R5.out.free 2
  have HH := Lib.hid (((H5.out.setCell (p := ⟨w.heap.size + 1, 0, none⟩) (by simp) (.int .u64 (a : Int))).setCell (p := ⟨w.heap.size + 1, 1, none⟩) (by simp) (.int .i64 (b : Int))).setCell (p := ⟨w.heap.size + 1, 2, none⟩) (by simp) (.int .i64 (c : Int)))
  clear hC5 hB5
  go_wp2_with (fail)
  refine bodyPost_ret_by (v := .tuple #[headV a b c, .bool false]) ?_ rfl ⟨rfl, HH.out⟩
  rw [results_cell_tmp rfl]
  go_simp
set_option maxRecDepth 100000 in
set_option maxHeartbeats 1600000 in
theorem head_no3 (w : World) (p fr se k : Nat) (s : ByteArray) (h8 : 8 ≤ se) (hm : fr + se ≤ 8192) (hk : k < 4) (hs : s.size = 512) (g1 : hdS (tailN s) fr se (halfN s) (recsN s) = s) (g2 : tailN s % 4 = k) (g3 : ¬ halfN s < 2) :
    Calls Tryz.prog 171 #[area p fr se, .int .i64 (k : Int), .string s] w fun e w' => e = .returned (.tuple #[headV (tailN s) (halfN s) (recsN s), .bool false]) ∧ Below w.heap.size w w' := by
  have q1 : okB s 504 8 = true := okB_yes (by omega)
  have q2 : okB s 20 4 = true := okB_yes (by omega)
  have q3 : okB s 24 4 = true := okB_yes (by omega)
  have n1 : bigR s 504 8 = tailN s := bigR_yes (a := 504) (n := 8) q1
  have n2 : bigR s 20 4 = halfN s := bigR_yes (a := 20) (n := 4) q2
  have n3 : bigR s 24 4 = recsN s := bigR_yes (a := 24) (n := 4) q3
  have l1 := tailN_lt s
  have l2 := halfN_lt s
  have l3 := recsN_lt s
  have HB1 := Lib.hid (fun v => big_any s 504 8 v (by unfold maxLen; omega))
  have HB2 := Lib.hid (fun v => big_any s 20 4 v (by unfold maxLen; omega))
  have HB3 := Lib.hid (fun v => big_any s 24 4 v (by unfold maxLen; omega))
  rw [n1, q1] at HB1
  rw [n2, q2] at HB2
  rw [n3, q3] at HB3
  clear q1 q2 q3 n1 n2 n3
  generalize tailN s = a at *
  generalize halfN s = b at *
  generalize recsN s = c at *
  have w1 : IntKind.i64.wrap (b : Int) = (b : Int) := i64w _ (by omega)
  have w2 : IntKind.i64.wrap (c : Int) = (c : Int) := i64w _ (by omega)
  have HSA := Lib.hid (fun v => slot_area v p fr se a hm)
  have HSB := Lib.hid (fun v => sector_area v p fr se a b c (by omega) (by omega) l2 l3)
  have hfk : IntKind.i64.wrap ((fr : Int) + k) = (fr : Int) + k := i64w _ (by omega)
  have hq : ((hdS a fr se b c).toList == s.toList) = true := by rw [beqB]; exact decide_eq_true g1
  have hk2 : ((slotAt fr a : Int) == (fr : Int) + k) = true := by unfold slotAt; rw [beq_iff_eq]; omega
  have hl : decide ((b : Int) < 2) = false := decide_eq_false (by omega)
  clear g1 g2 g3
  generalize hdS a fr se b c = hds at *
  go_enter Tryz.func171, Tryz.ntmps171
  go_wp2_with (fail)
  refine (HB1.out _).mono ?_; rintro e w1 ⟨rfl, hb1⟩
  obtain ⟨b1, b2, hB, hs0⟩ := hd_world w p fr se _ rfl
  have A1 := Lib.hid (b1.below hb1 (by simp <;> omega))
  have R1 := Lib.hid (b2.below hb1 (by simp <;> omega))
  have H1 := Lib.hid (hB.trans (hb1.mono hB.size))
  clear hb1 b1 b2 hB hs0
  go_wp2_with (fail)
  refine (HB2.out _).mono ?_; rintro e w2 ⟨rfl, hb2⟩
  have A2 := Lib.hid (A1.out.below hb2 A1.out.lt)
  have R2 := Lib.hid (R1.out.below hb2 R1.out.lt)
  have H2 := Lib.hid (H1.out.trans (hb2.mono H1.out.size))
  clear hb2 A1 R1 H1
  go_wp2_with (fail)
  refine (HB3.out _).mono ?_; rintro e w3 ⟨rfl, hb3⟩
  have A3 := Lib.hid (A2.out.below hb3 A2.out.lt)
  have R3 := Lib.hid (R2.out.below hb3 R2.out.lt)
  have H3 := Lib.hid (H2.out.trans (hb3.mono H2.out.size))
  clear hb3 A2 R2 H2
  go_upto_region 5 with (fail)
  have hN := Blk.new w3 232 #[.int .u64 (a : Int), .int .i64 (b : Int), .int .i64 (c : Int)]
  have A4 := Lib.hid (A3.out.alloc (.cells #[.int .u64 (a : Int), .int .i64 (b : Int), .int .i64 (c : Int)] 232))
  have R4 := Lib.hid (R3.out.alloc (.cells #[.int .u64 (a : Int), .int .i64 (b : Int), .int .i64 (c : Int)] 232))
  have H4 := Lib.hid (H3.out.alloc H3.out.size (.cells #[.int .u64 (a : Int), .int .i64 (b : Int), .int .i64 (c : Int)] 232))
  generalize hw4 : w3.alloc (.cells #[.int .u64 (a : Int), .int .i64 (b : Int), .int .i64 (c : Int)] 232) = w4 at *
  have c0 : w4.cell? ⟨w.heap.size, 0, none⟩ = some (.pointer (some ⟨p, 0, none⟩)) := A4.out.cell 0
  have c1 : w4.cell? ⟨w.heap.size, 1, none⟩ = some (.int .i64 fr) := A4.out.cell 1
  have c2 : w4.cell? ⟨w.heap.size, 2, none⟩ = some (.int .i64 se) := A4.out.cell 2
  have d0 : w4.cell? ⟨w3.heap.size, 0, none⟩ = some (.int .u64 a) := hN.cell 0
  have d1 : w4.cell? ⟨w3.heap.size, 1, none⟩ = some (.int .i64 b) := hN.cell 1
  have d2 : w4.cell? ⟨w3.heap.size, 2, none⟩ = some (.int .i64 c) := hN.cell 2
  have lq := World.block_lt_of_cell? _ _ c0
  have lb := World.block_lt_of_cell? _ _ d0
  have r0 : w4.cell? ⟨w.heap.size + 1, 0, none⟩ = some (.int .u64 0) := R4.out.cell 0
  have lr := World.block_lt_of_cell? _ _ r0
  clear hw4 A3 R3 H3 r0
  obtain ⟨C, hCd⟩ : ∃ C : World → Prop, C = fun v => Below w4.heap.size w4 v := ⟨_, rfl⟩
  have HC0 : Hid (C w4.drew) := Lib.hid (by rw [hCd]; exact belDrew _ _ 1)
  have HCi : Hid (∀ v, C v → Below w4.heap.size w4 v) := Lib.hid (fun v h => by rw [hCd] at h; exact h)
  have HCm : Hid (∀ v v', C v → Below v.heap.size v v' → C v') := Lib.hid (fun v v' h hb => by rw [hCd] at h ⊢; exact h.trans (hb.mono h.size))
  have HL : Hid (∀ v, C v → v.cell? ⟨w.heap.size, 0, none⟩ = some (.pointer (some ⟨p, 0, none⟩)) ∧ v.cell? ⟨w.heap.size, 1, none⟩ = some (.int .i64 fr) ∧ v.cell? ⟨w.heap.size, 2, none⟩ = some (.int .i64 se) ∧ v.cell? ⟨w3.heap.size, 0, none⟩ = some (.int .u64 a) ∧ v.cell? ⟨w3.heap.size, 1, none⟩ = some (.int .i64 b) ∧ v.cell? ⟨w3.heap.size, 2, none⟩ = some (.int .i64 c)) :=
    Lib.hid (fun v h => by
      have hb := HCi.out v h
      exact ⟨(hb.cell (p := ⟨w.heap.size, 0, none⟩) lq).trans c0, (hb.cell (p := ⟨w.heap.size, 1, none⟩) lq).trans c1, (hb.cell (p := ⟨w.heap.size, 2, none⟩) lq).trans c2, (hb.cell (p := ⟨w3.heap.size, 0, none⟩) lb).trans d0, (hb.cell (p := ⟨w3.heap.size, 1, none⟩) lb).trans d1, (hb.cell (p := ⟨w3.heap.size, 2, none⟩) lb).trans d2⟩)
  have e0 := d0
  have e1 := d1
  have e2 := d2
  clear hCd c0 c1 c2 d0 d1 d2
  refine wp_region_class C (by kernel_rfl) (by kernel_rfl) HC0.out ?_
  go_big_quiet_want
  refine quiet_run (v := area p fr se) (fun v hv => by obtain ⟨c0, c1, c2, d0, d1, d2⟩ := HL.out v hv; go_simp) ?_
  simp only [Act.put, List.setIfInBounds_toArray, List.set_cons_zero, List.set_cons_succ]
  go_big_quiet_on
  go_big_quiet_want
  refine quiet_run (v := headV a b c) (fun v hv => by obtain ⟨c0, c1, c2, d0, d1, d2⟩ := HL.out v hv; go_simp) ?_
  simp only [Act.put, List.setIfInBounds_toArray, List.set_cons_zero, List.set_cons_succ]
  go_big_quiet_on
  go_big_quiet_want
  refine quiet_call (f := 189) (args := #[area p fr se, headV a b c]) (fun v _ => by go_simp) (fun v hv => (HSB.out v).mono (fun e w' h => ⟨h.1, HCm.out v w' hv h.2⟩)) ?_
  simp only [Act.put, List.setIfInBounds_toArray, List.set_cons_zero, List.set_cons_succ]
  go_big_quiet_on
  go_big_quiet_want
  go_big_quiet_op
  first | go_big_quiet_on | (refine ⟨_, fun _ _ => rfl, ?_⟩; go_big_quiet_on)
  go_big_quiet_want
  go_big_quiet_op
  first | go_big_quiet_on | (refine ⟨_, fun _ _ => rfl, ?_⟩; go_big_quiet_on)
  go_big_quiet_want
  go_big_quiet_op
  first | go_big_quiet_on | (refine ⟨_, fun _ _ => rfl, ?_⟩; go_big_quiet_on)
  go_big_quiet_want
  refine quiet_run (v := area p fr se) (fun v hv => by obtain ⟨c0, c1, c2, d0, d1, d2⟩ := HL.out v hv; go_simp) ?_
  simp only [Act.put, List.setIfInBounds_toArray, List.set_cons_zero, List.set_cons_succ]
  go_big_quiet_on
  go_big_quiet_want
  go_big_quiet_op
  first | go_big_quiet_on | (refine ⟨_, fun _ _ => rfl, ?_⟩; go_big_quiet_on)
  go_big_quiet_want
  refine quiet_call (f := 188) (args := #[area p fr se, .int .u64 a]) (fun v _ => by go_simp) (fun v hv => (HSA.out v).mono (fun e w' h => ⟨h.1, HCm.out v w' hv h.2⟩)) ?_
  simp only [Act.put, List.setIfInBounds_toArray, List.set_cons_zero, List.set_cons_succ]
  go_big_quiet_on
  go_big_quiet_want
  go_big_quiet_op
  first | go_big_quiet_on | (refine ⟨_, fun _ _ => rfl, ?_⟩; go_big_quiet_on)
  go_big_quiet_want
  refine quiet_run (v := .int .i64 fr) (fun v hv => by obtain ⟨c0, c1, c2, d0, d1, d2⟩ := HL.out v hv; go_simp) ?_
  simp only [Act.put, List.setIfInBounds_toArray, List.set_cons_zero, List.set_cons_succ]
  go_big_quiet_on
  go_big_quiet_want
  go_big_quiet_op
  first | go_big_quiet_on | (refine ⟨_, fun _ _ => rfl, ?_⟩; go_big_quiet_on)
  go_big_quiet_want
  go_big_quiet_op
  first | go_big_quiet_on | (refine ⟨_, fun _ _ => rfl, ?_⟩; go_big_quiet_on)
  go_big_quiet_want
  go_big_quiet_op
  first | go_big_quiet_on | (refine ⟨_, fun _ _ => rfl, ?_⟩; go_big_quiet_on)
  go_big_quiet_want
  go_big_quiet_op
  first | go_big_quiet_on | (refine ⟨_, fun _ _ => rfl, ?_⟩; go_big_quiet_on)
  go_big_quiet_want
  go_big_quiet_op
  first | go_big_quiet_on | (refine ⟨_, fun _ _ => rfl, ?_⟩; go_big_quiet_on)
  go_big_quiet_want
  go_big_quiet_op
  first | go_big_quiet_on | (refine ⟨_, fun _ _ => rfl, ?_⟩; go_big_quiet_on)
  go_big_quiet_want
  go_big_quiet_op
  first | go_big_quiet_on | (refine ⟨_, fun _ _ => rfl, ?_⟩; go_big_quiet_on)
  go_big_quiet_want
  go_big_quiet_op
  first | go_big_quiet_on | (refine ⟨_, fun _ _ => rfl, ?_⟩; go_big_quiet_on)
  go_big_quiet_want
  go_big_quiet_op
  first | go_big_quiet_on | (refine ⟨_, fun _ _ => rfl, ?_⟩; go_big_quiet_on)
  refine wpQuiet_nil ?_
  intro w5 hC5
  have hB5 := HCi.out _ hC5
  have R5 := Lib.hid (R4.out.below hB5 lr)
  have H5 := Lib.hid (H4.out.trans (hB5.mono H4.out.size))
  have d0 := (hB5.cell (p := ⟨w3.heap.size, 0, none⟩) lb).trans e0
  have d1 := (hB5.cell (p := ⟨w3.heap.size, 1, none⟩) lb).trans e1
  have d2 := (hB5.cell (p := ⟨w3.heap.size, 2, none⟩) lb).trans e2
  have z0 := R5.out.cell 0
  have z1 := R5.out.cell 1
  have z2 := R5.out.cell 2
  simp at z0 z1 z2
  have y0 := R5.out.free 0
  have y1 := R5.out.free 1
  have y2 := R5.out.free 2
  have HH := Lib.hid (((H5.out.setCell (p := ⟨w.heap.size + 1, 0, none⟩) (by simp) (.int .u64 (a : Int))).setCell (p := ⟨w.heap.size + 1, 1, none⟩) (by simp) (.int .i64 (b : Int))).setCell (p := ⟨w.heap.size + 1, 2, none⟩) (by simp) (.int .i64 (c : Int)))
  clear hC5 hB5
  go_wp2_with (fail)
  refine bodyPost_ret_by (v := .tuple #[headV a b c, .bool false]) ?_ rfl ⟨rfl, HH.out⟩
  rw [results_cell_tmp rfl]
  go_simp
set_option maxRecDepth 100000 in
set_option maxHeartbeats 1600000 in
theorem head_yes (w : World) (p fr se k : Nat) (s : ByteArray) (h8 : 8 ≤ se) (hm : fr + se ≤ 8192) (hk : k < 4) (hs : s.size = 512) (g1 : hdS (tailN s) fr se (halfN s) (recsN s) = s) (g2 : tailN s % 4 = k) (g3 : halfN s < 2) :
    Calls Tryz.prog 171 #[area p fr se, .int .i64 (k : Int), .string s] w fun e w' => e = .returned (.tuple #[headV (tailN s) (halfN s) (recsN s), .bool true]) ∧ Below w.heap.size w w' := by
  have q1 : okB s 504 8 = true := okB_yes (by omega)
  have q2 : okB s 20 4 = true := okB_yes (by omega)
  have q3 : okB s 24 4 = true := okB_yes (by omega)
  have n1 : bigR s 504 8 = tailN s := bigR_yes (a := 504) (n := 8) q1
  have n2 : bigR s 20 4 = halfN s := bigR_yes (a := 20) (n := 4) q2
  have n3 : bigR s 24 4 = recsN s := bigR_yes (a := 24) (n := 4) q3
  have l1 := tailN_lt s
  have l2 := halfN_lt s
  have l3 := recsN_lt s
  have HB1 := Lib.hid (fun v => big_any s 504 8 v (by unfold maxLen; omega))
  have HB2 := Lib.hid (fun v => big_any s 20 4 v (by unfold maxLen; omega))
  have HB3 := Lib.hid (fun v => big_any s 24 4 v (by unfold maxLen; omega))
  rw [n1, q1] at HB1
  rw [n2, q2] at HB2
  rw [n3, q3] at HB3
  clear q1 q2 q3 n1 n2 n3
  generalize tailN s = a at *
  generalize halfN s = b at *
  generalize recsN s = c at *
  have w1 : IntKind.i64.wrap (b : Int) = (b : Int) := i64w _ (by omega)
  have w2 : IntKind.i64.wrap (c : Int) = (c : Int) := i64w _ (by omega)
  have HSA := Lib.hid (fun v => slot_area v p fr se a hm)
  have HSB := Lib.hid (fun v => sector_area v p fr se a b c (by omega) (by omega) l2 l3)
  have hfk : IntKind.i64.wrap ((fr : Int) + k) = (fr : Int) + k := i64w _ (by omega)
  have hq : ((hdS a fr se b c).toList == s.toList) = true := by rw [beqB]; exact decide_eq_true g1
  have hk2 : ((slotAt fr a : Int) == (fr : Int) + k) = true := by unfold slotAt; rw [beq_iff_eq]; omega
  have hl : decide ((b : Int) < 2) = true := decide_eq_true (by omega)
  clear g1 g2 g3
  generalize hdS a fr se b c = hds at *
  go_enter Tryz.func171, Tryz.ntmps171
  go_wp2_with (fail)
  refine (HB1.out _).mono ?_; rintro e w1 ⟨rfl, hb1⟩
  obtain ⟨b1, b2, hB, hs0⟩ := hd_world w p fr se _ rfl
  have A1 := Lib.hid (b1.below hb1 (by simp <;> omega))
  have R1 := Lib.hid (b2.below hb1 (by simp <;> omega))
  have H1 := Lib.hid (hB.trans (hb1.mono hB.size))
  clear hb1 b1 b2 hB hs0
  go_wp2_with (fail)
  refine (HB2.out _).mono ?_; rintro e w2 ⟨rfl, hb2⟩
  have A2 := Lib.hid (A1.out.below hb2 A1.out.lt)
  have R2 := Lib.hid (R1.out.below hb2 R1.out.lt)
  have H2 := Lib.hid (H1.out.trans (hb2.mono H1.out.size))
  clear hb2 A1 R1 H1
  go_wp2_with (fail)
  refine (HB3.out _).mono ?_; rintro e w3 ⟨rfl, hb3⟩
  have A3 := Lib.hid (A2.out.below hb3 A2.out.lt)
  have R3 := Lib.hid (R2.out.below hb3 R2.out.lt)
  have H3 := Lib.hid (H2.out.trans (hb3.mono H2.out.size))
  clear hb3 A2 R2 H2
  go_upto_region 5 with (fail)
  have hN := Blk.new w3 232 #[.int .u64 (a : Int), .int .i64 (b : Int), .int .i64 (c : Int)]
  have A4 := Lib.hid (A3.out.alloc (.cells #[.int .u64 (a : Int), .int .i64 (b : Int), .int .i64 (c : Int)] 232))
  have R4 := Lib.hid (R3.out.alloc (.cells #[.int .u64 (a : Int), .int .i64 (b : Int), .int .i64 (c : Int)] 232))
  have H4 := Lib.hid (H3.out.alloc H3.out.size (.cells #[.int .u64 (a : Int), .int .i64 (b : Int), .int .i64 (c : Int)] 232))
  generalize hw4 : w3.alloc (.cells #[.int .u64 (a : Int), .int .i64 (b : Int), .int .i64 (c : Int)] 232) = w4 at *
  have c0 : w4.cell? ⟨w.heap.size, 0, none⟩ = some (.pointer (some ⟨p, 0, none⟩)) := A4.out.cell 0
  have c1 : w4.cell? ⟨w.heap.size, 1, none⟩ = some (.int .i64 fr) := A4.out.cell 1
  have c2 : w4.cell? ⟨w.heap.size, 2, none⟩ = some (.int .i64 se) := A4.out.cell 2
  have d0 : w4.cell? ⟨w3.heap.size, 0, none⟩ = some (.int .u64 a) := hN.cell 0
  have d1 : w4.cell? ⟨w3.heap.size, 1, none⟩ = some (.int .i64 b) := hN.cell 1
  have d2 : w4.cell? ⟨w3.heap.size, 2, none⟩ = some (.int .i64 c) := hN.cell 2
  have lq := World.block_lt_of_cell? _ _ c0
  have lb := World.block_lt_of_cell? _ _ d0
  have r0 : w4.cell? ⟨w.heap.size + 1, 0, none⟩ = some (.int .u64 0) := R4.out.cell 0
  have lr := World.block_lt_of_cell? _ _ r0
  clear hw4 A3 R3 H3 r0
  obtain ⟨C, hCd⟩ : ∃ C : World → Prop, C = fun v => Below w4.heap.size w4 v := ⟨_, rfl⟩
  have HC0 : Hid (C w4.drew) := Lib.hid (by rw [hCd]; exact belDrew _ _ 1)
  have HCi : Hid (∀ v, C v → Below w4.heap.size w4 v) := Lib.hid (fun v h => by rw [hCd] at h; exact h)
  have HCm : Hid (∀ v v', C v → Below v.heap.size v v' → C v') := Lib.hid (fun v v' h hb => by rw [hCd] at h ⊢; exact h.trans (hb.mono h.size))
  have HL : Hid (∀ v, C v → v.cell? ⟨w.heap.size, 0, none⟩ = some (.pointer (some ⟨p, 0, none⟩)) ∧ v.cell? ⟨w.heap.size, 1, none⟩ = some (.int .i64 fr) ∧ v.cell? ⟨w.heap.size, 2, none⟩ = some (.int .i64 se) ∧ v.cell? ⟨w3.heap.size, 0, none⟩ = some (.int .u64 a) ∧ v.cell? ⟨w3.heap.size, 1, none⟩ = some (.int .i64 b) ∧ v.cell? ⟨w3.heap.size, 2, none⟩ = some (.int .i64 c)) :=
    Lib.hid (fun v h => by
      have hb := HCi.out v h
      exact ⟨(hb.cell (p := ⟨w.heap.size, 0, none⟩) lq).trans c0, (hb.cell (p := ⟨w.heap.size, 1, none⟩) lq).trans c1, (hb.cell (p := ⟨w.heap.size, 2, none⟩) lq).trans c2, (hb.cell (p := ⟨w3.heap.size, 0, none⟩) lb).trans d0, (hb.cell (p := ⟨w3.heap.size, 1, none⟩) lb).trans d1, (hb.cell (p := ⟨w3.heap.size, 2, none⟩) lb).trans d2⟩)
  have e0 := d0
  have e1 := d1
  have e2 := d2
  clear hCd c0 c1 c2 d0 d1 d2
  refine wp_region_class C (by kernel_rfl) (by kernel_rfl) HC0.out ?_
  go_big_quiet_want
  refine quiet_run (v := area p fr se) (fun v hv => by obtain ⟨c0, c1, c2, d0, d1, d2⟩ := HL.out v hv; go_simp) ?_
  simp only [Act.put, List.setIfInBounds_toArray, List.set_cons_zero, List.set_cons_succ]
  go_big_quiet_on
  go_big_quiet_want
  refine quiet_run (v := headV a b c) (fun v hv => by obtain ⟨c0, c1, c2, d0, d1, d2⟩ := HL.out v hv; go_simp) ?_
  simp only [Act.put, List.setIfInBounds_toArray, List.set_cons_zero, List.set_cons_succ]
  go_big_quiet_on
  go_big_quiet_want
  refine quiet_call (f := 189) (args := #[area p fr se, headV a b c]) (fun v _ => by go_simp) (fun v hv => (HSB.out v).mono (fun e w' h => ⟨h.1, HCm.out v w' hv h.2⟩)) ?_
  simp only [Act.put, List.setIfInBounds_toArray, List.set_cons_zero, List.set_cons_succ]
  go_big_quiet_on
  go_big_quiet_want
  go_big_quiet_op
  first | go_big_quiet_on | (refine ⟨_, fun _ _ => rfl, ?_⟩; go_big_quiet_on)
  go_big_quiet_want
  go_big_quiet_op
  first | go_big_quiet_on | (refine ⟨_, fun _ _ => rfl, ?_⟩; go_big_quiet_on)
  go_big_quiet_want
  go_big_quiet_op
  first | go_big_quiet_on | (refine ⟨_, fun _ _ => rfl, ?_⟩; go_big_quiet_on)
  go_big_quiet_want
  refine quiet_run (v := area p fr se) (fun v hv => by obtain ⟨c0, c1, c2, d0, d1, d2⟩ := HL.out v hv; go_simp) ?_
  simp only [Act.put, List.setIfInBounds_toArray, List.set_cons_zero, List.set_cons_succ]
  go_big_quiet_on
  go_big_quiet_want
  go_big_quiet_op
  first | go_big_quiet_on | (refine ⟨_, fun _ _ => rfl, ?_⟩; go_big_quiet_on)
  go_big_quiet_want
  refine quiet_call (f := 188) (args := #[area p fr se, .int .u64 a]) (fun v _ => by go_simp) (fun v hv => (HSA.out v).mono (fun e w' h => ⟨h.1, HCm.out v w' hv h.2⟩)) ?_
  simp only [Act.put, List.setIfInBounds_toArray, List.set_cons_zero, List.set_cons_succ]
  go_big_quiet_on
  go_big_quiet_want
  go_big_quiet_op
  first | go_big_quiet_on | (refine ⟨_, fun _ _ => rfl, ?_⟩; go_big_quiet_on)
  go_big_quiet_want
  refine quiet_run (v := .int .i64 fr) (fun v hv => by obtain ⟨c0, c1, c2, d0, d1, d2⟩ := HL.out v hv; go_simp) ?_
  simp only [Act.put, List.setIfInBounds_toArray, List.set_cons_zero, List.set_cons_succ]
  go_big_quiet_on
  go_big_quiet_want
  go_big_quiet_op
  first | go_big_quiet_on | (refine ⟨_, fun _ _ => rfl, ?_⟩; go_big_quiet_on)
  go_big_quiet_want
  go_big_quiet_op
  first | go_big_quiet_on | (refine ⟨_, fun _ _ => rfl, ?_⟩; go_big_quiet_on)
  go_big_quiet_want
  go_big_quiet_op
  first | go_big_quiet_on | (refine ⟨_, fun _ _ => rfl, ?_⟩; go_big_quiet_on)
  go_big_quiet_want
  go_big_quiet_op
  first | go_big_quiet_on | (refine ⟨_, fun _ _ => rfl, ?_⟩; go_big_quiet_on)
  go_big_quiet_want
  go_big_quiet_op
  first | go_big_quiet_on | (refine ⟨_, fun _ _ => rfl, ?_⟩; go_big_quiet_on)
  go_big_quiet_want
  go_big_quiet_op
  first | go_big_quiet_on | (refine ⟨_, fun _ _ => rfl, ?_⟩; go_big_quiet_on)
  go_big_quiet_want
  go_big_quiet_op
  first | go_big_quiet_on | (refine ⟨_, fun _ _ => rfl, ?_⟩; go_big_quiet_on)
  go_big_quiet_want
  go_big_quiet_op
  first | go_big_quiet_on | (refine ⟨_, fun _ _ => rfl, ?_⟩; go_big_quiet_on)
  go_big_quiet_want
  go_big_quiet_op
  first | go_big_quiet_on | (refine ⟨_, fun _ _ => rfl, ?_⟩; go_big_quiet_on)
  refine wpQuiet_nil ?_
  intro w5 hC5
  have hB5 := HCi.out _ hC5
  have R5 := Lib.hid (R4.out.below hB5 lr)
  have H5 := Lib.hid (H4.out.trans (hB5.mono H4.out.size))
  have d0 := (hB5.cell (p := ⟨w3.heap.size, 0, none⟩) lb).trans e0
  have d1 := (hB5.cell (p := ⟨w3.heap.size, 1, none⟩) lb).trans e1
  have d2 := (hB5.cell (p := ⟨w3.heap.size, 2, none⟩) lb).trans e2
  have z0 := R5.out.cell 0
  have z1 := R5.out.cell 1
  have z2 := R5.out.cell 2
  simp at z0 z1 z2
  have y0 := R5.out.free 0
  have y1 := R5.out.free 1
  have y2 := R5.out.free 2
  have HH := Lib.hid (((H5.out.setCell (p := ⟨w.heap.size + 1, 0, none⟩) (by simp) (.int .u64 (a : Int))).setCell (p := ⟨w.heap.size + 1, 1, none⟩) (by simp) (.int .i64 (b : Int))).setCell (p := ⟨w.heap.size + 1, 2, none⟩) (by simp) (.int .i64 (c : Int)))
  clear hC5 hB5
  go_wp2_with (fail)
  refine bodyPost_ret_by (v := .tuple #[headV a b c, .bool true]) ?_ rfl ⟨rfl, HH.out⟩
  rw [results_cell_tmp rfl]
  go_simp
theorem head_any (w : World) (p fr se k : Nat) (s : ByteArray) (h8 : 8 ≤ se) (hm : fr + se ≤ 8192) (hk : k < 4) (hs : s.size = 512) :
    Calls Tryz.prog 171 #[area p fr se, .int .i64 (k : Int), .string s] w fun e w' => e = .returned (.tuple #[headV (tailN s) (halfN s) (recsN s), .bool (isHead fr se k s)]) ∧ Below w.heap.size w w' := by
  by_cases g1 : hdS (tailN s) fr se (halfN s) (recsN s) = s
  · by_cases g2 : tailN s % 4 = k
    · by_cases g3 : halfN s < 2
      · rw [show isHead fr se k s = true from decide_eq_true ⟨g1, g2, g3⟩]
        exact head_yes w p fr se k s h8 hm hk hs g1 g2 g3
      · rw [show isHead fr se k s = false from decide_eq_false fun h => g3 h.2.2]
        exact head_no3 w p fr se k s h8 hm hk hs g1 g2 g3
    · rw [show isHead fr se k s = false from decide_eq_false fun h => g2 h.2.1]
      exact head_no2 w p fr se k s h8 hm hk hs g1 g2
  · rw [show isHead fr se k s = false from decide_eq_false fun h => g1 h.1]
    exact head_no1 w p fr se k s h8 hm hk hs g1
/-- The best head of the first k sectors. -/
def bestOf (fr se : Nat) (l : List ByteArray) : Nat → Nat × Nat × Nat
  | 0 => (0, 0, 0)
  | k + 1 => if isHead fr se k (l.getD k ByteArray.empty) = true ∧ (bestOf fr se l k).1 < tailN (l.getD k ByteArray.empty) then (tailN (l.getD k ByteArray.empty), halfN (l.getD k ByteArray.empty), recsN (l.getD k ByteArray.empty)) else bestOf fr se l k
def LsAt (w : World) (A B R p fr se : Nat) (l : List ByteArray) (c : Value) (wr : World) : Prop :=
  ∃ k : Nat, c = .int .i64 (k : Int) ∧ k ≤ 4 ∧ Blk wr B 232 #[.int .u64 ((bestOf fr se l k).1 : Int), .int .i64 ((bestOf fr se l k).2.1 : Int), .int .i64 ((bestOf fr se l k).2.2 : Int)] ∧ Below w.heap.size w wr ∧
    Blk wr A 214 #[.pointer (some ⟨p, 0, none⟩), .int .i64 (fr : Int), .int .i64 (se : Int)] ∧ Blk wr R 232 #[.int .u64 0, .int .i64 0, .int .i64 0]
theorem ls_world (w : World) (p fr se : Nat) : ∀ w0, w0 = (w.alloc (Obj.cells #[Value.pointer (some ⟨p, 0, none⟩), Value.int IntKind.i64 ↑fr, Value.int IntKind.i64 ↑se] 214)).alloc (Obj.cells #[Value.int IntKind.u64 0, Value.int IntKind.i64 0, Value.int IntKind.i64 0] 232) →
    Blk w0 w.heap.size 214 #[Value.pointer (some ⟨p, 0, none⟩), Value.int IntKind.i64 ↑fr, Value.int IntKind.i64 ↑se] ∧ Blk w0 (w.heap.size + 1) 232 #[Value.int IntKind.u64 0, Value.int IntKind.i64 0, Value.int IntKind.i64 0] ∧ Below w.heap.size w w0 ∧ w0.heap.size = w.heap.size + 2 :=
  hd_world w p fr se
/-- What the slots' best head comes to. -/
def lastV (b : Nat × Nat × Nat) : Value := if b.1 = 0 then .tuple #[headV 0 0 0, .int .i64 61] else .tuple #[headV b.1 b.2.1 b.2.2, .int .i64 0]
theorem best_yes {fr se : Nat} {l : List ByteArray} {k : Nat} (h : isHead fr se k (l.getD k ByteArray.empty) = true) (h2 : (bestOf fr se l k).1 < tailN (l.getD k ByteArray.empty)) :
    bestOf fr se l (k + 1) = (tailN (l.getD k ByteArray.empty), halfN (l.getD k ByteArray.empty), recsN (l.getD k ByteArray.empty)) := by
  show (if _ then _ else _) = _
  rw [if_pos ⟨h, h2⟩]
theorem best_no {fr se : Nat} {l : List ByteArray} {k : Nat} (h : ¬ (isHead fr se k (l.getD k ByteArray.empty) = true ∧ (bestOf fr se l k).1 < tailN (l.getD k ByteArray.empty))) : bestOf fr se l (k + 1) = bestOf fr se l k := by
  show (if _ then _ else _) = _
  rw [if_neg h]
set_option maxRecDepth 100000 in
set_option maxHeartbeats 1600000 in
theorem last_ok (w : World) {F : Nat → Prop} {p n : Nat} {x : St} (h : Dv w F p n x) (fr se : Nat) (h8 : 8 ≤ se) (hn : fr + se ≤ n) (hd : x.down = false) :
    Calls Tryz.prog 133 #[area p fr se] w fun e w' => e = .returned (lastV (bestOf fr se (part x.seen fr 4) 4)) ∧ Below w.heap.size w w' := by
  have hm := h.good.most
  have hl : x.seen.length = n := (seen_length x).trans h.good.size
  have hs : ∀ s ∈ part x.seen fr 4, s.size = 512 := fun s hs => seen_secs h.good s (part_mem hs)
  have hpl : (part x.seen fr 4).length = 4 := part_length (by omega)
  obtain ⟨b1, b2, hB, hs0⟩ := ls_world w p fr se _ rfl
  have hr := read_ok _ (h.keep (S := nobody) (Only.of_below hB) (fun _ _ => id)) fr 4 (why_ok (by omega) hd)
  generalize part x.seen fr 4 = l at *
  have HR := Lib.hid hr
  have HH := Lib.hid hB
  have hcs := catS_size hs
  have hcs2 : (catS l).size = 2048 := by rw [hcs, hpl]
  have HSec := Lib.hid (fun (j : Nat) (hj : j < 4) => (show sec (catS l) j = l.getD j ByteArray.empty by
    have : l[j]? = some (l.getD j ByteArray.empty) := by rw [List.getD_eq_getElem?_getD, List.getElem?_eq_getElem (by omega)]; rfl
    exact sec_cat hs this))
  have B1 := Lib.hid b1
  have B2 := Lib.hid b2
  have HS0 := Lib.hid hs0
  clear h hr b1 b2 hB hs0 hd hl hs hpl hcs
  generalize catS l = S at *
  go_enter Tryz.func133, Tryz.ntmps133
  go_wp2_with (fail)
  refine HR.out.mono ?_; rintro e w1 ⟨rfl, hb1⟩
  have A1 := Lib.hid (B1.out.below hb1 B1.out.lt)
  have R1 := Lib.hid (B2.out.below hb1 B2.out.lt)
  have H1 := Lib.hid (HH.out.trans (hb1.mono HH.out.size))
  have hlt2 : w.heap.size + 2 ≤ w1.heap.size := by have := hb1.size; rw [HS0.out] at this; exact this
  clear hb1 B1 B2 HH
  go_wp2_with (fail)
  have hN := Blk.new w1 232 #[.int .u64 0, .int .i64 0, .int .i64 0]
  have A2 := Lib.hid (A1.out.alloc (.cells #[.int .u64 0, .int .i64 0, .int .i64 0] 232))
  have R2 := Lib.hid (R1.out.alloc (.cells #[.int .u64 0, .int .i64 0, .int .i64 0] 232))
  have H2 := Lib.hid (H1.out.alloc H1.out.size (.cells #[.int .u64 0, .int .i64 0, .int .i64 0] 232))
  have N2 := Lib.hid hN
  have hBlt : w.heap.size + 2 ≤ w1.heap.size := hlt2
  clear hN A1 R1 H1
  go_loopw [23] (fun c wr => LsAt w w.heap.size w1.heap.size (w.heap.size + 1) p fr se l c wr) (fun c _ => 4 - (intOf c).toNat)
  case atStart => exact ⟨0, rfl, by omega, N2.out, H2.out, A2.out, R2.out⟩
  case round =>
    obtain ⟨k, rfl, hk, hb, hbel, ha, hrr⟩ := hrel
    by_cases hlt : k < 4
    · have hx : (k : Int) < 4 := by omega
      have a0 : wr.cell? ⟨w.heap.size, 0, none⟩ = some (.pointer (some ⟨p, 0, none⟩)) := ha.cell 0
      have a1 : wr.cell? ⟨w.heap.size, 1, none⟩ = some (.int .i64 fr) := ha.cell 1
      have a2 : wr.cell? ⟨w.heap.size, 2, none⟩ = some (.int .i64 se) := ha.cell 2
      have ah := ha.alloc (.cells #[.int .u64 0, .int .i64 0, .int .i64 0] 232)
      have e0 : (wr.alloc (.cells #[.int .u64 0, .int .i64 0, .int .i64 0] 232)).cell? ⟨w.heap.size, 0, none⟩ = some (.pointer (some ⟨p, 0, none⟩)) := ah.cell 0
      have e1 : (wr.alloc (.cells #[.int .u64 0, .int .i64 0, .int .i64 0] 232)).cell? ⟨w.heap.size, 1, none⟩ = some (.int .i64 fr) := ah.cell 1
      have e2 : (wr.alloc (.cells #[.int .u64 0, .int .i64 0, .int .i64 0] 232)).cell? ⟨w.heap.size, 2, none⟩ = some (.int .i64 se) := ah.cell 2
      clear ah
      have HS := Lib.hid (HSec.out k hlt)
      have q1 : IntKind.i64.wrap ((k : Int) * 512) = (k : Int) * 512 := i64w _ (by omega)
      have q2 : IntKind.i64.wrap ((k : Int) + 1) = (k : Int) + 1 := i64w _ (by omega)
      have q3 : IntKind.i64.wrap (((k : Int) + 1) * 512) = ((k : Int) + 1) * 512 := i64w _ (by omega)
      have t1 : (0 : Int) ≤ (k : Int) * 512 := by omega
      have t2 : (k : Int) * 512 ≤ ((k : Int) + 1) * 512 := by omega
      have t3 : ((k : Int) + 1) * 512 ≤ S.size := by omega
      have t4 : ((k : Int) * 512).toNat = k * 512 := by omega
      have t5 : (((k : Int) + 1) * 512).toNat = (k + 1) * 512 := by omega
      have HB := Lib.hid hb
      have HBE := Lib.hid hbel
      have HA := Lib.hid ha
      have HRR := Lib.hid hrr
      have HBY := Lib.hid (fun h1 h2 => best_yes (fr := fr) (se := se) (l := l) (k := k) h1 h2)
      have HBN := Lib.hid (fun h => best_no (fr := fr) (se := se) (l := l) (k := k) h)
      clear hb hbel ha hrr
      have hS512 : (S.extract (k * 512) ((k + 1) * 512)).size = 512 := by rw [ByteArray.size_extract]; omega
      have HC := Lib.hid (fun v => head_any v p fr se k (S.extract (k * 512) ((k + 1) * 512)) h8 (by omega) hlt hS512)
      have hSe : S.extract (k * 512) ((k + 1) * 512) = l.getD k ByteArray.empty := HS.out
      have HD : Hid (∀ v, Calls Tryz.prog 171 #[area p fr se, .int .i64 (k : Int), .string (S.extract (k * 512) ((k + 1) * 512))] v fun e w' => e = .returned (.tuple #[headV (tailN (l.getD k ByteArray.empty)) (halfN (l.getD k ByteArray.empty)) (recsN (l.getD k ByteArray.empty)), .bool (isHead fr se k (l.getD k ByteArray.empty))]) ∧ Below v.heap.size v w') :=
        Lib.hid (fun v => by have := HC.out v; rw [hSe] at this ⊢; exact this)
      clear hSe hS512 HC
      generalize l.getD k ByteArray.empty = sk at *
      generalize tailN sk = tk at *
      generalize halfN sk = hk2 at *
      generalize recsN sk = rk at *
      generalize isHead fr se k sk = bk at *
      go_wp2_with (fail)
      go_cut [8, 9] from 24 to 48 (fun s8 s9 wx => ∃ X, s8 = .pointer (some ⟨X, 0, none⟩) ∧ s9 = .bool bk ∧ wr.heap.size ≤ X ∧ Blk wx X 232 #[.int .u64 (tk : Int), .int .i64 (hk2 : Int), .int .i64 (rk : Int)] ∧ Below wr.heap.size wr wx)
      case first =>
        go_region_with (first
          | (go_at_call 171; refine (HD.out _).mono ?_; rintro e w5 ⟨rfl, hb5⟩
             have K5 := Lib.hid hb5
             try (have z := (Blk.new wr 232 #[.int .u64 0, .int .i64 0, .int .i64 0]).drew.below hb5 (by simp)
                  have z0 := z.cell 0
                  have z1 := z.cell 1
                  have z2 := z.cell 2
                  simp at z0 z1 z2
                  have y0 := z.free 0
                  have y1 := z.free 1
                  have y2 := z.free 2
                  have Z := Lib.hid z
                  clear z)
             clear hb5)
          | fail)
        all_goals (
          go_wp2_with (fail)
          go_meet
          first
          | exact ⟨_, rfl, rfl, K5.out.size, Blk.new w5 232 _, ((belDrew _ wr 1).trans K5.out).alloc K5.out.size _⟩
          | exact ⟨_, rfl, rfl, Nat.le_refl _, by simpa using ((Z.out.put 0 (.int .u64 (tk : Int))).put 1 (.int .i64 (hk2 : Int))).put 2 (.int .i64 (rk : Int)), (((((Below.refl wr.heap.size wr).alloc (Nat.le_refl _) _).drew.trans (K5.out.mono (by simp))).setCell (p := ⟨wr.heap.size, 0, none⟩) (Nat.le_refl _) _).setCell (p := ⟨wr.heap.size, 1, none⟩) (Nat.le_refl _) _).setCell (p := ⟨wr.heap.size, 2, none⟩) (Nat.le_refl _) _⟩)
      case rest =>
        obtain ⟨X, rfl, rfl, hX, hbx, hbw⟩ := hcut
        have lB := HB.out.lt
        have BC := HB.out.below hbw lB
        have AC := Lib.hid (HA.out.below hbw HA.out.lt)
        have RC := Lib.hid (HRR.out.below hbw HRR.out.lt)
        have WC := Lib.hid (HBE.out.trans (hbw.mono HBE.out.size))
        have x0 : _ = some (Value.int .u64 (tk : Int)) := hbx.cell 0
        have x1 : _ = some (Value.int .i64 (hk2 : Int)) := hbx.cell 1
        have x2 : _ = some (Value.int .i64 (rk : Int)) := hbx.cell 2
        have v0 : _ = some (Value.int .u64 ((bestOf fr se l k).1 : Int)) := BC.cell 0
        have v1 : _ = some (Value.int .i64 ((bestOf fr se l k).2.1 : Int)) := BC.cell 1
        have v2 : _ = some (Value.int .i64 ((bestOf fr se l k).2.2 : Int)) := BC.cell 2
        have f0 := BC.free 0
        have f1 := BC.free 1
        have f2 := BC.free 2
        have HBC := Lib.hid BC
        have hw1 := Lib.hid hBlt
        clear BC hbx hbw
        obtain ⟨m, hm0⟩ : ∃ m, m = bestOf fr se l k := ⟨_, rfl⟩
        rw [← hm0] at v0 v1 v2 HBC HBY HBN
        have HM := Lib.hid hm0
        clear hm0
        cases bk with
        | false =>
          go_wp2_with (fail)
          go_roundw
          case rel => exact ⟨k + 1, by go_num, by omega, by rw [HBN.out (fun h => by cases h.1)]; exact HBC.out, WC.out, AC.out, RC.out⟩
          case measure => simp [intOf]; omega
        | true =>
          by_cases hgt : m.1 < tk
          · have hgi : (m.1 : Int) < tk := by omega
            go_wp2_with (fail)
            go_roundw
            case rel => exact ⟨k + 1, by go_num, by omega, by rw [HBY.out rfl hgt]; simpa using ((HBC.out.put 0 (.int .u64 (tk : Int))).put 1 (.int .i64 (hk2 : Int))).put 2 (.int .i64 (rk : Int)), ((WC.out.setCell (p := ⟨w1.heap.size, 0, none⟩) (by have := hw1.out; simp; omega) _).setCell (p := ⟨w1.heap.size, 1, none⟩) (by have := hw1.out; simp; omega) _).setCell (p := ⟨w1.heap.size, 2, none⟩) (by have := hw1.out; simp; omega) _, ((AC.out.far (p := ⟨w1.heap.size, 0, none⟩) (by have := hw1.out; simp; omega) _).far (p := ⟨w1.heap.size, 1, none⟩) (by have := hw1.out; simp; omega) _).far (p := ⟨w1.heap.size, 2, none⟩) (by have := hw1.out; simp; omega) _, ((RC.out.far (p := ⟨w1.heap.size, 0, none⟩) (by have := hw1.out; simp; omega) _).far (p := ⟨w1.heap.size, 1, none⟩) (by have := hw1.out; simp; omega) _).far (p := ⟨w1.heap.size, 2, none⟩) (by have := hw1.out; simp; omega) _⟩
            case measure => simp [intOf]; omega
          · have hgi : ¬ (m.1 : Int) < tk := by omega
            go_wp2_with (fail)
            go_roundw
            case rel => exact ⟨k + 1, by go_num, by omega, by rw [HBN.out (fun h => hgt h.2)]; exact HBC.out, WC.out, AC.out, RC.out⟩
            case measure => simp [intOf]; omega
    · obtain rfl : k = 4 := by omega
      have HBE := Lib.hid hbel
      obtain ⟨m, hm0⟩ : ∃ m, m = bestOf fr se l 4 := ⟨_, rfl⟩
      rw [← hm0] at hb
      have HM := Lib.hid hm0
      clear hm0
      have c0 : wr.cell? ⟨w1.heap.size, 0, none⟩ = some (.int .u64 (m.1 : Int)) := hb.cell 0
      have c1 : wr.cell? ⟨w1.heap.size, 1, none⟩ = some (.int .i64 (m.2.1 : Int)) := hb.cell 1
      have c2 : wr.cell? ⟨w1.heap.size, 2, none⟩ = some (.int .i64 (m.2.2 : Int)) := hb.cell 2
      have d0 : wr.cell? ⟨w.heap.size + 1, 0, none⟩ = some (.int .u64 0) := hrr.cell 0
      have d1 : wr.cell? ⟨w.heap.size + 1, 1, none⟩ = some (.int .i64 0) := hrr.cell 1
      have d2 : wr.cell? ⟨w.heap.size + 1, 2, none⟩ = some (.int .i64 0) := hrr.cell 2
      have y0 := hrr.free 0
      have y1 := hrr.free 1
      have y2 := hrr.free 2
      clear hbel hb ha hrr
      by_cases h0 : m.1 = 0
      · have h0i : ((m.1 : Int) == 0) = true := by rw [beq_iff_eq]; omega
        have HV := Lib.hid (show lastV (bestOf fr se l 4) = .tuple #[headV 0 0 0, .int .i64 61] by rw [← HM.out]; unfold lastV; rw [if_pos h0])
        have HF := Lib.hid (((HBE.out.setCell (p := ⟨w.heap.size + 1, 0, none⟩) (by simp) (.int .u64 0)).setCell (p := ⟨w.heap.size + 1, 1, none⟩) (by simp) (.int .i64 0)).setCell (p := ⟨w.heap.size + 1, 2, none⟩) (by simp) (.int .i64 0))
        clear h0
        go_wp2_with (fail)
        refine bodyPost_ret_by (v := .tuple #[headV 0 0 0, .int .i64 61]) ?_ rfl ⟨by rw [HV.out], HF.out⟩
        rw [results_cell_tmp rfl]
        go_simp
      · have h0i : ((m.1 : Int) == 0) = false := by rw [beq_eq_false_iff_ne]; omega
        have HV := Lib.hid (show lastV (bestOf fr se l 4) = .tuple #[headV m.1 m.2.1 m.2.2, .int .i64 0] by rw [← HM.out]; unfold lastV; rw [if_neg h0])
        have HF := Lib.hid (((HBE.out.setCell (p := ⟨w.heap.size + 1, 0, none⟩) (by simp) (.int .u64 (m.1 : Int))).setCell (p := ⟨w.heap.size + 1, 1, none⟩) (by simp) (.int .i64 (m.2.1 : Int))).setCell (p := ⟨w.heap.size + 1, 2, none⟩) (by simp) (.int .i64 (m.2.2 : Int)))
        clear h0
        go_wp2_with (fail)
        refine bodyPost_ret_by (v := .tuple #[headV m.1 m.2.1 m.2.2, .int .i64 0]) ?_ rfl ⟨by rw [HV.out], HF.out⟩
        rw [results_cell_tmp rfl]
        go_simp
end Go.Proofs.YtglfjlbhjaemgaaGreatDoor
