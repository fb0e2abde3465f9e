/- What the document makes of a block that asks for reservations. -/
import Derived.Test.YtaachlijpgmjeaaDoorCdG
namespace Go.Proofs.YtaachlijpgmjeaaDoor
open Go.RowKit
theorem results_row1 {P : Program} {fn : Func} {p u : Tmp} {ty : TypeId} (h : fn.results = #[.cell p ty, .tmp u]) (tmps : Array Value) (w : World) (g : Nat) (t : TypeId) (cs : Array Value) (fr : Nat × Nat) (d : TypeDesc)
    (hp : tmps.getD p undef = .pointer (some ⟨g, 0, none⟩)) (hg : w.heap[g]? = some (.cells cs t fr))
    (hu : P.underlying ty = some d) (hd : (match d with | .struct _ | .array _ _ => true | _ => false) = true) (hi : (P.info? ty).map (·.size) = some cs.size) :
    (results fn tmps).run P w = .ok (.tuple #[.agg cs, tmps.getD u undef]) w := by
  have hp' : tmps[p]?.getD undef = .pointer (some ⟨g, 0, none⟩) := by simpa using hp
  simp [results, h, hp', asAddr, run_loadVar_row w g t ty cs fr d hg hu hd hi, Result.andThen]
/-- What is told: what is asked, and why there is nothing. -/
def ansA (o : Option Ak) : Ak := o.getD zA
def errA (o : Option Ak) : Int := if o.isSome = true then 0 else 150
def AskOut (o : Option Ak) (w : World) (e : Ending) (w' : World) : Prop := e = .returned (.tuple #[akV (ansA o), .int .i64 (errA o)]) ∧ Below w.heap.size w w'
/-- The state along a parse: the ask at one block, the result at another. -/
structure PaAt (w v : World) (pa pr : Nat) (x : Ak) : Prop where
  a : Blk v pa 28 (akC x)
  r : Blk v pr 28 (akC zA)
  bel : Below w.heap.size w v
  la : w.heap.size ≤ pa
  lr : w.heap.size ≤ pr
  ne : pa ≠ pr
theorem PaAt.below {w v v' : World} {pa pr : Nat} {x : Ak} (h : PaAt w v pa pr x) (hb : Below v.heap.size v v') : PaAt w v' pa pr x :=
  ⟨h.a.below hb h.a.lt, h.r.below hb h.r.lt, h.bel.trans (hb.mono h.bel.size), h.la, h.lr, h.ne⟩
theorem PaAt.set {w v : World} {pa pr : Nat} {x : Ak} (h : PaAt w v pa pr x) (i : Nat) (u : Value) (x' : Ak) (hx : (akC x).setIfInBounds i u = akC x') : PaAt w (v.setCell ⟨pa, i, none⟩ u) pa pr x' :=
  ⟨by rw [← hx]; exact h.a.put i u, h.r.far (p := ⟨pa, i, none⟩) (Ne.symm h.ne) u, h.bel.trans (((Only.refl (fun k => k = pa) v).setCell (p := ⟨pa, i, none⟩) (.inl rfl) u).toBelow h.bel.size (fun k hk => by rw [hk]; exact h.la)), h.la, h.lr, h.ne⟩
theorem PaAt.fin {w v V : World} {pa pr : Nat} {x : Ak} (h : PaAt w v pa pr x) (ho : Only (fun k => k = pr) v V) : Below w.heap.size w V :=
  h.bel.trans (ho.toBelow h.bel.size (fun k hk => by rw [hk]; exact h.lr))
theorem remI (a : Nat) (n : Nat) (ha : a < 256) (h1 : 1 ≤ n) (h2 : n ≤ 255) : IntKind.u8.wrap ((a : Int).tmod (n : Int)) = ((a % n : Nat) : Int) := by
  have h : (a : Int).tmod (n : Int) = ((a % n : Nat) : Int) := by rw [Int.tmod_eq_emod_of_nonneg (by omega)]; omega
  rw [h]
  have := Nat.mod_lt a (show n > 0 by omega)
  exact IntWalk.u8_in _ (by omega)
set_option maxRecDepth 100000 in
set_option maxHeartbeats 8000000 in
theorem res_in (s : ByteArray) (w : World) (hz : s.size = 10) (hb : byt s 0 = 94) (hs : byt s 1 % 32 ≤ 1) : Calls Tryd.prog 25 #[.string s, akV { zA with op := 94 }] w (AskOut (some { zA with op := (256 * 94 + byt s 1 % 32 : Nat), want := big s 7 2 }) w) := by
  obtain ⟨h1, h2, h3⟩ := two_box w 28 28 { zA with op := 94 } zA _ rfl
  obtain ⟨x0, hx0⟩ : ∃ x : Ak, x = { zA with op := 94 } := ⟨_, rfl⟩
  have H0 := Lib.hid (PaAt.mk h1 h2 h3 (Nat.le_refl _) (Nat.le_succ _) (Nat.ne_of_lt (Nat.lt_succ_self _)))
  clear h1 h2 h3
  have HN := Lib.hid (fun (a n : Nat) v h1 h8 ha => refNum_any s a n v (by unfold maxLen; omega) h1 h8 ha)
  have HS := Lib.hid (fun (a n : Nat) (h : n ≤ 4) => numS_small (s := s) (a := a) (n := n) h)
  have HZ := Lib.hid hz
  have i0 := index_byt s 0 0 rfl (by omega)
  have i1 := index_byt s 1 1 rfl (by omega)
  have i2 := index_byt s 2 2 rfl (by omega)
  have b1 := byt_lt s 1
  have b2 := byt_lt s 2
  rw [hb] at i0
  generalize byt s 1 = y at *
  generalize byt s 2 = z at *
  obtain ⟨g, hg⟩ : ∃ g : Nat, g = big s 5 4 := ⟨_, rfl⟩
  obtain ⟨t, ht⟩ : ∃ t, t = typN (z : Int) := ⟨_, rfl⟩
  try rw [← hg] at hs
  try rw [← ht] at hs
  have HGG := Lib.hid hg; have HTT := Lib.hid ht; have HSS := Lib.hid hs
  clear hb hz hg ht hs
  go_enter Tryd.func25, Tryd.ntmps25
  go_upto_region 1 with (fail)
  change Code.wp _ _ _ _ ((w.alloc (.cells (akC { zA with op := 94 }) 28)).alloc (.cells (akC zA) 28))
  have hsz : (w.alloc (.cells (akC { zA with op := 94 }) 28)).heap.size = w.heap.size + 1 := by simp
  generalize (w.alloc (.cells (akC { zA with op := 94 }) 28)).alloc (.cells (akC zA) 28) = v0 at *
  try rw [hsz]
  obtain ⟨pa, hpa⟩ : ∃ pa, pa = w.heap.size := ⟨_, rfl⟩
  obtain ⟨pr, hpr⟩ : ∃ pr, pr = w.heap.size + 1 := ⟨_, rfl⟩
  rw [← hx0] at H0
  rw [← hpr] at H0 ⊢
  have H0' : Hid (PaAt w v0 pa pr x0) := Lib.hid (by rw [hpa]; exact H0.out)
  rw [← hpa]
  have HX0 := Lib.hid hx0
  clear hsz hx0 hpa hpr H0
  have H0 := Lib.hid H0'.out
  clear H0'
  have hs := HSS.out
  have q1 : decide ((1 : Int) < (y : Int) % 32) = false := decide_eq_false (by omega)
  have q2 : ¬ (1 : Int) < (y : Int) % 32 := by omega
  clear hs
  have c0 : v0.cell? ⟨pa, 0, none⟩ = some (.int .i64 x0.op) := H0.out.a.cell 0
  have f0 := H0.out.a.free 0
  go_upto_region 3 with (fail)
  obtain ⟨x1, hx1⟩ : ∃ x : Ak, x = { x0 with op := 24064 + (y : Int) % 32 } := ⟨_, rfl⟩
  have H1 := Lib.hid (H0.out.set 0 (.int .i64 (24064 + (y : Int) % 32)) x1 (by rw [hx1]; rfl))
  have HX1 := Lib.hid hx1; clear hx1 c0 f0 
  generalize v0.setCell ⟨pa, 0, none⟩ (.int .i64 (24064 + (y : Int) % 32)) = v1 at *
  go_wp2_with (fail)
  refine (HN.out 7 2 v1 (by decide) (by decide) (by rw [HZ.out]; decide)).mono ?_; rintro e v2 ⟨rfl, hb⟩
  have H2 := Lib.hid (H1.out.below hb); clear hb
  obtain ⟨x2, hx2⟩ : ∃ x : Ak, x = x1 := ⟨_, rfl⟩
  rw [← hx2] at H2
  have HX2 := Lib.hid hx2; clear hx2
  rw [HS.out 7 2 (by decide)]
  have c5 : v2.cell? ⟨pa, 5, none⟩ = some (.int .i64 x2.want) := H2.out.a.cell 5
  have f5 := H2.out.a.free 5
  go_upto_region 5 with (fail)
  obtain ⟨x3, hx3⟩ : ∃ x : Ak, x = { x2 with want := (big s 7 2 : Int) } := ⟨_, rfl⟩
  have H3 := Lib.hid (H2.out.set 5 (.int .i64 (big s 7 2 : Int)) x3 (by rw [hx3]; rfl))
  have HX3 := Lib.hid hx3; clear hx3 c5 f5 
  generalize v2.setCell ⟨pa, 5, none⟩ (.int .i64 (big s 7 2 : Int)) = v3 at *
  have c0 : v3.cell? ⟨pa, 0, none⟩ = some (.int .i64 x3.op) := H3.out.a.cell 0
  have c1 : v3.cell? ⟨pa, 1, none⟩ = some (.int .i64 x3.lba) := H3.out.a.cell 1
  have c2 : v3.cell? ⟨pa, 2, none⟩ = some (.int .i64 x3.blk) := H3.out.a.cell 2
  have c3 : v3.cell? ⟨pa, 3, none⟩ = some (.bool x3.fu) := H3.out.a.cell 3
  have c4 : v3.cell? ⟨pa, 4, none⟩ = some (.int .i64 x3.page) := H3.out.a.cell 4
  have c5 : v3.cell? ⟨pa, 5, none⟩ = some (.int .i64 x3.want) := H3.out.a.cell 5
  have c6 : v3.cell? ⟨pa, 6, none⟩ = some (.int .i64 x3.ty) := H3.out.a.cell 6
  have r0 : v3.cell? ⟨pr, 0, none⟩ = some (.int .i64 0) := H3.out.r.cell 0
  have g0 := H3.out.r.free 0
  have r1 : v3.cell? ⟨pr, 1, none⟩ = some (.int .i64 0) := H3.out.r.cell 1
  have g1 := H3.out.r.free 1
  have r2 : v3.cell? ⟨pr, 2, none⟩ = some (.int .i64 0) := H3.out.r.cell 2
  have g2 := H3.out.r.free 2
  have r3 : v3.cell? ⟨pr, 3, none⟩ = some (.bool false) := H3.out.r.cell 3
  have g3 := H3.out.r.free 3
  have r4 : v3.cell? ⟨pr, 4, none⟩ = some (.int .i64 0) := H3.out.r.cell 4
  have g4 := H3.out.r.free 4
  have r5 : v3.cell? ⟨pr, 5, none⟩ = some (.int .i64 0) := H3.out.r.cell 5
  have g5 := H3.out.r.free 5
  have r6 : v3.cell? ⟨pr, 6, none⟩ = some (.int .i64 0) := H3.out.r.cell 6
  have g6 := H3.out.r.free 6
  go_wp2_with (fail)
  obtain ⟨hK, hO⟩ := ak_put H3.out.r x3 _ rfl
  refine bodyPost_ret_by (results_row1 rfl _ _ pr 28 (akC x3) (0, 0) _ rfl hK Tryd.underlying28 rfl sizeR) rfl ?_
  have hfin : x3 = { zA with op := (256 * 94 + y % 32 : Nat), want := big s 7 2 } := by
    rw [HX3.out, HX2.out, HX1.out, HX0.out]
    show Ak.mk (24064 + (y : Int) % 32) _ _ _ _ _ _ = Ak.mk ((256 * 94 + y % 32 : Nat) : Int) _ _ _ _ _ _
    rw [show ((256 * 94 + y % 32 : Nat) : Int) = 24064 + (y : Int) % 32 by omega]
  exact ⟨by rw [hfin]; rfl, H3.out.fin hO⟩
set_option maxRecDepth 100000 in
set_option maxHeartbeats 8000000 in
theorem res_in_no (s : ByteArray) (w : World) (hz : s.size = 10) (hb : byt s 0 = 94) (hs : 1 < byt s 1 % 32) : Calls Tryd.prog 25 #[.string s, akV { zA with op := 94 }] w (AskOut (none) w) := by
  obtain ⟨h1, h2, h3⟩ := two_box w 28 28 { zA with op := 94 } zA _ rfl
  obtain ⟨x0, hx0⟩ : ∃ x : Ak, x = { zA with op := 94 } := ⟨_, rfl⟩
  have H0 := Lib.hid (PaAt.mk h1 h2 h3 (Nat.le_refl _) (Nat.le_succ _) (Nat.ne_of_lt (Nat.lt_succ_self _)))
  clear h1 h2 h3
  have HN := Lib.hid (fun (a n : Nat) v h1 h8 ha => refNum_any s a n v (by unfold maxLen; omega) h1 h8 ha)
  have HS := Lib.hid (fun (a n : Nat) (h : n ≤ 4) => numS_small (s := s) (a := a) (n := n) h)
  have HZ := Lib.hid hz
  have i0 := index_byt s 0 0 rfl (by omega)
  have i1 := index_byt s 1 1 rfl (by omega)
  have i2 := index_byt s 2 2 rfl (by omega)
  have b1 := byt_lt s 1
  have b2 := byt_lt s 2
  rw [hb] at i0
  generalize byt s 1 = y at *
  generalize byt s 2 = z at *
  obtain ⟨g, hg⟩ : ∃ g : Nat, g = big s 5 4 := ⟨_, rfl⟩
  obtain ⟨t, ht⟩ : ∃ t, t = typN (z : Int) := ⟨_, rfl⟩
  try rw [← hg] at hs
  try rw [← ht] at hs
  have HGG := Lib.hid hg; have HTT := Lib.hid ht; have HSS := Lib.hid hs
  clear hb hz hg ht hs
  go_enter Tryd.func25, Tryd.ntmps25
  go_upto_region 1 with (fail)
  change Code.wp _ _ _ _ ((w.alloc (.cells (akC { zA with op := 94 }) 28)).alloc (.cells (akC zA) 28))
  have hsz : (w.alloc (.cells (akC { zA with op := 94 }) 28)).heap.size = w.heap.size + 1 := by simp
  generalize (w.alloc (.cells (akC { zA with op := 94 }) 28)).alloc (.cells (akC zA) 28) = v0 at *
  try rw [hsz]
  obtain ⟨pa, hpa⟩ : ∃ pa, pa = w.heap.size := ⟨_, rfl⟩
  obtain ⟨pr, hpr⟩ : ∃ pr, pr = w.heap.size + 1 := ⟨_, rfl⟩
  rw [← hx0] at H0
  rw [← hpr] at H0 ⊢
  have H0' : Hid (PaAt w v0 pa pr x0) := Lib.hid (by rw [hpa]; exact H0.out)
  rw [← hpa]
  have HX0 := Lib.hid hx0
  clear hsz hx0 hpa hpr H0
  have H0 := Lib.hid H0'.out
  clear H0'
  have hs := HSS.out
  have q1 : decide ((1 : Int) < (y : Int) % 32) = true := decide_eq_true (by omega)
  have q2 : (1 : Int) < (y : Int) % 32 := by omega
  clear hs
  have c0 : v0.cell? ⟨pa, 0, none⟩ = some (.int .i64 x0.op) := H0.out.a.cell 0
  have f0 := H0.out.a.free 0
  go_upto_region 3 with (fail)
  obtain ⟨x1, hx1⟩ : ∃ x : Ak, x = { x0 with op := 24064 + (y : Int) % 32 } := ⟨_, rfl⟩
  have H1 := Lib.hid (H0.out.set 0 (.int .i64 (24064 + (y : Int) % 32)) x1 (by rw [hx1]; rfl))
  have HX1 := Lib.hid hx1; clear hx1 c0 f0 
  generalize v0.setCell ⟨pa, 0, none⟩ (.int .i64 (24064 + (y : Int) % 32)) = v1 at *
  go_wp2_with (fail)
  refine (HN.out 7 2 v1 (by decide) (by decide) (by rw [HZ.out]; decide)).mono ?_; rintro e v2 ⟨rfl, hb⟩
  have H2 := Lib.hid (H1.out.below hb); clear hb
  obtain ⟨x2, hx2⟩ : ∃ x : Ak, x = x1 := ⟨_, rfl⟩
  rw [← hx2] at H2
  have HX2 := Lib.hid hx2; clear hx2
  rw [HS.out 7 2 (by decide)]
  have c5 : v2.cell? ⟨pa, 5, none⟩ = some (.int .i64 x2.want) := H2.out.a.cell 5
  have f5 := H2.out.a.free 5
  go_upto_region 5 with (fail)
  obtain ⟨x3, hx3⟩ : ∃ x : Ak, x = { x2 with want := (big s 7 2 : Int) } := ⟨_, rfl⟩
  have H3 := Lib.hid (H2.out.set 5 (.int .i64 (big s 7 2 : Int)) x3 (by rw [hx3]; rfl))
  have HX3 := Lib.hid hx3; clear hx3 c5 f5 
  generalize v2.setCell ⟨pa, 5, none⟩ (.int .i64 (big s 7 2 : Int)) = v3 at *
  have r0 : v3.cell? ⟨pr, 0, none⟩ = some (.int .i64 0) := H3.out.r.cell 0
  have g0 := H3.out.r.free 0
  have r1 : v3.cell? ⟨pr, 1, none⟩ = some (.int .i64 0) := H3.out.r.cell 1
  have g1 := H3.out.r.free 1
  have r2 : v3.cell? ⟨pr, 2, none⟩ = some (.int .i64 0) := H3.out.r.cell 2
  have g2 := H3.out.r.free 2
  have r3 : v3.cell? ⟨pr, 3, none⟩ = some (.bool false) := H3.out.r.cell 3
  have g3 := H3.out.r.free 3
  have r4 : v3.cell? ⟨pr, 4, none⟩ = some (.int .i64 0) := H3.out.r.cell 4
  have g4 := H3.out.r.free 4
  have r5 : v3.cell? ⟨pr, 5, none⟩ = some (.int .i64 0) := H3.out.r.cell 5
  have g5 := H3.out.r.free 5
  have r6 : v3.cell? ⟨pr, 6, none⟩ = some (.int .i64 0) := H3.out.r.cell 6
  have g6 := H3.out.r.free 6
  go_wp2_with (fail)
  obtain ⟨hK, hO⟩ := ak_put H3.out.r zA _ rfl
  refine bodyPost_ret_by (results_row1 rfl _ _ pr 28 (akC zA) (0, 0) _ rfl hK Tryd.underlying28 rfl sizeR) rfl ?_
  exact ⟨rfl, H3.out.fin hO⟩
set_option maxRecDepth 100000 in
set_option maxHeartbeats 8000000 in
theorem res_out_w (s : ByteArray) (w : World) (hz : s.size = 10) (hb : byt s 0 = 95) (hs : big s 5 4 ≠ 24) : Calls Tryd.prog 25 #[.string s, akV { zA with op := 95 }] w (AskOut (none) w) := by
  obtain ⟨h1, h2, h3⟩ := two_box w 28 28 { zA with op := 95 } zA _ rfl
  obtain ⟨x0, hx0⟩ : ∃ x : Ak, x = { zA with op := 95 } := ⟨_, rfl⟩
  have H0 := Lib.hid (PaAt.mk h1 h2 h3 (Nat.le_refl _) (Nat.le_succ _) (Nat.ne_of_lt (Nat.lt_succ_self _)))
  clear h1 h2 h3
  have HN := Lib.hid (fun (a n : Nat) v h1 h8 ha => refNum_any s a n v (by unfold maxLen; omega) h1 h8 ha)
  have HS := Lib.hid (fun (a n : Nat) (h : n ≤ 4) => numS_small (s := s) (a := a) (n := n) h)
  have HZ := Lib.hid hz
  have i0 := index_byt s 0 0 rfl (by omega)
  have i1 := index_byt s 1 1 rfl (by omega)
  have i2 := index_byt s 2 2 rfl (by omega)
  have b1 := byt_lt s 1
  have b2 := byt_lt s 2
  rw [hb] at i0
  generalize byt s 1 = y at *
  generalize byt s 2 = z at *
  obtain ⟨g, hg⟩ : ∃ g : Nat, g = big s 5 4 := ⟨_, rfl⟩
  obtain ⟨t, ht⟩ : ∃ t, t = typN (z : Int) := ⟨_, rfl⟩
  try rw [← hg] at hs
  try rw [← ht] at hs
  have HGG := Lib.hid hg; have HTT := Lib.hid ht; have HSS := Lib.hid hs
  clear hb hz hg ht hs
  go_enter Tryd.func25, Tryd.ntmps25
  go_upto_region 1 with (fail)
  change Code.wp _ _ _ _ ((w.alloc (.cells (akC { zA with op := 95 }) 28)).alloc (.cells (akC zA) 28))
  have hsz : (w.alloc (.cells (akC { zA with op := 95 }) 28)).heap.size = w.heap.size + 1 := by simp
  generalize (w.alloc (.cells (akC { zA with op := 95 }) 28)).alloc (.cells (akC zA) 28) = v0 at *
  try rw [hsz]
  obtain ⟨pa, hpa⟩ : ∃ pa, pa = w.heap.size := ⟨_, rfl⟩
  obtain ⟨pr, hpr⟩ : ∃ pr, pr = w.heap.size + 1 := ⟨_, rfl⟩
  rw [← hx0] at H0
  rw [← hpr] at H0 ⊢
  have H0' : Hid (PaAt w v0 pa pr x0) := Lib.hid (by rw [hpa]; exact H0.out)
  rw [← hpa]
  have HX0 := Lib.hid hx0
  clear hsz hx0 hpa hpr H0
  have H0 := Lib.hid H0'.out
  clear H0'
  have c0 : v0.cell? ⟨pa, 0, none⟩ = some (.int .i64 x0.op) := H0.out.a.cell 0
  have f0 := H0.out.a.free 0
  go_upto_region 3 with (fail)
  obtain ⟨x1, hx1⟩ : ∃ x : Ak, x = { x0 with op := 24320 + (y : Int) % 32 } := ⟨_, rfl⟩
  have H1 := Lib.hid (H0.out.set 0 (.int .i64 (24320 + (y : Int) % 32)) x1 (by rw [hx1]; rfl))
  have HX1 := Lib.hid hx1; clear hx1 c0 f0 
  generalize v0.setCell ⟨pa, 0, none⟩ (.int .i64 (24320 + (y : Int) % 32)) = v1 at *
  go_wp2_with (fail)
  refine (HN.out 5 4 v1 (by decide) (by decide) (by rw [HZ.out]; decide)).mono ?_; rintro e v2 ⟨rfl, hb⟩
  have H2 := Lib.hid (H1.out.below hb); clear hb
  obtain ⟨x2, hx2⟩ : ∃ x : Ak, x = x1 := ⟨_, rfl⟩
  rw [← hx2] at H2
  have HX2 := Lib.hid hx2; clear hx2
  rw [HS.out 5 4 (by decide), ← HGG.out]
  have c5 : v2.cell? ⟨pa, 5, none⟩ = some (.int .i64 x2.want) := H2.out.a.cell 5
  have f5 := H2.out.a.free 5
  go_upto_region 9 with (fail)
  obtain ⟨x3, hx3⟩ : ∃ x : Ak, x = { x2 with want := (g : Int) } := ⟨_, rfl⟩
  have H3 := Lib.hid (H2.out.set 5 (.int .i64 (g : Int)) x3 (by rw [hx3]; rfl))
  have HX3 := Lib.hid hx3; clear hx3 c5 f5 
  generalize v2.setCell ⟨pa, 5, none⟩ (.int .i64 (g : Int)) = v3 at *
  have hs := HSS.out
  have hwn : x3.want = (g : Int) := by rw [HX3.out]
  have q1 : (x3.want != 24) = true := by rw [hwn]; simp; omega
  clear hwn
  clear hs
  have c5 : v3.cell? ⟨pa, 5, none⟩ = some (.int .i64 x3.want) := H3.out.a.cell 5
  go_upto_region 10 with (fail)
  clear c5
  have r0 : v3.cell? ⟨pr, 0, none⟩ = some (.int .i64 0) := H3.out.r.cell 0
  have g0 := H3.out.r.free 0
  have r1 : v3.cell? ⟨pr, 1, none⟩ = some (.int .i64 0) := H3.out.r.cell 1
  have g1 := H3.out.r.free 1
  have r2 : v3.cell? ⟨pr, 2, none⟩ = some (.int .i64 0) := H3.out.r.cell 2
  have g2 := H3.out.r.free 2
  have r3 : v3.cell? ⟨pr, 3, none⟩ = some (.bool false) := H3.out.r.cell 3
  have g3 := H3.out.r.free 3
  have r4 : v3.cell? ⟨pr, 4, none⟩ = some (.int .i64 0) := H3.out.r.cell 4
  have g4 := H3.out.r.free 4
  have r5 : v3.cell? ⟨pr, 5, none⟩ = some (.int .i64 0) := H3.out.r.cell 5
  have g5 := H3.out.r.free 5
  have r6 : v3.cell? ⟨pr, 6, none⟩ = some (.int .i64 0) := H3.out.r.cell 6
  have g6 := H3.out.r.free 6
  go_wp2_with (fail)
  obtain ⟨hK, hO⟩ := ak_put H3.out.r zA _ rfl
  refine bodyPost_ret_by (results_row1 rfl _ _ pr 28 (akC zA) (0, 0) _ rfl hK Tryd.underlying28 rfl sizeR) rfl ?_
  exact ⟨rfl, H3.out.fin hO⟩
set_option maxRecDepth 100000 in
set_option maxHeartbeats 8000000 in
theorem res_out_z (s : ByteArray) (w : World) (hz : s.size = 10) (hb : byt s 0 = 95) (hs : big s 5 4 = 24 ∧ 15 < byt s 2) : Calls Tryd.prog 25 #[.string s, akV { zA with op := 95 }] w (AskOut (none) w) := by
  obtain ⟨h1, h2, h3⟩ := two_box w 28 28 { zA with op := 95 } zA _ rfl
  obtain ⟨x0, hx0⟩ : ∃ x : Ak, x = { zA with op := 95 } := ⟨_, rfl⟩
  have H0 := Lib.hid (PaAt.mk h1 h2 h3 (Nat.le_refl _) (Nat.le_succ _) (Nat.ne_of_lt (Nat.lt_succ_self _)))
  clear h1 h2 h3
  have HN := Lib.hid (fun (a n : Nat) v h1 h8 ha => refNum_any s a n v (by unfold maxLen; omega) h1 h8 ha)
  have HS := Lib.hid (fun (a n : Nat) (h : n ≤ 4) => numS_small (s := s) (a := a) (n := n) h)
  have HZ := Lib.hid hz
  have i0 := index_byt s 0 0 rfl (by omega)
  have i1 := index_byt s 1 1 rfl (by omega)
  have i2 := index_byt s 2 2 rfl (by omega)
  have b1 := byt_lt s 1
  have b2 := byt_lt s 2
  rw [hb] at i0
  generalize byt s 1 = y at *
  generalize byt s 2 = z at *
  obtain ⟨g, hg⟩ : ∃ g : Nat, g = big s 5 4 := ⟨_, rfl⟩
  obtain ⟨t, ht⟩ : ∃ t, t = typN (z : Int) := ⟨_, rfl⟩
  try rw [← hg] at hs
  try rw [← ht] at hs
  have HGG := Lib.hid hg; have HTT := Lib.hid ht; have HSS := Lib.hid hs
  clear hb hz hg ht hs
  go_enter Tryd.func25, Tryd.ntmps25
  go_upto_region 1 with (fail)
  change Code.wp _ _ _ _ ((w.alloc (.cells (akC { zA with op := 95 }) 28)).alloc (.cells (akC zA) 28))
  have hsz : (w.alloc (.cells (akC { zA with op := 95 }) 28)).heap.size = w.heap.size + 1 := by simp
  generalize (w.alloc (.cells (akC { zA with op := 95 }) 28)).alloc (.cells (akC zA) 28) = v0 at *
  try rw [hsz]
  obtain ⟨pa, hpa⟩ : ∃ pa, pa = w.heap.size := ⟨_, rfl⟩
  obtain ⟨pr, hpr⟩ : ∃ pr, pr = w.heap.size + 1 := ⟨_, rfl⟩
  rw [← hx0] at H0
  rw [← hpr] at H0 ⊢
  have H0' : Hid (PaAt w v0 pa pr x0) := Lib.hid (by rw [hpa]; exact H0.out)
  rw [← hpa]
  have HX0 := Lib.hid hx0
  clear hsz hx0 hpa hpr H0
  have H0 := Lib.hid H0'.out
  clear H0'
  have c0 : v0.cell? ⟨pa, 0, none⟩ = some (.int .i64 x0.op) := H0.out.a.cell 0
  have f0 := H0.out.a.free 0
  go_upto_region 3 with (fail)
  obtain ⟨x1, hx1⟩ : ∃ x : Ak, x = { x0 with op := 24320 + (y : Int) % 32 } := ⟨_, rfl⟩
  have H1 := Lib.hid (H0.out.set 0 (.int .i64 (24320 + (y : Int) % 32)) x1 (by rw [hx1]; rfl))
  have HX1 := Lib.hid hx1; clear hx1 c0 f0 
  generalize v0.setCell ⟨pa, 0, none⟩ (.int .i64 (24320 + (y : Int) % 32)) = v1 at *
  go_wp2_with (fail)
  refine (HN.out 5 4 v1 (by decide) (by decide) (by rw [HZ.out]; decide)).mono ?_; rintro e v2 ⟨rfl, hb⟩
  have H2 := Lib.hid (H1.out.below hb); clear hb
  obtain ⟨x2, hx2⟩ : ∃ x : Ak, x = x1 := ⟨_, rfl⟩
  rw [← hx2] at H2
  have HX2 := Lib.hid hx2; clear hx2
  rw [HS.out 5 4 (by decide), ← HGG.out]
  have c5 : v2.cell? ⟨pa, 5, none⟩ = some (.int .i64 x2.want) := H2.out.a.cell 5
  have f5 := H2.out.a.free 5
  go_upto_region 9 with (fail)
  obtain ⟨x3, hx3⟩ : ∃ x : Ak, x = { x2 with want := (g : Int) } := ⟨_, rfl⟩
  have H3 := Lib.hid (H2.out.set 5 (.int .i64 (g : Int)) x3 (by rw [hx3]; rfl))
  have HX3 := Lib.hid hx3; clear hx3 c5 f5 
  generalize v2.setCell ⟨pa, 5, none⟩ (.int .i64 (g : Int)) = v3 at *
  have hs := HSS.out
  have hwn : x3.want = (g : Int) := by rw [HX3.out]
  have q1 : (x3.want != 24) = false := by rw [hwn]; simp; omega
  clear hwn
  have q2 : decide ((15 : Int) < (z : Int)) = true := decide_eq_true (by omega)
  have q2p : (15 : Int) < (z : Int) := by omega
  clear hs
  have c5 : v3.cell? ⟨pa, 5, none⟩ = some (.int .i64 x3.want) := H3.out.a.cell 5
  go_upto_region 10 with (fail)
  clear c5
  have r0 : v3.cell? ⟨pr, 0, none⟩ = some (.int .i64 0) := H3.out.r.cell 0
  have g0 := H3.out.r.free 0
  have r1 : v3.cell? ⟨pr, 1, none⟩ = some (.int .i64 0) := H3.out.r.cell 1
  have g1 := H3.out.r.free 1
  have r2 : v3.cell? ⟨pr, 2, none⟩ = some (.int .i64 0) := H3.out.r.cell 2
  have g2 := H3.out.r.free 2
  have r3 : v3.cell? ⟨pr, 3, none⟩ = some (.bool false) := H3.out.r.cell 3
  have g3 := H3.out.r.free 3
  have r4 : v3.cell? ⟨pr, 4, none⟩ = some (.int .i64 0) := H3.out.r.cell 4
  have g4 := H3.out.r.free 4
  have r5 : v3.cell? ⟨pr, 5, none⟩ = some (.int .i64 0) := H3.out.r.cell 5
  have g5 := H3.out.r.free 5
  have r6 : v3.cell? ⟨pr, 6, none⟩ = some (.int .i64 0) := H3.out.r.cell 6
  have g6 := H3.out.r.free 6
  go_wp2_with (fail)
  obtain ⟨hK, hO⟩ := ak_put H3.out.r zA _ rfl
  refine bodyPost_ret_by (results_row1 rfl _ _ pr 28 (akC zA) (0, 0) _ rfl hK Tryd.underlying28 rfl sizeR) rfl ?_
  exact ⟨rfl, H3.out.fin hO⟩
set_option maxRecDepth 100000 in
set_option maxHeartbeats 8000000 in
theorem res_out_6 (s : ByteArray) (w : World) (hz : s.size = 10) (hb : byt s 0 = 95) (hs : big s 5 4 = 24 ∧ byt s 2 ≤ 15 ∧ 6 < byt s 1 % 32) : Calls Tryd.prog 25 #[.string s, akV { zA with op := 95 }] w (AskOut (none) w) := by
  obtain ⟨h1, h2, h3⟩ := two_box w 28 28 { zA with op := 95 } zA _ rfl
  obtain ⟨x0, hx0⟩ : ∃ x : Ak, x = { zA with op := 95 } := ⟨_, rfl⟩
  have H0 := Lib.hid (PaAt.mk h1 h2 h3 (Nat.le_refl _) (Nat.le_succ _) (Nat.ne_of_lt (Nat.lt_succ_self _)))
  clear h1 h2 h3
  have HN := Lib.hid (fun (a n : Nat) v h1 h8 ha => refNum_any s a n v (by unfold maxLen; omega) h1 h8 ha)
  have HS := Lib.hid (fun (a n : Nat) (h : n ≤ 4) => numS_small (s := s) (a := a) (n := n) h)
  have HZ := Lib.hid hz
  have i0 := index_byt s 0 0 rfl (by omega)
  have i1 := index_byt s 1 1 rfl (by omega)
  have i2 := index_byt s 2 2 rfl (by omega)
  have b1 := byt_lt s 1
  have b2 := byt_lt s 2
  rw [hb] at i0
  generalize byt s 1 = y at *
  generalize byt s 2 = z at *
  obtain ⟨g, hg⟩ : ∃ g : Nat, g = big s 5 4 := ⟨_, rfl⟩
  obtain ⟨t, ht⟩ : ∃ t, t = typN (z : Int) := ⟨_, rfl⟩
  try rw [← hg] at hs
  try rw [← ht] at hs
  have HGG := Lib.hid hg; have HTT := Lib.hid ht; have HSS := Lib.hid hs
  clear hb hz hg ht hs
  go_enter Tryd.func25, Tryd.ntmps25
  go_upto_region 1 with (fail)
  change Code.wp _ _ _ _ ((w.alloc (.cells (akC { zA with op := 95 }) 28)).alloc (.cells (akC zA) 28))
  have hsz : (w.alloc (.cells (akC { zA with op := 95 }) 28)).heap.size = w.heap.size + 1 := by simp
  generalize (w.alloc (.cells (akC { zA with op := 95 }) 28)).alloc (.cells (akC zA) 28) = v0 at *
  try rw [hsz]
  obtain ⟨pa, hpa⟩ : ∃ pa, pa = w.heap.size := ⟨_, rfl⟩
  obtain ⟨pr, hpr⟩ : ∃ pr, pr = w.heap.size + 1 := ⟨_, rfl⟩
  rw [← hx0] at H0
  rw [← hpr] at H0 ⊢
  have H0' : Hid (PaAt w v0 pa pr x0) := Lib.hid (by rw [hpa]; exact H0.out)
  rw [← hpa]
  have HX0 := Lib.hid hx0
  clear hsz hx0 hpa hpr H0
  have H0 := Lib.hid H0'.out
  clear H0'
  have c0 : v0.cell? ⟨pa, 0, none⟩ = some (.int .i64 x0.op) := H0.out.a.cell 0
  have f0 := H0.out.a.free 0
  go_upto_region 3 with (fail)
  obtain ⟨x1, hx1⟩ : ∃ x : Ak, x = { x0 with op := 24320 + (y : Int) % 32 } := ⟨_, rfl⟩
  have H1 := Lib.hid (H0.out.set 0 (.int .i64 (24320 + (y : Int) % 32)) x1 (by rw [hx1]; rfl))
  have HX1 := Lib.hid hx1; clear hx1 c0 f0 
  generalize v0.setCell ⟨pa, 0, none⟩ (.int .i64 (24320 + (y : Int) % 32)) = v1 at *
  go_wp2_with (fail)
  refine (HN.out 5 4 v1 (by decide) (by decide) (by rw [HZ.out]; decide)).mono ?_; rintro e v2 ⟨rfl, hb⟩
  have H2 := Lib.hid (H1.out.below hb); clear hb
  obtain ⟨x2, hx2⟩ : ∃ x : Ak, x = x1 := ⟨_, rfl⟩
  rw [← hx2] at H2
  have HX2 := Lib.hid hx2; clear hx2
  rw [HS.out 5 4 (by decide), ← HGG.out]
  have c5 : v2.cell? ⟨pa, 5, none⟩ = some (.int .i64 x2.want) := H2.out.a.cell 5
  have f5 := H2.out.a.free 5
  go_upto_region 9 with (fail)
  obtain ⟨x3, hx3⟩ : ∃ x : Ak, x = { x2 with want := (g : Int) } := ⟨_, rfl⟩
  have H3 := Lib.hid (H2.out.set 5 (.int .i64 (g : Int)) x3 (by rw [hx3]; rfl))
  have HX3 := Lib.hid hx3; clear hx3 c5 f5 
  generalize v2.setCell ⟨pa, 5, none⟩ (.int .i64 (g : Int)) = v3 at *
  have hs := HSS.out
  have hwn : x3.want = (g : Int) := by rw [HX3.out]
  have q1 : (x3.want != 24) = false := by rw [hwn]; simp; omega
  clear hwn
  have q2 : decide ((15 : Int) < (z : Int)) = false := decide_eq_false (by omega)
  have q2p : ¬ (15 : Int) < (z : Int) := by omega
  have q3 : decide ((6 : Int) < (y : Int) % 32) = true := decide_eq_true (by omega)
  have q3p : (6 : Int) < (y : Int) % 32 := by omega
  clear hs
  have c5 : v3.cell? ⟨pa, 5, none⟩ = some (.int .i64 x3.want) := H3.out.a.cell 5
  go_upto_region 10 with (fail)
  clear c5
  have r0 : v3.cell? ⟨pr, 0, none⟩ = some (.int .i64 0) := H3.out.r.cell 0
  have g0 := H3.out.r.free 0
  have r1 : v3.cell? ⟨pr, 1, none⟩ = some (.int .i64 0) := H3.out.r.cell 1
  have g1 := H3.out.r.free 1
  have r2 : v3.cell? ⟨pr, 2, none⟩ = some (.int .i64 0) := H3.out.r.cell 2
  have g2 := H3.out.r.free 2
  have r3 : v3.cell? ⟨pr, 3, none⟩ = some (.bool false) := H3.out.r.cell 3
  have g3 := H3.out.r.free 3
  have r4 : v3.cell? ⟨pr, 4, none⟩ = some (.int .i64 0) := H3.out.r.cell 4
  have g4 := H3.out.r.free 4
  have r5 : v3.cell? ⟨pr, 5, none⟩ = some (.int .i64 0) := H3.out.r.cell 5
  have g5 := H3.out.r.free 5
  have r6 : v3.cell? ⟨pr, 6, none⟩ = some (.int .i64 0) := H3.out.r.cell 6
  have g6 := H3.out.r.free 6
  go_wp2_with (fail)
  obtain ⟨hK, hO⟩ := ak_put H3.out.r zA _ rfl
  refine bodyPost_ret_by (results_row1 rfl _ _ pr 28 (akC zA) (0, 0) _ rfl hK Tryd.underlying28 rfl sizeR) rfl ?_
  exact ⟨rfl, H3.out.fin hO⟩
set_option maxRecDepth 100000 in
set_option maxHeartbeats 8000000 in
theorem res_out_5 (s : ByteArray) (w : World) (hz : s.size = 10) (hb : byt s 0 = 95) (hs : big s 5 4 = 24 ∧ byt s 2 ≤ 15 ∧ byt s 1 % 32 = 5) : Calls Tryd.prog 25 #[.string s, akV { zA with op := 95 }] w (AskOut (none) w) := by
  obtain ⟨h1, h2, h3⟩ := two_box w 28 28 { zA with op := 95 } zA _ rfl
  obtain ⟨x0, hx0⟩ : ∃ x : Ak, x = { zA with op := 95 } := ⟨_, rfl⟩
  have H0 := Lib.hid (PaAt.mk h1 h2 h3 (Nat.le_refl _) (Nat.le_succ _) (Nat.ne_of_lt (Nat.lt_succ_self _)))
  clear h1 h2 h3
  have HN := Lib.hid (fun (a n : Nat) v h1 h8 ha => refNum_any s a n v (by unfold maxLen; omega) h1 h8 ha)
  have HS := Lib.hid (fun (a n : Nat) (h : n ≤ 4) => numS_small (s := s) (a := a) (n := n) h)
  have HZ := Lib.hid hz
  have i0 := index_byt s 0 0 rfl (by omega)
  have i1 := index_byt s 1 1 rfl (by omega)
  have i2 := index_byt s 2 2 rfl (by omega)
  have b1 := byt_lt s 1
  have b2 := byt_lt s 2
  rw [hb] at i0
  generalize byt s 1 = y at *
  generalize byt s 2 = z at *
  obtain ⟨g, hg⟩ : ∃ g : Nat, g = big s 5 4 := ⟨_, rfl⟩
  obtain ⟨t, ht⟩ : ∃ t, t = typN (z : Int) := ⟨_, rfl⟩
  try rw [← hg] at hs
  try rw [← ht] at hs
  have HGG := Lib.hid hg; have HTT := Lib.hid ht; have HSS := Lib.hid hs
  clear hb hz hg ht hs
  go_enter Tryd.func25, Tryd.ntmps25
  go_upto_region 1 with (fail)
  change Code.wp _ _ _ _ ((w.alloc (.cells (akC { zA with op := 95 }) 28)).alloc (.cells (akC zA) 28))
  have hsz : (w.alloc (.cells (akC { zA with op := 95 }) 28)).heap.size = w.heap.size + 1 := by simp
  generalize (w.alloc (.cells (akC { zA with op := 95 }) 28)).alloc (.cells (akC zA) 28) = v0 at *
  try rw [hsz]
  obtain ⟨pa, hpa⟩ : ∃ pa, pa = w.heap.size := ⟨_, rfl⟩
  obtain ⟨pr, hpr⟩ : ∃ pr, pr = w.heap.size + 1 := ⟨_, rfl⟩
  rw [← hx0] at H0
  rw [← hpr] at H0 ⊢
  have H0' : Hid (PaAt w v0 pa pr x0) := Lib.hid (by rw [hpa]; exact H0.out)
  rw [← hpa]
  have HX0 := Lib.hid hx0
  clear hsz hx0 hpa hpr H0
  have H0 := Lib.hid H0'.out
  clear H0'
  have c0 : v0.cell? ⟨pa, 0, none⟩ = some (.int .i64 x0.op) := H0.out.a.cell 0
  have f0 := H0.out.a.free 0
  go_upto_region 3 with (fail)
  obtain ⟨x1, hx1⟩ : ∃ x : Ak, x = { x0 with op := 24320 + (y : Int) % 32 } := ⟨_, rfl⟩
  have H1 := Lib.hid (H0.out.set 0 (.int .i64 (24320 + (y : Int) % 32)) x1 (by rw [hx1]; rfl))
  have HX1 := Lib.hid hx1; clear hx1 c0 f0 
  generalize v0.setCell ⟨pa, 0, none⟩ (.int .i64 (24320 + (y : Int) % 32)) = v1 at *
  go_wp2_with (fail)
  refine (HN.out 5 4 v1 (by decide) (by decide) (by rw [HZ.out]; decide)).mono ?_; rintro e v2 ⟨rfl, hb⟩
  have H2 := Lib.hid (H1.out.below hb); clear hb
  obtain ⟨x2, hx2⟩ : ∃ x : Ak, x = x1 := ⟨_, rfl⟩
  rw [← hx2] at H2
  have HX2 := Lib.hid hx2; clear hx2
  rw [HS.out 5 4 (by decide), ← HGG.out]
  have c5 : v2.cell? ⟨pa, 5, none⟩ = some (.int .i64 x2.want) := H2.out.a.cell 5
  have f5 := H2.out.a.free 5
  go_upto_region 9 with (fail)
  obtain ⟨x3, hx3⟩ : ∃ x : Ak, x = { x2 with want := (g : Int) } := ⟨_, rfl⟩
  have H3 := Lib.hid (H2.out.set 5 (.int .i64 (g : Int)) x3 (by rw [hx3]; rfl))
  have HX3 := Lib.hid hx3; clear hx3 c5 f5 
  generalize v2.setCell ⟨pa, 5, none⟩ (.int .i64 (g : Int)) = v3 at *
  have hs := HSS.out
  have hwn : x3.want = (g : Int) := by rw [HX3.out]
  have q1 : (x3.want != 24) = false := by rw [hwn]; simp; omega
  clear hwn
  have q2 : decide ((15 : Int) < (z : Int)) = false := decide_eq_false (by omega)
  have q2p : ¬ (15 : Int) < (z : Int) := by omega
  have q3 : decide ((6 : Int) < (y : Int) % 32) = false := decide_eq_false (by omega)
  have q3p : ¬ (6 : Int) < (y : Int) % 32 := by omega
  have q4 : ((y : Int) % 32 == 5) = true := by rw [beqI]; exact decide_eq_true (by omega)
  clear hs
  have c5 : v3.cell? ⟨pa, 5, none⟩ = some (.int .i64 x3.want) := H3.out.a.cell 5
  go_upto_region 10 with (fail)
  clear c5
  have r0 : v3.cell? ⟨pr, 0, none⟩ = some (.int .i64 0) := H3.out.r.cell 0
  have g0 := H3.out.r.free 0
  have r1 : v3.cell? ⟨pr, 1, none⟩ = some (.int .i64 0) := H3.out.r.cell 1
  have g1 := H3.out.r.free 1
  have r2 : v3.cell? ⟨pr, 2, none⟩ = some (.int .i64 0) := H3.out.r.cell 2
  have g2 := H3.out.r.free 2
  have r3 : v3.cell? ⟨pr, 3, none⟩ = some (.bool false) := H3.out.r.cell 3
  have g3 := H3.out.r.free 3
  have r4 : v3.cell? ⟨pr, 4, none⟩ = some (.int .i64 0) := H3.out.r.cell 4
  have g4 := H3.out.r.free 4
  have r5 : v3.cell? ⟨pr, 5, none⟩ = some (.int .i64 0) := H3.out.r.cell 5
  have g5 := H3.out.r.free 5
  have r6 : v3.cell? ⟨pr, 6, none⟩ = some (.int .i64 0) := H3.out.r.cell 6
  have g6 := H3.out.r.free 6
  go_wp2_with (fail)
  obtain ⟨hK, hO⟩ := ak_put H3.out.r zA _ rfl
  refine bodyPost_ret_by (results_row1 rfl _ _ pr 28 (akC zA) (0, 0) _ rfl hK Tryd.underlying28 rfl sizeR) rfl ?_
  exact ⟨rfl, H3.out.fin hO⟩
set_option maxRecDepth 100000 in
set_option maxHeartbeats 8000000 in
theorem res_out_o (s : ByteArray) (w : World) (hz : s.size = 10) (hb : byt s 0 = 95) (hs : big s 5 4 = 24 ∧ byt s 2 ≤ 15 ∧ (byt s 1 % 32 = 0 ∨ byt s 1 % 32 = 3 ∨ byt s 1 % 32 = 6)) : Calls Tryd.prog 25 #[.string s, akV { zA with op := 95 }] w (AskOut (some { zA with op := (256 * 95 + byt s 1 % 32 : Nat), want := 24 }) w) := by
  obtain ⟨h1, h2, h3⟩ := two_box w 28 28 { zA with op := 95 } zA _ rfl
  obtain ⟨x0, hx0⟩ : ∃ x : Ak, x = { zA with op := 95 } := ⟨_, rfl⟩
  have H0 := Lib.hid (PaAt.mk h1 h2 h3 (Nat.le_refl _) (Nat.le_succ _) (Nat.ne_of_lt (Nat.lt_succ_self _)))
  clear h1 h2 h3
  have HN := Lib.hid (fun (a n : Nat) v h1 h8 ha => refNum_any s a n v (by unfold maxLen; omega) h1 h8 ha)
  have HS := Lib.hid (fun (a n : Nat) (h : n ≤ 4) => numS_small (s := s) (a := a) (n := n) h)
  have HZ := Lib.hid hz
  have i0 := index_byt s 0 0 rfl (by omega)
  have i1 := index_byt s 1 1 rfl (by omega)
  have i2 := index_byt s 2 2 rfl (by omega)
  have b1 := byt_lt s 1
  have b2 := byt_lt s 2
  rw [hb] at i0
  generalize byt s 1 = y at *
  generalize byt s 2 = z at *
  obtain ⟨g, hg⟩ : ∃ g : Nat, g = big s 5 4 := ⟨_, rfl⟩
  obtain ⟨t, ht⟩ : ∃ t, t = typN (z : Int) := ⟨_, rfl⟩
  try rw [← hg] at hs
  try rw [← ht] at hs
  have HGG := Lib.hid hg; have HTT := Lib.hid ht; have HSS := Lib.hid hs
  clear hb hz hg ht hs
  go_enter Tryd.func25, Tryd.ntmps25
  go_upto_region 1 with (fail)
  change Code.wp _ _ _ _ ((w.alloc (.cells (akC { zA with op := 95 }) 28)).alloc (.cells (akC zA) 28))
  have hsz : (w.alloc (.cells (akC { zA with op := 95 }) 28)).heap.size = w.heap.size + 1 := by simp
  generalize (w.alloc (.cells (akC { zA with op := 95 }) 28)).alloc (.cells (akC zA) 28) = v0 at *
  try rw [hsz]
  obtain ⟨pa, hpa⟩ : ∃ pa, pa = w.heap.size := ⟨_, rfl⟩
  obtain ⟨pr, hpr⟩ : ∃ pr, pr = w.heap.size + 1 := ⟨_, rfl⟩
  rw [← hx0] at H0
  rw [← hpr] at H0 ⊢
  have H0' : Hid (PaAt w v0 pa pr x0) := Lib.hid (by rw [hpa]; exact H0.out)
  rw [← hpa]
  have HX0 := Lib.hid hx0
  clear hsz hx0 hpa hpr H0
  have H0 := Lib.hid H0'.out
  clear H0'
  have c0 : v0.cell? ⟨pa, 0, none⟩ = some (.int .i64 x0.op) := H0.out.a.cell 0
  have f0 := H0.out.a.free 0
  go_upto_region 3 with (fail)
  obtain ⟨x1, hx1⟩ : ∃ x : Ak, x = { x0 with op := 24320 + (y : Int) % 32 } := ⟨_, rfl⟩
  have H1 := Lib.hid (H0.out.set 0 (.int .i64 (24320 + (y : Int) % 32)) x1 (by rw [hx1]; rfl))
  have HX1 := Lib.hid hx1; clear hx1 c0 f0 
  generalize v0.setCell ⟨pa, 0, none⟩ (.int .i64 (24320 + (y : Int) % 32)) = v1 at *
  go_wp2_with (fail)
  refine (HN.out 5 4 v1 (by decide) (by decide) (by rw [HZ.out]; decide)).mono ?_; rintro e v2 ⟨rfl, hb⟩
  have H2 := Lib.hid (H1.out.below hb); clear hb
  obtain ⟨x2, hx2⟩ : ∃ x : Ak, x = x1 := ⟨_, rfl⟩
  rw [← hx2] at H2
  have HX2 := Lib.hid hx2; clear hx2
  rw [HS.out 5 4 (by decide), ← HGG.out]
  have c5 : v2.cell? ⟨pa, 5, none⟩ = some (.int .i64 x2.want) := H2.out.a.cell 5
  have f5 := H2.out.a.free 5
  go_upto_region 9 with (fail)
  obtain ⟨x3, hx3⟩ : ∃ x : Ak, x = { x2 with want := (g : Int) } := ⟨_, rfl⟩
  have H3 := Lib.hid (H2.out.set 5 (.int .i64 (g : Int)) x3 (by rw [hx3]; rfl))
  have HX3 := Lib.hid hx3; clear hx3 c5 f5 
  generalize v2.setCell ⟨pa, 5, none⟩ (.int .i64 (g : Int)) = v3 at *
  have hs := HSS.out
  have hwn : x3.want = (g : Int) := by rw [HX3.out]
  have q1 : (x3.want != 24) = false := by rw [hwn]; simp; omega
  clear hwn
  have q2 : decide ((15 : Int) < (z : Int)) = false := decide_eq_false (by omega)
  have q2p : ¬ (15 : Int) < (z : Int) := by omega
  have q3 : decide ((6 : Int) < (y : Int) % 32) = false := decide_eq_false (by omega)
  have q3p : ¬ (6 : Int) < (y : Int) % 32 := by omega
  have q4 : ((y : Int) % 32 == 5) = false := by rw [beqI]; exact decide_eq_false (by omega)
  have a1 : ((y : Int) % 32 == 1) = false := by rw [beqI]; exact decide_eq_false (by omega)
  have a2 : ((y : Int) % 32 == 2) = false := by rw [beqI]; exact decide_eq_false (by omega)
  have a4 : ((y : Int) % 32 == 4) = false := by rw [beqI]; exact decide_eq_false (by omega)
  clear hs
  have c5 : v3.cell? ⟨pa, 5, none⟩ = some (.int .i64 x3.want) := H3.out.a.cell 5
  go_upto_region 15 with (fail)
  clear c5
  have c0 : v3.cell? ⟨pa, 0, none⟩ = some (.int .i64 x3.op) := H3.out.a.cell 0
  have c1 : v3.cell? ⟨pa, 1, none⟩ = some (.int .i64 x3.lba) := H3.out.a.cell 1
  have c2 : v3.cell? ⟨pa, 2, none⟩ = some (.int .i64 x3.blk) := H3.out.a.cell 2
  have c3 : v3.cell? ⟨pa, 3, none⟩ = some (.bool x3.fu) := H3.out.a.cell 3
  have c4 : v3.cell? ⟨pa, 4, none⟩ = some (.int .i64 x3.page) := H3.out.a.cell 4
  have c5 : v3.cell? ⟨pa, 5, none⟩ = some (.int .i64 x3.want) := H3.out.a.cell 5
  have c6 : v3.cell? ⟨pa, 6, none⟩ = some (.int .i64 x3.ty) := H3.out.a.cell 6
  have r0 : v3.cell? ⟨pr, 0, none⟩ = some (.int .i64 0) := H3.out.r.cell 0
  have g0 := H3.out.r.free 0
  have r1 : v3.cell? ⟨pr, 1, none⟩ = some (.int .i64 0) := H3.out.r.cell 1
  have g1 := H3.out.r.free 1
  have r2 : v3.cell? ⟨pr, 2, none⟩ = some (.int .i64 0) := H3.out.r.cell 2
  have g2 := H3.out.r.free 2
  have r3 : v3.cell? ⟨pr, 3, none⟩ = some (.bool false) := H3.out.r.cell 3
  have g3 := H3.out.r.free 3
  have r4 : v3.cell? ⟨pr, 4, none⟩ = some (.int .i64 0) := H3.out.r.cell 4
  have g4 := H3.out.r.free 4
  have r5 : v3.cell? ⟨pr, 5, none⟩ = some (.int .i64 0) := H3.out.r.cell 5
  have g5 := H3.out.r.free 5
  have r6 : v3.cell? ⟨pr, 6, none⟩ = some (.int .i64 0) := H3.out.r.cell 6
  have g6 := H3.out.r.free 6
  go_wp2_with (fail)
  obtain ⟨hK, hO⟩ := ak_put H3.out.r x3 _ rfl
  refine bodyPost_ret_by (results_row1 rfl _ _ pr 28 (akC x3) (0, 0) _ rfl hK Tryd.underlying28 rfl sizeR) rfl ?_
  have hfin : x3 = { zA with op := (256 * 95 + y % 32 : Nat), want := 24 } := by
    rw [HX3.out, HX2.out, HX1.out, HX0.out]
    have hs := HSS.out
    rw [show ((24 : Int)) = (g : Int) by omega]
    show Ak.mk (24320 + (y : Int) % 32) _ _ _ _ _ _ = Ak.mk ((256 * 95 + y % 32 : Nat) : Int) _ _ _ _ _ _
    rw [show ((256 * 95 + y % 32 : Nat) : Int) = 24320 + (y : Int) % 32 by omega]
  exact ⟨by rw [hfin]; rfl, H3.out.fin hO⟩
set_option maxRecDepth 100000 in
set_option maxHeartbeats 8000000 in
theorem res_out_n1 (s : ByteArray) (w : World) (hz : s.size = 10) (hb : byt s 0 = 95) (hs : big s 5 4 = 24 ∧ byt s 2 ≤ 15 ∧ byt s 1 % 32 = 1 ∧ typN (byt s 2 : Int) = 0) : Calls Tryd.prog 25 #[.string s, akV { zA with op := 95 }] w (AskOut (none) w) := by
  obtain ⟨h1, h2, h3⟩ := two_box w 28 28 { zA with op := 95 } zA _ rfl
  obtain ⟨x0, hx0⟩ : ∃ x : Ak, x = { zA with op := 95 } := ⟨_, rfl⟩
  have H0 := Lib.hid (PaAt.mk h1 h2 h3 (Nat.le_refl _) (Nat.le_succ _) (Nat.ne_of_lt (Nat.lt_succ_self _)))
  clear h1 h2 h3
  have HN := Lib.hid (fun (a n : Nat) v h1 h8 ha => refNum_any s a n v (by unfold maxLen; omega) h1 h8 ha)
  have HS := Lib.hid (fun (a n : Nat) (h : n ≤ 4) => numS_small (s := s) (a := a) (n := n) h)
  have HZ := Lib.hid hz
  have i0 := index_byt s 0 0 rfl (by omega)
  have i1 := index_byt s 1 1 rfl (by omega)
  have i2 := index_byt s 2 2 rfl (by omega)
  have b1 := byt_lt s 1
  have b2 := byt_lt s 2
  rw [hb] at i0
  generalize byt s 1 = y at *
  generalize byt s 2 = z at *
  obtain ⟨g, hg⟩ : ∃ g : Nat, g = big s 5 4 := ⟨_, rfl⟩
  obtain ⟨t, ht⟩ : ∃ t, t = typN (z : Int) := ⟨_, rfl⟩
  try rw [← hg] at hs
  try rw [← ht] at hs
  have HGG := Lib.hid hg; have HTT := Lib.hid ht; have HSS := Lib.hid hs
  clear hb hz hg ht hs
  go_enter Tryd.func25, Tryd.ntmps25
  go_upto_region 1 with (fail)
  change Code.wp _ _ _ _ ((w.alloc (.cells (akC { zA with op := 95 }) 28)).alloc (.cells (akC zA) 28))
  have hsz : (w.alloc (.cells (akC { zA with op := 95 }) 28)).heap.size = w.heap.size + 1 := by simp
  generalize (w.alloc (.cells (akC { zA with op := 95 }) 28)).alloc (.cells (akC zA) 28) = v0 at *
  try rw [hsz]
  obtain ⟨pa, hpa⟩ : ∃ pa, pa = w.heap.size := ⟨_, rfl⟩
  obtain ⟨pr, hpr⟩ : ∃ pr, pr = w.heap.size + 1 := ⟨_, rfl⟩
  rw [← hx0] at H0
  rw [← hpr] at H0 ⊢
  have H0' : Hid (PaAt w v0 pa pr x0) := Lib.hid (by rw [hpa]; exact H0.out)
  rw [← hpa]
  have HX0 := Lib.hid hx0
  clear hsz hx0 hpa hpr H0
  have H0 := Lib.hid H0'.out
  clear H0'
  have c0 : v0.cell? ⟨pa, 0, none⟩ = some (.int .i64 x0.op) := H0.out.a.cell 0
  have f0 := H0.out.a.free 0
  go_upto_region 3 with (fail)
  obtain ⟨x1, hx1⟩ : ∃ x : Ak, x = { x0 with op := 24320 + (y : Int) % 32 } := ⟨_, rfl⟩
  have H1 := Lib.hid (H0.out.set 0 (.int .i64 (24320 + (y : Int) % 32)) x1 (by rw [hx1]; rfl))
  have HX1 := Lib.hid hx1; clear hx1 c0 f0 
  generalize v0.setCell ⟨pa, 0, none⟩ (.int .i64 (24320 + (y : Int) % 32)) = v1 at *
  go_wp2_with (fail)
  refine (HN.out 5 4 v1 (by decide) (by decide) (by rw [HZ.out]; decide)).mono ?_; rintro e v2 ⟨rfl, hb⟩
  have H2 := Lib.hid (H1.out.below hb); clear hb
  obtain ⟨x2, hx2⟩ : ∃ x : Ak, x = x1 := ⟨_, rfl⟩
  rw [← hx2] at H2
  have HX2 := Lib.hid hx2; clear hx2
  rw [HS.out 5 4 (by decide), ← HGG.out]
  have c5 : v2.cell? ⟨pa, 5, none⟩ = some (.int .i64 x2.want) := H2.out.a.cell 5
  have f5 := H2.out.a.free 5
  go_upto_region 9 with (fail)
  obtain ⟨x3, hx3⟩ : ∃ x : Ak, x = { x2 with want := (g : Int) } := ⟨_, rfl⟩
  have H3 := Lib.hid (H2.out.set 5 (.int .i64 (g : Int)) x3 (by rw [hx3]; rfl))
  have HX3 := Lib.hid hx3; clear hx3 c5 f5 
  generalize v2.setCell ⟨pa, 5, none⟩ (.int .i64 (g : Int)) = v3 at *
  have hs := HSS.out
  have hwn : x3.want = (g : Int) := by rw [HX3.out]
  have q1 : (x3.want != 24) = false := by rw [hwn]; simp; omega
  clear hwn
  have q2 : decide ((15 : Int) < (z : Int)) = false := decide_eq_false (by omega)
  have q2p : ¬ (15 : Int) < (z : Int) := by omega
  have q3 : decide ((6 : Int) < (y : Int) % 32) = false := decide_eq_false (by omega)
  have q3p : ¬ (6 : Int) < (y : Int) % 32 := by omega
  have q4 : ((y : Int) % 32 == 5) = false := by rw [beqI]; exact decide_eq_false (by omega)
  have a1 : ((y : Int) % 32 == 1) = true := by rw [beqI]; exact decide_eq_true (by omega)
  clear hs
  have c5 : v3.cell? ⟨pa, 5, none⟩ = some (.int .i64 x3.want) := H3.out.a.cell 5
  have HT := Lib.hid (fun v => refTyp_any (z : Int) v)
  go_wp2_with (fail)
  refine (HT.out v3).mono ?_; rintro e v4 ⟨rfl, hb⟩
  have H4 := Lib.hid (H3.out.below hb); clear hb
  obtain ⟨x4, hx4⟩ : ∃ x : Ak, x = x3 := ⟨_, rfl⟩
  rw [← hx4] at H4
  have HX4 := Lib.hid hx4; clear hx4
  clear c5
  rw [← HTT.out]
  have c6 : v4.cell? ⟨pa, 6, none⟩ = some (.int .i64 x4.ty) := H4.out.a.cell 6
  have f6 := H4.out.a.free 6
  go_upto_region 13 with (fail)
  obtain ⟨x5, hx5⟩ : ∃ x : Ak, x = { x4 with ty := t } := ⟨_, rfl⟩
  have H5 := Lib.hid (H4.out.set 6 (.int .i64 t) x5 (by rw [hx5]; rfl))
  have HX5 := Lib.hid hx5; clear hx5 c6 f6 
  generalize v4.setCell ⟨pa, 6, none⟩ (.int .i64 t) = v5 at *
  have hs := HSS.out
  have q5 : (x5.ty == 0) = true := by rw [HX5.out, beqI]; show decide (t = 0) = _; exact decide_eq_true hs.2.2.2
  clear hs
  have c6 : v5.cell? ⟨pa, 6, none⟩ = some (.int .i64 x5.ty) := H5.out.a.cell 6
  go_upto_region 14 with (fail)
  clear c6
  have r0 : v5.cell? ⟨pr, 0, none⟩ = some (.int .i64 0) := H5.out.r.cell 0
  have g0 := H5.out.r.free 0
  have r1 : v5.cell? ⟨pr, 1, none⟩ = some (.int .i64 0) := H5.out.r.cell 1
  have g1 := H5.out.r.free 1
  have r2 : v5.cell? ⟨pr, 2, none⟩ = some (.int .i64 0) := H5.out.r.cell 2
  have g2 := H5.out.r.free 2
  have r3 : v5.cell? ⟨pr, 3, none⟩ = some (.bool false) := H5.out.r.cell 3
  have g3 := H5.out.r.free 3
  have r4 : v5.cell? ⟨pr, 4, none⟩ = some (.int .i64 0) := H5.out.r.cell 4
  have g4 := H5.out.r.free 4
  have r5 : v5.cell? ⟨pr, 5, none⟩ = some (.int .i64 0) := H5.out.r.cell 5
  have g5 := H5.out.r.free 5
  have r6 : v5.cell? ⟨pr, 6, none⟩ = some (.int .i64 0) := H5.out.r.cell 6
  have g6 := H5.out.r.free 6
  go_wp2_with (fail)
  obtain ⟨hK, hO⟩ := ak_put H5.out.r zA _ rfl
  refine bodyPost_ret_by (results_row1 rfl _ _ pr 28 (akC zA) (0, 0) _ rfl hK Tryd.underlying28 rfl sizeR) rfl ?_
  exact ⟨rfl, H5.out.fin hO⟩
set_option maxRecDepth 100000 in
set_option maxHeartbeats 8000000 in
theorem res_out_t1 (s : ByteArray) (w : World) (hz : s.size = 10) (hb : byt s 0 = 95) (hs : big s 5 4 = 24 ∧ byt s 2 ≤ 15 ∧ byt s 1 % 32 = 1 ∧ typN (byt s 2 : Int) ≠ 0) : Calls Tryd.prog 25 #[.string s, akV { zA with op := 95 }] w (AskOut (some { zA with op := (256 * 95 + byt s 1 % 32 : Nat), want := 24, ty := typN (byt s 2) }) w) := by
  obtain ⟨h1, h2, h3⟩ := two_box w 28 28 { zA with op := 95 } zA _ rfl
  obtain ⟨x0, hx0⟩ : ∃ x : Ak, x = { zA with op := 95 } := ⟨_, rfl⟩
  have H0 := Lib.hid (PaAt.mk h1 h2 h3 (Nat.le_refl _) (Nat.le_succ _) (Nat.ne_of_lt (Nat.lt_succ_self _)))
  clear h1 h2 h3
  have HN := Lib.hid (fun (a n : Nat) v h1 h8 ha => refNum_any s a n v (by unfold maxLen; omega) h1 h8 ha)
  have HS := Lib.hid (fun (a n : Nat) (h : n ≤ 4) => numS_small (s := s) (a := a) (n := n) h)
  have HZ := Lib.hid hz
  have i0 := index_byt s 0 0 rfl (by omega)
  have i1 := index_byt s 1 1 rfl (by omega)
  have i2 := index_byt s 2 2 rfl (by omega)
  have b1 := byt_lt s 1
  have b2 := byt_lt s 2
  rw [hb] at i0
  generalize byt s 1 = y at *
  generalize byt s 2 = z at *
  obtain ⟨g, hg⟩ : ∃ g : Nat, g = big s 5 4 := ⟨_, rfl⟩
  obtain ⟨t, ht⟩ : ∃ t, t = typN (z : Int) := ⟨_, rfl⟩
  try rw [← hg] at hs
  try rw [← ht] at hs
  have HGG := Lib.hid hg; have HTT := Lib.hid ht; have HSS := Lib.hid hs
  clear hb hz hg ht hs
  go_enter Tryd.func25, Tryd.ntmps25
  go_upto_region 1 with (fail)
  change Code.wp _ _ _ _ ((w.alloc (.cells (akC { zA with op := 95 }) 28)).alloc (.cells (akC zA) 28))
  have hsz : (w.alloc (.cells (akC { zA with op := 95 }) 28)).heap.size = w.heap.size + 1 := by simp
  generalize (w.alloc (.cells (akC { zA with op := 95 }) 28)).alloc (.cells (akC zA) 28) = v0 at *
  try rw [hsz]
  obtain ⟨pa, hpa⟩ : ∃ pa, pa = w.heap.size := ⟨_, rfl⟩
  obtain ⟨pr, hpr⟩ : ∃ pr, pr = w.heap.size + 1 := ⟨_, rfl⟩
  rw [← hx0] at H0
  rw [← hpr] at H0 ⊢
  have H0' : Hid (PaAt w v0 pa pr x0) := Lib.hid (by rw [hpa]; exact H0.out)
  rw [← hpa]
  have HX0 := Lib.hid hx0
  clear hsz hx0 hpa hpr H0
  have H0 := Lib.hid H0'.out
  clear H0'
  have c0 : v0.cell? ⟨pa, 0, none⟩ = some (.int .i64 x0.op) := H0.out.a.cell 0
  have f0 := H0.out.a.free 0
  go_upto_region 3 with (fail)
  obtain ⟨x1, hx1⟩ : ∃ x : Ak, x = { x0 with op := 24320 + (y : Int) % 32 } := ⟨_, rfl⟩
  have H1 := Lib.hid (H0.out.set 0 (.int .i64 (24320 + (y : Int) % 32)) x1 (by rw [hx1]; rfl))
  have HX1 := Lib.hid hx1; clear hx1 c0 f0 
  generalize v0.setCell ⟨pa, 0, none⟩ (.int .i64 (24320 + (y : Int) % 32)) = v1 at *
  go_wp2_with (fail)
  refine (HN.out 5 4 v1 (by decide) (by decide) (by rw [HZ.out]; decide)).mono ?_; rintro e v2 ⟨rfl, hb⟩
  have H2 := Lib.hid (H1.out.below hb); clear hb
  obtain ⟨x2, hx2⟩ : ∃ x : Ak, x = x1 := ⟨_, rfl⟩
  rw [← hx2] at H2
  have HX2 := Lib.hid hx2; clear hx2
  rw [HS.out 5 4 (by decide), ← HGG.out]
  have c5 : v2.cell? ⟨pa, 5, none⟩ = some (.int .i64 x2.want) := H2.out.a.cell 5
  have f5 := H2.out.a.free 5
  go_upto_region 9 with (fail)
  obtain ⟨x3, hx3⟩ : ∃ x : Ak, x = { x2 with want := (g : Int) } := ⟨_, rfl⟩
  have H3 := Lib.hid (H2.out.set 5 (.int .i64 (g : Int)) x3 (by rw [hx3]; rfl))
  have HX3 := Lib.hid hx3; clear hx3 c5 f5 
  generalize v2.setCell ⟨pa, 5, none⟩ (.int .i64 (g : Int)) = v3 at *
  have hs := HSS.out
  have hwn : x3.want = (g : Int) := by rw [HX3.out]
  have q1 : (x3.want != 24) = false := by rw [hwn]; simp; omega
  clear hwn
  have q2 : decide ((15 : Int) < (z : Int)) = false := decide_eq_false (by omega)
  have q2p : ¬ (15 : Int) < (z : Int) := by omega
  have q3 : decide ((6 : Int) < (y : Int) % 32) = false := decide_eq_false (by omega)
  have q3p : ¬ (6 : Int) < (y : Int) % 32 := by omega
  have q4 : ((y : Int) % 32 == 5) = false := by rw [beqI]; exact decide_eq_false (by omega)
  have a1 : ((y : Int) % 32 == 1) = true := by rw [beqI]; exact decide_eq_true (by omega)
  clear hs
  have c5 : v3.cell? ⟨pa, 5, none⟩ = some (.int .i64 x3.want) := H3.out.a.cell 5
  have HT := Lib.hid (fun v => refTyp_any (z : Int) v)
  go_wp2_with (fail)
  refine (HT.out v3).mono ?_; rintro e v4 ⟨rfl, hb⟩
  have H4 := Lib.hid (H3.out.below hb); clear hb
  obtain ⟨x4, hx4⟩ : ∃ x : Ak, x = x3 := ⟨_, rfl⟩
  rw [← hx4] at H4
  have HX4 := Lib.hid hx4; clear hx4
  clear c5
  rw [← HTT.out]
  have c6 : v4.cell? ⟨pa, 6, none⟩ = some (.int .i64 x4.ty) := H4.out.a.cell 6
  have f6 := H4.out.a.free 6
  go_upto_region 13 with (fail)
  obtain ⟨x5, hx5⟩ : ∃ x : Ak, x = { x4 with ty := t } := ⟨_, rfl⟩
  have H5 := Lib.hid (H4.out.set 6 (.int .i64 t) x5 (by rw [hx5]; rfl))
  have HX5 := Lib.hid hx5; clear hx5 c6 f6 
  generalize v4.setCell ⟨pa, 6, none⟩ (.int .i64 t) = v5 at *
  have hs := HSS.out
  have q5 : (x5.ty == 0) = false := by rw [HX5.out, beqI]; show decide (t = 0) = _; exact decide_eq_false hs.2.2.2
  clear hs
  have c6 : v5.cell? ⟨pa, 6, none⟩ = some (.int .i64 x5.ty) := H5.out.a.cell 6
  go_upto_region 15 with (fail)
  clear c6
  have c0 : v5.cell? ⟨pa, 0, none⟩ = some (.int .i64 x5.op) := H5.out.a.cell 0
  have c1 : v5.cell? ⟨pa, 1, none⟩ = some (.int .i64 x5.lba) := H5.out.a.cell 1
  have c2 : v5.cell? ⟨pa, 2, none⟩ = some (.int .i64 x5.blk) := H5.out.a.cell 2
  have c3 : v5.cell? ⟨pa, 3, none⟩ = some (.bool x5.fu) := H5.out.a.cell 3
  have c4 : v5.cell? ⟨pa, 4, none⟩ = some (.int .i64 x5.page) := H5.out.a.cell 4
  have c5 : v5.cell? ⟨pa, 5, none⟩ = some (.int .i64 x5.want) := H5.out.a.cell 5
  have c6 : v5.cell? ⟨pa, 6, none⟩ = some (.int .i64 x5.ty) := H5.out.a.cell 6
  have r0 : v5.cell? ⟨pr, 0, none⟩ = some (.int .i64 0) := H5.out.r.cell 0
  have g0 := H5.out.r.free 0
  have r1 : v5.cell? ⟨pr, 1, none⟩ = some (.int .i64 0) := H5.out.r.cell 1
  have g1 := H5.out.r.free 1
  have r2 : v5.cell? ⟨pr, 2, none⟩ = some (.int .i64 0) := H5.out.r.cell 2
  have g2 := H5.out.r.free 2
  have r3 : v5.cell? ⟨pr, 3, none⟩ = some (.bool false) := H5.out.r.cell 3
  have g3 := H5.out.r.free 3
  have r4 : v5.cell? ⟨pr, 4, none⟩ = some (.int .i64 0) := H5.out.r.cell 4
  have g4 := H5.out.r.free 4
  have r5 : v5.cell? ⟨pr, 5, none⟩ = some (.int .i64 0) := H5.out.r.cell 5
  have g5 := H5.out.r.free 5
  have r6 : v5.cell? ⟨pr, 6, none⟩ = some (.int .i64 0) := H5.out.r.cell 6
  have g6 := H5.out.r.free 6
  go_wp2_with (fail)
  obtain ⟨hK, hO⟩ := ak_put H5.out.r x5 _ rfl
  refine bodyPost_ret_by (results_row1 rfl _ _ pr 28 (akC x5) (0, 0) _ rfl hK Tryd.underlying28 rfl sizeR) rfl ?_
  have hfin : x5 = { zA with op := (256 * 95 + y % 32 : Nat), want := 24, ty := typN (z : Int) } := by
    rw [HX5.out, HX4.out, HX3.out, HX2.out, HX1.out, HX0.out]
    have hs := HSS.out
    rw [← HTT.out, show ((24 : Int)) = (g : Int) by omega]
    show Ak.mk (24320 + (y : Int) % 32) _ _ _ _ _ _ = Ak.mk ((256 * 95 + y % 32 : Nat) : Int) _ _ _ _ _ _
    rw [show ((256 * 95 + y % 32 : Nat) : Int) = 24320 + (y : Int) % 32 by omega]
  exact ⟨by rw [hfin]; rfl, H5.out.fin hO⟩
set_option maxRecDepth 100000 in
set_option maxHeartbeats 8000000 in
theorem res_out_n2 (s : ByteArray) (w : World) (hz : s.size = 10) (hb : byt s 0 = 95) (hs : big s 5 4 = 24 ∧ byt s 2 ≤ 15 ∧ byt s 1 % 32 = 2 ∧ typN (byt s 2 : Int) = 0) : Calls Tryd.prog 25 #[.string s, akV { zA with op := 95 }] w (AskOut (none) w) := by
  obtain ⟨h1, h2, h3⟩ := two_box w 28 28 { zA with op := 95 } zA _ rfl
  obtain ⟨x0, hx0⟩ : ∃ x : Ak, x = { zA with op := 95 } := ⟨_, rfl⟩
  have H0 := Lib.hid (PaAt.mk h1 h2 h3 (Nat.le_refl _) (Nat.le_succ _) (Nat.ne_of_lt (Nat.lt_succ_self _)))
  clear h1 h2 h3
  have HN := Lib.hid (fun (a n : Nat) v h1 h8 ha => refNum_any s a n v (by unfold maxLen; omega) h1 h8 ha)
  have HS := Lib.hid (fun (a n : Nat) (h : n ≤ 4) => numS_small (s := s) (a := a) (n := n) h)
  have HZ := Lib.hid hz
  have i0 := index_byt s 0 0 rfl (by omega)
  have i1 := index_byt s 1 1 rfl (by omega)
  have i2 := index_byt s 2 2 rfl (by omega)
  have b1 := byt_lt s 1
  have b2 := byt_lt s 2
  rw [hb] at i0
  generalize byt s 1 = y at *
  generalize byt s 2 = z at *
  obtain ⟨g, hg⟩ : ∃ g : Nat, g = big s 5 4 := ⟨_, rfl⟩
  obtain ⟨t, ht⟩ : ∃ t, t = typN (z : Int) := ⟨_, rfl⟩
  try rw [← hg] at hs
  try rw [← ht] at hs
  have HGG := Lib.hid hg; have HTT := Lib.hid ht; have HSS := Lib.hid hs
  clear hb hz hg ht hs
  go_enter Tryd.func25, Tryd.ntmps25
  go_upto_region 1 with (fail)
  change Code.wp _ _ _ _ ((w.alloc (.cells (akC { zA with op := 95 }) 28)).alloc (.cells (akC zA) 28))
  have hsz : (w.alloc (.cells (akC { zA with op := 95 }) 28)).heap.size = w.heap.size + 1 := by simp
  generalize (w.alloc (.cells (akC { zA with op := 95 }) 28)).alloc (.cells (akC zA) 28) = v0 at *
  try rw [hsz]
  obtain ⟨pa, hpa⟩ : ∃ pa, pa = w.heap.size := ⟨_, rfl⟩
  obtain ⟨pr, hpr⟩ : ∃ pr, pr = w.heap.size + 1 := ⟨_, rfl⟩
  rw [← hx0] at H0
  rw [← hpr] at H0 ⊢
  have H0' : Hid (PaAt w v0 pa pr x0) := Lib.hid (by rw [hpa]; exact H0.out)
  rw [← hpa]
  have HX0 := Lib.hid hx0
  clear hsz hx0 hpa hpr H0
  have H0 := Lib.hid H0'.out
  clear H0'
  have c0 : v0.cell? ⟨pa, 0, none⟩ = some (.int .i64 x0.op) := H0.out.a.cell 0
  have f0 := H0.out.a.free 0
  go_upto_region 3 with (fail)
  obtain ⟨x1, hx1⟩ : ∃ x : Ak, x = { x0 with op := 24320 + (y : Int) % 32 } := ⟨_, rfl⟩
  have H1 := Lib.hid (H0.out.set 0 (.int .i64 (24320 + (y : Int) % 32)) x1 (by rw [hx1]; rfl))
  have HX1 := Lib.hid hx1; clear hx1 c0 f0 
  generalize v0.setCell ⟨pa, 0, none⟩ (.int .i64 (24320 + (y : Int) % 32)) = v1 at *
  go_wp2_with (fail)
  refine (HN.out 5 4 v1 (by decide) (by decide) (by rw [HZ.out]; decide)).mono ?_; rintro e v2 ⟨rfl, hb⟩
  have H2 := Lib.hid (H1.out.below hb); clear hb
  obtain ⟨x2, hx2⟩ : ∃ x : Ak, x = x1 := ⟨_, rfl⟩
  rw [← hx2] at H2
  have HX2 := Lib.hid hx2; clear hx2
  rw [HS.out 5 4 (by decide), ← HGG.out]
  have c5 : v2.cell? ⟨pa, 5, none⟩ = some (.int .i64 x2.want) := H2.out.a.cell 5
  have f5 := H2.out.a.free 5
  go_upto_region 9 with (fail)
  obtain ⟨x3, hx3⟩ : ∃ x : Ak, x = { x2 with want := (g : Int) } := ⟨_, rfl⟩
  have H3 := Lib.hid (H2.out.set 5 (.int .i64 (g : Int)) x3 (by rw [hx3]; rfl))
  have HX3 := Lib.hid hx3; clear hx3 c5 f5 
  generalize v2.setCell ⟨pa, 5, none⟩ (.int .i64 (g : Int)) = v3 at *
  have hs := HSS.out
  have hwn : x3.want = (g : Int) := by rw [HX3.out]
  have q1 : (x3.want != 24) = false := by rw [hwn]; simp; omega
  clear hwn
  have q2 : decide ((15 : Int) < (z : Int)) = false := decide_eq_false (by omega)
  have q2p : ¬ (15 : Int) < (z : Int) := by omega
  have q3 : decide ((6 : Int) < (y : Int) % 32) = false := decide_eq_false (by omega)
  have q3p : ¬ (6 : Int) < (y : Int) % 32 := by omega
  have q4 : ((y : Int) % 32 == 5) = false := by rw [beqI]; exact decide_eq_false (by omega)
  have a1 : ((y : Int) % 32 == 1) = false := by rw [beqI]; exact decide_eq_false (by omega)
  have a2 : ((y : Int) % 32 == 2) = true := by rw [beqI]; exact decide_eq_true (by omega)
  clear hs
  have c5 : v3.cell? ⟨pa, 5, none⟩ = some (.int .i64 x3.want) := H3.out.a.cell 5
  have HT := Lib.hid (fun v => refTyp_any (z : Int) v)
  go_wp2_with (fail)
  refine (HT.out v3).mono ?_; rintro e v4 ⟨rfl, hb⟩
  have H4 := Lib.hid (H3.out.below hb); clear hb
  obtain ⟨x4, hx4⟩ : ∃ x : Ak, x = x3 := ⟨_, rfl⟩
  rw [← hx4] at H4
  have HX4 := Lib.hid hx4; clear hx4
  clear c5
  rw [← HTT.out]
  have c6 : v4.cell? ⟨pa, 6, none⟩ = some (.int .i64 x4.ty) := H4.out.a.cell 6
  have f6 := H4.out.a.free 6
  go_upto_region 13 with (fail)
  obtain ⟨x5, hx5⟩ : ∃ x : Ak, x = { x4 with ty := t } := ⟨_, rfl⟩
  have H5 := Lib.hid (H4.out.set 6 (.int .i64 t) x5 (by rw [hx5]; rfl))
  have HX5 := Lib.hid hx5; clear hx5 c6 f6 
  generalize v4.setCell ⟨pa, 6, none⟩ (.int .i64 t) = v5 at *
  have hs := HSS.out
  have q5 : (x5.ty == 0) = true := by rw [HX5.out, beqI]; show decide (t = 0) = _; exact decide_eq_true hs.2.2.2
  clear hs
  have c6 : v5.cell? ⟨pa, 6, none⟩ = some (.int .i64 x5.ty) := H5.out.a.cell 6
  go_upto_region 14 with (fail)
  clear c6
  have r0 : v5.cell? ⟨pr, 0, none⟩ = some (.int .i64 0) := H5.out.r.cell 0
  have g0 := H5.out.r.free 0
  have r1 : v5.cell? ⟨pr, 1, none⟩ = some (.int .i64 0) := H5.out.r.cell 1
  have g1 := H5.out.r.free 1
  have r2 : v5.cell? ⟨pr, 2, none⟩ = some (.int .i64 0) := H5.out.r.cell 2
  have g2 := H5.out.r.free 2
  have r3 : v5.cell? ⟨pr, 3, none⟩ = some (.bool false) := H5.out.r.cell 3
  have g3 := H5.out.r.free 3
  have r4 : v5.cell? ⟨pr, 4, none⟩ = some (.int .i64 0) := H5.out.r.cell 4
  have g4 := H5.out.r.free 4
  have r5 : v5.cell? ⟨pr, 5, none⟩ = some (.int .i64 0) := H5.out.r.cell 5
  have g5 := H5.out.r.free 5
  have r6 : v5.cell? ⟨pr, 6, none⟩ = some (.int .i64 0) := H5.out.r.cell 6
  have g6 := H5.out.r.free 6
  go_wp2_with (fail)
  obtain ⟨hK, hO⟩ := ak_put H5.out.r zA _ rfl
  refine bodyPost_ret_by (results_row1 rfl _ _ pr 28 (akC zA) (0, 0) _ rfl hK Tryd.underlying28 rfl sizeR) rfl ?_
  exact ⟨rfl, H5.out.fin hO⟩
set_option maxRecDepth 100000 in
set_option maxHeartbeats 8000000 in
theorem res_out_t2 (s : ByteArray) (w : World) (hz : s.size = 10) (hb : byt s 0 = 95) (hs : big s 5 4 = 24 ∧ byt s 2 ≤ 15 ∧ byt s 1 % 32 = 2 ∧ typN (byt s 2 : Int) ≠ 0) : Calls Tryd.prog 25 #[.string s, akV { zA with op := 95 }] w (AskOut (some { zA with op := (256 * 95 + byt s 1 % 32 : Nat), want := 24, ty := typN (byt s 2) }) w) := by
  obtain ⟨h1, h2, h3⟩ := two_box w 28 28 { zA with op := 95 } zA _ rfl
  obtain ⟨x0, hx0⟩ : ∃ x : Ak, x = { zA with op := 95 } := ⟨_, rfl⟩
  have H0 := Lib.hid (PaAt.mk h1 h2 h3 (Nat.le_refl _) (Nat.le_succ _) (Nat.ne_of_lt (Nat.lt_succ_self _)))
  clear h1 h2 h3
  have HN := Lib.hid (fun (a n : Nat) v h1 h8 ha => refNum_any s a n v (by unfold maxLen; omega) h1 h8 ha)
  have HS := Lib.hid (fun (a n : Nat) (h : n ≤ 4) => numS_small (s := s) (a := a) (n := n) h)
  have HZ := Lib.hid hz
  have i0 := index_byt s 0 0 rfl (by omega)
  have i1 := index_byt s 1 1 rfl (by omega)
  have i2 := index_byt s 2 2 rfl (by omega)
  have b1 := byt_lt s 1
  have b2 := byt_lt s 2
  rw [hb] at i0
  generalize byt s 1 = y at *
  generalize byt s 2 = z at *
  obtain ⟨g, hg⟩ : ∃ g : Nat, g = big s 5 4 := ⟨_, rfl⟩
  obtain ⟨t, ht⟩ : ∃ t, t = typN (z : Int) := ⟨_, rfl⟩
  try rw [← hg] at hs
  try rw [← ht] at hs
  have HGG := Lib.hid hg; have HTT := Lib.hid ht; have HSS := Lib.hid hs
  clear hb hz hg ht hs
  go_enter Tryd.func25, Tryd.ntmps25
  go_upto_region 1 with (fail)
  change Code.wp _ _ _ _ ((w.alloc (.cells (akC { zA with op := 95 }) 28)).alloc (.cells (akC zA) 28))
  have hsz : (w.alloc (.cells (akC { zA with op := 95 }) 28)).heap.size = w.heap.size + 1 := by simp
  generalize (w.alloc (.cells (akC { zA with op := 95 }) 28)).alloc (.cells (akC zA) 28) = v0 at *
  try rw [hsz]
  obtain ⟨pa, hpa⟩ : ∃ pa, pa = w.heap.size := ⟨_, rfl⟩
  obtain ⟨pr, hpr⟩ : ∃ pr, pr = w.heap.size + 1 := ⟨_, rfl⟩
  rw [← hx0] at H0
  rw [← hpr] at H0 ⊢
  have H0' : Hid (PaAt w v0 pa pr x0) := Lib.hid (by rw [hpa]; exact H0.out)
  rw [← hpa]
  have HX0 := Lib.hid hx0
  clear hsz hx0 hpa hpr H0
  have H0 := Lib.hid H0'.out
  clear H0'
  have c0 : v0.cell? ⟨pa, 0, none⟩ = some (.int .i64 x0.op) := H0.out.a.cell 0
  have f0 := H0.out.a.free 0
  go_upto_region 3 with (fail)
  obtain ⟨x1, hx1⟩ : ∃ x : Ak, x = { x0 with op := 24320 + (y : Int) % 32 } := ⟨_, rfl⟩
  have H1 := Lib.hid (H0.out.set 0 (.int .i64 (24320 + (y : Int) % 32)) x1 (by rw [hx1]; rfl))
  have HX1 := Lib.hid hx1; clear hx1 c0 f0 
  generalize v0.setCell ⟨pa, 0, none⟩ (.int .i64 (24320 + (y : Int) % 32)) = v1 at *
  go_wp2_with (fail)
  refine (HN.out 5 4 v1 (by decide) (by decide) (by rw [HZ.out]; decide)).mono ?_; rintro e v2 ⟨rfl, hb⟩
  have H2 := Lib.hid (H1.out.below hb); clear hb
  obtain ⟨x2, hx2⟩ : ∃ x : Ak, x = x1 := ⟨_, rfl⟩
  rw [← hx2] at H2
  have HX2 := Lib.hid hx2; clear hx2
  rw [HS.out 5 4 (by decide), ← HGG.out]
  have c5 : v2.cell? ⟨pa, 5, none⟩ = some (.int .i64 x2.want) := H2.out.a.cell 5
  have f5 := H2.out.a.free 5
  go_upto_region 9 with (fail)
  obtain ⟨x3, hx3⟩ : ∃ x : Ak, x = { x2 with want := (g : Int) } := ⟨_, rfl⟩
  have H3 := Lib.hid (H2.out.set 5 (.int .i64 (g : Int)) x3 (by rw [hx3]; rfl))
  have HX3 := Lib.hid hx3; clear hx3 c5 f5 
  generalize v2.setCell ⟨pa, 5, none⟩ (.int .i64 (g : Int)) = v3 at *
  have hs := HSS.out
  have hwn : x3.want = (g : Int) := by rw [HX3.out]
  have q1 : (x3.want != 24) = false := by rw [hwn]; simp; omega
  clear hwn
  have q2 : decide ((15 : Int) < (z : Int)) = false := decide_eq_false (by omega)
  have q2p : ¬ (15 : Int) < (z : Int) := by omega
  have q3 : decide ((6 : Int) < (y : Int) % 32) = false := decide_eq_false (by omega)
  have q3p : ¬ (6 : Int) < (y : Int) % 32 := by omega
  have q4 : ((y : Int) % 32 == 5) = false := by rw [beqI]; exact decide_eq_false (by omega)
  have a1 : ((y : Int) % 32 == 1) = false := by rw [beqI]; exact decide_eq_false (by omega)
  have a2 : ((y : Int) % 32 == 2) = true := by rw [beqI]; exact decide_eq_true (by omega)
  clear hs
  have c5 : v3.cell? ⟨pa, 5, none⟩ = some (.int .i64 x3.want) := H3.out.a.cell 5
  have HT := Lib.hid (fun v => refTyp_any (z : Int) v)
  go_wp2_with (fail)
  refine (HT.out v3).mono ?_; rintro e v4 ⟨rfl, hb⟩
  have H4 := Lib.hid (H3.out.below hb); clear hb
  obtain ⟨x4, hx4⟩ : ∃ x : Ak, x = x3 := ⟨_, rfl⟩
  rw [← hx4] at H4
  have HX4 := Lib.hid hx4; clear hx4
  clear c5
  rw [← HTT.out]
  have c6 : v4.cell? ⟨pa, 6, none⟩ = some (.int .i64 x4.ty) := H4.out.a.cell 6
  have f6 := H4.out.a.free 6
  go_upto_region 13 with (fail)
  obtain ⟨x5, hx5⟩ : ∃ x : Ak, x = { x4 with ty := t } := ⟨_, rfl⟩
  have H5 := Lib.hid (H4.out.set 6 (.int .i64 t) x5 (by rw [hx5]; rfl))
  have HX5 := Lib.hid hx5; clear hx5 c6 f6 
  generalize v4.setCell ⟨pa, 6, none⟩ (.int .i64 t) = v5 at *
  have hs := HSS.out
  have q5 : (x5.ty == 0) = false := by rw [HX5.out, beqI]; show decide (t = 0) = _; exact decide_eq_false hs.2.2.2
  clear hs
  have c6 : v5.cell? ⟨pa, 6, none⟩ = some (.int .i64 x5.ty) := H5.out.a.cell 6
  go_upto_region 15 with (fail)
  clear c6
  have c0 : v5.cell? ⟨pa, 0, none⟩ = some (.int .i64 x5.op) := H5.out.a.cell 0
  have c1 : v5.cell? ⟨pa, 1, none⟩ = some (.int .i64 x5.lba) := H5.out.a.cell 1
  have c2 : v5.cell? ⟨pa, 2, none⟩ = some (.int .i64 x5.blk) := H5.out.a.cell 2
  have c3 : v5.cell? ⟨pa, 3, none⟩ = some (.bool x5.fu) := H5.out.a.cell 3
  have c4 : v5.cell? ⟨pa, 4, none⟩ = some (.int .i64 x5.page) := H5.out.a.cell 4
  have c5 : v5.cell? ⟨pa, 5, none⟩ = some (.int .i64 x5.want) := H5.out.a.cell 5
  have c6 : v5.cell? ⟨pa, 6, none⟩ = some (.int .i64 x5.ty) := H5.out.a.cell 6
  have r0 : v5.cell? ⟨pr, 0, none⟩ = some (.int .i64 0) := H5.out.r.cell 0
  have g0 := H5.out.r.free 0
  have r1 : v5.cell? ⟨pr, 1, none⟩ = some (.int .i64 0) := H5.out.r.cell 1
  have g1 := H5.out.r.free 1
  have r2 : v5.cell? ⟨pr, 2, none⟩ = some (.int .i64 0) := H5.out.r.cell 2
  have g2 := H5.out.r.free 2
  have r3 : v5.cell? ⟨pr, 3, none⟩ = some (.bool false) := H5.out.r.cell 3
  have g3 := H5.out.r.free 3
  have r4 : v5.cell? ⟨pr, 4, none⟩ = some (.int .i64 0) := H5.out.r.cell 4
  have g4 := H5.out.r.free 4
  have r5 : v5.cell? ⟨pr, 5, none⟩ = some (.int .i64 0) := H5.out.r.cell 5
  have g5 := H5.out.r.free 5
  have r6 : v5.cell? ⟨pr, 6, none⟩ = some (.int .i64 0) := H5.out.r.cell 6
  have g6 := H5.out.r.free 6
  go_wp2_with (fail)
  obtain ⟨hK, hO⟩ := ak_put H5.out.r x5 _ rfl
  refine bodyPost_ret_by (results_row1 rfl _ _ pr 28 (akC x5) (0, 0) _ rfl hK Tryd.underlying28 rfl sizeR) rfl ?_
  have hfin : x5 = { zA with op := (256 * 95 + y % 32 : Nat), want := 24, ty := typN (z : Int) } := by
    rw [HX5.out, HX4.out, HX3.out, HX2.out, HX1.out, HX0.out]
    have hs := HSS.out
    rw [← HTT.out, show ((24 : Int)) = (g : Int) by omega]
    show Ak.mk (24320 + (y : Int) % 32) _ _ _ _ _ _ = Ak.mk ((256 * 95 + y % 32 : Nat) : Int) _ _ _ _ _ _
    rw [show ((256 * 95 + y % 32 : Nat) : Int) = 24320 + (y : Int) % 32 by omega]
  exact ⟨by rw [hfin]; rfl, H5.out.fin hO⟩
set_option maxRecDepth 100000 in
set_option maxHeartbeats 8000000 in
theorem res_out_n4 (s : ByteArray) (w : World) (hz : s.size = 10) (hb : byt s 0 = 95) (hs : big s 5 4 = 24 ∧ byt s 2 ≤ 15 ∧ byt s 1 % 32 = 4 ∧ typN (byt s 2 : Int) = 0) : Calls Tryd.prog 25 #[.string s, akV { zA with op := 95 }] w (AskOut (none) w) := by
  obtain ⟨h1, h2, h3⟩ := two_box w 28 28 { zA with op := 95 } zA _ rfl
  obtain ⟨x0, hx0⟩ : ∃ x : Ak, x = { zA with op := 95 } := ⟨_, rfl⟩
  have H0 := Lib.hid (PaAt.mk h1 h2 h3 (Nat.le_refl _) (Nat.le_succ _) (Nat.ne_of_lt (Nat.lt_succ_self _)))
  clear h1 h2 h3
  have HN := Lib.hid (fun (a n : Nat) v h1 h8 ha => refNum_any s a n v (by unfold maxLen; omega) h1 h8 ha)
  have HS := Lib.hid (fun (a n : Nat) (h : n ≤ 4) => numS_small (s := s) (a := a) (n := n) h)
  have HZ := Lib.hid hz
  have i0 := index_byt s 0 0 rfl (by omega)
  have i1 := index_byt s 1 1 rfl (by omega)
  have i2 := index_byt s 2 2 rfl (by omega)
  have b1 := byt_lt s 1
  have b2 := byt_lt s 2
  rw [hb] at i0
  generalize byt s 1 = y at *
  generalize byt s 2 = z at *
  obtain ⟨g, hg⟩ : ∃ g : Nat, g = big s 5 4 := ⟨_, rfl⟩
  obtain ⟨t, ht⟩ : ∃ t, t = typN (z : Int) := ⟨_, rfl⟩
  try rw [← hg] at hs
  try rw [← ht] at hs
  have HGG := Lib.hid hg; have HTT := Lib.hid ht; have HSS := Lib.hid hs
  clear hb hz hg ht hs
  go_enter Tryd.func25, Tryd.ntmps25
  go_upto_region 1 with (fail)
  change Code.wp _ _ _ _ ((w.alloc (.cells (akC { zA with op := 95 }) 28)).alloc (.cells (akC zA) 28))
  have hsz : (w.alloc (.cells (akC { zA with op := 95 }) 28)).heap.size = w.heap.size + 1 := by simp
  generalize (w.alloc (.cells (akC { zA with op := 95 }) 28)).alloc (.cells (akC zA) 28) = v0 at *
  try rw [hsz]
  obtain ⟨pa, hpa⟩ : ∃ pa, pa = w.heap.size := ⟨_, rfl⟩
  obtain ⟨pr, hpr⟩ : ∃ pr, pr = w.heap.size + 1 := ⟨_, rfl⟩
  rw [← hx0] at H0
  rw [← hpr] at H0 ⊢
  have H0' : Hid (PaAt w v0 pa pr x0) := Lib.hid (by rw [hpa]; exact H0.out)
  rw [← hpa]
  have HX0 := Lib.hid hx0
  clear hsz hx0 hpa hpr H0
  have H0 := Lib.hid H0'.out
  clear H0'
  have c0 : v0.cell? ⟨pa, 0, none⟩ = some (.int .i64 x0.op) := H0.out.a.cell 0
  have f0 := H0.out.a.free 0
  go_upto_region 3 with (fail)
  obtain ⟨x1, hx1⟩ : ∃ x : Ak, x = { x0 with op := 24320 + (y : Int) % 32 } := ⟨_, rfl⟩
  have H1 := Lib.hid (H0.out.set 0 (.int .i64 (24320 + (y : Int) % 32)) x1 (by rw [hx1]; rfl))
  have HX1 := Lib.hid hx1; clear hx1 c0 f0 
  generalize v0.setCell ⟨pa, 0, none⟩ (.int .i64 (24320 + (y : Int) % 32)) = v1 at *
  go_wp2_with (fail)
  refine (HN.out 5 4 v1 (by decide) (by decide) (by rw [HZ.out]; decide)).mono ?_; rintro e v2 ⟨rfl, hb⟩
  have H2 := Lib.hid (H1.out.below hb); clear hb
  obtain ⟨x2, hx2⟩ : ∃ x : Ak, x = x1 := ⟨_, rfl⟩
  rw [← hx2] at H2
  have HX2 := Lib.hid hx2; clear hx2
  rw [HS.out 5 4 (by decide), ← HGG.out]
  have c5 : v2.cell? ⟨pa, 5, none⟩ = some (.int .i64 x2.want) := H2.out.a.cell 5
  have f5 := H2.out.a.free 5
  go_upto_region 9 with (fail)
  obtain ⟨x3, hx3⟩ : ∃ x : Ak, x = { x2 with want := (g : Int) } := ⟨_, rfl⟩
  have H3 := Lib.hid (H2.out.set 5 (.int .i64 (g : Int)) x3 (by rw [hx3]; rfl))
  have HX3 := Lib.hid hx3; clear hx3 c5 f5 
  generalize v2.setCell ⟨pa, 5, none⟩ (.int .i64 (g : Int)) = v3 at *
  have hs := HSS.out
  have hwn : x3.want = (g : Int) := by rw [HX3.out]
  have q1 : (x3.want != 24) = false := by rw [hwn]; simp; omega
  clear hwn
  have q2 : decide ((15 : Int) < (z : Int)) = false := decide_eq_false (by omega)
  have q2p : ¬ (15 : Int) < (z : Int) := by omega
  have q3 : decide ((6 : Int) < (y : Int) % 32) = false := decide_eq_false (by omega)
  have q3p : ¬ (6 : Int) < (y : Int) % 32 := by omega
  have q4 : ((y : Int) % 32 == 5) = false := by rw [beqI]; exact decide_eq_false (by omega)
  have a1 : ((y : Int) % 32 == 1) = false := by rw [beqI]; exact decide_eq_false (by omega)
  have a2 : ((y : Int) % 32 == 2) = false := by rw [beqI]; exact decide_eq_false (by omega)
  have a4 : ((y : Int) % 32 == 4) = true := by rw [beqI]; exact decide_eq_true (by omega)
  clear hs
  have c5 : v3.cell? ⟨pa, 5, none⟩ = some (.int .i64 x3.want) := H3.out.a.cell 5
  have HT := Lib.hid (fun v => refTyp_any (z : Int) v)
  go_wp2_with (fail)
  refine (HT.out v3).mono ?_; rintro e v4 ⟨rfl, hb⟩
  have H4 := Lib.hid (H3.out.below hb); clear hb
  obtain ⟨x4, hx4⟩ : ∃ x : Ak, x = x3 := ⟨_, rfl⟩
  rw [← hx4] at H4
  have HX4 := Lib.hid hx4; clear hx4
  clear c5
  rw [← HTT.out]
  have c6 : v4.cell? ⟨pa, 6, none⟩ = some (.int .i64 x4.ty) := H4.out.a.cell 6
  have f6 := H4.out.a.free 6
  go_upto_region 13 with (fail)
  obtain ⟨x5, hx5⟩ : ∃ x : Ak, x = { x4 with ty := t } := ⟨_, rfl⟩
  have H5 := Lib.hid (H4.out.set 6 (.int .i64 t) x5 (by rw [hx5]; rfl))
  have HX5 := Lib.hid hx5; clear hx5 c6 f6 
  generalize v4.setCell ⟨pa, 6, none⟩ (.int .i64 t) = v5 at *
  have hs := HSS.out
  have q5 : (x5.ty == 0) = true := by rw [HX5.out, beqI]; show decide (t = 0) = _; exact decide_eq_true hs.2.2.2
  clear hs
  have c6 : v5.cell? ⟨pa, 6, none⟩ = some (.int .i64 x5.ty) := H5.out.a.cell 6
  go_upto_region 14 with (fail)
  clear c6
  have r0 : v5.cell? ⟨pr, 0, none⟩ = some (.int .i64 0) := H5.out.r.cell 0
  have g0 := H5.out.r.free 0
  have r1 : v5.cell? ⟨pr, 1, none⟩ = some (.int .i64 0) := H5.out.r.cell 1
  have g1 := H5.out.r.free 1
  have r2 : v5.cell? ⟨pr, 2, none⟩ = some (.int .i64 0) := H5.out.r.cell 2
  have g2 := H5.out.r.free 2
  have r3 : v5.cell? ⟨pr, 3, none⟩ = some (.bool false) := H5.out.r.cell 3
  have g3 := H5.out.r.free 3
  have r4 : v5.cell? ⟨pr, 4, none⟩ = some (.int .i64 0) := H5.out.r.cell 4
  have g4 := H5.out.r.free 4
  have r5 : v5.cell? ⟨pr, 5, none⟩ = some (.int .i64 0) := H5.out.r.cell 5
  have g5 := H5.out.r.free 5
  have r6 : v5.cell? ⟨pr, 6, none⟩ = some (.int .i64 0) := H5.out.r.cell 6
  have g6 := H5.out.r.free 6
  go_wp2_with (fail)
  obtain ⟨hK, hO⟩ := ak_put H5.out.r zA _ rfl
  refine bodyPost_ret_by (results_row1 rfl _ _ pr 28 (akC zA) (0, 0) _ rfl hK Tryd.underlying28 rfl sizeR) rfl ?_
  exact ⟨rfl, H5.out.fin hO⟩
set_option maxRecDepth 100000 in
set_option maxHeartbeats 8000000 in
theorem res_out_t4 (s : ByteArray) (w : World) (hz : s.size = 10) (hb : byt s 0 = 95) (hs : big s 5 4 = 24 ∧ byt s 2 ≤ 15 ∧ byt s 1 % 32 = 4 ∧ typN (byt s 2 : Int) ≠ 0) : Calls Tryd.prog 25 #[.string s, akV { zA with op := 95 }] w (AskOut (some { zA with op := (256 * 95 + byt s 1 % 32 : Nat), want := 24, ty := typN (byt s 2) }) w) := by
  obtain ⟨h1, h2, h3⟩ := two_box w 28 28 { zA with op := 95 } zA _ rfl
  obtain ⟨x0, hx0⟩ : ∃ x : Ak, x = { zA with op := 95 } := ⟨_, rfl⟩
  have H0 := Lib.hid (PaAt.mk h1 h2 h3 (Nat.le_refl _) (Nat.le_succ _) (Nat.ne_of_lt (Nat.lt_succ_self _)))
  clear h1 h2 h3
  have HN := Lib.hid (fun (a n : Nat) v h1 h8 ha => refNum_any s a n v (by unfold maxLen; omega) h1 h8 ha)
  have HS := Lib.hid (fun (a n : Nat) (h : n ≤ 4) => numS_small (s := s) (a := a) (n := n) h)
  have HZ := Lib.hid hz
  have i0 := index_byt s 0 0 rfl (by omega)
  have i1 := index_byt s 1 1 rfl (by omega)
  have i2 := index_byt s 2 2 rfl (by omega)
  have b1 := byt_lt s 1
  have b2 := byt_lt s 2
  rw [hb] at i0
  generalize byt s 1 = y at *
  generalize byt s 2 = z at *
  obtain ⟨g, hg⟩ : ∃ g : Nat, g = big s 5 4 := ⟨_, rfl⟩
  obtain ⟨t, ht⟩ : ∃ t, t = typN (z : Int) := ⟨_, rfl⟩
  try rw [← hg] at hs
  try rw [← ht] at hs
  have HGG := Lib.hid hg; have HTT := Lib.hid ht; have HSS := Lib.hid hs
  clear hb hz hg ht hs
  go_enter Tryd.func25, Tryd.ntmps25
  go_upto_region 1 with (fail)
  change Code.wp _ _ _ _ ((w.alloc (.cells (akC { zA with op := 95 }) 28)).alloc (.cells (akC zA) 28))
  have hsz : (w.alloc (.cells (akC { zA with op := 95 }) 28)).heap.size = w.heap.size + 1 := by simp
  generalize (w.alloc (.cells (akC { zA with op := 95 }) 28)).alloc (.cells (akC zA) 28) = v0 at *
  try rw [hsz]
  obtain ⟨pa, hpa⟩ : ∃ pa, pa = w.heap.size := ⟨_, rfl⟩
  obtain ⟨pr, hpr⟩ : ∃ pr, pr = w.heap.size + 1 := ⟨_, rfl⟩
  rw [← hx0] at H0
  rw [← hpr] at H0 ⊢
  have H0' : Hid (PaAt w v0 pa pr x0) := Lib.hid (by rw [hpa]; exact H0.out)
  rw [← hpa]
  have HX0 := Lib.hid hx0
  clear hsz hx0 hpa hpr H0
  have H0 := Lib.hid H0'.out
  clear H0'
  have c0 : v0.cell? ⟨pa, 0, none⟩ = some (.int .i64 x0.op) := H0.out.a.cell 0
  have f0 := H0.out.a.free 0
  go_upto_region 3 with (fail)
  obtain ⟨x1, hx1⟩ : ∃ x : Ak, x = { x0 with op := 24320 + (y : Int) % 32 } := ⟨_, rfl⟩
  have H1 := Lib.hid (H0.out.set 0 (.int .i64 (24320 + (y : Int) % 32)) x1 (by rw [hx1]; rfl))
  have HX1 := Lib.hid hx1; clear hx1 c0 f0 
  generalize v0.setCell ⟨pa, 0, none⟩ (.int .i64 (24320 + (y : Int) % 32)) = v1 at *
  go_wp2_with (fail)
  refine (HN.out 5 4 v1 (by decide) (by decide) (by rw [HZ.out]; decide)).mono ?_; rintro e v2 ⟨rfl, hb⟩
  have H2 := Lib.hid (H1.out.below hb); clear hb
  obtain ⟨x2, hx2⟩ : ∃ x : Ak, x = x1 := ⟨_, rfl⟩
  rw [← hx2] at H2
  have HX2 := Lib.hid hx2; clear hx2
  rw [HS.out 5 4 (by decide), ← HGG.out]
  have c5 : v2.cell? ⟨pa, 5, none⟩ = some (.int .i64 x2.want) := H2.out.a.cell 5
  have f5 := H2.out.a.free 5
  go_upto_region 9 with (fail)
  obtain ⟨x3, hx3⟩ : ∃ x : Ak, x = { x2 with want := (g : Int) } := ⟨_, rfl⟩
  have H3 := Lib.hid (H2.out.set 5 (.int .i64 (g : Int)) x3 (by rw [hx3]; rfl))
  have HX3 := Lib.hid hx3; clear hx3 c5 f5 
  generalize v2.setCell ⟨pa, 5, none⟩ (.int .i64 (g : Int)) = v3 at *
  have hs := HSS.out
  have hwn : x3.want = (g : Int) := by rw [HX3.out]
  have q1 : (x3.want != 24) = false := by rw [hwn]; simp; omega
  clear hwn
  have q2 : decide ((15 : Int) < (z : Int)) = false := decide_eq_false (by omega)
  have q2p : ¬ (15 : Int) < (z : Int) := by omega
  have q3 : decide ((6 : Int) < (y : Int) % 32) = false := decide_eq_false (by omega)
  have q3p : ¬ (6 : Int) < (y : Int) % 32 := by omega
  have q4 : ((y : Int) % 32 == 5) = false := by rw [beqI]; exact decide_eq_false (by omega)
  have a1 : ((y : Int) % 32 == 1) = false := by rw [beqI]; exact decide_eq_false (by omega)
  have a2 : ((y : Int) % 32 == 2) = false := by rw [beqI]; exact decide_eq_false (by omega)
  have a4 : ((y : Int) % 32 == 4) = true := by rw [beqI]; exact decide_eq_true (by omega)
  clear hs
  have c5 : v3.cell? ⟨pa, 5, none⟩ = some (.int .i64 x3.want) := H3.out.a.cell 5
  have HT := Lib.hid (fun v => refTyp_any (z : Int) v)
  go_wp2_with (fail)
  refine (HT.out v3).mono ?_; rintro e v4 ⟨rfl, hb⟩
  have H4 := Lib.hid (H3.out.below hb); clear hb
  obtain ⟨x4, hx4⟩ : ∃ x : Ak, x = x3 := ⟨_, rfl⟩
  rw [← hx4] at H4
  have HX4 := Lib.hid hx4; clear hx4
  clear c5
  rw [← HTT.out]
  have c6 : v4.cell? ⟨pa, 6, none⟩ = some (.int .i64 x4.ty) := H4.out.a.cell 6
  have f6 := H4.out.a.free 6
  go_upto_region 13 with (fail)
  obtain ⟨x5, hx5⟩ : ∃ x : Ak, x = { x4 with ty := t } := ⟨_, rfl⟩
  have H5 := Lib.hid (H4.out.set 6 (.int .i64 t) x5 (by rw [hx5]; rfl))
  have HX5 := Lib.hid hx5; clear hx5 c6 f6 
  generalize v4.setCell ⟨pa, 6, none⟩ (.int .i64 t) = v5 at *
  have hs := HSS.out
  have q5 : (x5.ty == 0) = false := by rw [HX5.out, beqI]; show decide (t = 0) = _; exact decide_eq_false hs.2.2.2
  clear hs
  have c6 : v5.cell? ⟨pa, 6, none⟩ = some (.int .i64 x5.ty) := H5.out.a.cell 6
  go_upto_region 15 with (fail)
  clear c6
  have c0 : v5.cell? ⟨pa, 0, none⟩ = some (.int .i64 x5.op) := H5.out.a.cell 0
  have c1 : v5.cell? ⟨pa, 1, none⟩ = some (.int .i64 x5.lba) := H5.out.a.cell 1
  have c2 : v5.cell? ⟨pa, 2, none⟩ = some (.int .i64 x5.blk) := H5.out.a.cell 2
  have c3 : v5.cell? ⟨pa, 3, none⟩ = some (.bool x5.fu) := H5.out.a.cell 3
  have c4 : v5.cell? ⟨pa, 4, none⟩ = some (.int .i64 x5.page) := H5.out.a.cell 4
  have c5 : v5.cell? ⟨pa, 5, none⟩ = some (.int .i64 x5.want) := H5.out.a.cell 5
  have c6 : v5.cell? ⟨pa, 6, none⟩ = some (.int .i64 x5.ty) := H5.out.a.cell 6
  have r0 : v5.cell? ⟨pr, 0, none⟩ = some (.int .i64 0) := H5.out.r.cell 0
  have g0 := H5.out.r.free 0
  have r1 : v5.cell? ⟨pr, 1, none⟩ = some (.int .i64 0) := H5.out.r.cell 1
  have g1 := H5.out.r.free 1
  have r2 : v5.cell? ⟨pr, 2, none⟩ = some (.int .i64 0) := H5.out.r.cell 2
  have g2 := H5.out.r.free 2
  have r3 : v5.cell? ⟨pr, 3, none⟩ = some (.bool false) := H5.out.r.cell 3
  have g3 := H5.out.r.free 3
  have r4 : v5.cell? ⟨pr, 4, none⟩ = some (.int .i64 0) := H5.out.r.cell 4
  have g4 := H5.out.r.free 4
  have r5 : v5.cell? ⟨pr, 5, none⟩ = some (.int .i64 0) := H5.out.r.cell 5
  have g5 := H5.out.r.free 5
  have r6 : v5.cell? ⟨pr, 6, none⟩ = some (.int .i64 0) := H5.out.r.cell 6
  have g6 := H5.out.r.free 6
  go_wp2_with (fail)
  obtain ⟨hK, hO⟩ := ak_put H5.out.r x5 _ rfl
  refine bodyPost_ret_by (results_row1 rfl _ _ pr 28 (akC x5) (0, 0) _ rfl hK Tryd.underlying28 rfl sizeR) rfl ?_
  have hfin : x5 = { zA with op := (256 * 95 + y % 32 : Nat), want := 24, ty := typN (z : Int) } := by
    rw [HX5.out, HX4.out, HX3.out, HX2.out, HX1.out, HX0.out]
    have hs := HSS.out
    rw [← HTT.out, show ((24 : Int)) = (g : Int) by omega]
    show Ak.mk (24320 + (y : Int) % 32) _ _ _ _ _ _ = Ak.mk ((256 * 95 + y % 32 : Nat) : Int) _ _ _ _ _ _
    rw [show ((256 * 95 + y % 32 : Nat) : Int) = 24320 + (y : Int) % 32 by omega]
  exact ⟨by rw [hfin]; rfl, H5.out.fin hO⟩
end Go.Proofs.YtaachlijpgmjeaaDoor
