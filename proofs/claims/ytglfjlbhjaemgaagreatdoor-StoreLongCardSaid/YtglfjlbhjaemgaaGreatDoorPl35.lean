/- store: sync.Once, one goroutine: the function is called the first time, and never again. store: what is prepared once. store: a store in memory, prepared or not. store: Format; who asks for a unit. store: a unit's table is asked for. -/
import Derived.Test.YtglfjlbhjaemgaaGreatDoorPl33
import Derived.Tactics
import Derived.Tactics2
import Derived.Defers
import Derived.Laws.Pointers
import Derived.Laws.LoneSync
import Derived.RegionTactic
import Derived.RegionCalls
import Derived.Test.YtglfjlbhjaemgaaGreatDoorPl34
import Derived.Deep.RegionHeld3
namespace Go.Proofs.YtglfjlbhjaemgaaGreatDoor
open Go.RowKit
theorem disable (w : World) : (callFunc 230 #[]).run Tryz.prog w = .ok (.value (.tuple #[])) w := run_call_mark0 Tryz.func230 (by kernel_rfl) (by kernel_rfl) (by kernel_rfl) .disable (by kernel_rfl) w
theorem enable (w : World) : (callFunc 232 #[]).run Tryz.prog w = .ok (.value (.tuple #[])) w := run_call_mark0 Tryz.func232 (by kernel_rfl) (by kernel_rfl) (by kernel_rfl) .enable (by kernel_rfl) w
theorem acquire (a : Addr) (w : World) : (callFunc 233 #[.pointer (some a)]).run Tryz.prog w = .ok (.value (.tuple #[])) w := run_call_marked Tryz.func233 (by kernel_rfl) (by kernel_rfl) (by kernel_rfl) .acquire (by kernel_rfl) a w
theorem releaseMerge (a : Addr) (w : World) : (callFunc 235 #[.pointer (some a)]).run Tryz.prog w = .ok (.value (.tuple #[])) w := run_call_marked Tryz.func235 (by kernel_rfl) (by kernel_rfl) (by kernel_rfl) .releaseMerge (by kernel_rfl) a w
set_option maxRecDepth 100000 in
theorem store_deferred (a : Addr) (x : Value) (u : FrameMode) (w : World) (hc : w.cell? a = some x) (hz : w.frozen? a = false) :
    CallsD Tryz.prog 200 #[.pointer (some a), .bool true] u w fun e u' w' => u' = u ∧ (e = .returned (.tuple #[]) ∧ w' = w.drew.setCell a (.int .u32 1)) := by
  have hc' : w.drew.cell? a = some x := by go_simp
  have hz' : w.drew.frozen? a = false := by go_simp
  have hst := run_call_store (P := Tryz.prog) Tryz.func217 (by kernel_rfl) (by kernel_rfl) (by kernel_rfl) (by kernel_rfl) (k := .u32) (y := 1) hc' hz'
  go_enter_d Tryz.func200, Tryz.ntmps200
  go_wp2
  go_region_calls
  all_goals (go_end0; exact ⟨rfl, rfl⟩)
set_option maxRecDepth 100000 in
theorem unlock_deferred (a : Addr) (u : FrameMode) (w : World) (hc : w.cell? a = some (.int .i32 1)) (hz : w.frozen? a = false) :
    CallsD Tryz.prog 199 #[.pointer (some a)] u w fun e u' w' => u' = u ∧ (e = .returned (.tuple #[]) ∧ w' = w.setCell a (.int .i32 0)) := by
  have hd := disable
  have he := enable
  have hr := releaseMerge
  have hadd := run_call_add (P := Tryz.prog) Tryz.func236 (by kernel_rfl) (by kernel_rfl) (by kernel_rfl) .i32 (by kernel_rfl) (y := -1) (s := 0) hc hz (by simp [go_sem]; rfl)
  have hcv := run_convert_to_unsafe (P := Tryz.prog) (src := 326) (dst := 281) Tryz.underlying326 Tryz.underlying281 (by kernel_rfl) hc
  go_enter_d Tryz.func199, Tryz.ntmps199
  go_wp2
  go_end0
  go_wp2
  go_end0
  exact ⟨rfl, rfl⟩
set_option maxRecDepth 100000 in
theorem lock_free (a : Addr) (w : World) (hc : w.cell? a = some (.int .i32 0)) (hz : w.frozen? a = false) :
    Calls Tryz.prog 198 #[.pointer (some a)] w fun e w' => e = .returned (.tuple #[]) ∧ w' = w.setCell a (.int .i32 1) := by
  have hd := disable
  have he := enable
  have ha := acquire
  have hcas := run_call_cas_hit (P := Tryz.prog) Tryz.func231 (by kernel_rfl) (by kernel_rfl) (by kernel_rfl) .i32 (by kernel_rfl) (y := 1) hc hz
  have hc' : (w.setCell a (.int .i32 1)).cell? a = some (.int .i32 1) := World.cell?_setCell_same w a _ hc
  have hcv := run_convert_to_unsafe (P := Tryz.prog) (src := 326) (dst := 281) Tryz.underlying326 Tryz.underlying281 (by kernel_rfl) hc'
  go_enter Tryz.func198, Tryz.ntmps198
  go_wp2
  first | go_end0 | (simp only [Exit.inBlock, Exit.then]; refine bodyPost_ret (results_none rfl _ _ _) rfl ?_) | refine bodyPost_ret (results_none rfl _ _ _) rfl ?_
  go_wp2
  go_end0
  exact ⟨rfl, rfl⟩
set_option maxRecDepth 100000 in
set_option maxHeartbeats 1600000 in
/-- (*sync.Once).doSlow, not yet done, the lock free. -/
theorem slow_once (b off : Nat) (s : Value) (w : World) (R : World → Prop) (h0 : w.cell? ⟨b, off, none⟩ = some (.int .u32 0)) (h1 : w.cell? ⟨b, off + 1, none⟩ = some (.int .i32 0)) (f1 : w.frozen? ⟨b, off + 1, none⟩ = false)
    (hf : Calls Tryz.prog 136 #[s] (w.setCell ⟨b, off + 1, none⟩ (.int .i32 1)) fun e w' => e = .returned (.tuple #[]) ∧ R w')
    (hR : ∀ v, R v → v.cell? ⟨b, off, none⟩ = some (.int .u32 0) ∧ v.cell? ⟨b, off + 1, none⟩ = some (.int .i32 1) ∧ v.frozen? ⟨b, off, none⟩ = false ∧ v.frozen? ⟨b, off + 1, none⟩ = false) :
    Calls Tryz.prog 176 #[.pointer (some ⟨b, off, none⟩), .func (.func 136) #[s] #[]] w fun e w' => e = .returned (.tuple #[]) ∧ ∃ v, R v ∧ w' = (v.drew.setCell ⟨b, off, none⟩ (.int .u32 1)).setCell ⟨b, off + 1, none⟩ (.int .i32 0) := by
  have hl := run_call_load (P := Tryz.prog) Tryz.func197 (by kernel_rfl) (by kernel_rfl) (by kernel_rfl) .u32 (by kernel_rfl) (w := w.setCell ⟨b, off + 1, none⟩ (.int .i32 1)) (a := ⟨b, off, none⟩) (x := 0) ((World.cell?_setCell_other _ ⟨b, off + 1, none⟩ ⟨b, off, none⟩ _ (by simp)).trans h0)
  have hnot : ∀ (x : Bool) (w : World), (Op.unary .not (.bool x)).run Tryz.prog w = .ok (.bool (!x)) w := fun _ _ => rfl
  go_enter_defers Tryz.func176, Tryz.ntmps176
  go_wp2_with (go_at_call 198; refine (lock_free ⟨b, off + 1, none⟩ _ (by go_simp) (by go_simp)).mono ?_; rintro e w' ⟨rfl, rfl⟩)
  go_wp2_with (first | (go_at_call 136; refine hf.mono ?_; rintro e w2 ⟨rfl, hr⟩) | (go_at_call 175; go_in))
  obtain ⟨c0, c1, z0, z1⟩ := hR _ hr
  go_wp2
  refine leaves_cons (f := 200) (args := #[.pointer (some ⟨b, off, none⟩), .bool true]) (by simp) (by simp [go_sem]) ?_
  refine (store_deferred ⟨b, off, none⟩ (.int .u32 0) .returning _ c0 z0).mono ?_
  rintro e u' w'' ⟨rfl, rfl, rfl⟩
  refine leaves_cons (f := 199) (args := #[.pointer (some ⟨b, off + 1, none⟩)]) (by simp [settle]) (by simp [go_sem]) ?_
  refine (unlock_deferred ⟨b, off + 1, none⟩ _ _ ?_ (by simp [z1])).mono ?_
  · refine (World.cell?_setCell_other _ ⟨b, off, none⟩ ⟨b, off + 1, none⟩ _ (by simp)).trans ?_
    rw [World.cell?_drew]
    exact c1
  rintro e u' w'' ⟨rfl, rfl, rfl⟩
  simp [Leaves, settle, results, Tryz.results176]
  exact ⟨_, hr, rfl⟩
set_option maxRecDepth 100000 in
set_option maxHeartbeats 1600000 in
/-- (*sync.Once).Do, not yet done. -/
theorem once_first (b off : Nat) (s : Value) (w : World) (R : World → Prop) (h0 : w.cell? ⟨b, off, none⟩ = some (.int .u32 0)) (h1 : w.cell? ⟨b, off + 1, none⟩ = some (.int .i32 0)) (f1 : w.frozen? ⟨b, off + 1, none⟩ = false)
    (hf : Calls Tryz.prog 136 #[s] (w.setCell ⟨b, off + 1, none⟩ (.int .i32 1)) fun e w' => e = .returned (.tuple #[]) ∧ R w')
    (hR : ∀ v, R v → v.cell? ⟨b, off, none⟩ = some (.int .u32 0) ∧ v.cell? ⟨b, off + 1, none⟩ = some (.int .i32 1) ∧ v.frozen? ⟨b, off, none⟩ = false ∧ v.frozen? ⟨b, off + 1, none⟩ = false) :
    Calls Tryz.prog 135 #[.pointer (some ⟨b, off, none⟩), .func (.func 136) #[s] #[]] w fun e w' => e = .returned (.tuple #[]) ∧ ∃ v, R v ∧ w' = (v.drew.setCell ⟨b, off, none⟩ (.int .u32 1)).setCell ⟨b, off + 1, none⟩ (.int .i32 0) := by
  have hl := run_call_load (P := Tryz.prog) Tryz.func197 (by kernel_rfl) (by kernel_rfl) (by kernel_rfl) .u32 (by kernel_rfl) h0
  have hnot : ∀ (x : Bool) (w : World), (Op.unary .not (.bool x)).run Tryz.prog w = .ok (.bool (!x)) w := fun _ _ => rfl
  have HS := Lib.hid (slow_once b off s w R h0 h1 f1 hf hR)
  clear hf hR
  go_enter Tryz.func135, Tryz.ntmps135
  go_wp2_with (first | (go_at_call 176; refine HS.out.mono ?_; rintro e w' ⟨rfl, hv⟩) | (go_at_call 175; go_in))
  go_end0
  exact ⟨rfl, hv⟩
/-- (*sync.Once).Do, done already. -/
theorem once_done (a : Addr) (fv : Value) (w : World) (h0 : w.cell? a = some (.int .u32 1)) :
    Calls Tryz.prog 135 #[.pointer (some a), fv] w fun e w' => e = .returned (.tuple #[]) ∧ w' = w := by
  have hl := run_call_load (P := Tryz.prog) Tryz.func197 (by kernel_rfl) (by kernel_rfl) (by kernel_rfl) .u32 (by kernel_rfl) h0
  have hnot : ∀ (x : Bool) (w : World), (Op.unary .not (.bool x)).run Tryz.prog w = .ok (.bool (!x)) w := fun _ _ => rfl
  go_enter Tryz.func135, Tryz.ntmps135
  go_wp2
  go_end0
  exact ⟨rfl, rfl⟩
open Go.RowKit
open Ext (Ex Exts exV ExtsF)
/-- The journal tells these tables, with these changes behind them. -/
structure Rep (j : Jn) (l : List Tb) (xs : List (Nat × Chg)) : Prop where
  base : j.base = baseB l
  recs : j.recs = xs.map chText
  ok : ∀ t ∈ l, t.Ok
  one : 1 ≤ l.length
  few : l.length ≤ 8
  chs : ∀ x ∈ xs, ChOk l x
  len : xs.length ≤ 8192
  size : (baseB l).size ≤ 65536
  each : ∀ x ∈ xs, (chText x).size ≤ 65536
theorem jd_size {w : World} {J : Nat → Prop} {p q n : Nat} {x : St} {j : Jn} (h : JD w J p q n x j) : Calls Tryz.prog 62 #[.pointer (some ⟨p, 0, none⟩)] w fun e w' => e = .returned (.int .i64 (n : Int)) ∧ w = w' := by
  obtain ⟨F, G, hF, _⟩ := h.both
  exact size_any w hF
theorem jd_base {w : World} {J : Nat → Prop} {p q n : Nat} {x : St} {j : Jn} {l : List Tb} {xs : List (Nat × Chg)} (h : JD w J p q n x j) (hr : Rep j l xs) : Calls Tryz.prog 178 #[.pointer (some ⟨q, 0, none⟩)] w fun e w' => e = .returned (.string (baseB l)) ∧ Below w.heap.size w w' := by
  have := base_any w h (by rw [hr.base]; exact hr.size)
  rwa [hr.base] at this
theorem jd_recs {w : World} {J : Nat → Prop} {p q n : Nat} {x : St} {j : Jn} {l : List Tb} {xs : List (Nat × Chg)} (h : JD w J p q n x j) (hr : Rep j l xs) : Calls Tryz.prog 179 #[.pointer (some ⟨q, 0, none⟩)] w fun e w' => ∃ g c, e = .returned (.slice (some ⟨g, 0, none⟩) xs.length c) ∧ Seen w' (some ⟨g, 0, none⟩) (xs.map chText) ∧ Below w.heap.size w w' := by
  have hl : j.recs.length = xs.length := by rw [hr.recs, List.length_map]
  refine (records_any w h (by rw [hl]; exact hr.len) (fun s hs => by
    rw [hr.recs] at hs
    obtain ⟨y, hy, rfl⟩ := List.mem_map.1 hs
    exact hr.each y hy)).mono ?_
  rintro e w' ⟨c, rfl, hrc, hb⟩
  refine ⟨_, c, by rw [hl], ?_, hb⟩
  rw [← hr.recs]
  exact hrc.seen
def zeroF : Nat → Bool × Nat := fun _ => (false, 0)
def useTs (f : Nat → Bool × Nat) (l : List Tb) : Nat → Bool × Nat := l.foldl (fun f t => useF f t.ex) f
def UseTs (n : Nat) : (Nat → Bool × Nat) → List Tb → Prop
  | _, [] => True
  | f, t :: l => UseOk n f t.ex ∧ UseTs n (useF f t.ex) l
theorem useTs_snoc (f : Nat → Bool × Nat) (l : List Tb) (t : Tb) : useTs f (l ++ [t]) = useF (useTs f l) t.ex := by unfold useTs; rw [List.foldl_append]; rfl
theorem UseTs.at_ {n : Nat} : ∀ {l : List Tb} {f : Nat → Bool × Nat} {k : Nat} {t : Tb}, UseTs n f l → l[k]? = some t → UseOk n (useTs f (l.take k)) t.ex
  | y :: l, f, 0, t, h, hx => by
    obtain rfl : y = t := by simpa using hx
    exact h.1
  | y :: l, f, k + 1, t, h, hx => by
    rw [List.take_succ_cons]
    exact UseTs.at_ (f := useF f y.ex) h.2 (by simpa using hx)
theorem infoPl : (Tryz.prog.info? 260).map (fun i => (i.zero, i.size, i.bytes)) = some (some (.agg #[.bool false, .int .u64 0]), 2, 16) := by kernel_rfl
set_option maxRecDepth 100000 in
theorem make_space (m : Nat) (w : World) (hm : m ≤ 8192) : (Instr.makeSlice 132 (.int .i64 (m : Nat)) (.int .i64 (m : Nat))).run Tryz.prog w = .ok (.slice (some ⟨w.heap.size, 0, none⟩) m m) (w.alloc (.cells (plC m zeroF) 260)) := by
  obtain ⟨i0, hi0, hz0, hz1, hz2⟩ := info_parts infoPl
  have := run_make (P := Tryz.prog) w 132 260 i0 _ Tryz.underlying132 hi0 hz0 .i64 .i64 (m : Nat) (m : Nat) (by omega) (by omega) (by rw [hz2]; omega) (by omega)
  rw [this, hz1]
  congr 3
  refine plC_ext (by simp [madeCells]) fun i hi => ?_
  exact ⟨made_get #[.bool false, .int .u64 0] m 0 i hi (by simp), made_get #[.bool false, .int .u64 0] m 1 i hi (by simp)⟩
def PpAt (w : World) (g m : Nat) (l : List Tb) (i : Value) (wr : World) : Prop :=
  ∃ k : Nat, i = .int .i64 k ∧ k ≤ l.length ∧ Blk wr g 260 (plC m (useTs zeroF (l.take k))) ∧ Only (fun b => b = g) w wr
set_option maxRecDepth 100000 in
set_option maxHeartbeats 4000000 in
theorem prepare_any (w : World) {J : Nat → Prop} {p q n s : Nat} {x : St} {j : Jn} {l0 l : List Tb} {xs : List (Nat × Chg)} {cs : Array Value} (hj : JD w J p q n x j) (hb : Blk w s 137 cs) (hsz : cs.size = 10) (h0 : cs[0]? = some (.pointer (some ⟨p, 0, none⟩))) (h1 : cs[1]? = some (.pointer (some ⟨q, 0, none⟩))) (hr : Rep j l0 xs) (hl : l = playL l0 xs) (hneed : needT l ≤ n) (hn : n ≤ 8192) (hu : UseTs (n - 576) zeroF l) :
    Calls Tryz.prog 136 #[.pointer (some ⟨s, 0, none⟩)] w fun e w' => e = .returned (.tuple #[]) ∧ ∃ b o c g, Blk w' s 137 ((cs.setIfInBounds 5 (.slice (some ⟨b, o, none⟩) l.length c)).setIfInBounds 6 (.slice (some ⟨g, 0, none⟩) (n - 576) (n - 576))) ∧ Blk w' g 260 (plC (n - 576) (useTs zeroF l)) ∧ Tbs w' (fun k => w.heap.size ≤ k ∧ k < g) (some ⟨b, o, none⟩) l ∧ w.heap.size ≤ g ∧ Only (fun k => k = s) w w' := by
  obtain ⟨p1, p2, p3⟩ := play_all hr.ok hr.chs
  rw [← hl] at p1 p2
  have hlen := hr.few
  have hone := hr.one
  have HR := Lib.hid hr
  have HJ0 := Lib.hid hj
  have HB0 := Lib.hid hb
  have HP1 := Lib.hid p1
  have HLQ := Lib.hid hl
  have HU := Lib.hid hu
  have HSZ := Lib.hid hsz
  have hsn := sumN_small (l := l) (fun t ht => ⟨(p1 t ht).n1, (p1 t ht).n2⟩)
  have hnd : 576 ≤ n := by unfold needT at hneed; omega
  have hnot : ∀ (x : Bool) (w : World), (Op.unary .not (.bool x)).run Tryz.prog w = .ok (.bool (!x)) w := fun _ _ => rfl
  have c1 : w.cell? ⟨s, 1, none⟩ = some (.pointer (some ⟨q, 0, none⟩)) := (hb.cell 1).trans h1
  have HC0 := Lib.hid h0
  have hsl := hb.lt
  clear hj hb h0 h1 hr hu p1 p3 hl hsz
  go_enter Tryz.func136, Tryz.ntmps136
  go_upto_region 0 with (fail)
  have HJD := Lib.hid (HJ0.out.below ((Below.refl w.heap.size w).drew))
  have BD := Lib.hid ((Below.refl w.heap.size w).drew)
  go_region_held3 (fun v => v.cell? ⟨s, 1, none⟩ = some (.pointer (some ⟨q, 0, none⟩))) (first | exact c1 | exact d1 | exact e1 | exact f1 | exact g1) (first
    | (go_at_call 178; refine (jd_base HJ5.out HR.out).mono ?_; rintro e w7 ⟨rfl, hb7⟩
       have S7 := Lib.hid (S5.out.below hb7)
       have B7 := Lib.hid (B5.out.trans (hb7.mono B5.out.size))
       have f1 := (hb7.cell (p := ⟨s, 1, none⟩) (World.block_lt_of_cell? _ _ e1)).trans e1
       clear hb7)
    | (go_at_call 178; refine (jd_base HJD.out HR.out).mono ?_; rintro e w2 ⟨rfl, hb2⟩
       have B2 := Lib.hid (BD.out.trans (hb2.mono BD.out.size))
       have HJ2 := Lib.hid (HJD.out.below hb2)
       have d1 := (hb2.cell (p := ⟨s, 1, none⟩) (World.block_lt_of_cell? _ _ c1)).trans c1
       clear hb2)
    | (go_at_call 179; refine (jd_recs HJ2.out HR.out).mono ?_; rintro e w7 ⟨rg, rc, rfl, hs7, hb7⟩
       have S7 := Lib.hid hs7
       have B7 := Lib.hid (B2.out.trans (hb7.mono B2.out.size))
       have f1 := (hb7.cell (p := ⟨s, 1, none⟩) (World.block_lt_of_cell? _ _ d1)).trans d1
       clear hs7 hb7)
    | (go_at_call 179; refine (jd_recs HJD.out HR.out).mono ?_; rintro e w5 ⟨rg, rc, rfl, hs5, hb5⟩
       have S5 := Lib.hid hs5
       have B5 := Lib.hid (BD.out.trans (hb5.mono BD.out.size))
       have HJ5 := Lib.hid (HJD.out.below hb5)
       have e1 := (hb5.cell (p := ⟨s, 1, none⟩) (World.block_lt_of_cell? _ _ c1)).trans c1
       clear hs5 hb5)
    | (go_at_call 177; refine (replay_any (some ⟨rg, 0, none⟩) rc l0 xs _ HR.out.ok HR.out.one HR.out.few HR.out.chs S7.out HR.out.len).mono ?_; rintro e w8 ⟨b, o, c, rfl, ht8, hb8⟩
       have T8 := Lib.hid (ht8.mono (M := fun k => w.heap.size ≤ k) (fun k hk => Nat.le_trans B7.out.size hk))
       have B8 := Lib.hid (B7.out.trans (hb8.mono B7.out.size))
       have g1 := (hb8.cell (p := ⟨s, 1, none⟩) (World.block_lt_of_cell? _ _ f1)).trans f1
       clear ht8 hb8)
    | fail)
  all_goals (try clear c1); (try clear d1); (try clear e1); (try clear f1); (try clear g1)
  rw [← HLQ.out] at T8
  rw [← p2]
  have hlen8 : l.length ≤ 8 := by omega
  have hone1 : 1 ≤ l.length := by omega
  have HP2 := Lib.hid p2
  clear p2 hlen hone hsn
  have HJ8 := Lib.hid (HJ0.out.below B8.out)
  have HS8 := Lib.hid (HB0.out.below B8.out hsl)
  have c0 := (HS8.out.cell 0).trans HC0.out
  have HQ8 := Lib.hid (required_any (fun k => w.heap.size ≤ k) (some ⟨b, o, none⟩) c l w8 T8.out (fun t ht => ⟨(HP1.out t ht).n1, (HP1.out t ht).n2⟩) (by omega))
  have hnl : ¬ (n : Int) < needT l := by omega
  have HND := Lib.hid hneed
  clear hneed
  obtain ⟨nt, hnt⟩ : ∃ nt, needT l = nt := ⟨_, rfl⟩
  rw [hnt] at HQ8 hnl
  clear hnt
  have hw : IntKind.i64.wrap ((n : Int) - 576) = (n : Int) - 576 := i64w _ (by omega)
  have HSI := Lib.hid (fun v (hv : Below w8.heap.size w8 v) => jd_size (HJ8.out.below hv))
  go_wp2_with (fail)
  refine (HSI.out _ (Below.refl _ _)).mono ?_; rintro e w8' ⟨rfl, rfl⟩
  go_wp2_with (fail)
  refine HQ8.out.mono ?_; rintro e w9 ⟨rfl, hb9⟩
  have B89 := Lib.hid hb9
  have B9 := Lib.hid (B8.out.trans (hb9.mono B8.out.size))
  have T9 := Lib.hid (T8.out.below hb9).lt
  have c9 := (hb9.cell (p := ⟨s, 0, none⟩) (World.block_lt_of_cell? _ _ c0)).trans c0
  have HS9 := Lib.hid (HS8.out.below hb9 HS8.out.lt)
  have hmk := make_space (n - 576) w9 (by omega)
  rw [show ((n - 576 : Nat) : Int) = (n : Int) - 576 by omega] at hmk
  have HMK := Lib.hid hmk
  clear hb9 hmk c0
  go_wp2_with (fail)
  refine (HSI.out _ B89.out).mono ?_; rintro e w9' ⟨rfl, rfl⟩
  have hmk := HMK.out
  go_wp2_with (fail)
  clear hmk
  obtain ⟨hk0, hkb⟩ := one_alloc w9 (plC (n - 576) zeroF) 260 _ rfl
  obtain ⟨g, hg⟩ : ∃ g, w9.heap.size = g := ⟨_, rfl⟩
  rw [hg] at hk0 ⊢
  generalize hw10 : w9.alloc (.cells (plC (n - 576) zeroF) 260) = w10 at *
  have HK0 := Lib.hid hk0
  have B10 := Lib.hid (B9.out.trans (hkb.mono B9.out.size))
  have T10 := Lib.hid (show Tbs w10 (fun k => w.heap.size ≤ k ∧ k < g) (some ⟨b, o, none⟩) l from (T9.out.below hkb).mono (fun k hk => by rw [← hg]; exact hk))
  have HS10 := Lib.hid (HS9.out.below hkb HS9.out.lt)
  have hsg : s ≠ g := fun h => by have := HS9.out.lt; omega
  have hwg : w.heap.size ≤ g := by rw [← hg]; exact B9.out.size
  clear hk0 hkb hw10 c9 hw hnl hg
  go_loopw [42] (fun i wr => PpAt w10 g (n - 576) l i wr) (fun i _ => l.length - (intOf i).toNat)
  case atStart => exact ⟨0, rfl, Nat.zero_le _, HK0.out, Only.refl _ _⟩
  case round =>
    obtain ⟨k, rfl, hk, hbk, ho⟩ := hrel
    have HBK := Lib.hid hbk; have HO := Lib.hid ho
    clear hbk ho
    have HTR := Lib.hid (show Tbs wr (fun k => w.heap.size ≤ k ∧ k < g) (some ⟨b, o, none⟩) l from T10.out.kept (fun i hi => HO.out.block i (Nat.lt_trans hi.2 HK0.out.lt) (fun h => by omega)))
    by_cases hlt : k < l.length
    · have hki : (k : Int) < l.length := by omega
      obtain ⟨b', o', t, E, ce, e0, hat, c0, c1, c2, c3, he, _, hel⟩ := HTR.out.at_ hlt
      obtain ⟨rfl, rfl⟩ : b = b' ∧ o = o' := by
        have := Option.some.inj e0
        injection this with x1 x2 _
        exact ⟨x1, x2⟩
      obtain ⟨hx0, hxb⟩ := one_alloc wr #[.int .i64 t.n, .string t.id, .string t.rc, .slice E t.ex.length ce] 140 _ rfl
      have HUA := Lib.hid (use_any g (n - 576) (useTs zeroF (l.take k)) E ce t.ex _ (HBK.out.below hxb HBK.out.lt) (he.below hxb) (fun a ha hn h => by have := (hel a ha hn).2; omega) (HU.out.at_ hat) (by omega) (by have := (HP1.out t (List.mem_of_getElem? hat)).len; omega))
      have HST := Lib.hid (show useTs zeroF (l.take (k + 1)) = useF (useTs zeroF (l.take k)) t.ex by rw [List.take_add_one, hat, Option.toList_some, useTs_snoc])
      have HO1 := Lib.hid (HO.out.below hxb)
      clear hx0 hxb he hel hat e0
      go_wp2_with (fail)
      refine HUA.out.mono ?_; rintro e w11 ⟨rfl, hb11, ho11⟩
      have HB11 := Lib.hid hb11
      have HO11 := Lib.hid (HO1.out.trans ho11 (fun _ h => .inl h))
      clear hb11 ho11 HUA
      go_wp2_with (fail)
      go_roundw
      case rel => exact ⟨k + 1, by go_num, by omega, by rw [HST.out]; exact HB11.out, HO11.out⟩
      case measure => simp [intOf]; omega
    · obtain rfl : k = l.length := by omega
      have hge : ¬ (l.length : Int) < l.length := by omega
      rw [List.take_length] at HBK
      have HSR := Lib.hid (HS10.out.only HO.out (fun h => hsg h))
      have hz := HSZ.out
      have k5 : wr.cell? ⟨s, 5, none⟩ = some cs[5] := (HSR.out.cell 5).trans (Array.getElem?_eq_getElem (by omega))
      have k6 : wr.cell? ⟨s, 6, none⟩ = some cs[6] := (HSR.out.cell 6).trans (Array.getElem?_eq_getElem (by omega))
      generalize cs[5] = v5 at k5
      generalize cs[6] = v6 at k6
      have f5 := HSR.out.free 5
      have f6 := HSR.out.free 6
      have HSF := Lib.hid ((HSR.out.put 5 (.slice (some ⟨b, o, none⟩) l.length c)).put 6 (.slice (some ⟨g, 0, none⟩) (n - 576) (n - 576)))
      have HBF := Lib.hid ((HBK.out.far (p := ⟨s, 5, none⟩) (Ne.symm hsg) (.slice (some ⟨b, o, none⟩) l.length c)).far (p := ⟨s, 6, none⟩) (Ne.symm hsg) (.slice (some ⟨g, 0, none⟩) (n - 576) (n - 576)))
      have HTF := Lib.hid (show Tbs ((wr.setCell ⟨s, 5, none⟩ (.slice (some ⟨b, o, none⟩) l.length c)).setCell ⟨s, 6, none⟩ (.slice (some ⟨g, 0, none⟩) (n - 576) (n - 576))) (fun k => w.heap.size ≤ k ∧ k < g) (some ⟨b, o, none⟩) l from HTR.out.kept (fun i hi => by
        have hne : i ≠ s := fun h => by have := hi.1; omega
        rw [Below.heap_setCell _ _ _ _ hne, Below.heap_setCell _ _ _ _ hne]))
      have HOF := Lib.hid (show Only (fun k => k = s) w ((wr.setCell ⟨s, 5, none⟩ (.slice (some ⟨b, o, none⟩) l.length c)).setCell ⟨s, 6, none⟩ (.slice (some ⟨g, 0, none⟩) (n - 576) (n - 576))) from
        (((Only.of_below B10.out).trans (HO.out.mono (T := fun k => k = s ∨ w.heap.size ≤ k) (fun k hk => .inr (by have : k = g := hk; omega))) (fun i hi => hi)).setCell (p := ⟨s, 5, none⟩) (.inl rfl) _).setCell (p := ⟨s, 6, none⟩) (.inl rfl) _)
      clear hz
      go_wp2_with (fail)
      first | go_end0 | skip
      exact ⟨rfl, b, o, c, g, HSF.out, HBF.out, HTF.out, hwg, HOF.out⟩
open Go.RowKit
open Ext (Ex Exts exV ExtsF)
/-- What a store knows: its tables, its places, its changes, which of them are safe, whether its device failed. -/
structure Sto where
  l : List Tb
  f : Nat → Bool × Nat
  ch : Nat
  sf : Nat
  bad : Bool
def stC (p q : Nat) (done state : Int) (lv sv : Value) (ch sf : Nat) (bad : Bool) : Array Value := #[.pointer (some ⟨p, 0, none⟩), .pointer (some ⟨q, 0, none⟩), .int .u32 done, .int .i32 state, .int .u32 0, lv, sv, .int .u64 (ch : Int), .int .u64 (sf : Int), .bool bad]
def Sv (w : World) (G : Nat → Prop) (s p q n : Nat) (st : Sto) : Prop :=
  ∃ b o c g, Blk w s 137 (stC p q 1 0 (.slice (some ⟨b, o, none⟩) st.l.length c) (.slice (some ⟨g, 0, none⟩) (n - 576) (n - 576)) st.ch st.sf st.bad) ∧ Blk w g 260 (plC (n - 576) st.f) ∧ Tbs w (fun k => G k ∧ k ≠ s ∧ k ≠ g) (some ⟨b, o, none⟩) st.l ∧ G s ∧ G g
theorem Sv.keep {w w' : World} {G T : Nat → Prop} {s p q n : Nat} {st : Sto} (h : Sv w G s p q n st) (hl : ∀ k, G k → k < w.heap.size) (ho : Only T w w') (hd : ∀ k, G k → ¬ T k) : Sv w' G s p q n st := by
  obtain ⟨b, o, c, g, h1, h2, h3, h4, h5⟩ := h
  exact ⟨b, o, c, g, h1.only ho (hd _ h4), h2.only ho (hd _ h5), h3.kept (fun i hi => ho.block i (hl i hi.1) (hd i hi.1)), h4, h5⟩
/-- A device, the journal and the store on it. -/
structure SD (w : World) (S : Nat → Prop) (s p q n : Nat) (x : St) (j : Jn) (st : Sto) : Prop where
  both : ∃ J G, JD w J p q n x j ∧ Sv w G s p q n st ∧ (∀ k, J k → ¬ G k) ∧ (∀ k, J k → S k) ∧ (∀ k, G k → S k)
  lt : ∀ k, S k → k < w.heap.size
  far : ¬ S gTab
def SOut (S : Nat → Prop) (w : World) (s p q n : Nat) (x : St) (j : Jn) (st : Sto) (w' : World) : Prop := ∃ S', SD w' S' s p q n x j st ∧ Only S w w' ∧ Grew S w S'
/-- The same, not yet prepared. -/
structure SU (w : World) (S : Nat → Prop) (s p q n : Nat) (x : St) (j : Jn) : Prop where
  both : ∃ J, JD w J p q n x j ∧ Blk w s 137 (stC p q 0 0 (.slice none 0 0) (.slice none 0 0) 0 0 false) ∧ ¬ J s ∧ (∀ k, J k → S k) ∧ S s
  lt : ∀ k, S k → k < w.heap.size
  far : ¬ S gTab
theorem SD.below {w w' : World} {S : Nat → Prop} {s p q n : Nat} {x : St} {j : Jn} {st : Sto} (h : SD w S s p q n x j st) (hb : Below w.heap.size w w') : SD w' S s p q n x j st := by
  obtain ⟨J, G, h1, h2, h3, h4, h5⟩ := h.both
  exact ⟨⟨J, G, h1.below hb, h2.keep (fun k hk => h.lt k (h5 k hk)) (Only.of_below (S := nobody) hb) (fun _ _ => id), h3, h4, h5⟩, fun k hk => Nat.lt_of_lt_of_le (h.lt k hk) hb.size, h.far⟩
theorem SOut.of_below {w w' : World} {S : Nat → Prop} {s p q n : Nat} {x : St} {j : Jn} {st : Sto} (h : SD w S s p q n x j st) (hb : Below w.heap.size w w') : SOut S w s p q n x j st w' := ⟨S, h.below hb, Only.of_below hb, Grew.refl _ _⟩
theorem mk_prep (s : Nat) (v : World) : (Instr.makeFunc (.func 136) #[.pointer (some ⟨s, 0, none⟩)] #[]).run Tryz.prog v = .ok (.func (.func 136) #[.pointer (some ⟨s, 0, none⟩)] #[]) v := by rfl
set_option maxRecDepth 100000 in
theorem tables_done (w : World) {S : Nat → Prop} {s p q n : Nat} {x : St} {j : Jn} {st : Sto} (h : SD w S s p q n x j st) :
    Calls Tryz.prog 77 #[.pointer (some ⟨s, 0, none⟩)] w fun e w' => ∃ b o c, e = .returned (.slice (some ⟨b, o, none⟩) st.l.length c) ∧ Tbs w (fun k => S k) (some ⟨b, o, none⟩) st.l ∧ w = w' := by
  obtain ⟨J, G, h1, ⟨b, o, c, g, hb, hg, ht, hs, _⟩, h3, h4, h5⟩ := h.both
  have k2 : w.cell? ⟨s, 2, none⟩ = some (.int .u32 1) := (hb.cell 2).trans rfl
  have k5 : w.cell? ⟨s, 5, none⟩ = some (.slice (some ⟨b, o, none⟩) st.l.length c) := (hb.cell 5).trans rfl
  have HT := Lib.hid (ht.mono (M := S) (fun k hk => h5 k hk.1))
  have HD := Lib.hid (fun fv => once_done ⟨s, 2, none⟩ fv w k2)
  have hmk := mk_prep s
  clear h h1 hb hg ht hs h3 h4 h5 k2
  go_enter Tryz.func77, Tryz.ntmps77
  go_wp2_with (fail)
  refine (HD.out _).mono ?_; rintro e w' ⟨rfl, rfl⟩
  go_wp2_with (fail)
  go_ret
  first | exact ⟨b, o, c, rfl, HT.out, rfl⟩ | exact ⟨b, o, ⟨c, rfl⟩, HT.out, rfl⟩
theorem stC_state (p q : Nat) (d i k : Int) (lv sv : Value) (ch sf : Nat) (bad : Bool) : (stC p q d i lv sv ch sf bad).setIfInBounds 3 (.int .i32 k) = stC p q d k lv sv ch sf bad := rfl
theorem stC_done (p q : Nat) (d i k : Int) (lv sv : Value) (ch sf : Nat) (bad : Bool) : (stC p q d i lv sv ch sf bad).setIfInBounds 2 (.int .u32 k) = stC p q k i lv sv ch sf bad := rfl
theorem stC_list (p q : Nat) (d i : Int) (lv sv v : Value) (ch sf : Nat) (bad : Bool) : (stC p q d i lv sv ch sf bad).setIfInBounds 5 v = stC p q d i v sv ch sf bad := rfl
theorem stC_space (p q : Nat) (d i : Int) (lv sv v : Value) (ch sf : Nat) (bad : Bool) : (stC p q d i lv sv ch sf bad).setIfInBounds 6 v = stC p q d i lv v ch sf bad := rfl
theorem stC_ch (p q : Nat) (d i : Int) (lv sv : Value) (ch sf k : Nat) (bad : Bool) : (stC p q d i lv sv ch sf bad).setIfInBounds 7 (.int .u64 (k : Int)) = stC p q d i lv sv k sf bad := rfl
def firstS (l : List Tb) : Sto := ⟨l, useTs zeroF l, 0, 0, false⟩
set_option maxRecDepth 100000 in
theorem tables_first (w : World) {S : Nat → Prop} {s p q n : Nat} {x : St} {j : Jn} {l0 : List Tb} {xs : List (Nat × Chg)} (h : SU w S s p q n x j) (hr : Rep j l0 xs) (hneed : needT (playL l0 xs) ≤ n) (hn : n ≤ 8192) (hu : UseTs (n - 576) zeroF (playL l0 xs)) :
    Calls Tryz.prog 77 #[.pointer (some ⟨s, 0, none⟩)] w fun e w' => ∃ b o c S', e = .returned (.slice (some ⟨b, o, none⟩) (playL l0 xs).length c) ∧ SD w' S' s p q n x j (firstS (playL l0 xs)) ∧ Tbs w' S' (some ⟨b, o, none⟩) (playL l0 xs) ∧ Only S w w' ∧ Grew S w S' := by
  obtain ⟨J, hj, hb, hJs, hJS, hSs⟩ := h.both
  have hlt := h.lt
  have hfar := h.far
  have hsl := hb.lt
  have hO1 := (Only.refl (fun k => k = s) w).setCell (p := ⟨s, 3, none⟩) (.inl rfl) (.int .i32 1)
  have hb1 := hb.put 3 (.int .i32 1)
  rw [stC_state] at hb1
  have hj1 := hj.keep hO1 (fun k hk e => hJs (by have : k = s := e; rwa [← this])) (fun e => hfar (by have : gTab = s := e; rw [this]; exact hSs))
  have hz1 : (w.setCell ⟨s, 3, none⟩ (.int .i32 1)).heap.size = w.heap.size := by simp
  generalize hL : playL l0 xs = l at *
  have hp := prepare_any _ hj1 hb1 rfl rfl rfl hr hL.symm hneed hn hu
  simp only [stC_list, stC_space, hz1] at hp
  have hfn : UseTs (n - 576) zeroF l := hu
  obtain ⟨m, hm⟩ : ∃ m, n - 576 = m := ⟨_, rfl⟩
  rw [hm] at hp
  obtain ⟨R, hRd⟩ : ∃ R : World → Prop, R = fun v => ∃ b o c g, Blk v s 137 (stC p q 0 1 (.slice (some ⟨b, o, none⟩) l.length c) (.slice (some ⟨g, 0, none⟩) m m) 0 0 false) ∧ Blk v g 260 (plC m (useTs zeroF l)) ∧ Tbs v (fun k => w.heap.size ≤ k ∧ k < g) (some ⟨b, o, none⟩) l ∧ w.heap.size ≤ g ∧ Only (fun k => k = s) (w.setCell ⟨s, 3, none⟩ (.int .i32 1)) v := ⟨_, rfl⟩
  have HO := Lib.hid (once_first s 2 (.pointer (some ⟨s, 0, none⟩)) w R ((hb.cell 2).trans rfl) ((hb.cell 3).trans rfl) (hb.free 3) (hp.mono fun e v hv => ⟨hv.1, by rw [hRd]; exact hv.2⟩) (fun v hv => by
    rw [hRd] at hv
    obtain ⟨b, o, c, g, hv1, _⟩ := hv
    exact ⟨(hv1.cell 2).trans rfl, (hv1.cell 3).trans rfl, hv1.free 2, hv1.free 3⟩))
  have HJ := Lib.hid hj; have HJS := Lib.hid hJS; have HSS := Lib.hid hSs; have HLT := Lib.hid hlt; have HFAR := Lib.hid hfar; have HJs := Lib.hid hJs; have HRD := Lib.hid hRd; have HMM := Lib.hid hm; have HO1 := Lib.hid hO1
  have hmk := mk_prep s
  clear h hr hneed hu hj hb hJS hlt hfar hb1 hj1 hz1 hp hL hfn hRd hm hO1 hJs hSs
  go_enter Tryz.func77, Tryz.ntmps77
  go_wp2_with (fail)
  refine HO.out.mono ?_; rintro e w1 ⟨rfl, v, hv, rfl⟩
  rw [HRD.out] at hv
  obtain ⟨b, o, c, g, hv1, hv2, hv3, hv4, hv5⟩ := hv
  have hsg : s ≠ g := hv1.apart hv2 (by decide)
  have hb2 := (hv1.drew.put 2 (.int .u32 1)).put 3 (.int .i32 0)
  rw [stC_done, stC_state] at hb2
  have hg2 := (hv2.drew.far (p := ⟨s, 2, none⟩) (Ne.symm hsg) (.int .u32 1)).far (p := ⟨s, 3, none⟩) (Ne.symm hsg) (.int .i32 0)
  have ht2 : Tbs ((v.drew.setCell ⟨s, 2, none⟩ (.int .u32 1)).setCell ⟨s, 3, none⟩ (.int .i32 0)) (fun k => w.heap.size ≤ k ∧ k < g) (some ⟨b, o, none⟩) l := hv3.kept (fun i hi => by
    have hne : i ≠ s := fun h => by have := hi.1; omega
    rw [Below.heap_setCell _ _ _ _ hne, Below.heap_setCell _ _ _ _ hne]
    rfl)
  have ho2 : Only (fun k => k = s) w ((v.drew.setCell ⟨s, 2, none⟩ (.int .u32 1)).setCell ⟨s, 3, none⟩ (.int .i32 0)) := (((HO1.out.trans hv5 (fun _ h => .inl h)).drew).setCell (p := ⟨s, 2, none⟩) (.inl rfl) _).setCell (p := ⟨s, 3, none⟩) (.inl rfl) _
  have H2 := Lib.hid hb2; have HG2 := Lib.hid hg2; have HT2 := Lib.hid ht2; have HO2 := Lib.hid ho2
  have k5 : ((v.drew.setCell ⟨s, 2, none⟩ (.int .u32 1)).setCell ⟨s, 3, none⟩ (.int .i32 0)).cell? ⟨s, 5, none⟩ = some (.slice (some ⟨b, o, none⟩) l.length c) := (hb2.cell 5).trans rfl
  generalize (v.drew.setCell ⟨s, 2, none⟩ (.int .u32 1)).setCell ⟨s, 3, none⟩ (.int .i32 0) = w2 at *
  clear hv1 hv2 hv3 hv5 hb2 hg2 ht2 ho2 HO hmk
  go_wp2_with (fail)
  go_ret
  have hgl := HG2.out.lt
  have hres : SD w2 (fun k => S k ∨ w.heap.size ≤ k ∧ k ≤ g) s p q n x j (firstS l) := by
    refine ⟨⟨J, fun k => k = s ∨ w.heap.size ≤ k ∧ k ≤ g, HJ.out.keep HO2.out (fun k hk e => HJs.out (by have : k = s := e; rwa [← this])) (fun e => HFAR.out (by have : gTab = s := e; rw [this]; exact HSS.out)), ⟨b, o, c, g, by rw [HMM.out]; exact H2.out, by rw [HMM.out]; exact HG2.out, HT2.out.mono (fun k hk => ⟨.inr ⟨hk.1, Nat.le_of_lt hk.2⟩, fun h => by omega, fun h => by omega⟩), .inl rfl, .inr ⟨hv4, Nat.le_refl _⟩⟩, fun k hk => ?_, fun k hk => .inl (HJS.out k hk), fun k hk => ?_⟩, fun k hk => ?_, fun hk => ?_⟩
    · rintro (rfl | ⟨h1, _⟩)
      · exact HJs.out hk
      · have := HLT.out k (HJS.out k hk); omega
    · rcases hk with rfl | hk
      · exact .inl HSS.out
      · exact .inr hk
    · rcases hk with hk | hk
      · exact Nat.lt_of_lt_of_le (HLT.out k hk) HO2.out.size
      · omega
    · rcases hk with hk | hk
      · exact HFAR.out hk
      · exact absurd HJ.out.tab.pos (Nat.not_lt.2 hk.1)
  have hT3 := HT2.out.mono (M := fun k => S k ∨ w.heap.size ≤ k ∧ k ≤ g) (fun k hk => .inr ⟨hk.1, Nat.le_of_lt hk.2⟩)
  have hO3 : Only S w w2 := HO2.out.mono (fun k hk => by have : k = s := hk; rw [this]; exact HSS.out)
  have hG3 : Grew S w (fun k => S k ∨ w.heap.size ≤ k ∧ k ≤ g) := fun k hk => hk.elim .inl (fun h => .inr h.1)
  first | exact ⟨b, o, c, _, rfl, hres, hT3, hO3, hG3⟩ | exact ⟨b, o, ⟨c, rfl⟩, _, hres, hT3, hO3, hG3⟩ | exact ⟨b, o, c, rfl, _, hres, hT3, hO3, hG3⟩
open Go.RowKit
open Ext (Ex Exts exV ExtsF)
theorem dv_below {w w' : World} {F : Nat → Prop} {p n : Nat} {x : St} (h : Dv w F p n x) (hb : Below w.heap.size w w') : Dv w' F p n x := h.keep (S := nobody) (Only.of_below hb) (fun _ _ => id)
theorem build107 (p q : Nat) (v : World) : Sem.run Tryz.prog (Instr.build 137 #[(0, .pointer (some ⟨p, 0, none⟩)), (1, .pointer (some ⟨q, 0, none⟩))]) v = .ok (.agg (stC p q 0 0 (.slice none 0 0) (.slice none 0 0) 0 0 false)) v := by kernel_rfl
theorem new_ok_tb {us : List (Int × ByteArray)} (h : ∀ u ∈ us, 1 ≤ u.1 ∧ u.1 ≤ 4096 ∧ u.2.size = 16) : ∀ t ∈ us.map newT, t.Ok := fun t ht => by
  obtain ⟨u, hu, rfl⟩ := List.mem_map.1 ht
  obtain ⟨h1, h2, h3⟩ := h u hu
  exact ⟨h1, h2, h3, Nat.zero_le _, rfl, fun _ _ => rfl⟩
set_option maxRecDepth 100000 in
set_option maxHeartbeats 2000000 in
theorem format_store (w : World) {F : Nat → Prop} {p n : Nat} {x : St} (h : Dv w F p n x) (ht : Tab w) (hF : ¬ F gTab) (A : Option Addr) (c : Nat) (us : List (Int × ByteArray)) (hus : Uns w A us) (hok : ∀ u ∈ us, 1 ≤ u.1 ∧ u.1 ≤ 4096 ∧ u.2.size = 16) (hu1 : 1 ≤ us.length) (hu8 : us.length ≤ 8) (hneed : needT (us.map newT) ≤ n) (hx : x.ops ≤ 10000000000)
    (hw : (Jn.blank 0 576).why (baseB (us.map newT)) (Jn.blank 0 576).size = 0) (h1 : (x.put 0 zero4 4).2 = true) (h2 : ((Jn.blank 0 576).enter (x.put 0 zero4 4).1 (baseB (us.map newT)) (1 - (Jn.blank 0 576).half) 0 0).2 = true) (h3 : ((Jn.blank 0 576).enter (x.put 0 zero4 4).1 (baseB (us.map newT)) (1 - (Jn.blank 0 576).half) 0 0).1.flsh.2 = true) :
    Calls Tryz.prog 15 #[.pointer (some ⟨p, 0, none⟩), .slice A us.length c] w fun e w' => ∃ s q S, e = .returned (.tuple #[.pointer (some ⟨s, 0, none⟩), .int .i64 0]) ∧ SU w' S s p q n ((Jn.blank 0 576).check (x.put 0 zero4 4).1 (baseB (us.map newT))).1 ((Jn.blank 0 576).swap (baseB (us.map newT))) ∧ Only F w w' ∧ Grew F w S := by
  have hml : (us.map newT).length = us.length := List.length_map ..
  have HFR := Lib.hid (fresh_any A c us w hus (by omega))
  have HOK := Lib.hid (new_ok_tb hok)
  have HD := Lib.hid h
  have HT := Lib.hid ht
  have hsn := sumN_small (l := us.map newT) (fun t ht => ⟨(HOK.out t ht).n1, (HOK.out t ht).n2⟩)
  have hn576 : 576 ≤ n := by unfold needT at hneed; omega
  have hnl : ¬ (n : Int) < needT (us.map newT) := by omega
  have HFM := Lib.hid (fun v (hb : Below w.heap.size w v) => format_ok v (dv_below h hb) (ht.below hb) hF 0 576 (by decide) (by omega) (baseB (us.map newT)) hx hw h1 h2 h3)
  obtain ⟨l, hl⟩ : ∃ l, us.map newT = l := ⟨_, rfl⟩
  rw [hl] at HFR HOK HFM hnl hml ⊢
  obtain ⟨nt, hnt⟩ : ∃ nt, needT l = nt := ⟨_, rfl⟩
  obtain ⟨jx, hjx⟩ : ∃ jx, ((Jn.blank 0 576).check (x.put 0 zero4 4).1 (baseB l)).1 = jx := ⟨_, rfl⟩
  obtain ⟨jj, hjj⟩ : ∃ jj, (Jn.blank 0 576).swap (baseB l) = jj := ⟨_, rfl⟩
  rw [hjx, hjj] at HFM ⊢
  have HNT := Lib.hid hnt
  have hnot : ∀ (x : Bool) (w : World), (Op.unary .not (.bool x)).run Tryz.prog w = .ok (.bool (!x)) w := fun _ _ => rfl
  have HML := Lib.hid hml
  have H8 := Lib.hid hu8; have H1 := Lib.hid hu1
  have HFF := Lib.hid hF
  rw [hnt] at hnl
  clear h ht hF hus hok hneed hx hw h1 h2 h3 hsn hl hnt hjx hjj hml hu1 hu8
  go_enter Tryz.func15, Tryz.ntmps15
  go_wp2_with (fail)
  refine HFR.out.mono ?_; rintro e w1 ⟨g, rfl, htb, hb1, _⟩
  rw [← HML.out]
  have HTB := Lib.hid htb; have B1 := Lib.hid hb1
  have HSD := Lib.hid (sound_any _ _ l.length l w1 htb HOK.out (by rw [HML.out]; exact H1.out) (by rw [HML.out]; exact H8.out))
  clear htb hb1 HFR
  go_wp2_with (fail)
  refine HSD.out.mono ?_; rintro e w2 ⟨rfl, hb2⟩
  have HTB2 := Lib.hid (HTB.out.below hb2); have B2 := Lib.hid (B1.out.trans (hb2.mono B1.out.size))
  clear hb2
  go_wp2_with (fail)
  refine (size_any w2 (dv_below HD.out B2.out)).mono ?_; rintro e w2' ⟨rfl, rfl⟩
  have HRQ := Lib.hid (required_any _ _ l.length l w2 HTB2.out (fun t ht => ⟨(HOK.out t ht).n1, (HOK.out t ht).n2⟩) (by rw [HML.out]; exact H8.out))
  rw [HNT.out] at HRQ
  go_wp2_with (fail)
  refine HRQ.out.mono ?_; rintro e w3 ⟨rfl, hb3⟩
  have HTB3 := Lib.hid (HTB2.out.below hb3); have B3 := Lib.hid (B2.out.trans (hb3.mono B2.out.size))
  clear hb3
  have HBT := Lib.hid (base_text _ _ l.length l w3 HTB3.out HOK.out (by rw [HML.out]; exact H8.out))
  go_wp2_with (fail)
  refine HBT.out.mono ?_; rintro e w4 ⟨rfl, hb4⟩
  have B4' := Lib.hid (B3.out.trans (hb4.mono B3.out.size))
  clear hb4
  go_wp2_with (fail)
  refine (HFM.out _ B4'.out).mono ?_; rintro e w5 ⟨q, S, rfl, hj, ho, hg⟩
  have HJ := Lib.hid hj; have HO := Lib.hid ho; have HG := Lib.hid hg
  have hbld := build107 p q w5
  clear hj ho hg
  go_wp2_with (fail)
  go_ret2
  have hn := Blk.new w5 137 (stC p q 0 0 (.slice none 0 0) (.slice none 0 0) 0 0 false)
  have hal := (Below.refl w5.heap.size w5).alloc (Nat.le_refl _) (.cells (stC p q 0 0 (.slice none 0 0) (.slice none 0 0) 0 0 false) 137)
  have hres : SU (w5.alloc (.cells (stC p q 0 0 (.slice none 0 0) (.slice none 0 0) 0 0 false) 137)) (fun k => S k ∨ k = w5.heap.size) w5.heap.size p q n jx jj :=
    ⟨⟨S, HJ.out.below hal, hn, fun h => Nat.lt_irrefl _ (HJ.out.lt _ h), fun k hk => .inl hk, .inr rfl⟩, fun k hk => by
      rcases hk with hk | rfl
      · exact Nat.lt_of_lt_of_le (HJ.out.lt k hk) hal.size
      · exact hn.lt, fun hk => by
      rcases hk with hk | hk
      · exact HJ.out.far hk
      · have h1 : gTab < w5.heap.size := HJ.out.tab.pos
        have h2 : gTab = w5.heap.size := hk
        exact absurd h1 (by rw [h2]; exact Nat.lt_irrefl _)⟩
  have hO : Only F w (w5.alloc (.cells (stC p q 0 0 (.slice none 0 0) (.slice none 0 0) 0 0 false) 137)) := ((Only.of_below B4'.out).trans HO.out (fun i hi => .inl hi)).below hal
  have hG : Grew F w (fun k => S k ∨ k = w5.heap.size) := fun k hk => by
    rcases hk with hk | rfl
    · exact (HG.out k hk).elim .inl (fun h => .inr (Nat.le_trans B4'.out.size h))
    · exact .inr (Nat.le_trans B4'.out.size HO.out.size)
  first | exact ⟨_, q, _, rfl, hres, hO, hG⟩ | exact ⟨_, rfl, q, _, hres, hO, hG⟩ | exact ⟨_, ⟨rfl, q, _, hres, hO, hG⟩⟩
open Go.RowKit
open Ext (Ex Exts exV ExtsF)
/-- A store that knows this, prepared or not yet. -/
def Has (w : World) (S : Nat → Prop) (s p q n : Nat) (x : St) (j : Jn) (st : Sto) : Prop :=
  SD w S s p q n x j st ∨ (SU w S s p q n x j ∧ ∃ l0 xs, Rep j l0 xs ∧ needT (playL l0 xs) ≤ n ∧ n ≤ 8192 ∧ UseTs (n - 576) zeroF (playL l0 xs) ∧ st = firstS (playL l0 xs))
theorem SU.below {w w' : World} {S : Nat → Prop} {s p q n : Nat} {x : St} {j : Jn} (h : SU w S s p q n x j) (hb : Below w.heap.size w w') : SU w' S s p q n x j := by
  obtain ⟨J, h1, h2, h3, h4, h5⟩ := h.both
  exact ⟨⟨J, h1.below hb, h2.below hb h2.lt, h3, h4, h5⟩, fun k hk => Nat.lt_of_lt_of_le (h.lt k hk) hb.size, h.far⟩
theorem Has.below {w w' : World} {S : Nat → Prop} {s p q n : Nat} {x : St} {j : Jn} {st : Sto} (h : Has w S s p q n x j st) (hb : Below w.heap.size w w') : Has w' S s p q n x j st :=
  h.elim (fun h => .inl (h.below hb)) (fun h => .inr ⟨h.1.below hb, h.2⟩)
theorem tables_any (w : World) {S : Nat → Prop} {s p q n : Nat} {x : St} {j : Jn} {st : Sto} (h : Has w S s p q n x j st) :
    Calls Tryz.prog 77 #[.pointer (some ⟨s, 0, none⟩)] w fun e w' => ∃ b o c S', e = .returned (.slice (some ⟨b, o, none⟩) st.l.length c) ∧ SD w' S' s p q n x j st ∧ Tbs w' S' (some ⟨b, o, none⟩) st.l ∧ Only S w w' ∧ Grew S w S' := by
  rcases h with h | ⟨h, l0, xs, hr, hn, h8, hu, rfl⟩
  · refine (tables_done w h).mono ?_
    rintro e w' ⟨b, o, c, rfl, ht, rfl⟩
    exact ⟨b, o, c, S, rfl, h, ht, Only.refl _ _, Grew.refl _ _⟩
  · exact tables_first w h hr hn h8 hu
theorem SD.keep {w w' : World} {S T : Nat → Prop} {s p q n : Nat} {x : St} {j : Jn} {st : Sto} (h : SD w S s p q n x j st) (ho : Only T w w') (hd : ∀ k, S k → ¬ T k) (ht : ¬ T gTab) : SD w' S s p q n x j st := by
  obtain ⟨J, G, h1, h2, h3, h4, h5⟩ := h.both
  exact ⟨⟨J, G, h1.keep ho (fun k hk => hd k (h4 k hk)) ht, h2.keep (fun k hk => h.lt k (h5 k hk)) ho (fun k hk => hd k (h5 k hk)), h3, h4, h5⟩, fun k hk => Nat.lt_of_lt_of_le (h.lt k hk) ho.size, h.far⟩
theorem Has.tab {w : World} {S : Nat → Prop} {s p q n : Nat} {x : St} {j : Jn} {st : Sto} (h : Has w S s p q n x j st) : Tab w := by
  rcases h with h | ⟨h, _⟩
  · obtain ⟨J, G, h1, _⟩ := h.both
    exact h1.tab
  · obtain ⟨J, h1, _⟩ := h.both
    exact h1.tab
set_option maxRecDepth 100000 in
set_option maxHeartbeats 1000000 in
theorem table_ok (w : World) {S : Nat → Prop} {s p q n : Nat} {x : St} {j : Jn} {st : Sto} (h : Has w S s p q n x j st) (lun : Nat) (t : Tb) (ht : st.l[lun]? = some t) :
    Calls Tryz.prog 66 #[.pointer (some ⟨s, 0, none⟩), .int .i64 (lun : Int)] w fun e w' => ∃ E c S', e = .returned (.tuple #[tbV t E c, .bool true]) ∧ SD w' S' s p q n x j st ∧ Exts w' E t.ex ∧ (∀ a, E = some a → 0 < t.ex.length → S' a.block) ∧ Only S w w' ∧ Grew S w S' := by
  obtain ⟨hz, hzb⟩ := one_alloc w zTb 140 _ rfl
  have HTA := Lib.hid (tables_any _ (h.below hzb))
  have HTAB := Lib.hid h.tab
  have HZ := Lib.hid hz; have HZB := Lib.hid hzb
  have HLT := Lib.hid (show ∀ k, S k → k < w.heap.size from h.elim (fun h => h.lt) (fun h => h.1.lt))
  have hll := (List.getElem?_eq_some_iff.1 ht).1
  have HTT := Lib.hid ht
  have g0 : ¬ (lun : Int) < 0 := by omega
  have g1 : ¬ (lun : Int) ≥ (st.l.length : Int) := by omega
  have g2 : (0 : Int) ≤ (lun : Int) := by omega
  have g3 : (lun : Int) < (st.l.length : Int) := by omega
  clear h hz hzb ht
  unfold tbV
  go_enter Tryz.func66, Tryz.ntmps66
  go_wp2_with (fail)
  rw [show (Obj.cells #[Value.int IntKind.i64 0, Value.string ⟨#[]⟩, Value.string ⟨#[]⟩, Value.slice none 0 0] 140) = Obj.cells zTb 140 from rfl]
  generalize hw1 : w.alloc (.cells zTb 140) = w1 at *
  refine HTA.out.mono ?_; rintro e w2 ⟨b, o, c, S', rfl, hsd, htb, ho, hg⟩
  have HSD := Lib.hid hsd; have HTB := Lib.hid htb; have HO := Lib.hid ho; have HG := Lib.hid hg
  have hzs : ¬ S w.heap.size := fun h => Nat.lt_irrefl _ (HLT.out _ h)
  have HZ2 := Lib.hid (HZ.out.only ho hzs)
  obtain ⟨b', o', t', E, ce, e0, hat, c0, c1, c2, c3, he, _, hel⟩ := HTB.out.at_ hll
  obtain ⟨rfl, rfl⟩ : b = b' ∧ o = o' := by
    have := Option.some.inj e0
    injection this with x1 x2 _
    exact ⟨x1, x2⟩
  rw [HTT.out] at hat
  obtain rfl := Option.some.inj hat
  have HE := Lib.hid he; have HEL := Lib.hid hel
  have k0 : w2.cell? ⟨w.heap.size, 0, none⟩ = some (.int .i64 0) := (HZ2.out.cell 0).trans rfl
  have k1 : w2.cell? ⟨w.heap.size, 1, none⟩ = some (.string ⟨#[]⟩) := (HZ2.out.cell 1).trans rfl
  have k2 : w2.cell? ⟨w.heap.size, 2, none⟩ = some (.string ⟨#[]⟩) := (HZ2.out.cell 2).trans rfl
  have k3 : w2.cell? ⟨w.heap.size, 3, none⟩ = some (.slice none 0 0) := (HZ2.out.cell 3).trans rfl
  have f0 := HZ2.out.free 0
  have f1 := HZ2.out.free 1
  have f2 := HZ2.out.free 2
  have f3 := HZ2.out.free 3
  clear hsd htb ho hg he hel hat e0
  go_wp2_with (fail)
  have hs1 : w.heap.size < w1.heap.size := HZ.out.lt
  have hng : ¬ S' w.heap.size := fun h => (HG.out _ h).elim hzs (fun h => by omega)
  have ho4 : Only (fun k => k = w.heap.size) w2 ((((w2.setCell ⟨w.heap.size, 0, none⟩ (.int .i64 t.n)).setCell ⟨w.heap.size, 1, none⟩ (.string t.id)).setCell ⟨w.heap.size, 2, none⟩ (.string t.rc)).setCell ⟨w.heap.size, 3, none⟩ (.slice E t.ex.length ce)) :=
    ((((Only.refl (fun k => k = w.heap.size) w2).setCell (p := ⟨w.heap.size, 0, none⟩) (.inl rfl) _).setCell (p := ⟨w.heap.size, 1, none⟩) (.inl rfl) _).setCell (p := ⟨w.heap.size, 2, none⟩) (.inl rfl) _).setCell (p := ⟨w.heap.size, 3, none⟩) (.inl rfl) _
  have r1 := HSD.out.keep ho4 (fun k hk e => hng (by have : k = w.heap.size := e; rwa [← this])) (fun e => by have h1 : gTab < w.heap.size := HTAB.out.pos; have h2 : gTab = w.heap.size := e; rw [h2] at h1; exact Nat.lt_irrefl _ h1)
  have r2 := HE.out.kept (w' := ((((w2.setCell ⟨w.heap.size, 0, none⟩ (.int .i64 t.n)).setCell ⟨w.heap.size, 1, none⟩ (.string t.id)).setCell ⟨w.heap.size, 2, none⟩ (.string t.rc)).setCell ⟨w.heap.size, 3, none⟩ (.slice E t.ex.length ce))) (fun hn a ha => heap_set4 (fun h => hng (by rw [← h]; exact HEL.out a ha hn)) _ _ _ _)
  have r3 : Only S w ((((w2.setCell ⟨w.heap.size, 0, none⟩ (.int .i64 t.n)).setCell ⟨w.heap.size, 1, none⟩ (.string t.id)).setCell ⟨w.heap.size, 2, none⟩ (.string t.rc)).setCell ⟨w.heap.size, 3, none⟩ (.slice E t.ex.length ce)) :=
    ((Only.of_below HZB.out).trans HO.out (fun _ h => .inl h)).trans (ho4.mono (T := fun k => w.heap.size ≤ k) (fun k hk => by have : k = w.heap.size := hk; omega)) (fun i hi => .inr hi)
  have r4 : Grew S w S' := fun k hk => (HG.out k hk).elim .inl (fun h => .inr (by omega))
  refine bodyPost_ret_by (v := .tuple #[.agg #[.int .i64 t.n, .string t.id, .string t.rc, .slice E t.ex.length ce], .bool true]) ?_ rfl ⟨E, ce, S', rfl, r1, r2, HEL.out, r3, r4⟩
  rw [results_cell_tmp rfl]
  go_simp
end Go.Proofs.YtglfjlbhjaemgaaGreatDoor
