/- The statements' own table and command. -/
import Derived.Test.YtgekadfkokkapaaDoorReW
namespace Go.Proofs.YtgekadfkokkapaaDoor
open Go.RowKit
def wakM : Cm := ⟨12, 0, ⟨#[98]⟩, 0, 0, ⟨#[]⟩, false, none, 0, 0, 2, 0, 1, 2, false, 0⟩
def wakU : Tl := ⟨[⟨⟨#[98]⟩, 2⟩], 2, ⟨#[98]⟩, 1, false⟩
theorem wakD : doT wakT wakM = wakU := by kernel_rfl
theorem wakE : doE wakT wakM = [⟨⟨#[97]⟩, 2⟩] := by kernel_rfl
theorem wakC : doC wakT wakM = 1 := by kernel_rfl
theorem wakG : goodB wakT = true := by decide +kernel
theorem wakX : ∀ x ∈ wakT.rs, x.h.size ≤ 1000 := by decide +kernel
set_option maxRecDepth 100000 in
set_option maxHeartbeats 4000000 in
theorem wakes_any (w : World) (ht : RTab w) : Calls Tryd.prog 12 #[] w fun e w' => e = .returned (.bool true) ∧ Below w.heap.size w w' := by
  have HT := Lib.hid ht
  clear ht
  have k1 : ∀ v : World, (Instr.build 57 #[(0, .string ⟨#[97]⟩), (1, .int .u64 1)]).run Tryd.prog v = .ok (.agg #[.string ⟨#[97]⟩, .int .u64 1]) v := fun _ => by kernel_rfl
  have k2 : ∀ v : World, (Instr.build 57 #[(0, .string ⟨#[98]⟩), (1, .int .u64 2)]).run Tryd.prog v = .ok (.agg #[.string ⟨#[98]⟩, .int .u64 2]) v := fun _ => by kernel_rfl
  have k3 : ∀ v : World, (Instr.build 24 #[(0, .int .i64 1), (1, .string ⟨#[97]⟩)]).run Tryd.prog v = .ok (.agg #[.int .i64 1, .string ⟨#[97]⟩]) v := fun _ => by kernel_rfl
  have k4 : ∀ (v : World) (a : Addr), (Instr.build 27 #[(0, .slice (some a) 2 2), (1, .agg #[.int .i64 1, .string ⟨#[97]⟩])]).run Tryd.prog v = .ok (.agg #[.slice (some a) 2 2, .int .i64 1, .string ⟨#[97]⟩, .int .u32 0, .bool false]) v := fun _ _ => by kernel_rfl
  have k5 : ∀ v : World, (Instr.build 37 #[(0, .int .i64 12), (2, .string ⟨#[98]⟩), (8, .int .u64 2), (10, .int .u64 1), (11, .int .i64 2)]).run Tryd.prog v = .ok (cmV wakM) v := fun _ => by kernel_rfl
  go_enter Tryd.func12, Tryd.ntmps12
  go_upto_region 2 with (fail)
  change Code.wp _ _ _ _ ((w.alloc (.cells #[.string ⟨#[97]⟩, .int .u64 1, .string ⟨#[98]⟩, .int .u64 2] 57)).alloc (.cells (tlC (some ⟨w.heap.size, 0, none⟩) 2 wakT) 27))
  have hV : ∀ V, V = (w.alloc (.cells #[.string ⟨#[97]⟩, .int .u64 1, .string ⟨#[98]⟩, .int .u64 2] 57)).alloc (.cells (tlC (some ⟨w.heap.size, 0, none⟩) 2 wakT) 27) → Rgs V (some ⟨w.heap.size, 0, none⟩) wakT.rs ∧ Blk V (w.heap.size + 1) 27 (tlC (some ⟨w.heap.size, 0, none⟩) 2 wakT) ∧ Below w.heap.size w V := by
    rintro V rfl
    have h1 := (Blk.new w 57 #[.string ⟨#[97]⟩, .int .u64 1, .string ⟨#[98]⟩, .int .u64 2]).alloc (.cells (tlC (some ⟨w.heap.size, 0, none⟩) 2 wakT) 27)
    have h2 := Blk.new (w.alloc (.cells #[.string ⟨#[97]⟩, .int .u64 1, .string ⟨#[98]⟩, .int .u64 2] 57)) 27 (tlC (some ⟨w.heap.size, 0, none⟩) 2 wakT)
    refine ⟨fun _ => ⟨_, 0, rfl, fun j x hj => ?_⟩, by simpa using h2, ((Below.refl w.heap.size w).alloc (Nat.le_refl _) _).alloc (by simp) _⟩
    have hlt : j < 2 := (List.getElem?_eq_some_iff.1 hj).1
    rcases (show j = 0 ∨ j = 1 by omega) with rfl | rfl
    · obtain rfl : _ = x := Option.some.inj hj
      exact ⟨by decide +kernel, h1.cell 0, h1.cell 1⟩
    · obtain rfl : _ = x := Option.some.inj hj
      exact ⟨by decide +kernel, h1.cell 2, h1.cell 3⟩
  obtain ⟨v1, v2, v3⟩ := hV _ rfl
  have HR0 := Lib.hid v1; have HK0 := Lib.hid v2; have HB0 := Lib.hid v3
  clear v1 v2 v3 hV k1 k2 k3 k4
  generalize (w.alloc (.cells #[.string ⟨#[97]⟩, .int .u64 1, .string ⟨#[98]⟩, .int .u64 2] 57)).alloc (.cells (tlC (some ⟨w.heap.size, 0, none⟩) 2 wakT) 27) = w0 at *
  have HT0 := Lib.hid (HT.out.below HB0.out)
  have hnt := not_true
  have hnf := not_false
  have c0 : w0.cell? ⟨w.heap.size + 1, 0, none⟩ = some (.slice (some ⟨w.heap.size, 0, none⟩) 2 2) := HK0.out.cell 0
  have c1 : w0.cell? ⟨w.heap.size + 1, 1, none⟩ = some (.int .i64 1) := HK0.out.cell 1
  have c2 : w0.cell? ⟨w.heap.size + 1, 2, none⟩ = some (.string ⟨#[97]⟩) := HK0.out.cell 2
  have c3 : w0.cell? ⟨w.heap.size + 1, 3, none⟩ = some (.int .u32 0) := HK0.out.cell 3
  have c4 : w0.cell? ⟨w.heap.size + 1, 4, none⟩ = some (.bool false) := HK0.out.cell 4
  have HGD := Lib.hid (fun v (hb : Below w0.heap.size w0 v) => good_any (some ⟨w.heap.size, 0, none⟩) 2 wakT v (HR0.out.below hb) (by decide +kernel))
  rw [wakG] at HGD
  go_wp2_with (fail)
  refine (do_any (some ⟨w.heap.size, 0, none⟩) 2 wakT wakM w0 HR0.out (by decide +kernel) wakX (by decide +kernel) (by decide +kernel) HT0.out).mono ?_; rintro e w1 ⟨A1, c1', B1, e1, rfl, ho, he, hb⟩
  rw [wakD] at ho
  rw [wakE] at he
  rw [wakD, wakE, wakC]
  have HO1 := Lib.hid ho; have HE1 := Lib.hid he; have HB1 := Lib.hid (HB0.out.trans (hb.mono HB0.out.size)); have HK1 := Lib.hid (HK0.out.below hb HK0.out.lt); have HG1 := Lib.hid (fun v (h : Below w1.heap.size w1 v) => HGD.out v (hb.trans (h.mono hb.size)))
  clear ho he hb c0 c1 c2 c3 c4 k5 HGD
  go_upto_region 3 with (fail)
  change Code.wp _ _ _ _ (w1.alloc (.cells (tlC A1 c1' wakU) 27))
  have hal := (Below.refl w1.heap.size w1).alloc (Nat.le_refl _) (.cells (tlC A1 c1' wakU) 27)
  have HU := Lib.hid (Blk.new w1 27 (tlC A1 c1' wakU))
  have HK2 := Lib.hid (HK1.out.below hal HK1.out.lt); have HB2 := Lib.hid (HB1.out.trans (hal.mono HB1.out.size)); have HE2 := Lib.hid ((HE1.out.below hal).evs); have HG2 := Lib.hid (fun v (h : Below (w1.alloc (.cells (tlC A1 c1' wakU) 27)).heap.size (w1.alloc (.cells (tlC A1 c1' wakU) 27)) v) => HG1.out v (hal.trans (h.mono hal.size)))
  clear hal HG1
  generalize w1.alloc (.cells (tlC A1 c1' wakU) 27) = w2 at *
  obtain ⟨eb, eo, ex, hB, hex, e0, e1'⟩ := HE2.out.at_ (j := 0) (by decide)
  obtain rfl : (⟨⟨#[97]⟩, 2⟩ : Ev) = ex := Option.some.inj hex
  subst hB
  clear hex
  rw [Nat.zero_mul, Nat.add_zero] at e0 e1'
  have u0 : w2.cell? ⟨w1.heap.size, 0, none⟩ = some (.slice A1 1 c1') := HU.out.cell 0
  have u1 : w2.cell? ⟨w1.heap.size, 1, none⟩ = some (.int .i64 2) := HU.out.cell 1
  have u2 : w2.cell? ⟨w1.heap.size, 2, none⟩ = some (.string ⟨#[98]⟩) := HU.out.cell 2
  have u3 : w2.cell? ⟨w1.heap.size, 3, none⟩ = some (.int .u32 1) := HU.out.cell 3
  have u4 : w2.cell? ⟨w1.heap.size, 4, none⟩ = some (.bool false) := HU.out.cell 4
  have c0 : w2.cell? ⟨w.heap.size + 1, 0, none⟩ = some (.slice (some ⟨w.heap.size, 0, none⟩) 2 2) := HK2.out.cell 0
  have c1 : w2.cell? ⟨w.heap.size + 1, 1, none⟩ = some (.int .i64 1) := HK2.out.cell 1
  have c2 : w2.cell? ⟨w.heap.size + 1, 2, none⟩ = some (.string ⟨#[97]⟩) := HK2.out.cell 2
  have c3 : w2.cell? ⟨w.heap.size + 1, 3, none⟩ = some (.int .u32 0) := HK2.out.cell 3
  have c4 : w2.cell? ⟨w.heap.size + 1, 4, none⟩ = some (.bool false) := HK2.out.cell 4
  go_wp2_with (fail)
  refine (HG2.out _ (Below.refl _ _)).mono ?_; rintro e w3 ⟨rfl, hb3⟩
  go_wp2_with (fail)
  go_ret
  exact ⟨rfl, HB2.out.trans (hb3.mono HB2.out.size)⟩
end Go.Proofs.YtgekadfkokkapaaDoor
