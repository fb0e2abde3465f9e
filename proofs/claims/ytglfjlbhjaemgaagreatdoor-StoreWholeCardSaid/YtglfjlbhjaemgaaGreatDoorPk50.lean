/- StoreWhole: a write of several blocks is whole behind a crash, or not there at all. -/
import Derived.Test.YtglfjlbhjaemgaaGreatDoorPk46
import Derived.Test.YtglfjlbhjaemgaaGreatDoorPk15
import Derived.Test.YtglfjlbhjaemgaaGreatDoorPk49
namespace Go.Proofs.YtglfjlbhjaemgaaGreatDoor
open Go.RowKit
open Ext (Ex Exts exV ExtsF textX)
open Ext (whereX AscTo goodB setX dropX)
theorem Has.far {w : World} {S : Nat → Prop} {s p q n : Nat} {x : St} {j : Jn} {st : Sto} (h : Has w S s p q n x j st) : ¬ S gTab := by
  rcases h with h | ⟨h, _⟩
  · exact h.far
  · exact h.far
/-- A crash; what it keeps lies in a list that was made behind the store. -/
theorem crash_us2 {w0 w1 w : World} {s p q n : Nat} {V Vp : List Un} {m : Nat} (h : Us w0 w1 s p q n V Vp m) (hb : Below w1.heap.size w1 w) (hm : m ≤ 500) (A : Option Addr) (c : Nat) (ks : List Int) (hks : Nums w A ks) (hoff : 0 < ks.length → ∀ a, A = some a → a.block < w0.heap.size ∨ w1.heap.size ≤ a.block) (hlen : ks.length ≤ maxLen) :
    Calls Tryz.prog 20 #[.pointer (some ⟨p, 0, none⟩), .slice A ks.length c] w fun e w' => e = .returned (.tuple #[]) ∧ Dn w0 w' p n V Vp m := by
  obtain ⟨S, x, j, st, hh, hs, hi, h1, h2, h3⟩ := h.has
  obtain ⟨F, hF, hsub⟩ := hh.dv
  have hlo : ∀ k, F k → w0.heap.size ≤ k := fun k hk => hs k (hsub k hk)
  have h1x := h1
  refine (crash_any w (dv_below hF hb) (by omega) A c ks hks (fun hn a ha hf => by
    have k1 := hlo _ hf
    have k2 := hh.lt _ (hsub _ hf)
    rcases hoff hn a ha with h4 | h4 <;> omega) hlen).mono ?_
  rintro e w' ⟨h1, F', hv, ho, hg⟩
  have h1' : (x.crash ks).ops ≤ m * 17000001 := h1x
  obtain ⟨a, la, hnum, k1, k2, k3⟩ := hi.crash ks
  have hbw := h.below.trans (hb.mono h.below.size)
  exact ⟨h1, ⟨F', x.crash ks, a, la, hv, grew_lo hg hlo hbw.size, k1, k2, k3, rfl, rfl, h1', by omega⟩, below_go hbw ho hlo⟩
theorem own_none (w : World) : (w.alloc (.cells #[] 3)).ownsRow w.heap.size 3 1 (.slice (some ⟨w.heap.size, 0, none⟩) 0 0) 0 [] := World.ownsRow_made w #[] 0 (Nat.le_refl _) (by decide) rfl
theorem below_grown {w w3 : World} {o : Obj} {row : Option Nat} (hg : (w.alloc o).grownBy w3 row) (hr : ∀ k, row = some k → w.heap.size ≤ k) : Below w.heap.size w w3 :=
  ((Below.refl w.heap.size w).alloc (Nat.le_refl _) o).grown hg (by simp) hr
def whU (f0 : UInt8) (at_ k : Nat) : Un := (newU (40, idB 1)).wr at_ k (fillB f0 k)
def whX (f0 f1 : UInt8) (at_ k : Nat) : Un := (whU f0 at_ k).wr at_ k (fillB f1 k)
theorem wh_rd {f0 f1 : UInt8} {a k : Nat} : (whU f0 a k).rd a k = fillB f0 k ∧ (whX f0 f1 a k).rd a k = fillB f1 k := ⟨rd_wr (fillB_size ..), rd_wr (fillB_size ..)⟩
theorem wh_used {f0 f1 : UInt8} {a k : Nat} (h : a + k ≤ 40) : (whU f0 a k).used = k ∧ (whX f0 f1 a k).used = k := by
  refine ⟨used_wr (by omega) (fun b _ => rfl), used_wr (by omega) (fun b hb => ?_)⟩
  unfold whU Un.wr
  show (if _ then _ else _ : Option ByteArray) = none
  rw [if_neg hb]
  rfl
set_option maxRecDepth 100000 in
set_option maxHeartbeats 4000000 in
theorem storeWhole_any (lba n : Int) (f0 f1 : UInt8) (A : Option Addr) (c : Nat) (ks : List Int) (w : World) (ht : Tab w) (hks : Nums w A ks) (hkl : ks.length * 8 ≤ 140737488355328) :
    Calls Tryz.prog 3 #[.agg #[.int .i64 lba, .int .i64 n], .agg #[.int .u8 (f0.toNat : Int), .int .u8 (f1.toNat : Int)], .slice A ks.length c] w fun e w' => e = .returned (.bool true) ∧ Below w.heap.size w w' := by
  obtain ⟨kk, hkk⟩ : ∃ kk : Nat, n % 20 = (kk : Int) := ⟨(n % 20).toNat, by omega⟩
  obtain ⟨k, hk⟩ : ∃ k : Nat, k = 1 + kk := ⟨_, rfl⟩
  have hk20 : k ≤ 20 := by omega
  have hk1 : 1 ≤ k := by omega
  obtain ⟨r, hr⟩ : ∃ r : Nat, r = 41 - k := ⟨_, rfl⟩
  obtain ⟨a, ha⟩ : ∃ a : Nat, lba % (r : Int) = (a : Int) := ⟨(lba % (r : Int)).toNat, by have := Int.emod_nonneg lba (show (r : Int) ≠ 0 by omega); omega⟩
  have har : a < r := by have := Int.emod_lt_of_pos lba (show (0 : Int) < (r : Int) by omega); omega
  have hak : a + k ≤ 40 := by omega
  have HID : Hid (∀ v, Calls Tryz.prog 12 #[.int .u8 1] v fun e w' => e = .returned (.string (idB 1)) ∧ Below v.heap.size v w') := Lib.hid (fun v => id_any 1 v)
  have HND : Hid (∀ v A, Uns v A [(40, idB 1)] → Calls Tryz.prog 14 #[.slice A 1 1] v fun e w' => e = .returned (.int .i64 656) ∧ Below v.heap.size v w') := Lib.hid (fun v A hv => needs_any A 1 [(40, idB 1)] v hv (fun u hu => by rw [List.mem_singleton.1 hu]; exact ⟨by decide, by decide⟩) (by decide))
  have HNW : Hid (∀ v, Calls Tryz.prog 13 #[.int .i64 656] v (NewOk v 656)) := Lib.hid (fun v => new_ok v 656 (by omega) (by omega))
  have HFM : Hid (∀ w0 v F p A, Tab w0 → Below w0.heap.size w0 v → Dv v F p 656 (St.new 656) → (∀ k, F k → w0.heap.size ≤ k) → Uns v A [(40, idB 1)] → Calls Tryz.prog 15 #[.pointer (some ⟨p, 0, none⟩), .slice A 1 1] v fun e w' => ∃ s q, e = .returned (.tuple #[.pointer (some ⟨s, 0, none⟩), .int .i64 0]) ∧ Us w0 w' s p q 656 [newU (40, idB 1)] [newU (40, idB 1)] 1) := Lib.hid (fun w0 v F p A ht0 hb hv hF hu => format_us hb hv hF ht0 A 1 [(40, idB 1)] hu (fun u hu => by rw [List.mem_singleton.1 hu]; exact ⟨by decide, by decide, idB_size 1⟩) (by decide) (by decide) (by rw [need_sum]; decide) (by decide))
  have HMA : Hid (∀ v, Calls Tryz.prog 16 #[.int .i64 n, .int .i64 20] v fun e w' => e = .returned (.int .i64 (kk : Int)) ∧ v = w') := Lib.hid (fun v => by rw [← hkk]; exact mod_any n 20 (by omega) (by omega) v)
  have HMB : Hid (∀ v, Calls Tryz.prog 16 #[.int .i64 lba, .int .i64 (r : Int)] v fun e w' => e = .returned (.int .i64 (a : Int)) ∧ v = w') := Lib.hid (fun v => by rw [← ha]; exact mod_any lba r (by omega) (by omega) v)
  have HFA := Lib.hid (fun v => fill_any k f0 v (by omega))
  have HFB := Lib.hid (fun v => fill_any k f1 v (by omega))
  have HWA : Hid (∀ w0 v s p q, Us w0 v s p q 656 [newU (40, idB 1)] [newU (40, idB 1)] 1 → Calls Tryz.prog 18 #[.pointer (some ⟨s, 0, none⟩), .int .i64 0, .int .i64 (a : Int), .string (fillB f0 k)] v fun e w' => e = .returned (.int .i64 0) ∧ ∃ Vp, Us w0 w' s p q 656 [whU f0 a k] Vp 2) := Lib.hid (fun w0 v s p q h => (write_us (lun := 0) (lba := a) (k := k) h (by omega) rfl (by show (a : Int) + k ≤ 40; omega) (by omega) _ (fillB_size f0 k)).mono fun e w' ⟨he, Vp, _, hu⟩ => ⟨he, Vp, hu⟩)
  have HFL := Lib.hid (fun w0 v s p q Vp (h : Us w0 v s p q 656 [whU f0 a k] Vp 2) => flush_us h (by omega))
  have HWB : Hid (∀ w0 v s p q, Us w0 v s p q 656 [whU f0 a k] [whU f0 a k] 3 → Calls Tryz.prog 18 #[.pointer (some ⟨s, 0, none⟩), .int .i64 0, .int .i64 (a : Int), .string (fillB f1 k)] v fun e w' => e = .returned (.int .i64 0) ∧ ∃ Vp, (Vp = [whU f0 a k] ∨ Vp = [whX f0 f1 a k]) ∧ Us w0 w' s p q 656 [whX f0 f1 a k] Vp 4) := Lib.hid (fun w0 v s p q h => (write_us (lun := 0) (lba := a) (k := k) h (by omega) rfl (by show (a : Int) + k ≤ 40; omega) (by omega) _ (fillB_size f1 k)).mono fun e w' ⟨he, Vp, hvp, hu⟩ => ⟨he, Vp, hvp, hu⟩)
  have HCR : Hid (∀ w0 v1 v s p q Vp A3 c3, Us w0 v1 s p q 656 [whX f0 f1 a k] Vp 4 → Below v1.heap.size v1 v → Nums v A3 ks → (0 < ks.length → ∀ a, A3 = some a → v1.heap.size ≤ a.block) → Calls Tryz.prog 20 #[.pointer (some ⟨p, 0, none⟩), .slice A3 ks.length c3] v fun e w' => e = .returned (.tuple #[]) ∧ Dn w0 w' p 656 [whX f0 f1 a k] Vp 4) := Lib.hid (fun w0 v1 v s p q Vp A3 c3 h hb hn ho => crash_us2 h hb (by omega) A3 c3 ks hn (fun hn a ha => .inr (ho hn a ha)) (by unfold maxLen; omega))
  have HOP : Hid (∀ w0 v p Vp, Tab w0 → (Vp = [whU f0 a k] ∨ Vp = [whX f0 f1 a k]) → Dn w0 v p 656 [whX f0 f1 a k] Vp 4 → Calls Tryz.prog 21 #[.pointer (some ⟨p, 0, none⟩)] v fun e w' => ∃ s q u, e = .returned (.tuple #[.pointer (some ⟨s, 0, none⟩), .int .i64 0]) ∧ (u.rd a k = fillB f0 k ∨ u.rd a k = fillB f1 k) ∧ u.used = k ∧ u.n = 40 ∧ Us w0 w' s p q 656 [u] [u] 5) := Lib.hid (fun w0 v p Vp ht0 hvp h => (open_us h (by omega) ht0).mono fun e w' ⟨s, q, V', he, hv, hu⟩ => by
    obtain ⟨r1, r2⟩ := wh_rd (f0 := f0) (f1 := f1) (a := a) (k := k)
    obtain ⟨u1, u2⟩ := wh_used (f0 := f0) (f1 := f1) hak
    have key : V' = [whU f0 a k] ∨ V' = [whX f0 f1 a k] := by
      rcases hv with rfl | rfl
      · exact .inr rfl
      · exact hvp
    rcases key with rfl | rfl
    · exact ⟨s, q, _, he, .inl r1, u1, rfl, hu⟩
    · exact ⟨s, q, _, he, .inr r2, u2, rfl, hu⟩)
  have HRD : Hid (∀ w0 v s p q u, u.n = 40 → Us w0 v s p q 656 [u] [u] 5 → Calls Tryz.prog 22 #[.pointer (some ⟨s, 0, none⟩), .int .i64 0, .int .i64 (a : Int), .int .i64 (k : Int)] v fun e w' => e = .returned (.tuple #[.string (u.rd a k), .int .i64 0]) ∧ Us w0 w' s p q 656 [u] [u] 5) := Lib.hid (fun w0 v s p q u hn h => read_us (lun := 0) (lba := a) (k := k) h (u := u) rfl (by rw [hn]; omega))
  have HUS : Hid (∀ w0 v s p q u, u.used = k → Us w0 v s p q 656 [u] [u] 5 → Calls Tryz.prog 23 #[.pointer (some ⟨s, 0, none⟩), .int .i64 0] v fun e w' => e = .returned (.int .i64 (k : Int)) ∧ Us w0 w' s p q 656 [u] [u] 5) := Lib.hid (fun w0 v s p q u hn h => by
    have := used_us (lun := 0) h (u := u) rfl
    rw [hn] at this
    exact this)
  have HWK := Lib.hid (fun v (hb : Below w.heap.size w v) => wakes_any v (ht.below hb))
  have HUO := Lib.hid (fun (v : World) => uns_one v 40 (idB 1))
  have HT := Lib.hid ht
  have HKS := Lib.hid hks; have HKL := Lib.hid hkl
  have hw1 : IntKind.i64.wrap (1 + (kk : Int)) = (k : Int) := by rw [i64w _ (by omega)]; omega
  have hw2 : IntKind.i64.wrap (40 - (k : Int)) = 40 - (k : Int) := i64w _ (by omega)
  have hw3 : IntKind.i64.wrap (40 - (k : Int) + 1) = (r : Int) := by rw [i64w _ (by omega)]; omega
  generalize idB 1 = ib at *
  generalize fillB f0 k = ga at *
  generalize fillB f1 k = gb at *
  obtain ⟨y0, hy0⟩ : ∃ y : Int, (f0.toNat : Int) = y := ⟨_, rfl⟩
  obtain ⟨y1, hy1⟩ : ∃ y : Int, (f1.toNat : Int) = y := ⟨_, rfl⟩
  rw [hy0] at HFA ⊢
  rw [hy1] at HFB ⊢
  clear ht hks hkl hkk hk hk20 hk1 hr ha har hak hy0 hy1
  go_enter Tryz.func3, Tryz.ntmps3
  go_wp2_with (fail)
  have hz : (w.alloc (.cells #[.int .i64 lba, .int .i64 n] 22)).heap.size = w.heap.size + 1 := by simp
  have HA1 := Lib.hid ((Blk.new w 22 #[.int .i64 lba, .int .i64 n]).alloc (.cells #[.int .u8 y0, .int .u8 y1] 23))
  have HA2 := Lib.hid (hz ▸ Blk.new (w.alloc (.cells #[.int .i64 lba, .int .i64 n] 22)) 23 #[.int .u8 y0, .int .u8 y1])
  have HBW := Lib.hid (((Below.refl w.heap.size w).alloc (Nat.le_refl _) (.cells #[.int .i64 lba, .int .i64 n] 22)).alloc (by simp) (.cells #[.int .u8 y0, .int .u8 y1] 23))
  clear hz
  generalize ((w.alloc (.cells #[.int .i64 lba, .int .i64 n] 22)).alloc (.cells #[.int .u8 y0, .int .u8 y1] 23)) = W at *
  obtain ⟨g1, hg1⟩ : ∃ g1, w.heap.size + 1 = g1 := ⟨_, rfl⟩
  rw [hg1] at HA2 ⊢
  have i0 : W.cell? ⟨w.heap.size, 0, none⟩ = some (.int .i64 lba) := (HA1.out.cell 0).trans rfl
  have i1 : W.cell? ⟨w.heap.size, 1, none⟩ = some (.int .i64 n) := (HA1.out.cell 1).trans rfl
  go_quiet (fail)
  clear i0 i1 HA1
  have hdr := belDrew W.heap.size W nq
  have HTW := Lib.hid ((HT.out.below HBW.out).below hdr)
  have HBX := Lib.hid (HBW.out.trans (hdr.mono HBW.out.size))
  have HA := Lib.hid (HA2.out.below hdr HA2.out.lt)
  have HKW := Lib.hid (Nums.below HKS.out HBX.out rfl)
  clear HA2 HBW hdr
  generalize W.drewN nq = w0 at *
  go_wp2_with (fail)
  refine (HID.out _).mono ?_; rintro e w1 ⟨rfl, hb1⟩
  have HB1 := Lib.hid hb1
  have HU := Lib.hid (HUO.out w1)
  have HAL := Lib.hid ((Below.refl w1.heap.size w1).alloc (Nat.le_refl _) (.cells #[.int .i64 40, .string ib] 27))
  clear hb1 HID HUO
  go_wp2_with (fail)
  generalize (w1.alloc (.cells #[.int .i64 40, .string ib] 27)) = wz at *
  have HB0 := Lib.hid (HB1.out.trans (HAL.out.mono HB1.out.size))
  refine (HND.out _ _ HU.out).mono ?_; rintro e w2 ⟨rfl, hb2⟩
  have HB2 := Lib.hid (HB0.out.trans (hb2.mono HB0.out.size))
  have HU2 := Lib.hid (HU.out.below hb2)
  clear hb2 HND HU
  go_wp2_with (fail)
  refine (HNW.out _).mono ?_; rintro e w3 ⟨p, F, rfl, hdv, hb3, hF⟩
  have HDV := Lib.hid hdv
  have HB3 := Lib.hid (HB2.out.trans (hb3.mono HB2.out.size))
  have HU3 := Lib.hid (HU2.out.below hb3)
  have HF := Lib.hid (fun k (hk : F k) => Nat.le_trans HB2.out.size (hF k hk))
  clear hdv hb3 hF HNW
  go_wp2_with (fail)
  refine (HFM.out w0 _ F p _ HTW.out HB3.out HDV.out HF.out HU3.out).mono ?_; rintro e w4 ⟨s, q, rfl, hus⟩
  have HS := Lib.hid hus
  clear hus HFM HDV HU3 HF HU2 HB0 HB1 HB2 HB3
  go_wp2_with (fail)
  refine (HMA.out _).mono ?_; rintro e w5 ⟨rfl, rfl⟩
  go_wp2_with (fail)
  refine (HMB.out _).mono ?_; rintro e w5 ⟨rfl, rfl⟩
  clear HMA HMB
  have BD := Lib.hid ((Below.refl w4.heap.size w4).drew)
  have HS4 := Lib.hid (HS.out.more BD.out)
  have j0 := ((HA.out.below HS.out.below HA.out.lt).cell 0).trans (show (#[Value.int .u8 y0, .int .u8 y1])[0]? = some (.int .u8 y0) from rfl)
  have j1 := ((HA.out.below HS.out.below HA.out.lt).cell 1).trans (show (#[Value.int .u8 y0, .int .u8 y1])[1]? = some (.int .u8 y1) from rfl)
  go_upto_region 9 with (fail)
  obtain ⟨C, hC⟩ : ∃ C : World → Prop, C = fun v => Us w0 v s p q 656 [newU (40, ib)] [newU (40, ib)] 1 ∧ v.cell? ⟨g1, 0, none⟩ = some (.int .u8 y0) ∧ v.cell? ⟨g1, 1, none⟩ = some (.int .u8 y1) := ⟨_, rfl⟩
  have HC0 : Hid (C w4.drew) := Lib.hid (by rw [hC]; exact ⟨HS4.out, j0, j1⟩)
  have HL : Hid (∀ v, C v → Us w0 v s p q 656 [newU (40, ib)] [newU (40, ib)] 1 ∧ v.cell? ⟨g1, 0, none⟩ = some (.int .u8 y0) ∧ v.cell? ⟨g1, 1, none⟩ = some (.int .u8 y1)) := Lib.hid (fun v hv => by rw [hC] at hv; exact hv)
  have HCm : Hid (∀ v w', C v → Below v.heap.size v w' → C w') := Lib.hid (fun v w' hv hb => by
    rw [hC] at hv ⊢
    obtain ⟨h1, h2, h3⟩ := hv
    exact ⟨h1.more hb, (hb.cell (World.block_lt_of_cell? _ _ h2)).trans h2, (hb.cell (World.block_lt_of_cell? _ _ h3)).trans h3⟩)
  clear hC j0 j1 HS4 HS
  refine wp_region_class C (by kernel_rfl) (by kernel_rfl) HC0.out ?_
  go_big_quiet_want
  go_big_quiet_op
  first | go_big_quiet_on | (refine ⟨_, fun _ _ => rfl, ?_⟩; go_big_quiet_on)
  go_big_quiet_want
  refine quiet_run (v := .pointer (some ⟨g1, 0, none⟩)) (fun v hv => by obtain ⟨_, a0, a1⟩ := HL.out v hv; go_simp) ?_
  simp only [Act.put, List.setIfInBounds_toArray, List.set_cons_zero, List.set_cons_succ]
  go_big_quiet_on
  go_big_quiet_want
  refine quiet_run (v := .int .u8 y0) (fun v hv => by obtain ⟨_, a0, a1⟩ := HL.out v hv; go_simp) ?_
  simp only [Act.put, List.setIfInBounds_toArray, List.set_cons_zero, List.set_cons_succ]
  go_big_quiet_on
  go_big_quiet_want
  refine quiet_call (f := 17) (args := #[.int .i64 (k : Int), .int .u8 y0]) (fun v _ => by go_simp) (fun v hv => (HFA.out v).mono (fun e w' h => ⟨h.1, HCm.out v w' hv h.2⟩)) ?_
  simp only [Act.put, List.setIfInBounds_toArray, List.set_cons_zero, List.set_cons_succ]
  go_big_quiet_on
  go_big_quiet_want
  go_big_quiet_op
  first | go_big_quiet_on | (refine ⟨_, fun _ _ => rfl, ?_⟩; go_big_quiet_on)
  go_big_quiet_want
  refine quiet_run (v := .pointer (some ⟨g1, 1, none⟩)) (fun v hv => by obtain ⟨_, a0, a1⟩ := HL.out v hv; go_simp) ?_
  simp only [Act.put, List.setIfInBounds_toArray, List.set_cons_zero, List.set_cons_succ]
  go_big_quiet_on
  go_big_quiet_want
  refine quiet_run (v := .int .u8 y1) (fun v hv => by obtain ⟨_, a0, a1⟩ := HL.out v hv; go_simp) ?_
  simp only [Act.put, List.setIfInBounds_toArray, List.set_cons_zero, List.set_cons_succ]
  go_big_quiet_on
  go_big_quiet_want
  refine quiet_call (f := 17) (args := #[.int .i64 (k : Int), .int .u8 y1]) (fun v _ => by go_simp) (fun v hv => (HFB.out v).mono (fun e w' h => ⟨h.1, HCm.out v w' hv h.2⟩)) ?_
  simp only [Act.put, List.setIfInBounds_toArray, List.set_cons_zero, List.set_cons_succ]
  go_big_quiet_on
  go_big_quiet_want
  go_big_quiet_op
  first | go_big_quiet_on | (refine ⟨_, fun _ _ => rfl, ?_⟩; go_big_quiet_on)
  go_big_quiet_want
  go_big_quiet_op
  first | go_big_quiet_on | (refine ⟨_, fun _ _ => rfl, ?_⟩; go_big_quiet_on)
  refine wpQuiet_nil ?_
  intro w6 hC6
  have HS6 := Lib.hid (HL.out w6 hC6).1
  clear hC6 HC0 HL HCm HFA HFB
  go_wp2_with (fail)
  refine (HWA.out w0 _ s p q HS6.out).mono ?_; rintro e w7 ⟨rfl, Vp, hus7⟩
  have HS7 := Lib.hid hus7
  clear hus7 HWA HS6
  go_wp2_with (fail)
  refine (HFL.out w0 _ s p q Vp HS7.out).mono ?_; rintro e w8 ⟨rfl, hus8⟩
  have HS8 := Lib.hid hus8
  clear hus8 HFL HS7
  go_wp2_with (fail)
  refine (HWB.out w0 _ s p q HS8.out).mono ?_; rintro e w9 ⟨rfl, Vp9, hvp, hus9⟩
  have HS9 := Lib.hid hus9; have HVP := Lib.hid hvp
  clear hus9 hvp HWB HS8
  have HAL9 := Lib.hid ((Below.refl w9.heap.size w9).alloc (Nat.le_refl _) (.cells #[] 3))
  have HN2 := Lib.hid (Nums.below (Nums.below HKW.out HS9.out.below rfl) HAL9.out rfl)
  go_wp2_with (at_builtin; refine wpList_append_nums rfl (.tmp 81) (.tmp 82) rfl w9.heap.size (.slice (some ⟨w9.heap.size, 0, none⟩) 0 0) rfl (own_none w9) A c ks rfl HN2.out HKL.out (by simp) ?_; intro A3 c3 w10 hn3 hg3 hb3; have H3 := Lib.hid hn3; have HG3 := Lib.hid hg3; have HB3 := Lib.hid hb3; clear hn3 hg3 hb3)
  have hoff : 0 < ks.length → ∀ a, A3 = some a → w9.heap.size ≤ a.block := HB3.out
  refine (HCR.out w0 w9 _ s p q Vp9 A3 c3 HS9.out (below_grown HG3.out (fun k hk => Nat.le_of_eq (Option.some.inj hk))) H3.out hoff).mono ?_; rintro e w11 ⟨rfl, hdn⟩
  have HDN := Lib.hid hdn
  clear hdn hoff HCR HS9 H3 HG3 HB3 HN2 HAL9
  go_wp2_with (fail)
  refine (HOP.out w0 _ p Vp9 HTW.out HVP.out HDN.out).mono ?_; rintro e w12 ⟨s2, q2, u, rfl, hrd, hus, hun, hst⟩
  have HS12 := Lib.hid hst
  have HRDu := Lib.hid (HRD.out w0 w12 s2 p q2 u hun hst)
  have HUSu := Lib.hid (fun v h => HUS.out w0 v s2 p q2 u hus h)
  clear hst HDN HOP HRD HUS hus hun
  go_wp2_with (fail)
  refine HRDu.out.mono ?_; rintro e w13 ⟨rfl, hst⟩
  have HS13 := Lib.hid hst
  clear hst HRDu HS12
  generalize u.rd a k = g at *
  rcases (show g = ga ∨ (¬ g = ga ∧ g = gb) by by_cases h : g = ga; exact .inl h; exact .inr ⟨h, hrd.resolve_left h⟩) with rfl | ⟨hne, rfl⟩
  · clear hrd
    go_wp2_with (fail)
    refine (HUSu.out _ HS13.out).mono ?_; rintro e w14 ⟨rfl, hst⟩
    have HS14 := Lib.hid (HBX.out.trans (hst.below.mono HBX.out.size))
    clear hst
    go_wp2_with (fail)
    refine (HWK.out _ HS14.out).mono ?_; rintro e w15 ⟨rfl, hb⟩
    have HS15 := Lib.hid (HS14.out.trans (hb.mono HS14.out.size))
    clear hb
    go_wp2_with (fail)
    go_ret
    exact ⟨rfl, HS15.out⟩
  · clear hrd
    go_wp2_with (fail)
    all_goals (
      refine (HUSu.out _ HS13.out).mono ?_; rintro e w14 ⟨rfl, hst⟩
      have HS14 := Lib.hid (HBX.out.trans (hst.below.mono HBX.out.size))
      clear hst
      go_wp2_with (fail)
      refine (HWK.out _ HS14.out).mono ?_; rintro e w15 ⟨rfl, hb⟩
      have HS15 := Lib.hid (HS14.out.trans (hb.mono HS14.out.size))
      clear hb
      go_wp2_with (fail)
      go_ret
      exact ⟨rfl, HS15.out⟩)
end Go.Proofs.YtglfjlbhjaemgaaGreatDoor
