/- store's statements: what is read of what was written. store's statements: wakes. -/
import Derived.Test.YtglfjlbhjaemgaaGreatDoorPl40
import Derived.Test.YtglfjlbhjaemgaaGreatDoorPl32
namespace Go.Proofs.YtglfjlbhjaemgaaGreatDoor
open Go.RowKit
open Ext (Ex Exts exV ExtsF textX)
open Ext (whereX AscTo goodB setX dropX)
theorem catS_cons (a : ByteArray) (l : List ByteArray) : catS (a :: l) = a ++ catS l := by
  apply Ext.bytes_ext
  rw [Ext.app_list, catS_list, catS_list]
  rfl
theorem catS_join (a b : List ByteArray) : catS (a ++ b) = catS a ++ catS b := by
  apply Ext.bytes_ext
  rw [Ext.app_list, catS_list, catS_list, catS_list, flat_app]
theorem join_empty (a : ByteArray) : a ++ (⟨#[]⟩ : ByteArray) = a := by apply Ext.bytes_ext; rw [Ext.app_list]; simp
theorem rd_parts {u : Un} {lba a b : Nat} : u.rd lba (a + b) = u.rd lba a ++ u.rd (lba + a) b := by
  unfold Un.rd
  rw [List.range_add, List.map_append, catS_join, List.map_map]
  congr 2
  refine List.map_congr_left fun i _ => ?_
  show u.blk ((lba + (a + i) : Nat) : Int) = u.blk ((lba + a + i : Nat) : Int)
  rw [Nat.add_assoc]
/-- What was written is read. -/
theorem rd_wr {u : Un} {lba k : Nat} {d : ByteArray} (hd : d.size = k * 512) : (u.wr lba k d).rd lba k = d := by
  have h := cat_secs (L := (List.range k).map (sec d)) (F := d) (a := 0) (u := k) (by omega) (fun i hi => by rw [List.getElem?_map, Nat.zero_add, List.getElem?_range hi]; rfl)
  have e : part ((List.range k).map (sec d)) 0 k = (List.range k).map (sec d) := by
    unfold part
    rw [List.drop_zero, List.take_of_length_le (by simp)]
  rw [e] at h
  unfold Un.rd
  refine Eq.trans ?_ h
  congr 1
  refine List.map_congr_left fun i hi => ?_
  have hi := List.mem_range.1 hi
  unfold Un.blk Un.wr
  show (if _ then _ else _ : Option ByteArray).getD zeroS = _
  rw [if_pos (by omega)]
  show sec d _ = sec d i
  congr 1
  omega
/-- Elsewhere all is as it was. -/
theorem rd_far {u : Un} {lba k lo m : Nat} {d : ByteArray} (h : lo + m ≤ lba ∨ lba + k ≤ lo) : (u.wr lba k d).rd lo m = u.rd lo m := by
  unfold Un.rd
  congr 1
  refine List.map_congr_left fun i hi => ?_
  have hi := List.mem_range.1 hi
  unfold Un.blk Un.wr
  show (if _ then _ else _ : Option ByteArray).getD zeroS = _
  rw [if_neg (by omega)]
theorem zeroS_bytes : zeroS = bytesS 512 0 := by rw [zeroS_is]; unfold bytesS; rfl
theorem rd_new {x : Int × ByteArray} {lo : Nat} : (newU x).rd lo 1 = bytesS 512 0 := by
  unfold Un.rd
  show catS [(newU x).blk _] = _
  rw [catS_cons, catS_nil, join_empty]
  exact zeroS_bytes
theorem used_wr {u : Un} {lba k : Nat} {d : ByteArray} (hl : lba + k ≤ 4096) (h : ∀ b : Int, ¬ ((lba : Int) ≤ b ∧ b < (lba : Int) + k) → u.bl b = none) : (u.wr lba k d).used = k := by
  unfold Un.used
  refine Eq.trans ?_ (count_exact lba k 4096 hl)
  congr 1
  funext b
  unfold Un.wr
  show (if _ then _ else _ : Option ByteArray).isSome = _
  by_cases hb : (lba : Int) ≤ (b : Int) ∧ (b : Int) < (lba : Int) + k
  · rw [if_pos hb, decide_eq_true hb]; rfl
  · rw [if_neg hb, decide_eq_false hb, h _ hb]; rfl
open Go.RowKit
open Ext (Ex Exts exV ExtsF textX)
open Ext (whereX AscTo goodB setX dropX)
theorem uns_one (w : World) (k : Int) (id : ByteArray) : Uns (w.alloc (.cells #[.int .i64 k, .string id] 27)) (some ⟨w.heap.size, 0, none⟩) [(k, id)] := fun _ => by
  refine ⟨w.heap.size, 0, rfl, fun j u hu => ?_⟩
  have hb := Blk.new w 27 #[.int .i64 k, .string id]
  match j, hu with
  | 0, hu =>
    obtain rfl : (k, id) = u := by simpa using hu
    exact ⟨(hb.cell 0).trans rfl, (hb.cell 1).trans rfl⟩
def wkD : ByteArray := bytesS 512 97 ++ bytesS 512 98
theorem wkD_size : wkD.size = 2 * 512 := by unfold wkD; rw [ByteArray.size_append, bytesS_size, bytesS_size]
def wkU : Un := (newU (3, idB 0)).wr 1 2 wkD
theorem wk_rd : wkU.rd 0 3 = bytesS 512 0 ++ bytesS 512 97 ++ bytesS 512 98 := by
  rw [show (3 : Nat) = 1 + 2 from rfl, rd_parts]
  unfold wkU
  rw [rd_far (.inl (by omega)), rd_new, show 0 + 1 = 1 from rfl, rd_wr wkD_size]
  unfold wkD
  rw [ByteArray.append_assoc]
theorem wk_used : wkU.used = 2 := used_wr (by omega) (fun b _ => rfl)
set_option maxRecDepth 100000 in
set_option maxHeartbeats 4000000 in
theorem wakes_any (w : World) (ht : Tab w) : Calls Tryz.prog 24 #[] w fun e w' => e = .returned (.bool true) ∧ Below w.heap.size w w' := by
  have HID : Hid (∀ v, Calls Tryz.prog 12 #[.int .u8 0] v fun e w' => e = .returned (.string (idB 0)) ∧ Below v.heap.size v w') := Lib.hid (fun v => id_any 0 v)
  have HND : Hid (∀ v A, Uns v A [(3, idB 0)] → Calls Tryz.prog 14 #[.slice A 1 1] v fun e w' => e = .returned (.int .i64 582) ∧ Below v.heap.size v w') := Lib.hid (fun v A hv => needs_any A 1 [(3, idB 0)] v hv (fun u hu => by rw [List.mem_singleton.1 hu]; exact ⟨by decide, by decide⟩) (by decide))
  have HNW : Hid (∀ v, Calls Tryz.prog 13 #[.int .i64 582] v (NewOk v 582)) := Lib.hid (fun v => new_ok v 582 (by omega) (by omega))
  have HFM : Hid (∀ v F p A, Below w.heap.size w v → Dv v F p 582 (St.new 582) → (∀ k, F k → w.heap.size ≤ k) → Uns v A [(3, idB 0)] → Calls Tryz.prog 15 #[.pointer (some ⟨p, 0, none⟩), .slice A 1 1] v fun e w' => ∃ s q, e = .returned (.tuple #[.pointer (some ⟨s, 0, none⟩), .int .i64 0]) ∧ Us w w' s p q 582 [newU (3, idB 0)] [newU (3, idB 0)] 1) := Lib.hid (fun v F p A hb hv hF hu => format_us hb hv hF ht A 1 [(3, idB 0)] hu (fun u hu => by rw [List.mem_singleton.1 hu]; exact ⟨by decide, by decide, idB_size 0⟩) (by decide) (by decide) (by rw [need_sum]; decide) (by decide))
  have HBA : Hid (∀ v, Calls Tryz.prog 25 #[.int .u8 97] v fun e w' => e = .returned (.string (bytesS 512 97)) ∧ Below v.heap.size v w') := Lib.hid (fun v => block_any 97 v)
  have HBB : Hid (∀ v, Calls Tryz.prog 25 #[.int .u8 98] v fun e w' => e = .returned (.string (bytesS 512 98)) ∧ Below v.heap.size v w') := Lib.hid (fun v => block_any 98 v)
  have HZ : Hid (∀ v, Calls Tryz.prog 34 #[.int .i64 512] v fun e w' => e = .returned (.string (bytesS 512 0)) ∧ Below v.heap.size v w') := Lib.hid (fun v => zeros_any 512 (by omega) v)
  have HWR : Hid (∀ v s p q, Us w v s p q 582 [newU (3, idB 0)] [newU (3, idB 0)] 1 → Calls Tryz.prog 18 #[.pointer (some ⟨s, 0, none⟩), .int .i64 0, .int .i64 1, .string (bytesS 512 97 ++ bytesS 512 98)] v fun e w' => e = .returned (.int .i64 0) ∧ ∃ Vp, Us w w' s p q 582 [wkU] Vp 2) := Lib.hid (fun v s p q h => (write_us (lun := 0) (lba := 1) (k := 2) h (by omega) rfl (by decide) (by omega) wkD wkD_size).mono fun e w' ⟨he, Vp, _, hu⟩ => ⟨he, Vp, hu⟩)
  have HFL := Lib.hid (fun v s p q Vp (h : Us w v s p q 582 [wkU] Vp 2) => flush_us h (by omega))
  have HCR : Hid (∀ v s p q, Us w v s p q 582 [wkU] [wkU] 3 → Calls Tryz.prog 20 #[.pointer (some ⟨p, 0, none⟩), .slice none 0 0] v fun e w' => e = .returned (.tuple #[]) ∧ Dn w w' p 582 [wkU] [wkU] 3) := Lib.hid (fun v s p q h => crash_us h (by omega) none 0 [] (fun h => absurd h (Nat.lt_irrefl _)) (fun h => absurd h (Nat.lt_irrefl _)) (Nat.zero_le _))
  have HOP : Hid (∀ v p, Dn w v p 582 [wkU] [wkU] 3 → Calls Tryz.prog 21 #[.pointer (some ⟨p, 0, none⟩)] v fun e w' => ∃ s q, e = .returned (.tuple #[.pointer (some ⟨s, 0, none⟩), .int .i64 0]) ∧ Us w w' s p q 582 [wkU] [wkU] 4) := Lib.hid (fun v p h => (open_us h (by omega) ht).mono fun e w' ⟨s, q, V', he, hv, hu⟩ => ⟨s, q, he, by rcases hv with rfl | rfl <;> exact hu⟩)
  have HRD : Hid (∀ v s p q, Us w v s p q 582 [wkU] [wkU] 4 → Calls Tryz.prog 22 #[.pointer (some ⟨s, 0, none⟩), .int .i64 0, .int .i64 0, .int .i64 3] v fun e w' => e = .returned (.tuple #[.string (bytesS 512 0 ++ bytesS 512 97 ++ bytesS 512 98), .int .i64 0]) ∧ Us w w' s p q 582 [wkU] [wkU] 4) := Lib.hid (fun v s p q h => by
    have := read_us (lun := 0) (lba := 0) (k := 3) h (u := wkU) rfl (by decide)
    rw [wk_rd] at this
    exact this)
  have HUS : Hid (∀ v s p q, Us w v s p q 582 [wkU] [wkU] 4 → Calls Tryz.prog 23 #[.pointer (some ⟨s, 0, none⟩), .int .i64 0] v fun e w' => e = .returned (.int .i64 2) ∧ Us w w' s p q 582 [wkU] [wkU] 4) := Lib.hid (fun v s p q h => by
    have := used_us (lun := 0) h (u := wkU) rfl
    rw [wk_used] at this
    exact this)
  have HUN : Hid (∀ v s p q, Us w v s p q 582 [wkU] [wkU] 4 → Calls Tryz.prog 28 #[.pointer (some ⟨s, 0, none⟩)] v fun e w' => ∃ g, e = .returned (.slice (some ⟨g, 0, none⟩) 1 1) ∧ Us w w' s p q 582 [wkU] [wkU] 4) := Lib.hid (fun v s p q h => (units_us h).mono fun e w' ⟨g, he, _, hu, _⟩ => ⟨g, he, hu⟩)
  have HUO := Lib.hid (fun (v : World) => uns_one v 3 (idB 0))
  have hca : (bytesS 512 97).size + (bytesS 512 98).size ≤ 9223372036854775807 := by rw [bytesS_size, bytesS_size]; decide
  have hcb : (bytesS 512 0).size + (bytesS 512 97).size ≤ 9223372036854775807 := by rw [bytesS_size, bytesS_size]; decide
  have hcc : (bytesS 512 0 ++ bytesS 512 97).size + (bytesS 512 98).size ≤ 9223372036854775807 := by rw [ByteArray.size_append, bytesS_size, bytesS_size, bytesS_size]; decide
  generalize bytesS 512 97 = ba at *
  generalize bytesS 512 98 = bb at *
  generalize bytesS 512 0 = bz at *
  generalize idB 0 = ib at *
  clear ht
  go_enter Tryz.func24, Tryz.ntmps24
  go_wp2_with (fail)
  refine (HID.out _).mono ?_; rintro e w1 ⟨rfl, hb1⟩
  have HB1 := Lib.hid hb1
  have HU := Lib.hid (HUO.out w1)
  have HAL := Lib.hid ((Below.refl w1.heap.size w1).alloc (Nat.le_refl _) (.cells #[.int .i64 3, .string ib] 27))
  clear hb1 HID HUO
  go_wp2_with (fail)
  generalize (w1.alloc (.cells #[.int .i64 3, .string ib] 27)) = w0 at *
  have HB0 := Lib.hid (HB1.out.trans (HAL.out.mono HB1.out.size))
  refine (HND.out _ _ HU.out).mono ?_; rintro e w2 ⟨rfl, hb2⟩
  have HB2 := Lib.hid (HB0.out.trans (hb2.mono HB0.out.size))
  have HU2 := Lib.hid (HU.out.below hb2)
  clear hb2 HND HU
  go_wp2_with (fail)
  refine (HNW.out _).mono ?_; rintro e w3 ⟨p, F, rfl, hdv, hb3, hF⟩
  have HDV := Lib.hid hdv
  have HB3 := Lib.hid (HB2.out.trans (hb3.mono HB2.out.size))
  have HU3 := Lib.hid (HU2.out.below hb3)
  have HF := Lib.hid (fun k (hk : F k) => Nat.le_trans HB2.out.size (hF k hk))
  clear hdv hb3 hF HNW
  go_wp2_with (fail)
  refine (HFM.out _ F p _ HB3.out HDV.out HF.out HU3.out).mono ?_; rintro e w4 ⟨s, q, rfl, hus⟩
  have HS := Lib.hid hus
  clear hus HFM HDV HU3 HF HU2 HB0 HB1 HB2 HB3
  go_wp2_with (fail)
  refine (HBA.out _).mono ?_; rintro e w5 ⟨rfl, hb5⟩
  have HS5 := Lib.hid (HS.out.more hb5)
  clear hb5 HS
  go_wp2_with (fail)
  refine (HBB.out _).mono ?_; rintro e w6 ⟨rfl, hb6⟩
  have HS6 := Lib.hid (HS5.out.more hb6)
  clear hb6 HS5
  go_wp2_with (fail)
  refine (HWR.out _ s p q HS6.out).mono ?_; rintro e w7 ⟨rfl, Vp, hus7⟩
  have HS7 := Lib.hid hus7
  clear hus7 HS6 HWR
  go_wp2_with (fail)
  refine (HFL.out _ s p q Vp HS7.out).mono ?_; rintro e w8 ⟨rfl, hus8⟩
  have HS8 := Lib.hid hus8
  clear hus8 HS7 HFL
  go_wp2_with (fail)
  refine (HCR.out _ s p q HS8.out).mono ?_; rintro e w9 ⟨rfl, hdn⟩
  have HDN := Lib.hid hdn
  clear hdn HS8 HCR
  go_wp2_with (fail)
  refine (HOP.out _ p HDN.out).mono ?_; rintro e w10 ⟨s2, q2, rfl, hus⟩
  have HS := Lib.hid hus
  clear hus HDN HOP
  go_wp2_with (fail)
  refine (HRD.out _ s2 p q2 HS.out).mono ?_; rintro e w11 ⟨rfl, hus11⟩
  have HS11 := Lib.hid hus11
  clear hus11 HS HRD
  go_wp2_with (fail)
  refine (HZ.out _).mono ?_; rintro e w12 ⟨rfl, hb12⟩
  have HS12 := Lib.hid (HS11.out.more hb12)
  clear hb12 HS11
  go_wp2_with (fail)
  refine (HBA.out _).mono ?_; rintro e w13 ⟨rfl, hb13⟩
  have HS13 := Lib.hid (HS12.out.more hb13)
  clear hb13 HS12
  go_wp2_with (fail)
  refine (HBB.out _).mono ?_; rintro e w14 ⟨rfl, hb14⟩
  have HS14 := Lib.hid (HS13.out.more hb14)
  clear hb14 HS13
  go_wp2_with (fail)
  refine (HUS.out _ s2 p q2 HS14.out).mono ?_; rintro e w15 ⟨rfl, hus15⟩
  have HS15 := Lib.hid hus15
  clear hus15 HS14 HUS
  go_wp2_with (fail)
  refine (HUN.out _ s2 p q2 HS15.out).mono ?_; rintro e w16 ⟨g, rfl, hus16⟩
  have HS16 := Lib.hid hus16
  clear hus16 HS15 HUN
  go_wp2_with (fail)
  go_ret
  exact ⟨rfl, HS16.out.below⟩
end Go.Proofs.YtglfjlbhjaemgaaGreatDoor
