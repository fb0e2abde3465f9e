/- The document's own image of a table: where it is not kept; joined. -/
import Derived.Test.YthedonkjnfeajaaDoorImT
namespace Go.Proofs.YthedonkjnfeajaaDoor
open Go.RowKit
set_option maxRecDepth 100000 in
set_option maxHeartbeats 8000000 in
theorem refEncode_f (A : Option Addr) (c : Nat) (t : Tl) (w : World) (hl : Rgs w A t.rs) (hu : TlU t) (hg : goodB t = true) (hpb : t.ap = false) :
    Calls Tryd.prog 12 #[tlV A c t] w fun e w' => e = .returned (.tuple #[.string (encS t), .int .i64 (encC t)]) ∧ Below w.heap.size w w' := by
  have hP := goodB_iff.1 hg
  have H0 := Lib.hid (ReI.first w A c t hl)
  have HP := Lib.hid hP
  have hn := hP.len
  have HM := Lib.hid (show t.rs.length ≤ maxLen from Nat.le_trans hn (by decide))
  have HG := Lib.hid hg
  have HE := Lib.hid (show encS t = baL (imgL t) ∧ encC t = 0 by unfold encS encC; rw [if_pos hg, if_pos hg]; exact ⟨rfl, rfl⟩)
  have HU := Lib.hid hu
  have HAP := Lib.hid hpb
  have HHD := Lib.hid (head_bytes t)
  have hat := atN_le t
  obtain ⟨g, hge⟩ : ∃ g, g = t.ge.toNat := ⟨_, rfl⟩
  obtain ⟨y, hty⟩ : ∃ y, y = t.ty.toNat := ⟨_, rfl⟩
  have HGe := Lib.hid (show t.ge = (g : Nat) by rw [hge]; exact (Int.toNat_of_nonneg hu.ge0).symm)
  have HTy := Lib.hid (show t.ty = (y : Nat) by rw [hty]; exact (Int.toNat_of_nonneg hP.ty_lt.1).symm)
  have bg : g < 4294967296 := by have := hu.ge0; have := hu.ge1; omega
  have by_ : y < 256 := by have := hP.ty_lt; omega
  rw [← hge, ← hty] at HHD
  clear hl hu hg hP hge hty hpb
  go_enter Tryd.func12, Tryd.ntmps12
  go_upto_region 1 with (fail)
  change Code.wp _ _ _ _ (w.alloc (.cells (tlC A c t) 27))
  generalize w.alloc (.cells (tlC A c t) 27) = w0 at *
  have c0 : w0.cell? ⟨w.heap.size, 0, none⟩ = some (.slice A t.rs.length c) := H0.out.tb.cell 0
  have c1 : w0.cell? ⟨w.heap.size, 1, none⟩ = some (.int .i64 t.ty) := H0.out.tb.cell 1
  have c2 : w0.cell? ⟨w.heap.size, 2, none⟩ = some (.string t.ho) := H0.out.tb.cell 2
  have c3 : w0.cell? ⟨w.heap.size, 3, none⟩ = some (.int .u32 t.ge) := H0.out.tb.cell 3
  have c4 : w0.cell? ⟨w.heap.size, 4, none⟩ = some (.bool t.ap) := H0.out.tb.cell 4
  go_wp2_with (fail)
  refine (refGood_any A c t _ H0.out.rg HM.out).mono ?_; rintro e w1 ⟨rfl, hb⟩
  rw [HG.out]
  have H1 := Lib.hid (H0.out.below hb); clear hb c0 c1 c2 c3 c4 H0
  go_wp2_with (fail)
  go_loopw [4, 5] (fun a i wr => ∃ k : Nat, k ≤ t.rs.length ∧ i = .int .i64 k ∧ a = .int .i64 (atK t k : Nat) ∧ Hid (ReI w A c t wr)) (fun _ i _ => t.rs.length - (intOf i).toNat)
  case atStart => exact ⟨0, Nat.zero_le _, rfl, rfl, H1⟩
  case round =>
    clear H1
    obtain ⟨k, hk, rfl, rfl, HR⟩ := hrel
    have c0 : wr.cell? ⟨w.heap.size, 0, none⟩ = some (.slice A t.rs.length c) := HR.out.tb.cell 0
    by_cases hlt : k < t.rs.length
    · obtain ⟨b, o, x, rfl, hx, hz, d0, d1⟩ := HR.out.rg.at_ hlt
      have c2 : wr.cell? ⟨w.heap.size, 2, none⟩ = some (.string t.ho) := HR.out.tb.cell 2
      clear d1 hz
      have hltI : (k : Int) < t.rs.length := by omega
      cases hm0 : t.ho.toList.isEmpty with
      | true =>
        have HA := Lib.hid (show atK t (k + 1) = atK t k by rw [atK_empty HP.out (mt_iff.1 hm0), atK_empty HP.out (mt_iff.1 hm0)])
        generalize atK t k = a0 at *
        go_upto_region 7 with (fail)
        go_quiet (fail)
        go_wp2_with (fail)
        go_roundw
        case rel => exact ⟨k + 1, by omega, by go_num, by rw [HA.out], Lib.hid (HR.out.below (below_drewN (Below.refl _ _) _))⟩
        case measure => simp [intOf]; omega
      | false =>
        cases he : eqS x.h t.ho with
        | false =>
          have HA := Lib.hid (atK_other hx he)
          have heq : (x.h.toList == t.ho.toList) = false := he
          clear he hx
          generalize atK t k = a0 at *
          go_upto_region 7 with (fail)
          go_quiet (fail)
          go_wp2_with (fail)
          go_roundw
          case rel => exact ⟨k + 1, by omega, by go_num, by rw [HA.out], Lib.hid (HR.out.below (below_drewN (Below.refl _ _) _))⟩
          case measure => simp [intOf]; omega
        | true =>
          have HA := Lib.hid (atK_here HP.out hx he)
          have heq : (x.h.toList == t.ho.toList) = true := he
          clear he hx
          generalize atK t k = a0 at *
          go_upto_region 7 with (fail)
          go_quiet (fail)
          go_wp2_with (fail)
          go_roundw
          case rel => exact ⟨k + 1, by omega, by go_num, by rw [HA.out]; go_num, Lib.hid (HR.out.below (below_drewN (Below.refl _ _) _))⟩
          case measure => simp [intOf]; omega
    · obtain rfl : k = t.rs.length := by omega
      have HAt := Lib.hid (atK_all t)
      rw [HAt.out]
      generalize atN t = a at *
      have c4 : wr.cell? ⟨w.heap.size, 4, none⟩ = some (.bool false) := by rw [← HAP.out]; exact HR.out.tb.cell 4
      go_upto_region 12 with (fail)
      have c1 : wr.cell? ⟨w.heap.size, 1, none⟩ = some (.int .i64 (y : Nat)) := by rw [← HTy.out]; exact HR.out.tb.cell 1
      have c3 : wr.cell? ⟨w.heap.size, 3, none⟩ = some (.int .u32 (g : Nat)) := by rw [← HGe.out]; exact HR.out.tb.cell 3
      have q1 : IntKind.u64.wrap (g : Int) = g := by rw [IntKind.wrap_u64]; omega
      have q2 : IntKind.u8.wrap (y : Int) = y := by rw [IntKind.wrap_u8]; omega
      have q3 : IntKind.u8.wrap (a : Int) = a := by rw [IntKind.wrap_u8]; omega
      have q4 : IntKind.u8.wrap (t.rs.length : Int) = t.rs.length := by rw [IntKind.wrap_u8]; omega
      have hpz : (putHi g 4).size = 4 := (put_size (x := g) (k := 4) (by decide) (by decide)).1
      obtain ⟨hb4, hhb⟩ : ∃ b, b = baL [UInt8.ofNat y, UInt8.ofNat a, UInt8.ofNat 0, UInt8.ofNat t.rs.length] := ⟨_, rfl⟩
      have hbz : hb4.size = 4 := by rw [hhb]; rfl
      have HCV := Lib.hid (fun v gg (hk : Blk v gg 5 #[.int .u8 (y : Nat), .int .u8 (a : Nat), .int .u8 0, .int .u8 (t.rs.length : Nat)]) => hhb ▸ conv_four v gg y a 0 t.rs.length (by omega) (by omega) (by decide) (by omega) hk)
      have HHD2 := Lib.hid (show (⟨#[72, 71, 82, 84]⟩ : ByteArray) ++ putHi g 4 ++ hb4 = baL (headL t) by rw [hhb, ← HHD.out, HAP.out]; rfl)
      have cvB := HCV.out _ _ ((Blk.new wr 5 #[.int .u8 (y : Nat), .int .u8 (a : Nat), .int .u8 0, .int .u8 (t.rs.length : Nat)]).drew)
      have HRd := Lib.hid (HR.out.below (Below.refl _ _).drew)
      have HRa := Lib.hid (HR.out.below (((Below.refl wr.heap.size wr).alloc (Nat.le_refl _) (.cells #[.int .u8 (y : Nat), .int .u8 (a : Nat), .int .u8 0, .int .u8 (t.rs.length : Nat)] 5)).drew))
      have HCL := Lib.hid (fun v (hv : ReI w A c t v) => (⟨hv.tb.cell 0, by rw [← HTy.out]; exact hv.tb.cell 1, by rw [← HGe.out]; exact hv.tb.cell 3⟩ : v.cell? ⟨w.heap.size, 0, none⟩ = some (.slice A t.rs.length c) ∧ v.cell? ⟨w.heap.size, 1, none⟩ = some (.int .i64 (y : Nat)) ∧ v.cell? ⟨w.heap.size, 3, none⟩ = some (.int .u32 (g : Nat))))
      have d0 := HCL.out _ HRd.out
      have dX := HCL.out _ HRa.out
      clear hhb HHD HR
      apply share2 (fun v (_ : Nat) => ReI w A c t v)
      · intro HSH
        refine wp_region_noPanic ?_
        go_region_held (fun v => v.cell? ⟨w.heap.size, 0, none⟩ = some (.slice A t.rs.length c) ∧ v.cell? ⟨w.heap.size, 1, none⟩ = some (.int .i64 (y : Nat)) ∧ v.cell? ⟨w.heap.size, 3, none⟩ = some (.int .u32 (g : Nat))) (first | with_reducible exact e1 | with_reducible exact e0 | with_reducible exact dX | with_reducible exact d0) (first
          | (go_at_call 20; refine (refPutBig_any g 4 (wr.alloc (.cells #[.int .u8 (y : Nat), .int .u8 (a : Nat), .int .u8 0, .int .u8 (t.rs.length : Nat)] 5)).drew (by omega)).mono ?_; rintro e v1 ⟨rfl, hb⟩; have H1 := Lib.hid (HRa.out.below hb); have e1 := HCL.out _ H1.out; have cvB1 := HCV.out v1 _ ((Blk.new wr 5 #[.int .u8 (y : Nat), .int .u8 (a : Nat), .int .u8 0, .int .u8 (t.rs.length : Nat)]).drew.below hb ((Blk.new wr 5 _).drew.lt)); clear hb)
          | (go_at_call 20; refine (refPutBig_any g 4 wr.drew (by omega)).mono ?_; rintro e v1 ⟨rfl, hb⟩; have H1 := Lib.hid ((HRd.out.below hb).below ((Below.refl v1.heap.size v1).alloc (Nat.le_refl _) (.cells #[.int .u8 (y : Nat), .int .u8 (a : Nat), .int .u8 0, .int .u8 (t.rs.length : Nat)] 5))); have e0 := HCL.out _ (HRd.out.below hb); have e1 := HCL.out _ H1.out; have cvA := HCV.out _ _ (Blk.new v1 5 #[.int .u8 (y : Nat), .int .u8 (a : Nat), .int .u8 0, .int .u8 (t.rs.length : Nat)]); clear hb))
        all_goals (refine NoPanic.normal ?_)
        all_goals (rw [HHD2.out])
        all_goals (first
          | (have e9 := cvA; clear cvA e9; generalize v1.alloc (.cells #[.int .u8 (y : Nat), .int .u8 (a : Nat), .int .u8 0, .int .u8 (t.rs.length : Nat)] 5) = v at H1 ⊢; generalize v1.heap.size = gg; exact HSH v gg H1.out)
          | (generalize wr.heap.size = gg; exact HSH v1 gg H1.out))
      · intro v gg HV0
        have HV := Lib.hid HV0
        clear HV0
        have HHL := Lib.hid (head_len t)
        have HRL := Lib.hid (fun k => regsL_length (l := t.rs.take k) fun x hx => HP.out.sizes x (List.mem_of_mem_take hx))
        have HSN := Lib.hid (reg_snoc t)
        have HB0 := Lib.hid (show bodyL t = headL t ++ regsL t.rs from rfl)
        clear HHD2 HCV HCL cvB d0 dX HRd HRa c0 c1 c3 c4 q1 q2 q3 q4 hpz hbz HAt
        generalize headL t = hd at *
        go_wp2_with (fail)
        go_loopw [7, 8] (fun S i wr => ∃ k : Nat, k ≤ t.rs.length ∧ i = .int .i64 k ∧ S = .string (baL (hd ++ regsL (t.rs.take k))) ∧ Hid (ReI w A c t wr)) (fun _ i _ => t.rs.length - (intOf i).toNat)
        case atStart => exact ⟨0, Nat.zero_le _, rfl, by show _ = Value.string (baL (hd ++ [])); rw [List.append_nil], HV⟩
        case round =>
          clear HV
          obtain ⟨k, hk, rfl, rfl, HR⟩ := hrel
          have HRk := HRL.out k
          have hskz : (baL (hd ++ regsL (t.rs.take k))).size ≤ 2000 := by
            rw [baL_size, List.length_append, HHL.out]
            rw [List.length_take] at HRk
            omega
          have HSk := Lib.hid (HSN.out k)
          have c0 : wr.cell? ⟨w.heap.size, 0, none⟩ = some (.slice A t.rs.length c) := HR.out.tb.cell 0
          clear HRk
          by_cases hlt : k < t.rs.length
          · obtain ⟨b, o, x, rfl, hx, hz, d0, d1⟩ := HR.out.rg.at_ hlt
            have hltI : (k : Int) < t.rs.length := by omega
            have hxs := HP.out.sizes x (List.mem_of_getElem? hx)
            have hxk := HU.out.ky x (List.mem_of_getElem? hx)
            obtain ⟨kx, hkx⟩ : ∃ g, g = x.k.toNat := ⟨_, rfl⟩
            have hkI : x.k = (kx : Nat) := by omega
            have hkl : kx < 18446744073709551616 := by omega
            rw [hkI] at d1
            have q5 : IntKind.u8.wrap (x.h.size : Int) = x.h.size := by rw [IntKind.wrap_u8]; omega
            obtain ⟨ob, hob⟩ : ∃ b, b = baL [UInt8.ofNat x.h.size] := ⟨_, rfl⟩
            have hoz : ob.size = 1 := by rw [hob]; rfl
            have hpz : (putHi kx 8).size = 8 := (put_size (x := kx) (k := 8) (by decide) (by decide)).1
            have HN := Lib.hid (show baL (hd ++ regsL (t.rs.take (k + 1))) = baL (hd ++ regsL (t.rs.take k)) ++ (putHi kx 8 ++ ob ++ x.h) by rw [hob, hkx]; exact HSk.out hd x hx)
            have HCV := Lib.hid (fun v gg (hk : Blk v gg 5 #[.int .u8 (x.h.size : Nat)]) => hob ▸ conv_last v gg x.h.size (by omega) hk)
            have HX := Lib.hid hx
            clear hob hx hz hxk hkx hkI HSk
            generalize baL (hd ++ regsL (t.rs.take k)) = sk at *
            have h1 := World.block_lt_of_cell? wr _ c0
            have h2 := World.block_lt_of_cell? wr _ d0
            have HCL := Lib.hid (fun v (hv : Below wr.heap.size wr v) => (⟨(hv.cell (p := ⟨w.heap.size, 0, none⟩) h1).trans c0, (hv.cell (p := ⟨b, o + k * 2, none⟩) h2).trans d0, (hv.cell (p := ⟨b, o + k * 2 + 1, none⟩) h2).trans d1⟩ : v.cell? ⟨w.heap.size, 0, none⟩ = some (.slice (some ⟨b, o, none⟩) t.rs.length c) ∧ v.cell? ⟨b, o + k * 2, none⟩ = some (.string x.h) ∧ v.cell? ⟨b, o + k * 2 + 1, none⟩ = some (.int .u64 (kx : Nat))))
            have bD : Below wr.heap.size wr wr.drew := (Below.refl _ _).drew
            have bX : Below wr.heap.size wr (wr.alloc (.cells #[.int .u8 (x.h.size : Nat)] 5)).drew := ((Below.refl wr.heap.size wr).alloc (Nat.le_refl _) (.cells #[.int .u8 (x.h.size : Nat)] 5)).drew
            have BD := Lib.hid bD; have BX := Lib.hid bX
            have e0 := HCL.out _ bD
            have eX := HCL.out _ bX
            have cvB := HCV.out _ _ ((Blk.new wr 5 #[.int .u8 (x.h.size : Nat)]).drew)
            clear bD bX h1 h2
            go_upto_region 16 with (fail)
            refine wp_region_noPanic ?_
            go_region_held (fun v => v.cell? ⟨w.heap.size, 0, none⟩ = some (.slice (some ⟨b, o, none⟩) t.rs.length c) ∧ v.cell? ⟨b, o + k * 2, none⟩ = some (.string x.h) ∧ v.cell? ⟨b, o + k * 2 + 1, none⟩ = some (.int .u64 (kx : Nat))) (first | with_reducible exact e2 | with_reducible exact e1 | with_reducible exact eX | with_reducible exact e0) (first
              | (go_at_call 20; refine (refPutBig_any kx 8 (wr.alloc (.cells #[.int .u8 (x.h.size : Nat)] 5)).drew hkl).mono ?_; rintro e v1 ⟨rfl, hb⟩; have hB1 := BX.out.trans (hb.mono BX.out.size); have H1 := Lib.hid (HR.out.below hB1); have e1 := HCL.out _ hB1; have cvB1 := HCV.out v1 _ ((Blk.new wr 5 #[.int .u8 (x.h.size : Nat)]).drew.below hb ((Blk.new wr 5 _).drew.lt)); clear hb hB1)
              | (go_at_call 20; refine (refPutBig_any kx 8 wr.drew hkl).mono ?_; rintro e v1 ⟨rfl, hb⟩; have hB1 := BD.out.trans (hb.mono BD.out.size); have e1 := HCL.out _ hB1; have hB2 := hB1.trans (((Below.refl v1.heap.size v1).alloc (Nat.le_refl _) (.cells #[.int .u8 (x.h.size : Nat)] 5)).mono hB1.size); have H1 := Lib.hid (HR.out.below hB2); have e2 := HCL.out _ hB2; have cvA := HCV.out _ _ (Blk.new v1 5 #[.int .u8 (x.h.size : Nat)]); clear hb hB1 hB2))
            all_goals (refine NoPanic.normal ?_)
            all_goals (rw [← HN.out])
            all_goals (go_wp2_with (fail))
            all_goals (go_roundw)
            all_goals (first | exact ⟨k + 1, by omega, by go_num, rfl, H1⟩ | (simp [intOf]; omega))
          · obtain rfl : k = t.rs.length := by omega
            have HZ := Lib.hid (show (baL (bodyL t)).size ≤ maxLen by rw [baL_size]; exact Nat.le_trans (body_length HP.out) (by decide))
            have hcc : ¬ 9223372036854775807 < (baL (bodyL t)).size + (digV (baL (bodyL t))).size := by
              have h1 := body_length HP.out
              rw [← baL_size] at h1
              have h2 := dig_len (baL (bodyL t))
              rw [lst_len] at h2
              omega
            have HI := Lib.hid (img_append t)
            rw [List.take_length, ← HB0.out]
            clear hskz HSk
            generalize baL (bodyL t) = bb at *
            go_wp2_with (fail)
            refine (refDigest_any bb _ HZ.out).mono ?_; rintro e w3 ⟨rfl, hb⟩
            have H3 := Lib.hid (HR.out.below hb)
            clear hb
            go_wp2_with (fail)
            go_ret2
            exact ⟨by rw [HE.out.1, HE.out.2, ← HI.out]; rfl, H3.out.bel⟩
theorem refEncode_any (A : Option Addr) (c : Nat) (t : Tl) (w : World) (hl : Rgs w A t.rs) (hm : t.rs.length ≤ maxLen) (hu : TlU t) :
    Calls Tryd.prog 12 #[tlV A c t] w fun e w' => e = .returned (.tuple #[.string (encS t), .int .i64 (encC t)]) ∧ Below w.heap.size w w' := by
  cases hg : goodB t with
  | false => exact refEncode_bad A c t w hl hm hg
  | true =>
    cases hp : t.ap with
    | false => exact refEncode_f A c t w hl hu hg hp
    | true => exact refEncode_t A c t w hl hu hg hp
end Go.Proofs.YthedonkjnfeajaaDoor
