/- UnitsApart. -/
import Derived.Test.YtacogfllnhopoaaUnO
namespace Go.Proofs.Ytacogfllnhopoaa
open Go.RowKit Go.Maps
theorem addF_other {f : PF} {l l' : Int} {h h' : ByteArray} {x : Int} (hne : ¬ (l' = l ∧ h' = h)) : addF f l h x l' h' = f l' h' := by
  unfold addF
  split
  · exact upd_other hne
  · rfl
theorem takeF_other {f : PF} {l l' : Int} {h h' : ByteArray} (hne : ¬ (l' = l ∧ h' = h)) : takeF f l h l' h' = f l' h' := upd_other hne
theorem forgetF_other {f : PF} {l' : Int} {h h' : ByteArray} (hne : ¬ h' = h) : forgetF f h l' h' = f l' h' := if_neg hne
theorem addB_first {l : Int} {h : ByteArray} {x : Int} (hb : addB noF l h x = true) : addF noF l h x l h = [x] := by
  rw [addB_yes hb, upd_same]
  rfl
theorem bytes_ext {a b : ByteArray} (h : a.toList = b.toList) : a = b := by
  rw [ByteArray.toList_eq, ByteArray.toList_eq] at h
  cases a; cases b
  simp at h
  rw [h]
theorem sx_new (w : World) (m : Sx) : Blk (w.alloc (.cells #[.int .i64 m.kd, .int .i64 m.lu, .string m.ho, .int .i64 m.wh] 30)) w.heap.size 30 (sxC m) := Blk.new w 30 _
set_option maxRecDepth 100000 in
set_option maxHeartbeats 1000000 in
theorem apart_long (a : Sx) (A : Option Addr) (n c : Nat) (w : World) (hl : ¬ a.ho.size ≤ 1000) : Calls Try.prog 6 #[sxV a, .slice A n c] w fun e w' => e = .returned (.bool true) ∧ Below w.heap.size w w' := by
  have HB1 := Lib.hid (sx_new w a)
  have hgt : (1000 : Int) < (a.ho.size : Int) := by omega
  have HBl := Lib.hid (show Below w.heap.size w (w.alloc (.cells #[.int .i64 a.kd, .int .i64 a.lu, .string a.ho, .int .i64 a.wh] 30)) from (Below.refl _ _).alloc (Nat.le_refl _) _)
  clear hl
  unfold sxV
  go_enter Try.func6, Try.ntmps6
  go_wp2_with (first
    | (go_at_call 7; refine (ou_new _).mono ?_; rintro e w1 ⟨p, rfl, _, h1⟩; have H1 := Lib.hid h1; have hb2 := HB1.out.below h1.below HB1.out.lt; have hc : w1.cell? ⟨w.heap.size, 2, none⟩ = some (.string a.ho) := hb2.cell 2; clear h1 hb2)
    | (go_at_call 19; refine (wakes_any _).mono ?_; rintro e w2 ⟨rfl, hb⟩; have H2 := Lib.hid hb; clear hb))
  go_ret
  exact ⟨rfl, HBl.out.trans ((H1.out.below.mono HBl.out.size).trans (H2.out.mono (Nat.le_trans HBl.out.size H1.out.below.size)))⟩
set_option maxRecDepth 100000 in
set_option maxHeartbeats 2000000 in
theorem apart_no (a : Sx) (ha : a.Ok) (A : Option Addr) (n c : Nat) (w : World) (hl : a.ho.size ≤ 1000) (hb : addB noF a.lu a.ho a.wh = false) : Calls Try.prog 6 #[sxV a, .slice A n c] w fun e w' => e = .returned (.bool true) ∧ Below w.heap.size w w' := by
  have HB1 := Lib.hid (sx_new w a)
  have hgt : ¬ (1000 : Int) < (a.ho.size : Int) := by omega
  have HBl := Lib.hid (show Below w.heap.size w (w.alloc (.cells #[.int .i64 a.kd, .int .i64 a.lu, .string a.ho, .int .i64 a.wh] 30)) from (Below.refl _ _).alloc (Nat.le_refl _) _)
  have HAD := Lib.hid (fun (v0 v : World) (p : Nat) (h : OU v0 v p noF) => ou_add h a.lu a.ho a.wh (isKv ha.lu ha.ho) ha.ho)
  rw [hb] at HAD
  clear hl hb
  unfold sxV
  go_enter Try.func6, Try.ntmps6
  go_wp2_with (first
    | (go_at_call 7; refine (ou_new _).mono ?_; rintro e w1 ⟨p, rfl, _, h1⟩; have H1 := Lib.hid h1; have HBA := HB1.out.below h1.below HB1.out.lt; have hc0 : w1.cell? ⟨w.heap.size, 0, none⟩ = some (.int .i64 a.kd) := HBA.cell 0; have hc1 : w1.cell? ⟨w.heap.size, 1, none⟩ = some (.int .i64 a.lu) := HBA.cell 1; have hc2 : w1.cell? ⟨w.heap.size, 2, none⟩ = some (.string a.ho) := HBA.cell 2; have hc3 : w1.cell? ⟨w.heap.size, 3, none⟩ = some (.int .i64 a.wh) := HBA.cell 3; clear h1 HBA)
    | (go_at_call 8; refine (HAD.out _ _ _ H1).mono ?_; rintro e w2 ⟨rfl, h2⟩; have H2 := Lib.hid h2.below; clear h2)
    | (go_at_call 19; refine (wakes_any _).mono ?_; rintro e w3 ⟨rfl, hb⟩; have H3 := Lib.hid hb; clear hb))
  go_ret
  exact ⟨rfl, HBl.out.trans ((H2.out.mono HBl.out.size).trans (H3.out.mono (Nat.le_trans HBl.out.size H2.out.size)))⟩
set_option maxRecDepth 100000 in
set_option maxHeartbeats 2000000 in
theorem apart_yes (a : Sx) (ha : a.Ok) (A : Option Addr) (l : List Sx) (c : Nat) (w : World) (hA : Sxs w A l) (hl : a.ho.size ≤ 1000) (hb : addB noF a.lu a.ho a.wh = true) : Calls Try.prog 6 #[sxV a, .slice A l.length c] w fun e w' => e = .returned (.bool true) ∧ Below w.heap.size w w' := by
  have HB1 := Lib.hid (sx_new w a)
  have hgt : ¬ (1000 : Int) < (a.ho.size : Int) := by omega
  have HBl := Lib.hid (show Below w.heap.size w (w.alloc (.cells #[.int .i64 a.kd, .int .i64 a.lu, .string a.ho, .int .i64 a.wh] 30)) from (Below.refl _ _).alloc (Nat.le_refl _) _)
  have HAD := Lib.hid (fun (v0 v : World) (p : Nat) (h : OU v0 v p noF) => ou_add h a.lu a.ho a.wh (isKv ha.lu ha.ho) ha.ho)
  rw [hb] at HAD
  have HFA := Lib.hid (addB_first hb)
  have HA := Lib.hid (hA.below HBl.out)
  have HO := Lib.hid ha
  clear hl hb hA
  unfold sxV
  go_enter Try.func6, Try.ntmps6
  go_wp2_with (first
    | (go_at_call 7; refine (ou_new _).mono ?_; rintro e w1 ⟨p, rfl, _, h1⟩; have H1 := Lib.hid h1; have HBA := HB1.out.below h1.below HB1.out.lt; have hc0 : w1.cell? ⟨w.heap.size, 0, none⟩ = some (.int .i64 a.kd) := HBA.cell 0; have hc1 : w1.cell? ⟨w.heap.size, 1, none⟩ = some (.int .i64 a.lu) := HBA.cell 1; have hc2 : w1.cell? ⟨w.heap.size, 2, none⟩ = some (.string a.ho) := HBA.cell 2; have hc3 : w1.cell? ⟨w.heap.size, 3, none⟩ = some (.int .i64 a.wh) := HBA.cell 3; clear h1 HBA)
    | (go_at_call 8; refine (HAD.out _ _ _ H1).mono ?_; rintro e w2 ⟨rfl, h2⟩; have H2 := Lib.hid h2; clear h2))
  clear hc0 hc1 hc2 hc3
  generalize hv0 : w.alloc (.cells #[.int .i64 a.kd, .int .i64 a.lu, .string a.ho, .int .i64 a.wh] 30) = v0 at *
  clear hv0
  go_loopw [6] (fun i wr => ∃ (k : Nat) (f : PF), k ≤ l.length ∧ k ≤ 60 ∧ i = .int .i64 (k : Int) ∧ OU v0 wr p f ∧ f a.lu a.ho = [a.wh]) (fun i _ => l.length - (intOf i).toNat)
  case atStart => exact ⟨0, _, by omega, by omega, rfl, H2, HFA⟩
  case round =>
    obtain ⟨k, f, hkl, hk60, rfl, hou, hfa⟩ := hrel
    by_cases hk : k < l.length ∧ k < 60
    · obtain ⟨hk1, hk2⟩ := hk
      have h1 : (k : Int) < (l.length : Int) := by omega
      have h2 : (k : Int) < 60 := by omega
      obtain ⟨b, ob, rfl, hbl, hcs⟩ := (HA.out.below hou.below) (by omega)
      obtain ⟨m, hmk⟩ : ∃ m, l[k]? = some m := ⟨_, List.getElem?_eq_getElem hk1⟩
      obtain ⟨hmo, hcell⟩ := hcs k m hmk
      have m0 : wr.cell? ⟨b, ob + k * 4, none⟩ = some (.int .i64 m.kd) := hcell 0 _ rfl
      have m1 : wr.cell? ⟨b, ob + k * 4 + 1, none⟩ = some (.int .i64 m.lu) := hcell 1 _ rfl
      have m2 : wr.cell? ⟨b, ob + k * 4 + 2, none⟩ = some (.string m.ho) := hcell 2 _ rfl
      have m3 : wr.cell? ⟨b, ob + k * 4 + 3, none⟩ = some (.int .i64 m.wh) := hcell 3 _ rfl
      have HBA := Lib.hid (Blk.below (Blk.below HB1 hou.below HB1.out.lt) ((Below.refl wr.heap.size wr).alloc (Nat.le_refl _) (.cells #[.int .i64 m.kd, .int .i64 m.lu, .string m.ho, .int .i64 m.wh] 30)) (Nat.lt_of_lt_of_le HB1.out.lt hou.below.size))
      have a1 : (wr.alloc (.cells #[.int .i64 m.kd, .int .i64 m.lu, .string m.ho, .int .i64 m.wh] 30)).cell? ⟨w.heap.size, 1, none⟩ = some (.int .i64 a.lu) := HBA.out.cell 1
      have a2 : (wr.alloc (.cells #[.int .i64 m.kd, .int .i64 m.lu, .string m.ho, .int .i64 m.wh] 30)).cell? ⟨w.heap.size, 2, none⟩ = some (.string a.ho) := HBA.out.cell 2
      have HMO := Lib.hid hmo
      have HOU := Lib.hid (show OU v0 (wr.alloc (.cells #[.int .i64 m.kd, .int .i64 m.lu, .string m.ho, .int .i64 m.wh] 30)) p f from hou.more ((Below.refl _ _).alloc (Nat.le_refl _) _))
      have HFA1 := Lib.hid hfa
      have hwr : IntKind.i64.wrap ((k : Int) + 1) = (k : Int) + 1 := IntWalk.i64_in _ (by omega)
      have HKK := Lib.hid (show k + 1 ≤ l.length ∧ k + 1 ≤ 60 from ⟨hk1, hk2⟩)
      clear hou hfa hcs hcell hmo hmk hbl HFA H2 HBl HAD
      by_cases h1000 : m.ho.size ≤ 1000
      · have hgt1 : ¬ (1000 : Int) < (m.ho.size : Int) := by omega
        by_cases hne : m.ho = a.ho
        · have hst : m.ho.toList = a.ho.toList := by rw [hne]
          clear hne
          by_cases hlu : m.lu = a.lu
          · have hle : (m.lu == a.lu) = true := by simpa using hlu
            clear hlu
            go_wp2
            go_roundw
            case rel => exact ⟨k + 1, _, HKK.out.1, HKK.out.2, by go_num, HOU, HFA1⟩
            case measure => simp [intOf]; omega
          · have hle : (m.lu == a.lu) = false := by simpa using hlu
            by_cases hk2' : m.kd = 2
            · have q2 : (m.kd == 2) = true := by simpa using hk2'
              clear hk2'
              go_wp2
              go_roundw
              case rel => exact ⟨k + 1, _, HKK.out.1, HKK.out.2, by go_num, HOU, HFA1⟩
              case measure => simp [intOf]; omega
            · have q2 : (m.kd == 2) = false := by simpa using hk2'
              have hne := hlu
              by_cases k0 : m.kd = 0
              · have q0 : (m.kd == 0) = true := by simpa using k0
                clear k0
                have HF2 := Lib.hid (show addF f m.lu m.ho m.wh a.lu a.ho = [a.wh] from (addF_other (fun hh => hne hh.1.symm)).trans HFA1.out)
                go_wp2_with (go_at_call 8; refine (ou_add HOU.out m.lu m.ho m.wh (isKv HMO.out.lu HMO.out.ho) HMO.out.ho).mono ?_; rintro e w3 ⟨rfl, h3⟩; have H3 := Lib.hid h3; clear h3)
                go_roundw
                case rel => exact ⟨k + 1, _, HKK.out.1, HKK.out.2, by go_num, H3, HF2⟩
                case measure => simp [intOf]; omega
              by_cases k1 : m.kd = 1
              · have q0 : (m.kd == 0) = false := by simpa using k0
                have q1 : (m.kd == 1) = true := by simpa using k1
                clear k1 k0
                have HF2 := Lib.hid (show takeF f m.lu m.ho a.lu a.ho = [a.wh] from (takeF_other (fun hh => hne hh.1.symm)).trans HFA1.out)
                go_wp2_with (go_at_call 10; refine (ou_take HOU.out m.lu m.ho (isKv HMO.out.lu HMO.out.ho)).mono ?_; rintro e w3 ⟨rfl, h3⟩; have H3 := Lib.hid h3; clear h3)
                go_roundw
                case rel => exact ⟨k + 1, _, HKK.out.1, HKK.out.2, by go_num, H3, HF2⟩
                case measure => simp [intOf]; omega
              have q0 : (m.kd == 0) = false := by simpa using k0
              have q1 : (m.kd == 1) = false := by simpa using k1
              go_wp2
              go_roundw
              case rel => exact ⟨k + 1, _, HKK.out.1, HKK.out.2, by go_num, HOU, HFA1⟩
              case measure => simp [intOf]; omega
        · have hst : ¬ m.ho.toList = a.ho.toList := fun hh => hne (bytes_ext hh)
          by_cases k0 : m.kd = 0
          · have q0 : (m.kd == 0) = true := by simpa using k0
            clear k0
            have HF2 := Lib.hid (show addF f m.lu m.ho m.wh a.lu a.ho = [a.wh] from (addF_other (fun hh => hne hh.2.symm)).trans HFA1.out)
            go_wp2_with (go_at_call 8; refine (ou_add HOU.out m.lu m.ho m.wh (isKv HMO.out.lu HMO.out.ho) HMO.out.ho).mono ?_; rintro e w3 ⟨rfl, h3⟩; have H3 := Lib.hid h3; clear h3)
            go_roundw
            case rel => exact ⟨k + 1, _, HKK.out.1, HKK.out.2, by go_num, H3, HF2⟩
            case measure => simp [intOf]; omega
          by_cases k1 : m.kd = 1
          · have q0 : (m.kd == 0) = false := by simpa using k0
            have q1 : (m.kd == 1) = true := by simpa using k1
            clear k1 k0
            have HF2 := Lib.hid (show takeF f m.lu m.ho a.lu a.ho = [a.wh] from (takeF_other (fun hh => hne hh.2.symm)).trans HFA1.out)
            go_wp2_with (go_at_call 10; refine (ou_take HOU.out m.lu m.ho (isKv HMO.out.lu HMO.out.ho)).mono ?_; rintro e w3 ⟨rfl, h3⟩; have H3 := Lib.hid h3; clear h3)
            go_roundw
            case rel => exact ⟨k + 1, _, HKK.out.1, HKK.out.2, by go_num, H3, HF2⟩
            case measure => simp [intOf]; omega
          have q0 : (m.kd == 0) = false := by simpa using k0
          have q1 : (m.kd == 1) = false := by simpa using k1
          by_cases k2 : m.kd = 2
          · have q2 : (m.kd == 2) = true := by simpa using k2
            clear k2
            have HF2 := Lib.hid (show forgetF f m.ho a.lu a.ho = [a.wh] from (forgetF_other (fun hh => hne hh.symm)).trans HFA1.out)
            go_wp2_with (go_at_call 12; refine (ou_forget HOU.out m.ho HMO.out.ho).mono ?_; rintro e w3 ⟨rfl, h3⟩; have H3 := Lib.hid h3; clear h3)
            go_roundw
            case rel => exact ⟨k + 1, _, HKK.out.1, HKK.out.2, by go_num, H3, HF2⟩
            case measure => simp [intOf]; omega
          have q2 : (m.kd == 2) = false := by simpa using k2
          go_wp2
          go_roundw
          case rel => exact ⟨k + 1, _, HKK.out.1, HKK.out.2, by go_num, HOU, HFA1⟩
          case measure => simp [intOf]; omega
      · have hgt1 : (1000 : Int) < (m.ho.size : Int) := by omega
        go_wp2
        go_roundw
        case rel => exact ⟨k + 1, _, HKK.out.1, HKK.out.2, by go_num, HOU, HFA1⟩
        case measure => simp [intOf]; omega
    · have HFA1 := Lib.hid hfa
      have hstop : ¬ ((k : Int) < (l.length : Int)) ∨ (((k : Int) < (l.length : Int)) ∧ ¬ (k : Int) < 60) := by omega
      have HOU := Lib.hid hou
      have HBA := Lib.hid (Blk.below HB1 hou.below HB1.out.lt)
      have a1 : wr.cell? ⟨w.heap.size, 1, none⟩ = some (.int .i64 a.lu) := HBA.out.cell 1
      have a2 : wr.cell? ⟨w.heap.size, 2, none⟩ = some (.string a.ho) := HBA.out.cell 2
      have HTK := Lib.hid (ou_take hou a.lu a.ho (isKv HO.out.lu HO.out.ho))
      rw [HFA1.out] at HTK
      have HTF := Lib.hid (show takeF f a.lu a.ho a.lu a.ho = [] by unfold takeF; rw [upd_same, HFA1.out]; rfl)
      clear hou hfa hk HFA H2 HAD
      rcases hstop with hs | ⟨hs, hs60⟩ <;>
      · go_wp2_with (first
          | (go_at_call 10; refine HTK.out.mono ?_; rintro e w3 ⟨rfl, h3⟩; have H3 := Lib.hid h3; have HW := Lib.hid (ou_wait h3 (isKv HO.out.lu HO.out.ho)); have HBB := Lib.hid (Blk.below HB1 h3.below HB1.out.lt); have b1 : w3.cell? ⟨w.heap.size, 1, none⟩ = some (.int .i64 a.lu) := HBB.out.cell 1; have b2 : w3.cell? ⟨w.heap.size, 2, none⟩ = some (.string a.ho) := HBB.out.cell 2; have b3 : w3.cell? ⟨w.heap.size, 3, none⟩ = some (.int .i64 a.wh) := HBB.out.cell 3; rw [HTF.out] at HW; clear h3)
          | (go_at_call 14; refine HW.out.mono ?_; rintro e w4 ⟨rfl, rfl⟩)
          | (go_at_call 19; refine (wakes_any _).mono ?_; rintro e w5 ⟨rfl, hb⟩; have H5 := Lib.hid hb; clear hb))
        go_ret
        exact ⟨rfl, HBl.out.trans ((H3.out.below.mono HBl.out.size).trans (H5.out.mono (Nat.le_trans HBl.out.size H3.out.below.size)))⟩
theorem apart_any (a : Sx) (A : Option Addr) (l : List Sx) (c : Nat) (w : World) (ha : a.Ok) (hA : Sxs w A l) : Calls Try.prog 6 #[sxV a, .slice A l.length c] w fun e w' => e = .returned (.bool true) ∧ Below w.heap.size w w' := by
  by_cases hl : a.ho.size ≤ 1000
  · cases hb : addB noF a.lu a.ho a.wh with
    | false => exact apart_no a ha A _ c w hl hb
    | true => exact apart_yes a ha A l c w hA hl hb
  · exact apart_long a A _ c w hl
end Go.Proofs.Ytacogfllnhopoaa
