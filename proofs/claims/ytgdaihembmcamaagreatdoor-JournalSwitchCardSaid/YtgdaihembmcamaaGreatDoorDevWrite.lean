/- Write of the program's device. -/
import Derived.Test.YtgdaihembmcamaaGreatDoorDevHold
import Derived.Test.YtgdaihembmcamaaGreatDoorDevShelf
namespace Go.Proofs.YtgdaihembmcamaaGreatDoor
open Go.RowKit
theorem cloneD_any (w : World) (s : ByteArray) (hs : s.size ≤ 281474976710656) : Calls Tryz.prog 44 #[.string s] w fun e w' => e = .returned (.string s) ∧ Below w.heap.size w w' := by
  go_enter Tryz.func44, Tryz.ntmps44
  go_wp2_with (go_at_call 65; refine (Tryz.stringslite_Clone _ _ hs).mono ?_; rintro e w' ⟨rfl, hb⟩)
  go_ret
  exact ⟨rfl, hb⟩
theorem wr_due {i : Nat} {s : ByteArray} {k m : Nat} {x : St} (h : x.due = true) : x.wr i s k (m + 1) = (x.fall, false) := by show (if x.due then _ else _) = _; rw [if_pos h]
theorem wr_go {i : Nat} {s : ByteArray} {k m : Nat} {x : St} (h : x.due = false) : x.wr i s k (m + 1) = (x.oped.hold (i + k) (sec s k)).wr i s (k + 1) m := by show (if x.due then _ else _) = _; rw [if_neg (by simp [h])]
theorem sec_size {s : ByteArray} {k m : Nat} (hm : s.size = m * 512) (hk : k < m) : (sec s k).size = 512 := by
  unfold sec
  rw [ByteArray.size_extract]
  omega
/-- Of a write's loop: k sectors are written. -/
structure WrRel (F : Nat → Prop) (w : World) (p n i m : Nat) (s : ByteArray) (x : St) (k : Nat) (F' : Nat → Prop) (y : St) (wr : World) : Prop where
  le : k ≤ m
  dev : Dv wr F' p n y
  only : Only F w wr
  grew : Grew F w F'
  ops : y.ops = x.ops + k
  same : x.wr i s 0 m = y.wr i s k (m - k)
def St.write (x : St) (n : Nat) (i : Int) (s : ByteArray) : St × Int :=
  if s.size % 512 ≠ 0 then (x, 40) else if x.why n i (s.size / 512 : Nat) ≠ 0 then (x, x.why n i (s.size / 512 : Nat)) else ((x.wr i.toNat s 0 (s.size / 512)).1, if (x.wr i.toNat s 0 (s.size / 512)).2 then 0 else 41)
theorem WrRel.down {F : Nat → Prop} {w wr w' : World} {p n i m : Nat} {s : ByteArray} {x y : St} {k : Nat} {F' : Nat → Prop} (h : WrRel F w p n i m s x k F' y wr) (hk : k < m) (hd : y.due = true)
    (hv : Dv w' F' p n y.fall ∧ Only F' wr w') : x.wr i s 0 m = (y.fall, false) ∧ DvOut F w p n y.fall w' := by
  refine ⟨?_, (DvOut.of hv).trans h.only h.grew⟩
  rw [h.same, show m - k = m - (k + 1) + 1 by omega, wr_due hd]
theorem WrRel.next {F : Nat → Prop} {w wr w1 w2 w3 : World} {p n i m : Nat} {s : ByteArray} {x y : St} {k : Nat} {F' : Nat → Prop} (h : WrRel F w p n i m s x k F' y wr) (hk : k < m) (hd : y.due = false)
    (hv : Dv w1 F' p n y.oped ∧ Only F' wr w1) (hc : Below w1.heap.size w1 w2) (hh : DvOut F' w2 p n (y.oped.hold (i + k) (sec s k)) w3) : ∃ F2, WrRel F w p n i m s x (k + 1) F2 (y.oped.hold (i + k) (sec s k)) w3 := by
  obtain ⟨F2, h1, h2, h3⟩ := hh
  have o2 : Only F w w2 := (h.only.trans hv.2 h.grew).below hc
  have g2 : Grew F w F2 := fun j hj => (h3 j hj).elim (fun h' => h.grew j h') (fun h' => .inr (Nat.le_trans o2.size h'))
  refine ⟨F2, hk, h1, o2.trans h2 fun j hj => h.grew j hj, g2, ?_, ?_⟩
  · show y.ops + 1 = x.ops + (k + 1)
    have := h.ops
    omega
  · rw [h.same, show m - k = m - (k + 1) + 1 by omega, wr_go hd]
theorem DvOut.same {F : Nat → Prop} {w : World} {p n : Nat} {x : St} (h : Dv w F p n x) : DvOut F w p n x w := DvOut.of ⟨h, Only.refl F w⟩
theorem write_nil (w : World) (i : Int) (s : ByteArray) (hs : s.size ≤ 140737488355328) : Calls Tryz.prog 12 #[.pointer none, .int .i64 i, .string s] w fun e w' => e = .returned (.int .i64 1) ∧ w = w' := by
  go_enter Tryz.func12, Tryz.ntmps12
  go_wp2_with (go_at_call 41; refine (ready_nil _ _ _).mono ?_; rintro e w' ⟨rfl, rfl⟩)
  go_ret
  exact ⟨rfl, rfl⟩
theorem write_odd (w : World) {F : Nat → Prop} {p n : Nat} {x : St} (h : Dv w F p n x) (i : Int) (s : ByteArray) (hs : s.size ≤ 140737488355328) (ho : s.size % 512 ≠ 0) :
    Calls Tryz.prog 12 #[.pointer (some ⟨p, 0, none⟩), .int .i64 i, .string s] w fun e w' => e = .returned (.int .i64 (x.write n i s).2) ∧ DvOut F w p n (x.write n i s).1 w' := by
  have e : x.write n i s = (x, 40) := by unfold St.write; rw [if_pos ho]
  rw [e]
  have H := Lib.hid (DvOut.same h)
  have ho' : ¬ (s.size : Int) % 512 = 0 := by omega
  clear h e ho
  go_enter Tryz.func12, Tryz.ntmps12
  go_wp2_with (fail)
  go_ret
  exact ⟨rfl, H.out⟩
theorem write_why (w : World) {F : Nat → Prop} {p n : Nat} {x : St} (h : Dv w F p n x) (i : Int) (s : ByteArray) (hi : -9223372036854775808 ≤ i ∧ i ≤ 9223372036854775807) (hs : s.size ≤ 140737488355328) (ho : s.size % 512 = 0)
    (hw : x.why n i (s.size / 512 : Nat) ≠ 0) :
    Calls Tryz.prog 12 #[.pointer (some ⟨p, 0, none⟩), .int .i64 i, .string s] w fun e w' => e = .returned (.int .i64 (x.write n i s).2) ∧ DvOut F w p n (x.write n i s).1 w' := by
  have e : x.write n i s = (x, x.why n i (s.size / 512 : Nat)) := by unfold St.write; rw [if_neg (by omega), if_pos hw]
  rw [e]
  have HR := Lib.hid (ready_any w h i (s.size / 512 : Nat) hi)
  have H := Lib.hid (DvOut.same h)
  generalize x.why n i (s.size / 512 : Nat) = q at hw HR ⊢
  have ho' : (s.size : Int) % 512 = 0 := by omega
  clear h e ho
  go_enter Tryz.func12, Tryz.ntmps12
  go_wp2_with (go_at_call 41; refine HR.out.mono ?_; rintro e w' ⟨rfl, rfl⟩)
  go_ret
  exact ⟨rfl, H.out⟩
/-- A fact on the loop's slot and world, under one name. -/
def WrAt (F : Nat → Prop) (w : World) (p n i m : Nat) (s : ByteArray) (x : St) (c : Value) (wr : World) : Prop := ∃ k F' y, c = .int .i64 ((k : Nat) : Int) ∧ WrRel F w p n i m s x k F' y wr
theorem why_zero {x : St} {n : Nat} {i k : Int} (h : x.why n i k = 0) : 0 ≤ i ∧ 0 ≤ k ∧ i + k ≤ n ∧ x.down = false := by
  unfold St.why at h
  split at h
  · omega
  · split at h
    · omega
    · rename_i h1 h2
      exact ⟨by omega, by omega, by omega, by simpa using h2⟩
def wrCode (b : Bool) : Int := if b then 0 else 41
def WrDone (F : Nat → Prop) (w : World) (p n : Nat) (r : St × Bool) (e : Ending) (w' : World) : Prop := e = .returned (.int .i64 (wrCode r.2)) ∧ DvOut F w p n r.1 w'
theorem strlen (s : ByteArray) (h : s.size = 512) : s.size ≤ 281474976710656 := by omega
set_option maxHeartbeats 800000 in
theorem write_ok (w : World) {F : Nat → Prop} {p n : Nat} {x : St} (h : Dv w F p n x) (i m : Nat) (s : ByteArray) (hs : s.size = m * 512) (hw : x.why n i (m : Int) = 0) (hk : x.ops ≤ 1000000000000) :
    Calls Tryz.prog 12 #[.pointer (some ⟨p, 0, none⟩), .int .i64 (i : Int), .string s] w (WrDone F w p n (x.wr i s 0 m)) := by
  have hn := h.good.most
  obtain ⟨_, _, him, hdn⟩ := why_zero hw
  have him' : i + m ≤ n := by omega
  have HR := Lib.hid (ready_any w h i m (by omega))
  rw [hw] at HR
  have H0 : WrRel F w p n i m s x 0 F x w := ⟨Nat.zero_le _, h, Only.refl F w, fun _ hk => .inl hk, rfl, by rw [Nat.sub_zero]⟩
  have h8 : s.size ≤ 4194304 := by omega
  have hmod : (s.size : Int) % 512 = 0 := by omega
  have hdiv : (s.size : Int) / 512 = m := by omega
  have HS := Lib.hid hs
  have HD := Lib.hid hdiv
  clear h hw hdn hs him hdiv
  go_enter Tryz.func12, Tryz.ntmps12
  go_wp2_with (fail)
  rw [HD.out]
  refine HR.out.mono ?_
  rintro e w' ⟨rfl, rfl⟩
  go_wp2_with (fail)
  go_loopw [29] (fun c wr => WrAt F w p n i m s x c wr) (fun c _ => m - (intOf c).toNat)
  case atStart => exact ⟨0, F, x, rfl, H0⟩
  case round =>
    obtain ⟨k, F', y, rfl, hr⟩ := hrel
    have hkm := hr.le
    have hops := hr.ops
    by_cases hlt : k < m
    · cases hd : y.due with
      | true =>
        have HV := Lib.hid (operate_due wr hr.dev hd)
        have HN := Lib.hid (fun w' => hr.down (w' := w') hlt hd)
        clear hd hr H0 hops
        go_wp2_with (fail)
        refine HV.out.mono ?_
        rintro e w1 ⟨rfl, hv⟩
        have HW := Lib.hid (HN.out w1 hv)
        clear hv
        go_wp2_with (fail)
        go_ret
        rw [HW.out.1]
        exact ⟨rfl, HW.out.2⟩
      | false =>
        have HV := Lib.hid (operate_ok wr hr.dev hd (by omega))
        have hy := hr.dev.good
        have hfew := hy.few
        have hsz := sec_size (k := k) HS.out hlt
        have HG := Lib.hid (good_op_hold hy (i := i + k) (s := sec s k) (by omega) hsz)
        have HN := Lib.hid (fun w1 w2 w3 => hr.next (w1 := w1) (w2 := w2) (w3 := w3) hlt hd)
        have HF := Lib.hid (show y.oped.held.length ≤ 1099511627776 from Nat.le_trans hfew (by omega))
        have hx : ((k : Int) + 1) * 512 ≤ s.size := by have := HS.out; omega
        have hin : i + k < n := by omega
        have HZ := Lib.hid hsz
        clear hd hr H0 hops hy hfew hsz
        go_wp2_with (fail)
        refine HV.out.mono ?_
        rintro e w1 ⟨rfl, hv⟩
        have HW := Lib.hid hv
        clear hv
        go_wp2_with (fail)
        refine (cloneD_any w1 (sec s k) (strlen _ HZ.out)).mono ?_
        rintro e w2 ⟨rfl, hb2⟩
        have HW2 := Lib.hid hb2
        have HH := Lib.hid (hold_any w2 (HW.out.1.keep (S := nobody) (Only.of_below hb2) (fun _ _ h => h)) (i + k) (sec s k) hin HG.out HF.out)
        clear hb2
        go_wp2_with (fail)
        refine HH.out.mono ?_
        rintro e w3 ⟨rfl, h3⟩
        have HX := Lib.hid (HN.out w1 w2 w3 HW.out HW2.out h3)
        clear h3
        go_wp2_with (fail)
        obtain ⟨F2, hx2⟩ := HX.out
        go_roundw
        case rel => exact ⟨k + 1, F2, _, by go_num, hx2⟩
        case measure => simp [intOf]; omega
    · obtain rfl : k = m := by omega
      have HW : x.wr i s 0 k = (y, true) := by rw [hr.same, Nat.sub_self]; rfl
      have HD2 := Lib.hid (DvOut.trans hr.only hr.grew (DvOut.same hr.dev))
      have HX := Lib.hid HW
      clear hr H0 hops HW
      go_wp2_with (fail)
      go_ret
      rw [HX.out]
      exact ⟨rfl, HD2.out⟩
end Go.Proofs.YtgdaihembmcamaaGreatDoor
