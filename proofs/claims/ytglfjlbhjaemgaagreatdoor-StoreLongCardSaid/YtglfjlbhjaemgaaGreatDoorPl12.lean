/- Write of the program's device. Read of the program's device. Flush of the program's device. -/
import Derived.Test.YtglfjlbhjaemgaaGreatDoorPl11
import Derived.Test.YtglfjlbhjaemgaaGreatDoorPl01
namespace Go.Proofs.YtglfjlbhjaemgaaGreatDoor
open Go.RowKit
theorem cloneD_any (w : World) (s : ByteArray) (hs : s.size ≤ 281474976710656) : Calls Tryz.prog 83 #[.string s] w fun e w' => e = .returned (.string s) ∧ Below w.heap.size w w' := by
  go_enter Tryz.func83, Tryz.ntmps83
  go_wp2_with (go_at_call 140; refine (Tryz.stringslite_Clone _ _ hs).mono ?_; rintro e w' ⟨rfl, hb⟩)
  go_ret
  exact ⟨rfl, hb⟩
theorem wr_due {i : Nat} {s : ByteArray} {k m : Nat} {x : St} (h : x.due = true) : x.wr i s k (m + 1) = (x.fall, false) := by show (if x.due then _ else _) = _; rw [if_pos h]
theorem wr_go {i : Nat} {s : ByteArray} {k m : Nat} {x : St} (h : x.due = false) : x.wr i s k (m + 1) = (x.oped.hold (i + k) (sec s k)).wr i s (k + 1) m := by show (if x.due then _ else _) = _; rw [if_neg (by simp [h])]
theorem sec_size {s : ByteArray} {k m : Nat} (hm : s.size = m * 512) (hk : k < m) : (sec s k).size = 512 := by
  unfold sec
  rw [ByteArray.size_extract]
  omega
/-- Of a write's loop: k sectors are written. -/
structure WrRel (F : Nat → Prop) (w : World) (p n i m : Nat) (s : ByteArray) (x : St) (k : Nat) (F' : Nat → Prop) (y : St) (wr : World) : Prop where
  le : k ≤ m
  dev : Dv wr F' p n y
  only : Only F w wr
  grew : Grew F w F'
  ops : y.ops = x.ops + k
  same : x.wr i s 0 m = y.wr i s k (m - k)
def St.write (x : St) (n : Nat) (i : Int) (s : ByteArray) : St × Int :=
  if s.size % 512 ≠ 0 then (x, 40) else if x.why n i (s.size / 512 : Nat) ≠ 0 then (x, x.why n i (s.size / 512 : Nat)) else ((x.wr i.toNat s 0 (s.size / 512)).1, if (x.wr i.toNat s 0 (s.size / 512)).2 then 0 else 41)
theorem WrRel.down {F : Nat → Prop} {w wr w' : World} {p n i m : Nat} {s : ByteArray} {x y : St} {k : Nat} {F' : Nat → Prop} (h : WrRel F w p n i m s x k F' y wr) (hk : k < m) (hd : y.due = true)
    (hv : Dv w' F' p n y.fall ∧ Only F' wr w') : x.wr i s 0 m = (y.fall, false) ∧ DvOut F w p n y.fall w' := by
  refine ⟨?_, (DvOut.of hv).trans h.only h.grew⟩
  rw [h.same, show m - k = m - (k + 1) + 1 by omega, wr_due hd]
theorem WrRel.next {F : Nat → Prop} {w wr w1 w2 w3 : World} {p n i m : Nat} {s : ByteArray} {x y : St} {k : Nat} {F' : Nat → Prop} (h : WrRel F w p n i m s x k F' y wr) (hk : k < m) (hd : y.due = false)
    (hv : Dv w1 F' p n y.oped ∧ Only F' wr w1) (hc : Below w1.heap.size w1 w2) (hh : DvOut F' w2 p n (y.oped.hold (i + k) (sec s k)) w3) : ∃ F2, WrRel F w p n i m s x (k + 1) F2 (y.oped.hold (i + k) (sec s k)) w3 := by
  obtain ⟨F2, h1, h2, h3⟩ := hh
  have o2 : Only F w w2 := (h.only.trans hv.2 h.grew).below hc
  have g2 : Grew F w F2 := fun j hj => (h3 j hj).elim (fun h' => h.grew j h') (fun h' => .inr (Nat.le_trans o2.size h'))
  refine ⟨F2, hk, h1, o2.trans h2 fun j hj => h.grew j hj, g2, ?_, ?_⟩
  · show y.ops + 1 = x.ops + (k + 1)
    have := h.ops
    omega
  · rw [h.same, show m - k = m - (k + 1) + 1 by omega, wr_go hd]
theorem DvOut.same {F : Nat → Prop} {w : World} {p n : Nat} {x : St} (h : Dv w F p n x) : DvOut F w p n x w := DvOut.of ⟨h, Only.refl F w⟩
theorem write_why (w : World) {F : Nat → Prop} {p n : Nat} {x : St} (h : Dv w F p n x) (i : Int) (s : ByteArray) (hi : -9223372036854775808 ≤ i ∧ i ≤ 9223372036854775807) (hs : s.size ≤ 140737488355328) (ho : s.size % 512 = 0)
    (hw : x.why n i (s.size / 512 : Nat) ≠ 0) :
    Calls Tryz.prog 123 #[.pointer (some ⟨p, 0, none⟩), .int .i64 i, .string s] w fun e w' => e = .returned (.int .i64 (x.write n i s).2) ∧ DvOut F w p n (x.write n i s).1 w' := by
  have e : x.write n i s = (x, x.why n i (s.size / 512 : Nat)) := by unfold St.write; rw [if_neg (by omega), if_pos hw]
  rw [e]
  have HR := Lib.hid (ready_any w h i (s.size / 512 : Nat) hi)
  have H := Lib.hid (DvOut.same h)
  generalize x.why n i (s.size / 512 : Nat) = q at hw HR ⊢
  have ho' : (s.size : Int) % 512 = 0 := by omega
  clear h e ho
  go_enter Tryz.func123, Tryz.ntmps123
  go_wp2_with (go_at_call 138; refine HR.out.mono ?_; rintro e w' ⟨rfl, rfl⟩)
  go_ret
  exact ⟨rfl, H.out⟩
/-- A fact on the loop's slot and world, under one name. -/
def WrAt (F : Nat → Prop) (w : World) (p n i m : Nat) (s : ByteArray) (x : St) (c : Value) (wr : World) : Prop := ∃ k F' y, c = .int .i64 ((k : Nat) : Int) ∧ WrRel F w p n i m s x k F' y wr
theorem why_zero {x : St} {n : Nat} {i k : Int} (h : x.why n i k = 0) : 0 ≤ i ∧ 0 ≤ k ∧ i + k ≤ n ∧ x.down = false := by
  unfold St.why at h
  split at h
  · omega
  · split at h
    · omega
    · rename_i h1 h2
      exact ⟨by omega, by omega, by omega, by simpa using h2⟩
def wrCode (b : Bool) : Int := if b then 0 else 41
def WrDone (F : Nat → Prop) (w : World) (p n : Nat) (r : St × Bool) (e : Ending) (w' : World) : Prop := e = .returned (.int .i64 (wrCode r.2)) ∧ DvOut F w p n r.1 w'
theorem strlen (s : ByteArray) (h : s.size = 512) : s.size ≤ 281474976710656 := by omega
set_option maxHeartbeats 800000 in
theorem write_ok (w : World) {F : Nat → Prop} {p n : Nat} {x : St} (h : Dv w F p n x) (i m : Nat) (s : ByteArray) (hs : s.size = m * 512) (hw : x.why n i (m : Int) = 0) (hk : x.ops ≤ 1000000000000) :
    Calls Tryz.prog 123 #[.pointer (some ⟨p, 0, none⟩), .int .i64 (i : Int), .string s] w (WrDone F w p n (x.wr i s 0 m)) := by
  have hn := h.good.most
  obtain ⟨_, _, him, hdn⟩ := why_zero hw
  have him' : i + m ≤ n := by omega
  have HR := Lib.hid (ready_any w h i m (by omega))
  rw [hw] at HR
  have H0 : WrRel F w p n i m s x 0 F x w := ⟨Nat.zero_le _, h, Only.refl F w, fun _ hk => .inl hk, rfl, by rw [Nat.sub_zero]⟩
  have h8 : s.size ≤ 4194304 := by omega
  have hmod : (s.size : Int) % 512 = 0 := by omega
  have hdiv : (s.size : Int) / 512 = m := by omega
  have HS := Lib.hid hs
  have HD := Lib.hid hdiv
  clear h hw hdn hs him hdiv
  go_enter Tryz.func123, Tryz.ntmps123
  go_wp2_with (fail)
  rw [HD.out]
  refine HR.out.mono ?_
  rintro e w' ⟨rfl, rfl⟩
  go_wp2_with (fail)
  go_loopw [29] (fun c wr => WrAt F w p n i m s x c wr) (fun c _ => m - (intOf c).toNat)
  case atStart => exact ⟨0, F, x, rfl, H0⟩
  case round =>
    obtain ⟨k, F', y, rfl, hr⟩ := hrel
    have hkm := hr.le
    have hops := hr.ops
    by_cases hlt : k < m
    · cases hd : y.due with
      | true =>
        have HV := Lib.hid (operate_due wr hr.dev hd)
        have HN := Lib.hid (fun w' => hr.down (w' := w') hlt hd)
        clear hd hr H0 hops
        go_wp2_with (fail)
        refine HV.out.mono ?_
        rintro e w1 ⟨rfl, hv⟩
        have HW := Lib.hid (HN.out w1 hv)
        clear hv
        go_wp2_with (fail)
        go_ret
        rw [HW.out.1]
        exact ⟨rfl, HW.out.2⟩
      | false =>
        have HV := Lib.hid (operate_ok wr hr.dev hd (by omega))
        have hy := hr.dev.good
        have hfew := hy.few
        have hsz := sec_size (k := k) HS.out hlt
        have HG := Lib.hid (good_op_hold hy (i := i + k) (s := sec s k) (by omega) hsz)
        have HN := Lib.hid (fun w1 w2 w3 => hr.next (w1 := w1) (w2 := w2) (w3 := w3) hlt hd)
        have HF := Lib.hid (show y.oped.held.length ≤ 1099511627776 from Nat.le_trans hfew (by omega))
        have hx : ((k : Int) + 1) * 512 ≤ s.size := by have := HS.out; omega
        have hin : i + k < n := by omega
        have HZ := Lib.hid hsz
        clear hd hr H0 hops hy hfew hsz
        go_wp2_with (fail)
        refine HV.out.mono ?_
        rintro e w1 ⟨rfl, hv⟩
        have HW := Lib.hid hv
        clear hv
        go_wp2_with (fail)
        refine (cloneD_any w1 (sec s k) (strlen _ HZ.out)).mono ?_
        rintro e w2 ⟨rfl, hb2⟩
        have HW2 := Lib.hid hb2
        have HH := Lib.hid (hold_any w2 (HW.out.1.keep (S := nobody) (Only.of_below hb2) (fun _ _ h => h)) (i + k) (sec s k) hin HG.out HF.out)
        clear hb2
        go_wp2_with (fail)
        refine HH.out.mono ?_
        rintro e w3 ⟨rfl, h3⟩
        have HX := Lib.hid (HN.out w1 w2 w3 HW.out HW2.out h3)
        clear h3
        go_wp2_with (fail)
        obtain ⟨F2, hx2⟩ := HX.out
        go_roundw
        case rel => exact ⟨k + 1, F2, _, by go_num, hx2⟩
        case measure => simp [intOf]; omega
    · obtain rfl : k = m := by omega
      have HW : x.wr i s 0 k = (y, true) := by rw [hr.same, Nat.sub_self]; rfl
      have HD2 := Lib.hid (DvOut.trans hr.only hr.grew (DvOut.same hr.dev))
      have HX := Lib.hid HW
      clear hr H0 hops HW
      go_wp2_with (fail)
      go_ret
      rw [HX.out]
      exact ⟨rfl, HD2.out⟩
open Go.RowKit
def flatB (l : List ByteArray) : List UInt8 := l.flatMap fun s => s.data.toList
def catS (l : List ByteArray) : ByteArray := ⟨(flatB l).toArray⟩
def part (l : List ByteArray) (i k : Nat) : List ByteArray := (l.drop i).take k
theorem flatB_length {l : List ByteArray} (h : ∀ s ∈ l, s.size = 512) : (flatB l).length = l.length * 512 := by
  unfold flatB
  induction l with
  | nil => rfl
  | cons a l ih =>
    rw [List.flatMap_cons, List.length_append, ih (fun s hs => h s (List.mem_cons_of_mem _ hs))]
    have := h a (List.mem_cons_self ..)
    have e : a.data.toList.length = a.size := by simp
    rw [e, this, List.length_cons]; omega
theorem flatB_snoc (l : List ByteArray) (s : ByteArray) : flatB (l ++ [s]) = flatB l ++ s.data.toList := by simp [flatB]
theorem part_zero (l : List ByteArray) (i : Nat) : part l i 0 = [] := by simp [part]
theorem part_snoc {l : List ByteArray} {i k : Nat} {s : ByteArray} (h : l[i + k]? = some s) : part l i (k + 1) = part l i k ++ [s] := by
  unfold part
  rw [List.take_add_one, List.getElem?_drop, h]; rfl
theorem part_mem {l : List ByteArray} {i k : Nat} {s : ByteArray} (h : s ∈ part l i k) : s ∈ l := List.mem_of_mem_drop (List.mem_of_mem_take h)
theorem part_length {l : List ByteArray} {i k : Nat} (h : i + k ≤ l.length) : (part l i k).length = k := by unfold part; rw [List.length_take, List.length_drop]; omega
/-- Of a read's loop: j sectors are in the builder. -/
def RdAt (w : World) (l : List ByteArray) (i k : Nat) (c : Value) (wr : World) : Prop :=
  ∃ j : Nat, c = .int .i64 (j : Int) ∧ j ≤ k ∧ Lib.IsBuilder 207 5 w.heap.size w.heap.size (Lib.byteCells (flatB (part l i j))) wr ∧ Below w.heap.size w wr
set_option maxHeartbeats 800000 in
theorem read_ok (w : World) {F : Nat → Prop} {p n : Nat} {x : St} (h : Dv w F p n x) (i k : Nat) (hw : x.why n i k = 0) :
    Calls Tryz.prog 79 #[.pointer (some ⟨p, 0, none⟩), .int .i64 (i : Int), .int .i64 (k : Int)] w fun e w' => e = .returned (.tuple #[.string (catS (part x.seen i k)), .int .i64 0]) ∧ Below w.heap.size w w' := by
  have hg := h.good
  have hn := hg.most
  have hsl : x.seen.length = n := (seen_length x).trans hg.size
  have hss := seen_secs hg
  obtain ⟨_, _, hik, _⟩ := why_zero hw
  have HR := Lib.hid (ready_any w h i k (by omega))
  rw [hw] at HR
  obtain ⟨br, cr, bs, cs, hv, hb, hp⟩ := h
  have hplt := hb.lt
  have hc1 : w.cell? ⟨p, 1, none⟩ = some (.slice (some ⟨br, 0, none⟩) n cr) := hb.cell 1
  have hrlt := hp.seen.lt
  have hcap : n ≤ cr := by obtain ⟨cur, _, _, hl, _⟩ := hp.seen; omega
  have HC := Lib.hid (fun j s (hj : x.seen[j]? = some s) => hp.seen.cell (i := j) hj)
  have HSL := Lib.hid hsl
  have HSS := Lib.hid hss
  clear hb hp hw hsl hss hg
  generalize x.seen = l at *
  go_enter Tryz.func79, Tryz.ntmps79
  go_wp2_with (fail)
  refine HR.out.mono ?_
  rintro e w' ⟨rfl, rfl⟩
  go_wp2_with (fail)
  rw [show ((k : Int) * 512) = ((k * 512 : Nat) : Int) by omega]
  refine (Tryz.Builder_Grow_fresh w.heap.size w.heap.size (k * 512) _ (Nat.le_refl _) (heap_alloc_new w _) (by simp) (by omega)).mono ?_
  rintro e w1 ⟨rfl, hB, hb1⟩
  have h0 : Below w.heap.size w w1 := ((Below.refl w.heap.size w).alloc (Nat.le_refl _) _).trans hb1
  have hc1' : w1.cell? ⟨p, 1, none⟩ = some (.slice (some ⟨br, 0, none⟩) n cr) := (h0.cell (p := ⟨p, 1, none⟩) hplt).trans hc1
  have HB := Lib.hid hB
  have H0 := Lib.hid h0
  clear hB h0 hb1
  go_wp2_with (fail)
  all_goals
    go_loopw [32] (fun c wr => RdAt w l i k c wr) (fun c _ => k - (intOf c).toNat)
    case atStart => exact ⟨0, rfl, Nat.zero_le _, by rw [part_zero]; exact .inr HB.out, H0.out⟩
    case round =>
      obtain ⟨j, rfl, hj, hbd, hbl⟩ := hrel
      by_cases hlt : j < k
      · first
        | (exfalso; omega)
        | have hat : l[i + j]? = some (l[i + j]'(by have := HSL.out; omega)) := List.getElem?_eq_getElem _
          generalize l[i + j]'(by have := HSL.out; omega) = s at hat
          have hz := HSS.out s (List.mem_of_getElem? hat)
          have hcell : wr.cell? ⟨br, i + j, none⟩ = some (.string s) := (hbl.cell (p := ⟨br, i + j, none⟩) hrlt).trans (HC.out _ _ hat)
          have HP := Lib.hid (part_snoc hat)
          have HL := Lib.hid (show (Lib.byteCells (flatB (part l i j))).length + s.size ≤ 140737488355328 by
            rw [Lib.byteCells_length, flatB_length (fun t ht => HSS.out t (part_mem ht)), part_length (by have := HSL.out; omega)]; omega)
          have HD := Lib.hid hbd
          have HBL := Lib.hid hbl
          clear hat hz hbd hbl
          go_wp2_with (fail)
          refine (Tryz.Builder_WriteString _ _ _ _ _ HD.out HL.out HBL.out.size).mono ?_
          rintro e w2 ⟨rfl, h2, h3⟩
          have H2 := Lib.hid h2
          have H3 := Lib.hid (HBL.out.trans h3)
          clear h2 h3
          go_wp2_with (fail)
          go_roundw
          case rel => exact ⟨j + 1, by go_num, by omega, by rw [HP.out, flatB_snoc, Lib.byteCells_append]; exact .inr H2.out, H3.out⟩
          case measure => simp [intOf]; omega
      · obtain rfl : j = k := by omega
        have HD := Lib.hid hbd
        have HBL := Lib.hid hbl
        clear hbd hbl
        go_wp2_with (fail)
        refine (Tryz.Builder_String_any _ _ _ _ HD.out HBL.out.size).mono ?_
        rintro e w2 ⟨rfl, h3⟩
        have H3 := Lib.hid (HBL.out.trans h3)
        clear h3
        go_wp2_with (fail)
        go_ret2
        exact ⟨rfl, H3.out⟩
open Go.RowKit
def St.flush (x : St) : St × Int := if x.down then (x, 41) else if x.due then (x.fall, 41) else (x.flushed, 0)
theorem why_here {x : St} {n : Nat} : x.why n 0 0 = if x.down then 41 else 0 := by unfold St.why; rw [if_neg (by omega)]
theorem flush_down (w : World) {F : Nat → Prop} {p n : Nat} {x : St} (h : Dv w F p n x) (hd : x.down = true) :
    Calls Tryz.prog 124 #[.pointer (some ⟨p, 0, none⟩)] w fun e w' => e = .returned (.int .i64 x.flush.2) ∧ DvOut F w p n x.flush.1 w' := by
  have e : x.flush = (x, 41) := by unfold St.flush; rw [if_pos hd]
  rw [e]
  have HR := Lib.hid (ready_any w h 0 0 (by omega))
  rw [why_here, if_pos hd] at HR
  have H := Lib.hid (DvOut.same h)
  clear h e hd
  go_enter Tryz.func124, Tryz.ntmps124
  go_wp2_with (go_at_call 138; refine HR.out.mono ?_; rintro e w' ⟨rfl, rfl⟩)
  go_ret
  exact ⟨rfl, H.out⟩
theorem flush_due (w : World) {F : Nat → Prop} {p n : Nat} {x : St} (h : Dv w F p n x) (hd : x.down = false) (hu : x.due = true) :
    Calls Tryz.prog 124 #[.pointer (some ⟨p, 0, none⟩)] w fun e w' => e = .returned (.int .i64 x.flush.2) ∧ DvOut F w p n x.flush.1 w' := by
  have e : x.flush = (x.fall, 41) := by unfold St.flush; rw [if_neg (by simp [hd]), if_pos hu]
  rw [e]
  have HR := Lib.hid (ready_any w h 0 0 (by omega))
  rw [why_here, if_neg (by simp [hd])] at HR
  have HO := Lib.hid (operate_due w h hu)
  clear h e hd hu
  go_enter Tryz.func124, Tryz.ntmps124
  go_wp2_with (go_at_call 138; refine HR.out.mono ?_; rintro e w' ⟨rfl, rfl⟩)
  refine HO.out.mono ?_
  rintro e w1 ⟨rfl, hv⟩
  have H := Lib.hid (DvOut.of hv)
  clear hv
  go_wp2_with (fail)
  go_ret
  exact ⟨rfl, H.out⟩
theorem own_some {w : World} {base : Nat} {e : TypeId} {size n c : Nat} {A : Option Addr} {xs : List Value} (h : w.ownsRow base e size (.slice A n c) n xs) (hn : 0 < n) :
    ∃ g cur, A = some ⟨g, 0, none⟩ ∧ Blk w g e cur ∧ cur.toList.take (n * size) = xs := by
  rcases h.2 with ⟨_, h0⟩ | ⟨g, cap, cur, hv, _, hg, _, _, _, ht⟩
  · omega
  · injection hv with hA _ _
    exact ⟨g, cur, hA, hg, ht⟩
theorem held_cell {w : World} {E g : Nat} {cur : Array Value} {l : List (Nat × ByteArray)} (hb : Blk w g E cur) (ht : cur.toList.take (l.length * 2) = heldCells l) {k : Nat} {h : Nat × ByteArray} (hk : l[k]? = some h) :
    w.cell? ⟨g, k * 2, none⟩ = some (.int .i64 (h.1 : Int)) ∧ w.cell? ⟨g, k * 2 + 1, none⟩ = some (.string h.2) := by
  obtain ⟨h1, h2⟩ := heldCells_at hk
  have hl : k < l.length := (List.getElem?_eq_some_iff.1 hk).1
  rw [← ht, List.getElem?_take, if_pos (by omega)] at h1 h2
  rw [hb.cell, hb.cell]
  exact ⟨by simpa using h1, by simpa using h2⟩
/-- Of a flush's loop: the first k writes are safe. -/
def FlAt (w1 : World) (bs cs : Nat) (x : St) (c : Value) (wr : World) : Prop :=
  ∃ k : Nat, c = .int .i64 (k : Int) ∧ k ≤ x.held.length ∧ Txts wr 9 bs cs (putAll x.safe (x.held.take k)) ∧ Only (its bs) w1 wr
theorem put_next (l : List ByteArray) {hs : List (Nat × ByteArray)} {k i : Nat} {s : ByteArray} (h : hs[k]? = some (i, s)) : putAll l (hs.take (k + 1)) = (putAll l (hs.take k)).set i s := by
  rw [List.take_add_one, h]
  exact putAll_snoc _ _ _
theorem good_flush' {x : St} {n : Nat} (hx : x.oped.Good n) : x.flushed.Good n :=
  ⟨hx.pos, hx.most, (seen_length x).trans hx.size, (seen_secs hx : ∀ s ∈ x.oped.seen, s.size = 512), fun h hh => (by cases hh), Nat.zero_le _, hx.left⟩
theorem flush_out {w1 wr : World} {F : Nat → Prop} {p n : Nat} {x : St} {br cr bs cs : Nat} {hv : Value} (hb : Blk w1 p 112 (devCells n x.oped br cr bs cs hv)) (hp : Parts w1 F 153 n x.oped p br cr bs cs hv)
    (hsf : Txts wr 9 bs cs (putAll x.safe x.held)) (hon : Only (its bs) w1 wr) : DvOut F w1 p n x.flushed (wr.setCell ⟨p, 3, none⟩ (.slice none 0 0)) := by
  have n1 : br ≠ p := hp.seen.type hb (by decide)
  have n2 : bs ≠ p := hp.safe.type hb (by decide)
  refine ⟨F, ⟨br, cr, bs, cs, .slice none 0 0, (hb.only hon (Ne.symm n2)).put 3 _, ?_⟩, ?_, fun _ h => .inl h⟩
  · refine ⟨?_, hsf.far n2 _, hp.apart, World.ownsRow_nil _ _ _ _, hp.fp, hp.fr, hp.fs, fun g hg => by simp [Value.ownBlock] at hg, fun k hk => ?_, good_flush' hp.good⟩
    · exact (hp.seen.only hon hp.apart).far (p := ⟨p, 3, none⟩) n1 _
    · have := hp.lt k hk
      have := hon.size
      simp [World.setCell]; omega
  · exact (hon.mono fun k hk => by unfold its at hk; rw [hk]; exact hp.fs).setCell (.inl hp.fp) _
set_option maxHeartbeats 800000 in
theorem flush_ok (w : World) {F : Nat → Prop} {p n : Nat} {x : St} (h : Dv w F p n x) (hd : x.down = false) (hu : x.due = false) (hk : x.ops ≤ 1000000000000) :
    Calls Tryz.prog 124 #[.pointer (some ⟨p, 0, none⟩)] w fun e w' => e = .returned (.int .i64 x.flush.2) ∧ DvOut F w p n x.flush.1 w' := by
  have e : x.flush = (x.flushed, 0) := by unfold St.flush; rw [if_neg (by simp [hd]), if_neg (by simp [hu])]
  rw [e]
  have HR := Lib.hid (ready_any w h 0 0 (by omega))
  rw [why_here, if_neg (by simp [hd])] at HR
  have HO := Lib.hid (operate_ok w h hu (by omega))
  have hfew := h.good.few
  clear h e hd hu
  go_enter Tryz.func124, Tryz.ntmps124
  go_wp2_with (go_at_call 138; refine HR.out.mono ?_; rintro e w' ⟨rfl, rfl⟩)
  refine HO.out.mono ?_
  rintro e w1 ⟨rfl, hv1, ho1⟩
  obtain ⟨br, cr, bs, cs, hv, hb, hp⟩ := hv1
  obtain ⟨A, c, rfl⟩ := own_form hp.held
  have h3 : w1.cell? ⟨p, 3, none⟩ = some (.slice A x.held.length c) := hb.cell 3
  have HB := Lib.hid hb
  have HP := Lib.hid hp
  have HO1 := Lib.hid ho1
  clear hb hp ho1
  go_wp2_with (fail)
  go_loopw [19] (fun c wr => FlAt w1 bs cs x c wr) (fun c _ => x.held.length - (intOf c).toNat)
  case atStart => exact ⟨0, rfl, Nat.zero_le _, HP.out.safe, Only.refl _ _⟩
  case round =>
    obtain ⟨k, rfl, hk, hsf, hon⟩ := hrel
    have hbw : Blk wr p 112 (devCells n x.oped br cr bs cs (.slice A x.held.length c)) := HB.out.only hon (Ne.symm (HP.out.safe.type HB.out (by decide)))
    by_cases hlt : k < x.held.length
    · obtain ⟨g, cur, rfl, hg, ht⟩ := own_some HP.out.held (show 0 < x.oped.held.length from Nat.lt_of_le_of_lt (Nat.zero_le _) hlt)
      have hat : x.held[k]? = some (x.held[k]'hlt) := List.getElem?_eq_getElem _
      generalize x.held[k]'hlt = a at hat
      obtain ⟨i, s⟩ := a
      have hgw := hg.only hon (fun e => by obtain ⟨cu, hcu, _⟩ := HP.out.safe; exact (hg.apart hcu (by decide)) e)
      obtain ⟨c1, c2⟩ := held_cell hgw (show cur.toList.take (x.held.length * 2) = heldCells x.held from ht) hat
      have hin := (HP.out.good.place (i, s) (List.mem_of_getElem? hat)).1
      have hcb : wr.cell? ⟨p, 2, none⟩ = some (.slice (some ⟨bs, 0, none⟩) n cs) := hbw.cell 2
      have HAT := Lib.hid hat
      have HSF := Lib.hid hsf
      have HON := Lib.hid hon
      have HBW := Lib.hid hbw
      clear hat ht hg hgw hsf hon hbw
      go_upto_region 9 with (fail)
      have d0 : (wr.alloc (.cells #[.int .i64 (i : Int), .string s] 153)).cell? ⟨wr.heap.size, 0, none⟩ = some (.int .i64 (i : Int)) := (Blk.new wr 153 _).cell 0
      have d1 : (wr.alloc (.cells #[.int .i64 (i : Int), .string s] 153)).cell? ⟨wr.heap.size, 1, none⟩ = some (.string s) := (Blk.new wr 153 _).cell 1
      have d2 : (wr.alloc (.cells #[.int .i64 (i : Int), .string s] 153)).cell? ⟨p, 2, none⟩ = some (.slice (some ⟨bs, 0, none⟩) n cs) := (HBW.out.alloc _).cell 2
      have hsl : i < (putAll x.safe (x.held.take k)).length := by rw [putAll_length, show x.safe.length = n from HP.out.good.size]; exact hin
      obtain ⟨u0, d3⟩ : ∃ u, (wr.alloc (.cells #[.int .i64 (i : Int), .string s] 153)).cell? ⟨bs, i, none⟩ = some u := ⟨_, (HSF.out.alloc _).cell (List.getElem?_eq_getElem hsl)⟩
      have d4 : (wr.alloc (.cells #[.int .i64 (i : Int), .string s] 153)).frozen? ⟨bs, i, none⟩ = false := (HSF.out.alloc _).free i
      have HTX := Lib.hid ((HSF.out.alloc (.cells #[.int .i64 (i : Int), .string s] 153)).put i s)
      have HOX := Lib.hid ((HON.out.alloc (.cells #[.int .i64 (i : Int), .string s] 153)).setCell (p := ⟨bs, i, none⟩) (.inl rfl) (.string s))
      generalize wr.alloc (.cells #[.int .i64 (i : Int), .string s] 153) = w2 at *
      generalize wr.heap.size = B at *
      clear hsl c1 c2 hcb
      go_region
      go_wp2_with (fail)
      have HN := Lib.hid (put_next x.safe HAT.out)
      go_roundw
      case rel => exact ⟨k + 1, by go_num, hlt, by rw [HN.out]; exact HTX.out, HOX.out.drew⟩
      case measure => simp [intOf]; omega
    · obtain rfl : k = x.held.length := by omega
      have h3w : wr.cell? ⟨p, 3, none⟩ = some (.slice A x.held.length c) := hbw.cell 3
      have f3w := hbw.free 3
      rw [List.take_length] at hsf
      have HD := Lib.hid (flush_out HB.out HP.out hsf hon)
      clear hsf hon hbw
      go_wp2_with (fail)
      go_ret
      exact ⟨rfl, DvOut.trans HO1.out (fun _ h => .inl h) HD.out⟩
end Go.Proofs.YtglfjlbhjaemgaaGreatDoor
