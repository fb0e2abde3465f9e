/- Flush of the program's device. -/
import Derived.Test.YtgdaihembmcamaaGreatDoorDevRead
namespace Go.Proofs.YtgdaihembmcamaaGreatDoor
open Go.RowKit
def St.flush (x : St) : St × Int := if x.down then (x, 41) else if x.due then (x.fall, 41) else (x.flushed, 0)
theorem flush_nil (w : World) : Calls Tryz.prog 13 #[.pointer none] w fun e w' => e = .returned (.int .i64 1) ∧ w = w' := by
  go_enter Tryz.func13, Tryz.ntmps13
  go_wp2_with (go_at_call 41; refine (ready_nil _ _ _).mono ?_; rintro e w' ⟨rfl, rfl⟩)
  go_ret
  exact ⟨rfl, rfl⟩
theorem why_here {x : St} {n : Nat} : x.why n 0 0 = if x.down then 41 else 0 := by unfold St.why; rw [if_neg (by omega)]
theorem flush_down (w : World) {F : Nat → Prop} {p n : Nat} {x : St} (h : Dv w F p n x) (hd : x.down = true) :
    Calls Tryz.prog 13 #[.pointer (some ⟨p, 0, none⟩)] w fun e w' => e = .returned (.int .i64 x.flush.2) ∧ DvOut F w p n x.flush.1 w' := by
  have e : x.flush = (x, 41) := by unfold St.flush; rw [if_pos hd]
  rw [e]
  have HR := Lib.hid (ready_any w h 0 0 (by omega))
  rw [why_here, if_pos hd] at HR
  have H := Lib.hid (DvOut.same h)
  clear h e hd
  go_enter Tryz.func13, Tryz.ntmps13
  go_wp2_with (go_at_call 41; refine HR.out.mono ?_; rintro e w' ⟨rfl, rfl⟩)
  go_ret
  exact ⟨rfl, H.out⟩
theorem flush_due (w : World) {F : Nat → Prop} {p n : Nat} {x : St} (h : Dv w F p n x) (hd : x.down = false) (hu : x.due = true) :
    Calls Tryz.prog 13 #[.pointer (some ⟨p, 0, none⟩)] w fun e w' => e = .returned (.int .i64 x.flush.2) ∧ DvOut F w p n x.flush.1 w' := by
  have e : x.flush = (x.fall, 41) := by unfold St.flush; rw [if_neg (by simp [hd]), if_pos hu]
  rw [e]
  have HR := Lib.hid (ready_any w h 0 0 (by omega))
  rw [why_here, if_neg (by simp [hd])] at HR
  have HO := Lib.hid (operate_due w h hu)
  clear h e hd hu
  go_enter Tryz.func13, Tryz.ntmps13
  go_wp2_with (go_at_call 41; refine HR.out.mono ?_; rintro e w' ⟨rfl, rfl⟩)
  refine HO.out.mono ?_
  rintro e w1 ⟨rfl, hv⟩
  have H := Lib.hid (DvOut.of hv)
  clear hv
  go_wp2_with (fail)
  go_ret
  exact ⟨rfl, H.out⟩
theorem own_some {w : World} {base : Nat} {e : TypeId} {size n c : Nat} {A : Option Addr} {xs : List Value} (h : w.ownsRow base e size (.slice A n c) n xs) (hn : 0 < n) :
    ∃ g cur, A = some ⟨g, 0, none⟩ ∧ Blk w g e cur ∧ cur.toList.take (n * size) = xs := by
  rcases h.2 with ⟨_, h0⟩ | ⟨g, cap, cur, hv, _, hg, _, _, _, ht⟩
  · omega
  · injection hv with hA _ _
    exact ⟨g, cur, hA, hg, ht⟩
theorem held_cell {w : World} {E g : Nat} {cur : Array Value} {l : List (Nat × ByteArray)} (hb : Blk w g E cur) (ht : cur.toList.take (l.length * 2) = heldCells l) {k : Nat} {h : Nat × ByteArray} (hk : l[k]? = some h) :
    w.cell? ⟨g, k * 2, none⟩ = some (.int .i64 (h.1 : Int)) ∧ w.cell? ⟨g, k * 2 + 1, none⟩ = some (.string h.2) := by
  obtain ⟨h1, h2⟩ := heldCells_at hk
  have hl : k < l.length := (List.getElem?_eq_some_iff.1 hk).1
  rw [← ht, List.getElem?_take, if_pos (by omega)] at h1 h2
  rw [hb.cell, hb.cell]
  exact ⟨by simpa using h1, by simpa using h2⟩
/-- Of a flush's loop: the first k writes are safe. -/
def FlAt (w1 : World) (bs cs : Nat) (x : St) (c : Value) (wr : World) : Prop :=
  ∃ k : Nat, c = .int .i64 (k : Int) ∧ k ≤ x.held.length ∧ Txts wr 9 bs cs (putAll x.safe (x.held.take k)) ∧ Only (its bs) w1 wr
theorem put_next (l : List ByteArray) {hs : List (Nat × ByteArray)} {k i : Nat} {s : ByteArray} (h : hs[k]? = some (i, s)) : putAll l (hs.take (k + 1)) = (putAll l (hs.take k)).set i s := by
  rw [List.take_add_one, h]
  exact putAll_snoc _ _ _
theorem good_flush' {x : St} {n : Nat} (hx : x.oped.Good n) : x.flushed.Good n :=
  ⟨hx.pos, hx.most, (seen_length x).trans hx.size, (seen_secs hx : ∀ s ∈ x.oped.seen, s.size = 512), fun h hh => (by cases hh), Nat.zero_le _, hx.left⟩
theorem flush_out {w1 wr : World} {F : Nat → Prop} {p n : Nat} {x : St} {br cr bs cs : Nat} {hv : Value} (hb : Blk w1 p 80 (devCells n x.oped br cr bs cs hv)) (hp : Parts w1 F 86 n x.oped p br cr bs cs hv)
    (hsf : Txts wr 9 bs cs (putAll x.safe x.held)) (hon : Only (its bs) w1 wr) : DvOut F w1 p n x.flushed (wr.setCell ⟨p, 3, none⟩ (.slice none 0 0)) := by
  have n1 : br ≠ p := hp.seen.type hb (by decide)
  have n2 : bs ≠ p := hp.safe.type hb (by decide)
  refine ⟨F, ⟨br, cr, bs, cs, .slice none 0 0, (hb.only hon (Ne.symm n2)).put 3 _, ?_⟩, ?_, fun _ h => .inl h⟩
  · refine ⟨?_, hsf.far n2 _, hp.apart, World.ownsRow_nil _ _ _ _, hp.fp, hp.fr, hp.fs, fun g hg => by simp [Value.ownBlock] at hg, fun k hk => ?_, good_flush' hp.good⟩
    · exact (hp.seen.only hon hp.apart).far (p := ⟨p, 3, none⟩) n1 _
    · have := hp.lt k hk
      have := hon.size
      simp [World.setCell]; omega
  · exact (hon.mono fun k hk => by unfold its at hk; rw [hk]; exact hp.fs).setCell (.inl hp.fp) _
set_option maxHeartbeats 800000 in
theorem flush_ok (w : World) {F : Nat → Prop} {p n : Nat} {x : St} (h : Dv w F p n x) (hd : x.down = false) (hu : x.due = false) (hk : x.ops ≤ 1000000000000) :
    Calls Tryz.prog 13 #[.pointer (some ⟨p, 0, none⟩)] w fun e w' => e = .returned (.int .i64 x.flush.2) ∧ DvOut F w p n x.flush.1 w' := by
  have e : x.flush = (x.flushed, 0) := by unfold St.flush; rw [if_neg (by simp [hd]), if_neg (by simp [hu])]
  rw [e]
  have HR := Lib.hid (ready_any w h 0 0 (by omega))
  rw [why_here, if_neg (by simp [hd])] at HR
  have HO := Lib.hid (operate_ok w h hu (by omega))
  have hfew := h.good.few
  clear h e hd hu
  go_enter Tryz.func13, Tryz.ntmps13
  go_wp2_with (go_at_call 41; refine HR.out.mono ?_; rintro e w' ⟨rfl, rfl⟩)
  refine HO.out.mono ?_
  rintro e w1 ⟨rfl, hv1, ho1⟩
  obtain ⟨br, cr, bs, cs, hv, hb, hp⟩ := hv1
  obtain ⟨A, c, rfl⟩ := own_form hp.held
  have h3 : w1.cell? ⟨p, 3, none⟩ = some (.slice A x.held.length c) := hb.cell 3
  have HB := Lib.hid hb
  have HP := Lib.hid hp
  have HO1 := Lib.hid ho1
  clear hb hp ho1
  go_wp2_with (fail)
  go_loopw [19] (fun c wr => FlAt w1 bs cs x c wr) (fun c _ => x.held.length - (intOf c).toNat)
  case atStart => exact ⟨0, rfl, Nat.zero_le _, HP.out.safe, Only.refl _ _⟩
  case round =>
    obtain ⟨k, rfl, hk, hsf, hon⟩ := hrel
    have hbw : Blk wr p 80 (devCells n x.oped br cr bs cs (.slice A x.held.length c)) := HB.out.only hon (Ne.symm (HP.out.safe.type HB.out (by decide)))
    by_cases hlt : k < x.held.length
    · obtain ⟨g, cur, rfl, hg, ht⟩ := own_some HP.out.held (show 0 < x.oped.held.length from Nat.lt_of_le_of_lt (Nat.zero_le _) hlt)
      have hat : x.held[k]? = some (x.held[k]'hlt) := List.getElem?_eq_getElem _
      generalize x.held[k]'hlt = a at hat
      obtain ⟨i, s⟩ := a
      have hgw := hg.only hon (fun e => by obtain ⟨cu, hcu, _⟩ := HP.out.safe; exact (hg.apart hcu (by decide)) e)
      obtain ⟨c1, c2⟩ := held_cell hgw (show cur.toList.take (x.held.length * 2) = heldCells x.held from ht) hat
      have hin := (HP.out.good.place (i, s) (List.mem_of_getElem? hat)).1
      have hcb : wr.cell? ⟨p, 2, none⟩ = some (.slice (some ⟨bs, 0, none⟩) n cs) := hbw.cell 2
      have HAT := Lib.hid hat
      have HSF := Lib.hid hsf
      have HON := Lib.hid hon
      have HBW := Lib.hid hbw
      clear hat ht hg hgw hsf hon hbw
      go_upto_region 9 with (fail)
      have d0 : (wr.alloc (.cells #[.int .i64 (i : Int), .string s] 86)).cell? ⟨wr.heap.size, 0, none⟩ = some (.int .i64 (i : Int)) := (Blk.new wr 86 _).cell 0
      have d1 : (wr.alloc (.cells #[.int .i64 (i : Int), .string s] 86)).cell? ⟨wr.heap.size, 1, none⟩ = some (.string s) := (Blk.new wr 86 _).cell 1
      have d2 : (wr.alloc (.cells #[.int .i64 (i : Int), .string s] 86)).cell? ⟨p, 2, none⟩ = some (.slice (some ⟨bs, 0, none⟩) n cs) := (HBW.out.alloc _).cell 2
      have hsl : i < (putAll x.safe (x.held.take k)).length := by rw [putAll_length, show x.safe.length = n from HP.out.good.size]; exact hin
      obtain ⟨u0, d3⟩ : ∃ u, (wr.alloc (.cells #[.int .i64 (i : Int), .string s] 86)).cell? ⟨bs, i, none⟩ = some u := ⟨_, (HSF.out.alloc _).cell (List.getElem?_eq_getElem hsl)⟩
      have d4 : (wr.alloc (.cells #[.int .i64 (i : Int), .string s] 86)).frozen? ⟨bs, i, none⟩ = false := (HSF.out.alloc _).free i
      have HTX := Lib.hid ((HSF.out.alloc (.cells #[.int .i64 (i : Int), .string s] 86)).put i s)
      have HOX := Lib.hid ((HON.out.alloc (.cells #[.int .i64 (i : Int), .string s] 86)).setCell (p := ⟨bs, i, none⟩) (.inl rfl) (.string s))
      generalize wr.alloc (.cells #[.int .i64 (i : Int), .string s] 86) = w2 at *
      generalize wr.heap.size = B at *
      clear hsl c1 c2 hcb
      go_region
      go_wp2_with (fail)
      have HN := Lib.hid (put_next x.safe HAT.out)
      go_roundw
      case rel => exact ⟨k + 1, by go_num, hlt, by rw [HN.out]; exact HTX.out, HOX.out.drew⟩
      case measure => simp [intOf]; omega
    · obtain rfl : k = x.held.length := by omega
      have h3w : wr.cell? ⟨p, 3, none⟩ = some (.slice A x.held.length c) := hbw.cell 3
      have f3w := hbw.free 3
      rw [List.take_length] at hsf
      have HD := Lib.hid (flush_out HB.out HP.out hsf hon)
      clear hsf hon hbw
      go_wp2_with (fail)
      go_ret
      exact ⟨rfl, DvOut.trans HO1.out (fun _ h => .inl h) HD.out⟩
end Go.Proofs.YtgdaihembmcamaaGreatDoor
