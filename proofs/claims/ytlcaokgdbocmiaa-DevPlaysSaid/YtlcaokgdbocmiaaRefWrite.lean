/- Write of the document's device. -/
import Derived.Test.YtlcaokgdbocmiaaRefOne
import Derived.Test.YtlcaokgdbocmiaaDevFlush
namespace Go.Proofs.Ytlcaokgdbocmiaa
open Go.RowKit
theorem RfOut.same {F : Nat → Prop} {w : World} {p n : Nat} {x : St} (h : Rf w F p n x) : RfOut F w p n x w := RfOut.of ⟨h, Only.refl F w⟩
/-- Of a write's loop: k sectors are written. -/
structure RwRel (F : Nat → Prop) (w : World) (p n i m : Nat) (s : ByteArray) (x : St) (k : Nat) (F' : Nat → Prop) (y : St) (wr : World) : Prop where
  le : k ≤ m
  dev : Rf wr F' p n y
  only : Only F w wr
  grew : Grew F w F'
  ops : y.ops = x.ops + k
  down : y.down = false
  same : x.wr i s 0 m = y.wr i s k (m - k)
theorem RwRel.dies {F : Nat → Prop} {w wr w' : World} {p n i m : Nat} {s : ByteArray} {x y : St} {k : Nat} {F' : Nat → Prop} (h : RwRel F w p n i m s x k F' y wr) (hk : k < m) (hd : y.due = true)
    (hv : Rf w' F' p n y.fall ∧ Only F' wr w') : x.wr i s 0 m = (y.fall, false) ∧ RfOut F w p n y.fall w' := by
  refine ⟨?_, (RfOut.of hv).trans h.only h.grew⟩
  rw [h.same, show m - k = m - (k + 1) + 1 by omega, wr_due hd]
theorem RwRel.next {F : Nat → Prop} {w wr w1 w3 : World} {p n i m : Nat} {s : ByteArray} {x y : St} {k : Nat} {F' : Nat → Prop} (h : RwRel F w p n i m s x k F' y wr) (hk : k < m) (hd : y.due = false)
    (hv : Only F' wr w1) (hh : RfOut F' w1 p n (y.oped.hold (i + k) (sec s k)) w3) : ∃ F2, RwRel F w p n i m s x (k + 1) F2 (y.oped.hold (i + k) (sec s k)) w3 := by
  obtain ⟨F2, h1, h2, h3⟩ := hh
  have o2 : Only F w w1 := h.only.trans hv h.grew
  have g2 : Grew F w F2 := fun j hj => (h3 j hj).elim (fun h' => h.grew j h') (fun h' => .inr (Nat.le_trans o2.size h'))
  refine ⟨F2, hk, h1, o2.trans h2 fun j hj => h.grew j hj, g2, ?_, h.down, ?_⟩
  · show y.ops + 1 = x.ops + (k + 1)
    have := h.ops
    omega
  · rw [h.same, show m - k = m - (k + 1) + 1 by omega, wr_go hd]
theorem rhold_out {w w1 : World} {F : Nat → Prop} {n : Nat} {x : St} {p br cr bs cs i : Nat} {hv hv' : Value} {s : ByteArray} {o : Obj} (hb : Blk w p 67 (refCells n x br cr bs cs hv))
    (hp : Parts w F 72 n x p br cr bs cs hv) (hg : (x.hold i s).Good n) (h1 : ((w.setCell ⟨br, i, none⟩ (.string s)).alloc o).grownBy w1 hv.ownBlock)
    (hown : w1.ownsRow 0 72 2 hv' (x.held.length + 1) (heldCells x.held ++ [.int .i64 (i : Int), .string s])) (hb' : hv'.ownBlock = hv.ownBlock ∨ hv'.ownBlock = some ((w.setCell ⟨br, i, none⟩ (.string s)).alloc o).heap.size) :
    RfOut F w p n (x.hold i s) (w1.setCell ⟨p, 2, none⟩ hv') := by
  have n1 : br ≠ p := hp.seen.type hb (by decide)
  have n3 := own_apart hp.held hb (by decide)
  have h1' := (World.grownBy_alloc (w.setCell ⟨br, i, none⟩ (.string s)) o hv.ownBlock).trans h1
  have hbl : hv'.ownBlock = hv.ownBlock ∨ ∀ k, hv'.ownBlock = some k → w.heap.size ≤ k ∧ k < w1.heap.size := by
    rcases hb' with e | e
    · exact .inl e
    · refine .inr fun k hk => ⟨?_, (hown.lt k hk).2⟩
      rw [e] at hk
      have : ((w.setCell ⟨br, i, none⟩ (.string s)).alloc o).heap.size = k := by simpa using hk
      simp [World.setCell] at this
      omega
  have hparts := hold_parts hb (by decide) (by decide) (by decide) hp hg h1' hown hbl (only_put w1 p 2 hv')
  refine ⟨_, ⟨br, cr, bs, cs, hv', ?_, hparts⟩, ?_, ?_⟩
  · have b1 : Blk (w.setCell ⟨br, i, none⟩ (.string s)) p 67 (refCells n x br cr bs cs hv) := hb.far (Ne.symm n1) _
    have b2 : Blk w1 p 67 (refCells n x br cr bs cs hv) := b1.grown h1' (Ne.symm n3)
    exact b2.put 2 hv'
  · refine (((Only.refl F w).setCell (p := ⟨br, i, none⟩) (.inl hp.fr) _).grown h1' fun k hk => .inl (hp.fh k hk)).setCell (.inl hp.fp) _
  · intro k hk
    rcases hk with hk | hk
    · exact .inl hk
    · rcases hbl with e | e
      · rw [e] at hk; exact .inl (hp.fh k hk)
      · exact .inr (e k hk).1
theorem rwrite_nil (w : World) (i : Int) (s : ByteArray) : Calls Try.prog 15 #[.pointer none, .int .i64 i, .string s] w fun e w' => e = .returned (.int .i64 1) ∧ w = w' := by
  go_enter Try.func15, Try.ntmps15
  go_wp2
  go_ret
  exact ⟨rfl, rfl⟩
theorem rwrite_odd (w : World) {F : Nat → Prop} {p n : Nat} {x : St} (h : Rf w F p n x) (i : Int) (s : ByteArray) (hs : s.size ≤ 140737488355328) (ho : s.size % 512 ≠ 0) :
    Calls Try.prog 15 #[.pointer (some ⟨p, 0, none⟩), .int .i64 i, .string s] w fun e w' => e = .returned (.int .i64 (x.write n i s).2) ∧ RfOut F w p n (x.write n i s).1 w' := by
  have e : x.write n i s = (x, 40) := by unfold St.write; rw [if_pos ho]
  rw [e]
  have H := Lib.hid (RfOut.same h)
  have ho' : ¬ (s.size : Int) % 512 = 0 := by omega
  clear h e ho
  go_enter Try.func15, Try.ntmps15
  go_wp2_with (fail)
  go_ret
  exact ⟨rfl, H.out⟩
theorem rwrite_out (w : World) {F : Nat → Prop} {p n : Nat} {x : St} (h : Rf w F p n x) (i : Int) (s : ByteArray) (hs : s.size ≤ 140737488355328) (ho : s.size % 512 = 0)
    (hw : i < 0 ∨ ((s.size / 512 : Nat) : Int) < 0 ∨ (n : Int) - i < ((s.size / 512 : Nat) : Int)) :
    Calls Try.prog 15 #[.pointer (some ⟨p, 0, none⟩), .int .i64 i, .string s] w fun e w' => e = .returned (.int .i64 (x.write n i s).2) ∧ RfOut F w p n (x.write n i s).1 w' := by
  have hy := why_out (x := x) hw
  have e : x.write n i s = (x, 40) := by unfold St.write; rw [if_neg (by omega), hy, if_pos (by omega)]
  rw [e]
  have HR := there_any w h i ((s.size / 512 : Nat) : Int)
  rw [there_no hw] at HR
  have HR := Lib.hid HR
  have H := Lib.hid (RfOut.same h)
  have ho' : (s.size : Int) % 512 = 0 := by omega
  clear h e ho hy hw
  go_enter Try.func15, Try.ntmps15
  go_wp2_with (go_at_call 40; refine HR.out.mono ?_; rintro e w' ⟨rfl, rfl⟩)
  go_ret
  exact ⟨rfl, H.out⟩
theorem rwrite_down (w : World) {F : Nat → Prop} {p n : Nat} {x : St} (h : Rf w F p n x) (i : Int) (s : ByteArray) (hs : s.size ≤ 140737488355328) (ho : s.size % 512 = 0)
    (hw : ¬ (i < 0 ∨ ((s.size / 512 : Nat) : Int) < 0 ∨ (n : Int) - i < ((s.size / 512 : Nat) : Int))) (hd : x.down = true) :
    Calls Try.prog 15 #[.pointer (some ⟨p, 0, none⟩), .int .i64 i, .string s] w fun e w' => e = .returned (.int .i64 (x.write n i s).2) ∧ RfOut F w p n (x.write n i s).1 w' := by
  have hy := why_down (x := x) hw hd
  have e : x.write n i s = (x, 41) := by unfold St.write; rw [if_neg (by omega), hy, if_pos (by omega)]
  rw [e]
  have HR := there_any w h i ((s.size / 512 : Nat) : Int)
  rw [there_yes hw] at HR
  have HR := Lib.hid HR
  have H := Lib.hid (RfOut.same h)
  have ho' : (s.size : Int) % 512 = 0 := by omega
  have h6 : w.cell? ⟨p, 6, none⟩ = some (.bool true) := by obtain ⟨br, cr, bs, cs, hv, hb, hp⟩ := h; rw [← hd]; exact hb.cell 6
  clear h e ho hy hw hd
  go_enter Try.func15, Try.ntmps15
  go_wp2_with (go_at_call 40; refine HR.out.mono ?_; rintro e w' ⟨rfl, rfl⟩)
  go_ret
  exact ⟨rfl, H.out⟩
def RwAt (F : Nat → Prop) (w : World) (p n i m : Nat) (s : ByteArray) (x : St) (c : Value) (wr : World) : Prop := ∃ k F' y, c = .int .i64 ((k : Nat) : Int) ∧ RwRel F w p n i m s x k F' y wr
def RwDone (F : Nat → Prop) (w : World) (p n : Nat) (r : St × Bool) (e : Ending) (w' : World) : Prop := e = .returned (.int .i64 (wrCode r.2)) ∧ RfOut F w p n r.1 w'
set_option maxHeartbeats 800000 in
theorem rwrite_ok (w : World) {F : Nat → Prop} {p n : Nat} {x : St} (h : Rf w F p n x) (i m : Nat) (s : ByteArray) (hs : s.size = m * 512) (hw : x.why n i (m : Int) = 0) (hk : x.ops ≤ 1000000000000) :
    Calls Try.prog 15 #[.pointer (some ⟨p, 0, none⟩), .int .i64 (i : Int), .string s] w (RwDone F w p n (x.wr i s 0 m)) := by
  have hn := h.good.most
  obtain ⟨_, _, him, hdn⟩ := why_zero hw
  have him' : i + m ≤ n := by omega
  have HR := there_any w h i m
  rw [there_yes (by omega)] at HR
  have HR := Lib.hid HR
  have H0 : RwRel F w p n i m s x 0 F x w := ⟨Nat.zero_le _, h, Only.refl F w, fun _ hk => .inl hk, rfl, hdn, by rw [Nat.sub_zero]⟩
  have h8 : s.size ≤ 4194304 := by omega
  have hmod : (s.size : Int) % 512 = 0 := by omega
  have hdiv : (s.size : Int) / 512 = m := by omega
  have h6 : w.cell? ⟨p, 6, none⟩ = some (.bool false) := by obtain ⟨br, cr, bs, cs, hv, hb, hp⟩ := h; rw [← hdn]; exact hb.cell 6
  have HS := Lib.hid hs
  have HD := Lib.hid hdiv
  clear h hw hdn hs him hdiv
  go_enter Try.func15, Try.ntmps15
  go_wp2_with (fail)
  rw [HD.out]
  refine HR.out.mono ?_
  rintro e w' ⟨rfl, rfl⟩
  go_wp2_with (fail)
  go_loopw [7] (fun c wr => RwAt F w p n i m s x c wr) (fun c _ => m - (intOf c).toNat)
  case atStart => exact ⟨0, F, x, rfl, H0⟩
  case round =>
    obtain ⟨k, F', y, rfl, hr⟩ := hrel
    have hkm := hr.le
    have hops := hr.ops
    have hdiv2 : (s.size : Int) / 512 = m := HD.out
    by_cases hlt : k < m
    · cases hd : y.due with
      | true =>
        have HV := Lib.hid (one_due wr hr.dev hr.down hd)
        have HN := Lib.hid (fun w' => hr.dies (w' := w') hlt hd)
        clear hd hr H0 hops h6
        go_wp2_with (fail)
        refine HV.out.mono ?_
        rintro e w1 ⟨rfl, hv⟩
        have HW := Lib.hid (HN.out w1 hv)
        clear hv
        go_wp2_with (fail)
        go_ret
        rw [HW.out.1]
        exact ⟨rfl, HW.out.2⟩
      | false =>
        have HV := Lib.hid (one_ok wr hr.dev hr.down hd (by omega))
        have hy := hr.dev.good
        have hfew := hy.few
        have hsz := sec_size (k := k) HS.out hlt
        have hin : i + k < n := by omega
        have HG := Lib.hid (good_op_hold hy (i := i + k) (s := sec s k) hin hsz)
        have HN := Lib.hid (fun w1 w3 => hr.next (w1 := w1) (w3 := w3) hlt hd)
        have HF := Lib.hid (show y.oped.held.length ≤ 1099511627776 from Nat.le_trans hfew (by omega))
        have hx : ((k : Int) + 1) * 512 ≤ s.size := by have := HS.out; omega
        have HL := Lib.hid (show y.oped.seen.length = n from (seen_length y).trans hy.size)
        clear hd hr H0 hops hy hfew hsz h6
        go_wp2_with (fail)
        refine HV.out.mono ?_
        rintro e w1 ⟨rfl, ⟨br, cr, bs, cs, hv, hb, hp⟩, ho1⟩
        obtain ⟨u0, hc⟩ : ∃ u, w1.cell? ⟨br, i + k, none⟩ = some u := ⟨_, hp.seen.cell (i := i + k) (List.getElem?_eq_getElem (by rw [HL.out]; exact hin))⟩
        have fc := hp.seen.free (i + k)
        obtain ⟨A1, c1, rfl⟩ := own_form hp.held
        have h1 : w1.cell? ⟨p, 1, none⟩ = some (.slice (some ⟨br, 0, none⟩) n cr) := hb.cell 1
        have h2 : w1.cell? ⟨p, 2, none⟩ = some (.slice A1 y.oped.held.length c1) := hb.cell 2
        have n1 : br ≠ p := hp.seen.type hb (by decide)
        have HB1 := Lib.hid (show Blk (w1.setCell ⟨br, i + k, none⟩ (.string (sec s k))) p 67 (refCells n y.oped br cr bs cs (.slice A1 y.oped.held.length c1)) from hb.far (Ne.symm n1) _)
        have HSz := Lib.hid (show (w1.setCell ⟨br, i + k, none⟩ (.string (sec s k))).heap.size = w1.heap.size by simp [World.setCell])
        have hown : (w1.setCell ⟨br, i + k, none⟩ (.string (sec s k))).ownsRow 0 72 2 (.slice A1 y.oped.held.length c1) y.oped.held.length (heldCells y.oped.held) := by
          refine own_keep hp.held fun g hg => Below.heap_setCell _ _ _ _ ?_
          obtain ⟨cur2, hcur2, _⟩ := hp.seen
          have := own_apart hp.held hcur2 (by decide)
          intro e
          exact this (by rw [hg]; exact congrArg some e)
        have HOw := Lib.hid (hown.alloc (.cells #[.int .i64 ((i : Int) + (k : Int)), .string (sec s k)] 72))
        have HM := Lib.hid (show y.oped.held.length + 1 ≤ maxLen by have := HF.out; unfold maxLen; omega)
        have HY := Lib.hid (show (y.oped.held.length + 1) * 24 ≤ 140737488355328 by have := HF.out; omega)
        have N3 := Lib.hid (own_apart hp.held hb (by decide))
        have HB := Lib.hid hb
        have HP := Lib.hid hp
        have HO1 := Lib.hid ho1
        clear hb hp ho1 hown
        obtain ⟨i0, hi0, hz0, hz1, hz2⟩ := info_parts info72
        go_wp2_with (at_builtin; refine wpList_append_own_at _ rfl (.tmp 58) (.tmp 64) _ rfl 0 72 i0 _ 2 24 Try.underlying65 hi0 hz0 hz1 hz2 rfl (by omega) (.slice A1 y.oped.held.length c1) y.oped.held.length (heldCells y.oped.held) rfl HOw.out _ 1 1 [.int .i64 ((i : Int) + (k : Int)), .string (sec s k)] rfl rfl (cells_two _ _ _ _ HSz.out) two_cells HM.out HY.out (Nat.zero_le _) ?_; intro hv' w3 hown1 hg1 hn1 hat1; obtain ⟨A2, c2, rfl⟩ := own_form hown1; have HO3 := Lib.hid hown1; have HA1 := Lib.hid hat1; have HR1 := Lib.hid hg1; have hbb := (HB1.out.alloc _).grown hg1 (Ne.symm N3.out); have hc3 : w3.cell? ⟨p, 2, none⟩ = some (.slice A1 y.oped.held.length c1) := hbb.cell 2; have hf3 := hbb.free 2; clear hown1 hat1 hg1 hn1 hbb)
        have HX := Lib.hid (rhold_out HB.out HP.out HG.out HR1.out (by have := HO3.out; rw [Int.natCast_add]; exact this) (by simpa [World.setCell] using HA1.out))
        have HX2 := Lib.hid (HN.out w1 _ HO1.out HX.out)
        clear hi0 hz0 hz1 hz2 hc3 hf3
        obtain ⟨F2, hx2⟩ := HX2.out
        exact ⟨⟨k + 1, F2, _, by go_num, hx2⟩, by simp [intOf]; omega⟩
    · obtain rfl : k = m := by omega
      have HW : x.wr i s 0 k = (y, true) := by rw [hr.same, Nat.sub_self]; rfl
      have HD2 := Lib.hid (RfOut.trans hr.only hr.grew (RfOut.same hr.dev))
      have HX := Lib.hid HW
      clear hr H0 hops HW
      go_wp2_with (fail)
      go_ret
      rw [HX.out]
      exact ⟨rfl, HD2.out⟩
end Go.Proofs.Ytlcaokgdbocmiaa
