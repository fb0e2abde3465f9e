/- headgatekeep.Texts. The small example. -/
import Derived.Test.YtgdaihembmcamaaGreatDoorJnE
namespace Go.Proofs.YtgdaihembmcamaaGreatDoor
open Go.RowKit
/-- Texts that can be read. -/
def Seen (w : World) (A : Option Addr) (xs : List ByteArray) : Prop := ∀ i s, xs[i]? = some s → ∃ b o, A = some ⟨b, o, none⟩ ∧ w.cell? ⟨b, o + i, none⟩ = some (.string s)
theorem Recs.seen {w : World} {A : Option Addr} {n c : Nat} {xs : List ByteArray} (h : Recs w (.slice A n c) xs) : Seen w A xs := fun _ _ hi => h.cell hi
theorem Seen.below {w w' : World} {A : Option Addr} {xs : List ByteArray} (h : Seen w A xs) (hb : Below w.heap.size w w') : Seen w' A xs := fun i s hi => by
  obtain ⟨b, o, e, hc⟩ := h i s hi
  exact ⟨b, o, e, (hb.cell (p := ⟨b, o + i, none⟩) (World.block_lt_of_cell? _ _ hc)).trans hc⟩
theorem Seen.only {S : Nat → Prop} {w w' : World} {A : Option Addr} {xs : List ByteArray} (h : Seen w A xs) (ho : Only S w w') (hs : ∀ a, A = some a → ¬ S a.block) : Seen w' A xs := fun i s hi => by
  obtain ⟨b, o, e, hc⟩ := h i s hi
  exact ⟨b, o, e, ho.cell hc (show ¬ S b from hs ⟨b, o, none⟩ e)⟩
def TkAt (w : World) (xs ys : List ByteArray) (c : Value) (wr : World) : Prop := ∃ k : Nat, c = .int .i64 (k : Int) ∧ k ≤ xs.length ∧ xs.take k = ys.take k ∧ Below w.heap.size w wr
theorem texts_any (w : World) (A B : Option Addr) (ca cb : Nat) (xs ys : List ByteArray) (ha : Seen w A xs) (hb : Seen w B ys) (hx : xs.length ≤ 140737488355328) :
    Calls Tryz.prog 36 #[.slice A xs.length ca, .slice B ys.length cb] w fun e w' => e = .returned (.bool (decide (xs = ys))) ∧ Below w.heap.size w w' := by
  by_cases hl : xs.length = ys.length
  · have hli : ((xs.length : Int) == (ys.length : Int)) = true := by rw [beq_iff_eq]; omega
    have hln : ((xs.length : Int) != (ys.length : Int)) = false := by rw [bne_eq_false_iff_eq]; omega
    have HL := Lib.hid hl
    have HB0 := Lib.hid (Below.refl w.heap.size w)
    clear hl
    go_enter Tryz.func36, Tryz.ntmps36
    go_wp2_with (fail)
    go_loopw [5] (fun c wr => TkAt w xs ys c wr) (fun c _ => xs.length - (intOf c).toNat)
    case atStart => exact ⟨0, rfl, Nat.zero_le _, by simp, HB0.out⟩
    case round =>
      obtain ⟨k, rfl, hk, hp, hbl⟩ := hrel
      by_cases hlt : k < xs.length
      · obtain ⟨s, hs⟩ : ∃ s, xs[k]? = some s := ⟨_, List.getElem?_eq_getElem hlt⟩
        obtain ⟨t, ht⟩ : ∃ t, ys[k]? = some t := ⟨_, List.getElem?_eq_getElem (by rw [← HL.out]; exact hlt)⟩
        obtain ⟨b1, o1, rfl, c1⟩ := ha k s hs
        obtain ⟨b2, o2, rfl, c2⟩ := hb k t ht
        have d1 := (hbl.cell (p := ⟨b1, o1 + k, none⟩) (World.block_lt_of_cell? _ _ c1)).trans c1
        have d2 := (hbl.cell (p := ⟨b2, o2 + k, none⟩) (World.block_lt_of_cell? _ _ c2)).trans c2
        have x1 : (k : Int) < xs.length := by omega
        have x2 : (k : Int) < ys.length := by rw [← HL.out]; exact x1
        have x0 : (0 : Int) ≤ k := by omega
        have HBL := Lib.hid hbl
        have HP := Lib.hid hp
        clear hbl hp c1 c2
        by_cases hst : s = t
        · subst hst
          have hq : (s.toList == s.toList) = true := by simp
          have HN := Lib.hid (show xs.take (k + 1) = ys.take (k + 1) by rw [List.take_add_one, List.take_add_one, hs, ht, HP.out])
          clear hs ht
          go_upto_region 6 with (fail)
          go_quiet (fail)
          go_wp2_with (fail)
          go_roundw
          case rel => exact ⟨k + 1, by go_num, by omega, HN.out, HBL.out.trans (belDrew _ _ nq)⟩
          case measure => simp [intOf]; omega
        · have hq : (s.toList == t.toList) = false := by rw [beqS]; exact decide_eq_false hst
          have HV := Lib.hid (show decide (xs = ys) = false from decide_eq_false fun e => hst (by subst e; rw [hs] at ht; exact Option.some.inj ht))
          clear hs ht hst
          go_upto_region 6 with (fail)
          go_quiet (fail)
          go_wp2_with (fail)
          go_ret
          exact ⟨by rw [HV.out]; rfl, HBL.out.trans (belDrew _ _ nq)⟩
      · obtain rfl : k = xs.length := by omega
        have HV := Lib.hid (show decide (xs = ys) = true from decide_eq_true (by rw [List.take_length] at hp; rw [hp, HL.out, List.take_length]))
        have HBL := Lib.hid hbl
        clear hbl hp
        go_wp2_with (fail)
        go_ret
        exact ⟨by rw [HV.out]; rfl, HBL.out⟩
  · have hln : ((xs.length : Int) != (ys.length : Int)) = true := by rw [bne_iff_ne]; omega
    have hln2 : ¬ ((xs.length : Int) = (ys.length : Int)) := by omega
    have HV := Lib.hid (show decide (xs = ys) = false from decide_eq_false fun e => hl (by rw [e]))
    have HB0 := Lib.hid (Below.refl w.heap.size w)
    clear hl
    go_enter Tryz.func36, Tryz.ntmps36
    go_wp2_with (fail)
    go_ret
    exact ⟨by rw [HV.out]; rfl, HB0.out⟩
def aS : ByteArray := ⟨#[97]⟩
def bS : ByteArray := ⟨#[98]⟩
/-- What the device is on the way. -/
structure Way where
  x1 : St
  x2 : St
  x3 : St
  x4 : St
  x5 : St
  x6 : St
def wj1 : Jn := (Jn.blank 3 30).swap aS
def wj2 : Jn := wj1.more bS
structure WayOk (v : Way) : Prop where
  e1 : v.x1 = ((St.new 40).put 3 zero4 4).1
  p1 : ((St.new 40).put 3 zero4 4).2 = true
  e2 : v.x2 = ((Jn.blank 3 30).check v.x1 aS).1
  p2 : ((Jn.blank 3 30).check v.x1 aS).2 = true
  e3 : v.x3 = (wj1.enter v.x2 bS wj1.half wj1.used (wj1.recs.length + 1)).1
  p3 : (wj1.enter v.x2 bS wj1.half wj1.used (wj1.recs.length + 1)).2 = true
  e4 : v.x4 = v.x3.flsh.1
  p4 : v.x3.flsh.2 = true
  e5 : v.x5 = v.x4.crash []
  e6 : v.x6 = v.x5.flsh.1
  p6 : v.x5.flsh.2 = true
  down : v.x5.down = false
  disk : Disk v.x5.seen 40 wj2
  o2 : v.x2.ops ≤ 100
  o3 : v.x3.ops ≤ 200
  o4 : v.x4.ops ≤ 300
  o5 : v.x5.ops ≤ 300
theorem secA : secF aS.size = 1 := rfl
theorem secB : secF bS.size = 1 := rfl
theorem crash_ops (x : St) (keep : List Int) : (x.crash keep).ops = x.ops := rfl
theorem way_ok : ∃ v, WayOk v := by
  have hg : (St.new 40).Good 40 := good_new (by decide) (by decide)
  obtain ⟨p1, a1, d1⟩ := free_put (x := St.new 40) rfl rfl 3 4 zero4
  obtain ⟨p2, a2, d2⟩ := free_check a1 d1 (Jn.blank 3 30) aS
  obtain ⟨h2, k2, _, _⟩ := format_math (n := 40) (fr := 3) (se := 30) (t := aS) hg (by decide) (by decide) (by decide) (by rw [secA]; decide) p1 p2
  have r2 : Rest ((Jn.blank 3 30).check ((St.new 40).put 3 zero4 4).1 aS).1 40 wj1 := .inl ⟨h2, k2⟩
  obtain ⟨p3, a3, d3⟩ := free_enter a2 d2 wj1 bS wj1.half wj1.used (wj1.recs.length + 1)
  have m3 := (append_math r2 (t := bS) (by decide) (by decide) (by decide)).1 p3
  obtain ⟨p4, a4, d4⟩ := free_flsh a3 d3
  obtain ⟨h4, k4, _, _⟩ := (sync_math m3.1).1 p4
  have q1 := put_ops (St.new 40) 3 4 zero4
  have q2 : ((Jn.blank 3 30).check ((St.new 40).put 3 zero4 4).1 aS).1.ops ≤ ((St.new 40).put 3 zero4 4).1.ops + 10 := by
    have e1 := enter_ops (Jn.blank 3 30) ((St.new 40).put 3 zero4 4).1 aS (1 - (Jn.blank 3 30).half) 0 0
    rw [secA] at e1
    obtain ⟨_, _, c3⟩ := check_parts p2
    rw [c3]
    have e2 := flsh_ops ((Jn.blank 3 30).enter ((St.new 40).put 3 zero4 4).1 aS (1 - (Jn.blank 3 30).half) 0 0).1
    omega
  have q3 := enter_ops wj1 ((Jn.blank 3 30).check ((St.new 40).put 3 zero4 4).1 aS).1 bS wj1.half wj1.used (wj1.recs.length + 1)
  rw [secB] at q3
  have q4 := flsh_ops (wj1.enter ((Jn.blank 3 30).check ((St.new 40).put 3 zero4 4).1 aS).1 bS wj1.half wj1.used (wj1.recs.length + 1)).1
  have q0 : (St.new 40).ops = 0 := rfl
  have k5 : Disk ((wj1.enter ((Jn.blank 3 30).check ((St.new 40).put 3 zero4 4).1 aS).1 bS wj1.half wj1.used (wj1.recs.length + 1)).1.flsh.1.crash []).seen 40 wj2 := by
    unfold St.seen St.crash
    rw [h4]
    exact k4
  have b2 : ((Jn.blank 3 30).check ((St.new 40).put 3 zero4 4).1 aS).1.ops ≤ 14 := by omega
  have b3 : (wj1.enter ((Jn.blank 3 30).check ((St.new 40).put 3 zero4 4).1 aS).1 bS wj1.half wj1.used (wj1.recs.length + 1)).1.ops ≤ 17 := by omega
  have b4 : (wj1.enter ((Jn.blank 3 30).check ((St.new 40).put 3 zero4 4).1 aS).1 bS wj1.half wj1.used (wj1.recs.length + 1)).1.flsh.1.ops ≤ 18 := by omega
  obtain ⟨y1, hy1⟩ : ∃ y, y = ((St.new 40).put 3 zero4 4).1 := ⟨_, rfl⟩
  rw [← hy1] at p2 p3 p4 k5 b2 b3 b4
  obtain ⟨y2, hy2⟩ : ∃ y, y = ((Jn.blank 3 30).check y1 aS).1 := ⟨_, rfl⟩
  rw [← hy2] at p3 p4 k5 b2 b3 b4
  obtain ⟨y3, hy3⟩ : ∃ y, y = (wj1.enter y2 bS wj1.half wj1.used (wj1.recs.length + 1)).1 := ⟨_, rfl⟩
  rw [← hy3] at p4 k5 b3 b4
  obtain ⟨y4, hy4⟩ : ∃ y, y = y3.flsh.1 := ⟨_, rfl⟩
  rw [← hy4] at k5 b4
  obtain ⟨y5, hy5⟩ : ∃ y, y = y4.crash [] := ⟨_, rfl⟩
  rw [← hy5] at k5
  have b5 : y5.ops ≤ 18 := by rw [hy5, crash_ops]; exact b4
  have a5 : y5.armed = false := by rw [hy5]; rfl
  have d5 : y5.down = false := by rw [hy5]; rfl
  refine ⟨⟨y1, y2, y3, y4, y5, y5.flsh.1⟩, hy1, p1, hy2, p2, hy3, p3, hy4, p4, hy5, rfl, (free_flsh a5 d5).1, d5, k5, Nat.le_trans b2 (by decide), Nat.le_trans b3 (by decide), Nat.le_trans b4 (by decide), Nat.le_trans b5 (by decide)⟩
theorem below_go {w a b : World} {S : Nat → Prop} (h : Below w.heap.size w a) (ho : Only S a b) (hs : ∀ k, S k → w.heap.size ≤ k) : Below w.heap.size w b := h.trans (ho.toBelow h.size hs)
theorem grew_lo {B : Nat} {a : World} {S T : Nat → Prop} (h : Grew S a T) (hs : ∀ k, S k → B ≤ k) (hB : B ≤ a.heap.size) : ∀ k, T k → B ≤ k := fun k hk => (h k hk).elim (hs k) (Nat.le_trans hB)
theorem lo_far {w : World} {S : Nat → Prop} (ht : Tab w) (hs : ∀ k, S k → w.heap.size ≤ k) : ¬ S gTab := fun hk => absurd ht.pos (Nat.not_lt.2 (hs _ hk))
/-- A device and a journal above a world. -/
structure Up (w0 w : World) (p q n : Nat) (x : St) (j : Jn) : Prop where
  jd : ∃ S, JD w S p q n x j ∧ ∀ k, S k → w0.heap.size ≤ k
  below : Below w0.heap.size w0 w
theorem Up.go {w0 w w' : World} {p q n : Nat} {x y : St} {j i : Jn} (h : Up w0 w p q n x j) (k : ∀ S, JD w S p q n x j → JOut S w p q n y i w') : Up w0 w' p q n y i := by
  obtain ⟨S, hj, hs⟩ := h.jd
  obtain ⟨S', hj', ho, hg⟩ := k S hj
  exact ⟨⟨S', hj', grew_lo hg hs h.below.size⟩, below_go h.below ho hs⟩
theorem Up.more {w0 w w' : World} {p q n : Nat} {x : St} {j : Jn} (h : Up w0 w p q n x j) (hb : Below w.heap.size w w') : Up w0 w' p q n x j := h.go fun _ hj => JOut.below hj hb
theorem up_append {w0 w : World} {p q n : Nat} {x : St} {j : Jn} (h : Up w0 w p q n x j) (hf : j.Fits n) (t : ByteArray) (hw : j.why t j.room = 0) (hx : x.ops ≤ 100000000000) (hn : j.num ≤ 100000000000) (he : (j.enter x t j.half j.used (j.recs.length + 1)).2 = true) :
    Calls Tryz.prog 17 #[.pointer (some ⟨q, 0, none⟩), .string t] w fun e w' => e = .returned (.int .i64 0) ∧ Up w0 w' p q n (j.enter x t j.half j.used (j.recs.length + 1)).1 (j.more t) := by
  obtain ⟨S, hj, hs⟩ := h.jd
  refine (append_ok w hj hf t hw hx hn he).mono ?_
  rintro e w' ⟨h1, S', hj', ho, hg⟩
  exact ⟨h1, ⟨S', hj', grew_lo hg hs h.below.size⟩, below_go h.below ho hs⟩
theorem up_sync {w0 w : World} {p q n : Nat} {x : St} {j : Jn} (h : Up w0 w p q n x j) (hu : j.unfit = false) (hx : x.ops ≤ 100000000000) (hf : x.flsh.2 = true) :
    Calls Tryz.prog 21 #[.pointer (some ⟨q, 0, none⟩)] w fun e w' => e = .returned (.int .i64 0) ∧ Up w0 w' p q n x.flsh.1 j := by
  obtain ⟨S, hj, hs⟩ := h.jd
  refine (sync_fit w hj hu (by omega)).mono ?_
  rintro e w' ⟨h1, hv⟩
  rw [hf] at h1 hv
  rw [fit_same hu] at hv
  obtain ⟨S', hj', ho, hg⟩ := hv
  exact ⟨h1, ⟨S', hj', grew_lo hg hs h.below.size⟩, below_go h.below ho hs⟩
theorem up_room {w0 w : World} {p q n : Nat} {x : St} {j : Jn} (h : Up w0 w p q n x j) (hf : j.Fits n) :
    Calls Tryz.prog 28 #[.pointer (some ⟨q, 0, none⟩)] w fun e w' => e = .returned (.int .i64 ((j.size : Int) - j.used)) ∧ Up w0 w' p q n x j := by
  obtain ⟨S, hj, hs⟩ := h.jd
  refine (room_any w hj hf).mono ?_
  rintro e w' ⟨h1, hb⟩
  exact ⟨h1, h.more hb⟩
theorem up_crash {w0 w : World} {p q n : Nat} {x : St} {j : Jn} (h : Up w0 w p q n x j) (hx : x.ops ≤ 100000000000) :
    Calls Tryz.prog 23 #[.pointer (some ⟨p, 0, none⟩), .slice none 0 0] w fun e w' => e = .returned (.tuple #[]) ∧ ∃ F, Dv w' F p n (x.crash []) ∧ (∀ k, F k → w0.heap.size ≤ k) ∧ Below w0.heap.size w0 w' := by
  obtain ⟨S, hj, hs⟩ := h.jd
  obtain ⟨F, G, hF, _, _, hs1, _⟩ := hj.both
  refine (crash_any w hF (by omega) none 0 [] (fun h => absurd h (Nat.lt_irrefl _)) (fun h => absurd h (Nat.lt_irrefl _)) (Nat.zero_le _)).mono ?_
  rintro e w' ⟨h1, F', hv, ho, hg⟩
  have hlo : ∀ k, F k → w0.heap.size ≤ k := fun k hk => hs k (hs1 k hk)
  exact ⟨h1, F', hv, grew_lo hg hlo h.below.size, below_go h.below ho hlo⟩
theorem up_made {w0 w w' : World} {F : Nat → Prop} {p n : Nat} {x : St} {j : Jn} {e : Ending} (h : MadeJn F w p n x j e w') (hs : ∀ k, F k → w0.heap.size ≤ k) (hb : Below w0.heap.size w0 w) : ∃ q, e = .returned (.tuple #[.pointer (some ⟨q, 0, none⟩), .int .i64 0]) ∧ Up w0 w' p q n x j := by
  obtain ⟨q, S, he, hj, ho, hg⟩ := h
  exact ⟨q, he, ⟨S, hj, grew_lo hg hs hb.size⟩, below_go hb ho hs⟩
theorem up_base {w0 w : World} {p q n : Nat} {x : St} {j : Jn} (h : Up w0 w p q n x j) (ht : j.base.size ≤ 65536) :
    Calls Tryz.prog 34 #[.pointer (some ⟨q, 0, none⟩)] w fun e w' => e = .returned (.string j.base) ∧ Up w0 w' p q n x j := by
  obtain ⟨S, hj, hs⟩ := h.jd
  refine (base_any w hj ht).mono ?_
  rintro e w' ⟨h1, hb⟩
  exact ⟨h1, h.more hb⟩
theorem up_records {w0 w : World} {p q n : Nat} {x : St} {j : Jn} (h : Up w0 w p q n x j) (hl : j.recs.length ≤ 8192) (ht : ∀ s ∈ j.recs, s.size ≤ 65536) :
    Calls Tryz.prog 35 #[.pointer (some ⟨q, 0, none⟩)] w fun e w' => ∃ g c, e = .returned (.slice (some ⟨g, 0, none⟩) j.recs.length c) ∧ Seen w' (some ⟨g, 0, none⟩) j.recs ∧ Up w0 w' p q n x j ∧ g < w'.heap.size := by
  obtain ⟨S, hj, hs⟩ := h.jd
  refine (records_any w hj hl ht).mono ?_
  rintro e w' ⟨c, h1, hr, hb⟩
  exact ⟨_, c, h1, hr.seen, h.more hb, hr.lt _ rfl⟩
set_option maxRecDepth 100000 in
set_option maxHeartbeats 1600000 in
theorem wakes_any (w : World) (ht : Tab w) : Calls Tryz.prog 9 #[] w fun e w' => e = .returned (.bool true) ∧ Below w.heap.size w w' := by
  obtain ⟨v, hv⟩ := way_ok
  have HV := Lib.hid hv
  have HTb := Lib.hid ht
  have f1 : wj1.Fits 40 := ⟨by decide, by decide, by decide, by decide, by decide⟩
  have f2 : wj2.Fits 40 := ⟨by decide, by decide, by decide, by decide, by decide⟩
  have HF1 := Lib.hid f1
  have HF2 := Lib.hid f2
  clear hv ht f1 f2
  go_enter Tryz.func9, Tryz.ntmps9
  go_wp2_with (fail)
  refine (new_ok w 40 (by decide) (by decide)).mono ?_
  rintro e w1 ⟨p, F, rfl, hd, hb1, hlo⟩
  have HD := Lib.hid hd
  have HB := Lib.hid hb1
  have HLo := Lib.hid hlo
  clear hd hb1 hlo
  go_wp2_with (fail)
  obtain ⟨cp1, cp2, cp3⟩ := check_parts (HV.out.e1 ▸ HV.out.p2)
  refine (format_ok w1 HD.out (HTb.out.below HB.out) (lo_far HTb.out HLo.out) 3 30 (by decide) (by decide) aS (by decide) (by decide) HV.out.p1 cp1 cp2).mono ?_
  rintro e w2 hm
  obtain ⟨q, rfl, hu⟩ := up_made hm HLo.out HB.out
  rw [← HV.out.e1, ← HV.out.e2] at hu
  have U2 := Lib.hid (show Up w w2 p q 40 v.x2 wj1 from hu)
  clear hm hu cp1 cp2 cp3 HD
  go_wp2_with (fail)
  refine (up_append U2.out HF1.out bS (by decide) (by have := HV.out.o2; omega) (by decide) HV.out.p3).mono ?_
  rintro e w3 ⟨rfl, hu⟩
  rw [← HV.out.e3] at hu
  have U3 := Lib.hid (show Up w w3 p q 40 v.x3 wj2 from hu)
  clear hu U2
  go_wp2_with (fail)
  refine (up_sync U3.out rfl (by have := HV.out.o3; omega) HV.out.p4).mono ?_
  rintro e w4 ⟨rfl, hu⟩
  rw [← HV.out.e4] at hu
  have U4 := Lib.hid hu
  clear hu U3
  go_wp2_with (fail)
  refine (up_room U4.out HF2.out).mono ?_
  rintro e w5 ⟨rfl, hu⟩
  have U5 := Lib.hid hu
  clear hu U4
  rw [show ((wj2.size : Int) - (wj2.used : Int)) = 11 by decide]
  go_wp2_with (fail)
  refine (up_crash U5.out (by have := HV.out.o4; omega)).mono ?_
  rintro e w6 ⟨rfl, F6, hd6, hlo6, hb6⟩
  rw [← HV.out.e5] at hd6
  have D6 := Lib.hid hd6
  have B6 := Lib.hid hb6
  have L6 := Lib.hid hlo6
  clear hd6 hb6 hlo6 U5
  go_wp2_with (fail)
  refine (open_disk w6 D6.out (HTb.out.below B6.out) (lo_far HTb.out L6.out) HV.out.down (j := wj2) HV.out.disk rfl (by have := HV.out.o5; omega) HV.out.p6).mono ?_
  rintro e w7 hm
  obtain ⟨q7, rfl, hu⟩ := up_made hm L6.out B6.out
  rw [← HV.out.e6] at hu
  have U7 := Lib.hid hu
  clear hm hu D6 L6 B6
  go_wp2_with (fail)
  refine (up_base U7.out (by decide)).mono ?_
  rintro e w8 ⟨rfl, hu⟩
  have U8 := Lib.hid hu
  clear hu U7
  have hq : wj2.base.toList = [97] := by rw [show wj2.base = aS from rfl, ByteArray.toList_eq]; rfl
  go_wp2_with (fail)
  refine (up_records U8.out (by decide) (fun s hs => by rw [List.mem_singleton.1 (show s ∈ [bS] from hs)]; decide)).mono ?_
  rintro e w9 ⟨g, c, rfl, hsn, hu, hg⟩
  have U9 := Lib.hid hu
  have hb := (Below.refl w9.heap.size w9).alloc (Nat.le_refl _) (.cells #[.string ⟨#[98]⟩] 9)
  have S9 := Lib.hid (hsn.below hb)
  have hnew : Seen (w9.alloc (.cells #[.string ⟨#[98]⟩] 9)) (some ⟨w9.heap.size, 0, none⟩) [bS] := fun i s hi => by
    cases i with
    | zero => simp at hi; subst hi; exact ⟨_, _, rfl, (Blk.new w9 9 #[.string ⟨#[98]⟩]).cell 0⟩
    | succ i => simp at hi
  have N9 := Lib.hid hnew
  have B9 := Lib.hid (U9.out.below.alloc U9.out.below.size (.cells #[.string ⟨#[98]⟩] 9))
  clear hsn hu hg hb hnew U8
  go_wp2_with (fail)
  refine (texts_any _ (some ⟨g, 0, none⟩) (some ⟨w9.heap.size, 0, none⟩) c 1 wj2.recs [bS] S9.out N9.out (by decide)).mono ?_
  rintro e w10 ⟨rfl, hb⟩
  have B10 := Lib.hid (B9.out.trans (hb.mono B9.out.size))
  clear hb
  rw [show decide (wj2.recs = [bS]) = true from decide_eq_true rfl]
  go_wp2_with (fail)
  go_ret
  exact ⟨rfl, B10.out⟩
end Go.Proofs.YtgdaihembmcamaaGreatDoor
