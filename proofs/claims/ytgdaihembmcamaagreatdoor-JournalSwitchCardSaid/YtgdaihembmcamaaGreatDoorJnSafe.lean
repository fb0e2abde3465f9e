/- JournalSafe: what was synced stays, whatever of what came behind is lost, kept or torn. -/
import Derived.Test.YtgdaihembmcamaaGreatDoorJnF
namespace Go.Proofs.YtgdaihembmcamaaGreatDoor
open Go.RowKit
def baseS : ByteArray := ⟨#[98, 97, 115, 101]⟩
/-- The journal with the first i records of l. -/
structure SafeJ (l : List ByteArray) (i : Nat) (j : Jn) : Prop where
  fr : j.fr = 0
  se : j.se = 200
  half : j.half ≤ 1
  base : j.base = baseS
  recs : j.recs = l.take i
  used : j.used = usedS (baseS :: l.take i)
  fit : j.unfit = false
/-- A state that may stand behind a crash: the first c records, no fewer than were synced. -/
def SafeC (l : List ByteArray) (k i : Nat) (s : Jn) : Prop := ∃ c, k ≤ c ∧ c ≤ i ∧ SafeJ l c s
/-- On the way: i records were added; if k of them were synced, what a crash leaves. -/
def SAt (w0 : World) (p q : Nat) (l : List ByteArray) (k i B : Nat) (done : Prop) (wr : World) : Prop :=
  ∃ x j, Up w0 wr p q 200 x j ∧ SafeJ l i j ∧ Rest x 200 j ∧ x.armed = false ∧ x.down = false ∧ x.ops ≤ B ∧ j.num ≤ B ∧ (done → k ≤ i ∧ Crashes x 200 (SafeC l k i))
theorem safe_used {l : List ByteArray} {i : Nat} (h : ∀ s ∈ l.take i, s.size ≤ 2000) (_hi : i ≤ 12) : usedS (baseS :: l.take i) ≤ 1 + i * 5 := by
  rw [usedS_cons]
  have h1 : secF baseS.size = 1 := rfl
  have key : ∀ ts : List ByteArray, (∀ s ∈ ts, s.size ≤ 2000) → usedS ts ≤ ts.length * 5 := by
    intro ts
    induction ts with
    | nil => intro _; exact Nat.le_refl _
    | cons t ts ih =>
      intro hh
      have h2 := hh t (List.mem_cons_self ..)
      have h3 := ih fun s hs => hh s (List.mem_cons_of_mem _ hs)
      have h4 : secF t.size ≤ 5 := by unfold secF; omega
      rw [usedS_cons, List.length_cons, Nat.add_mul]
      omega
  have h5 := key _ h
  have h6 : (l.take i).length ≤ i := by rw [List.length_take]; omega
  have h7 : (l.take i).length * 5 ≤ i * 5 := Nat.mul_le_mul_right _ h6
  omega
theorem safe_more {l : List ByteArray} {i : Nat} {j : Jn} {t : ByteArray} (h : SafeJ l i j) (ht : l[i]? = some t) : SafeJ l (i + 1) (j.more t) := by
  have e : l.take (i + 1) = l.take i ++ [t] := by rw [List.take_add_one, ht]; rfl
  refine ⟨h.fr, h.se, h.half, h.base, ?_, ?_, h.fit⟩
  · show j.recs ++ [t] = _
    rw [h.recs, e]
  · show j.used + secF t.size = _
    rw [h.used, e, ← List.cons_append, usedS_snoc]
theorem safe_why {l : List ByteArray} {i : Nat} {j : Jn} {t : ByteArray} (h : SafeJ l i j) (hl : ∀ s ∈ l.take i, s.size ≤ 2000) (hi : i ≤ 12) (ht : t.size ≤ 2000) : j.why t j.room = 0 ∧ j.used + secF t.size ≤ j.size := by
  have h1 := safe_used hl hi
  have h2 : secF t.size ≤ 5 := by unfold secF; omega
  have h3 : hsz 200 = 98 := rfl
  have h4 : j.size = 98 := by unfold Jn.size; rw [h.se, h3]
  have h5 := h.used
  refine ⟨?_, by omega⟩
  unfold Jn.why
  rw [if_neg (by simp [h.fit]), if_neg (by omega), if_neg]
  unfold Jn.room
  omega
theorem under_crash {x : St} {n : Nat} {j a : Jn} (h : Under x n j a) : Crashes x n (fun i => i = j ∨ i = a) := by
  intro keep
  obtain ⟨h0, h1, h2, hp, _⟩ := h
  rcases two_tear hp (.inl ⟨h1, h2⟩) (hs := x.held) (fun w hw => by rw [h0] at hw; exact .inr (List.mem_singleton.1 hw)) keep x.held.length with ⟨h3, _⟩ | h3
  · exact ⟨a, .inr rfl, h3⟩
  · exact ⟨j, .inl rfl, h3⟩
theorem still_crash {x : St} {n : Nat} {j : Jn} (h0 : x.held = []) (h : Disk x.safe n j) : Crashes x n (fun i => i = j) := fun keep => ⟨j, rfl, by unfold St.crash; rw [h0]; exact h⟩
theorem crashes_mono {x : St} {n : Nat} {P Q : Jn → Prop} (h : Crashes x n P) (hq : ∀ i, P i → Q i) : Crashes x n Q := fun keep => by
  obtain ⟨j, hp, hd⟩ := h keep
  exact ⟨j, hq j hp, hd⟩
theorem sat_append {w0 wr : World} {p q k i B : Nat} {l : List ByteArray} {done : Prop} {t : ByteArray} (h : SAt w0 p q l k i B done wr) (ht : l[i]? = some t) (hl : ∀ s ∈ l.take i, s.size ≤ 2000) (hi : i ≤ 12) (hts : t.size ≤ 2000) (hB : B ≤ 1000000000) :
    Calls Tryz.prog 17 #[.pointer (some ⟨q, 0, none⟩), .string t] wr fun e w' => e = .returned (.int .i64 0) ∧ SAt w0 p q l k (i + 1) (B + 1000) done w' := by
  obtain ⟨x, j, hu, hj, hr, ha, hd, ho, hn, hc⟩ := h
  obtain ⟨w1, w2⟩ := safe_why hj hl hi hts
  obtain ⟨e1, e2, e3⟩ := free_enter ha hd j t j.half j.used (j.recs.length + 1)
  have e4 := enter_ops j x t j.half j.used (j.recs.length + 1)
  have e5 : secF t.size ≤ 5 := by unfold secF; omega
  obtain ⟨m1, m2, _⟩ := (append_math hr (t := t) (by omega) w2 (by omega)).1 e1
  refine (up_append hu (rest_sound hr).fits t w1 (by omega) (by omega) e1).mono ?_
  rintro e w' ⟨h1, h2⟩
  have hm := safe_more hj ht
  refine ⟨h1, _, _, h2, hm, m1, e2, e3, by omega, by show j.num + 1 ≤ _; omega, fun hdn => ⟨Nat.le_succ_of_le (hc hdn).1, crashes_mono (under_crash m2) fun s hs => ?_⟩⟩
  rcases hs with rfl | rfl
  · exact ⟨i + 1, Nat.le_succ_of_le (hc hdn).1, Nat.le_refl _, hm⟩
  · exact ⟨i, (hc hdn).1, Nat.le_succ _, hj⟩
theorem sat_sync {w0 wr : World} {p q i B : Nat} {l : List ByteArray} {done : Prop} (h : SAt w0 p q l i i B done wr) (hB : B ≤ 1000000000) :
    Calls Tryz.prog 21 #[.pointer (some ⟨q, 0, none⟩)] wr fun e w' => e = .returned (.int .i64 0) ∧ SAt w0 p q l i i (B + 1000) True w' := by
  obtain ⟨x, j, hu, hj, hr, ha, hd, ho, hn, _⟩ := h
  obtain ⟨f1, f2, f3⟩ := free_flsh ha hd
  obtain ⟨s1, s2, _, _⟩ := (sync_math hr).1 f1
  have e4 := flsh_ops x
  refine (up_sync hu hj.fit (by omega) f1).mono ?_
  rintro e w' ⟨h1, h2⟩
  exact ⟨h1, _, _, h2, hj, .inl ⟨s1, s2⟩, f2, f3, by omega, by omega, fun _ => ⟨Nat.le_refl _, crashes_mono (still_crash s1 s2) fun s hs => by subst hs; exact ⟨i, Nat.le_refl _, Nat.le_refl _, hj⟩⟩⟩
theorem sat_format {w0 w : World} {F : Nat → Prop} {p k : Nat} {l : List ByteArray} (h : Dv w F p 200 (St.new 200)) (ht : Tab w) (h0 : Tab w0) (hlo : ∀ k, F k → w0.heap.size ≤ k) (hb : Below w0.heap.size w0 w) :
    Calls Tryz.prog 14 #[.pointer (some ⟨p, 0, none⟩), .int .i64 ((0 : Nat) : Int), .int .i64 ((200 : Nat) : Int), .string baseS] w fun e w' => ∃ q, e = .returned (.tuple #[.pointer (some ⟨q, 0, none⟩), .int .i64 0]) ∧ SAt w0 p q l k 0 1000 False w' := by
  have hg : (St.new 200).Good 200 := good_new (by decide) (by decide)
  obtain ⟨p1, a1, d1⟩ := free_put (x := St.new 200) rfl rfl 0 4 zero4
  obtain ⟨p2, a2, d2⟩ := free_check a1 d1 (Jn.blank 0 200) baseS
  obtain ⟨h2, k2, _, _⟩ := format_math (n := 200) (fr := 0) (se := 200) (t := baseS) hg (by decide) (by decide) (by decide) (by decide) p1 p2
  obtain ⟨c1, c2, c3⟩ := check_parts p2
  have q1 := put_ops (St.new 200) 0 4 zero4
  have q0 : (St.new 200).ops = 0 := rfl
  have q3 : secF baseS.size = 1 := rfl
  have q2 : ((Jn.blank 0 200).check ((St.new 200).put 0 zero4 4).1 baseS).1.ops ≤ ((St.new 200).put 0 zero4 4).1.ops + 4 := by
    have e1 := enter_ops (Jn.blank 0 200) ((St.new 200).put 0 zero4 4).1 baseS (1 - (Jn.blank 0 200).half) 0 0
    rw [c3]
    have e2 := flsh_ops ((Jn.blank 0 200).enter ((St.new 200).put 0 zero4 4).1 baseS (1 - (Jn.blank 0 200).half) 0 0).1
    omega
  refine (format_ok w h ht (lo_far h0 hlo) 0 200 (by decide) (by decide) baseS (by rw [q0]; omega) (by decide) p1 c1 c2).mono ?_
  rintro e w2 hm
  obtain ⟨q, rfl, hu⟩ := up_made hm hlo hb
  exact ⟨q, rfl, _, _, hu, ⟨rfl, rfl, Nat.le_refl 1, rfl, by simp [Jn.swap], by show secF baseS.size = _; rw [usedS_cons, List.take_zero, usedS_nil]; rfl, rfl⟩, .inl ⟨h2, k2⟩, a2, d2, by omega, by show 0 + 1 ≤ 1000; omega, fun hf => hf.elim⟩
theorem sat_mono {w0 wr : World} {p q k i B C : Nat} {l : List ByteArray} {P Q : Prop} (h : SAt w0 p q l k i B P wr) (hb : B ≤ C) (hq : Q → P) : SAt w0 p q l k i C Q wr := by
  obtain ⟨x, j, hu, hj, hr, ha, hd, ho, hn, hc⟩ := h
  exact ⟨x, j, hu, hj, hr, ha, hd, Nat.le_trans ho hb, Nat.le_trans hn hb, fun h => hc (hq h)⟩
theorem sat_below {w0 wr : World} {p q k i B : Nat} {l : List ByteArray} {P : Prop} (h : SAt w0 p q l k i B P wr) : Below w0.heap.size w0 wr := by
  obtain ⟨x, j, hu, _⟩ := h
  exact hu.below
def LAt (w0 : World) (p q : Nat) (l : List ByteArray) (k : Nat) (c : Value) (wr : World) : Prop :=
  ∃ i : Nat, c = .int .i64 (i : Int) ∧ i ≤ l.length + 1 ∧ SAt w0 p q l k (min i l.length) (1000 + i * 3000) (k < i) wr ∧ ∀ s ∈ l.take (min i l.length), s.size ≤ 2000
theorem own_void (w : World) : (w.alloc (.cells #[] 3)).ownsRow w.heap.size 3 1 (.slice (some ⟨w.heap.size, 0, none⟩) 0 0) 0 [] :=
  World.ownsRow_lit w #[] 0 (Nat.le_refl _) (Nat.zero_le _) rfl
theorem below_void {w w' : World} (h : (w.alloc (.cells #[] 3)).grownBy w' (some w.heap.size)) : Below w.heap.size w w' := by
  have b := (Below.refl w.heap.size w).alloc (Nat.le_refl _) (.cells #[] 3)
  exact ⟨h.os.trans b.os, h.tape.trans b.tape, h.output.trans b.output, Nat.le_trans b.size h.size, fun i hi => (h.block i (Nat.lt_of_lt_of_le hi b.size) (fun e => by have := Option.some.inj e; omega)).trans (b.block i hi)⟩
theorem up_crash_ks {w0 w w' : World} {p q n : Nat} {x : St} {j : Jn} (h : Up w0 w p q n x j) (hb : Below w.heap.size w w') (hx : x.ops ≤ 100000000000) (A : Option Addr) (c : Nat) (ks : List Int) (hks : Nums w' A ks) (hoff : 0 < ks.length → ∀ a, A = some a → w.heap.size ≤ a.block) (hlen : ks.length ≤ maxLen) :
    Calls Tryz.prog 23 #[.pointer (some ⟨p, 0, none⟩), .slice A ks.length c] w' fun e w'' => e = .returned (.tuple #[]) ∧ ∃ F, Dv w'' F p n (x.crash ks) ∧ (∀ k, F k → w0.heap.size ≤ k) ∧ Below w0.heap.size w0 w'' := by
  obtain ⟨S, hj, hs⟩ := h.jd
  obtain ⟨F, G, hF, _, _, hs1, _⟩ := (hj.below hb).both
  refine (crash_any w' hF (by omega) A c ks hks (fun hn a ha hf => ?_) hlen).mono ?_
  · have h1 := hj.lt _ (hs1 _ hf)
    have h2 := hoff hn a ha
    omega
  · rintro e w'' ⟨h1, F', hv, ho, hg⟩
    have hlo : ∀ k, F k → w0.heap.size ≤ k := fun k hk => hs k (hs1 k hk)
    exact ⟨h1, F', hv, grew_lo hg hlo (h.below.trans (hb.mono h.below.size)).size, below_go (h.below.trans (hb.mono h.below.size)) ho hlo⟩
theorem rest_long {l : List ByteArray} {i n : Nat} {st : Jn} {L : List ByteArray} (_h : SafeJ l i st) (hd : Disk L n st) : ∀ s ∈ st.recs, s.size ≤ 65536 := fun s hs => hd.sound.long s (List.mem_cons_of_mem _ hs)
theorem safe_long (A B : Option Addr) (c c2 : Nat) (l : List ByteArray) (n : Int) (ks : List Int) (w : World) (ht : Tab w) (h : 12 < l.length) :
    Calls Tryz.prog 4 #[.slice A l.length c, .int .i64 n, .slice B ks.length c2] w fun e w' => e = .returned (.bool true) ∧ Below w.heap.size w w' := by
  have hi : (12 : Int) < l.length := by omega
  have HW := Lib.hid (wakes_any w ht)
  clear h ht
  go_enter Tryz.func4, Tryz.ntmps4
  go_wp2_with (fail)
  refine HW.out.mono ?_; rintro e w1 ⟨rfl, hb1⟩
  have HB := Lib.hid hb1; clear hb1
  go_wp2_with (fail)
  go_ret
  exact ⟨rfl, HB.out⟩
theorem take_next {l : List ByteArray} {i : Nat} {t : ByteArray} (ht : l[i]? = some t) (h : ∀ s ∈ l.take i, s.size ≤ 2000) (hs : t.size ≤ 2000) : ∀ s ∈ l.take (i + 1), s.size ≤ 2000 := fun s hm => by
  rw [List.take_add_one, ht] at hm
  rcases List.mem_append.1 hm with hm | hm
  · exact h s hm
  · have : s = t := by simpa using hm
    rw [this]; exact hs
theorem seen_take {w : World} {A : Option Addr} {l : List ByteArray} (h : Seen w A l) (c : Nat) : Seen w A (l.take c) := fun i s hi => h i s (by
  rw [List.getElem?_take] at hi
  split at hi
  · exact hi
  · cases hi)
set_option maxRecDepth 100000 in
set_option maxHeartbeats 3200000 in
theorem safe_in (A B : Option Addr) (c c2 : Nat) (l : List ByteArray) (n : Int) (ks : List Int) (w : World) (ht : Tab w) (h : ¬ 12 < l.length) (hl : Seen w A l) (hsz : ∀ s ∈ l, s.size ≤ 9223372036854775807) (hk : Nums w B ks) (hkm : ks.length * 8 ≤ 140737488355328) (hc : l.length ≤ c) (hA : A = none → c = 0) :
    Calls Tryz.prog 4 #[.slice A l.length c, .int .i64 n, .slice B ks.length c2] w fun e w' => e = .returned (.bool true) ∧ Below w.heap.size w w' := by
  have hi : ¬ (12 : Int) < l.length := by omega
  have HTb := Lib.hid ht
  have HM := Lib.hid (mod_any n (l.length + 1) (by omega) (by omega))
  obtain ⟨k, hkk⟩ : ∃ k : Nat, n % ((l.length + 1 : Nat) : Int) = k := ⟨(n % ((l.length + 1 : Nat) : Int)).toNat, by have := Int.emod_nonneg n (show ((l.length + 1 : Nat) : Int) ≠ 0 by omega); omega⟩
  have hkl : k ≤ l.length := by have := Int.emod_lt_of_pos n (show (0 : Int) < ((l.length + 1 : Nat) : Int) by omega); omega
  rw [hkk] at HM
  have hm12 : l.length ≤ 12 := by omega
  have hw1 : IntKind.i64.wrap ((l.length : Int) + 1) = (l.length : Int) + 1 := i64w _ (by omega)
  have hcast : ((l.length + 1 : Nat) : Int) = (l.length : Int) + 1 := by omega
  rw [hcast] at HM
  have HL := Lib.hid hl
  have HSZ := Lib.hid hsz
  have HK := Lib.hid hk
  have HKM := Lib.hid hkm
  have HC := Lib.hid hc
  have HA := Lib.hid hA
  clear ht h hkk hcast hl hsz hk hkm hc hA
  go_enter Tryz.func4, Tryz.ntmps4
  go_wp2_with (fail)
  refine (new_ok w 200 (by decide) (by decide)).mono ?_
  rintro e w2 ⟨p, F, rfl, hd, hb2, hlo⟩
  have HD := Lib.hid hd
  have HB2 := Lib.hid hb2
  have HLo := Lib.hid hlo
  clear hd hb2 hlo
  go_wp2_with (fail)
  refine (sat_format (k := k) (l := l) HD.out (HTb.out.below HB2.out) HTb.out HLo.out HB2.out).mono ?_
  rintro e w3 ⟨q, rfl, hf⟩
  have F3 := Lib.hid hf
  clear hf HD HB2 HLo
  go_wp2_with (fail)
  refine (HM.out _).mono ?_; rintro e w4 ⟨rfl, rfl⟩
  go_wp2_with (fail)
  go_loopw [12] (fun c wr => LAt w p q l k c wr) (fun c _ => l.length + 1 - (intOf c).toNat)
  case atStart => exact ⟨0, rfl, Nat.zero_le _, by rw [Nat.zero_min]; exact sat_mono F3.out (by omega) (fun h => absurd h (Nat.not_lt_zero _)), fun s hs => by rw [Nat.zero_min, List.take_zero] at hs; cases hs⟩
  case round =>
    obtain ⟨i, rfl, hil, hf, hall⟩ := hrel
    by_cases hlt : i ≤ l.length
    · have hx : (i : Int) ≤ (l.length : Int) := by omega
      rw [Nat.min_eq_left hlt] at hf hall
      have F4 := Lib.hid hf
      have HAL := Lib.hid hall
      clear hf hall
      by_cases hik : i = k
      · subst hik
        go_wp2_with (fail)
        refine (sat_sync F4.out (by omega)).mono ?_
        rintro e w5 ⟨rfl, hf⟩
        have F5 := Lib.hid (sat_mono (C := 2000 + i * 3000) (Q := i ≤ i) hf (by omega) (fun _ => True.intro))
        clear hf F4
        by_cases him : i < l.length
        · obtain ⟨t, hti⟩ : ∃ t, l[i]? = some t := ⟨_, List.getElem?_eq_getElem him⟩
          obtain ⟨b, o, rfl, hct⟩ := HL.out i t hti
          have hbel := sat_below F5.out
          have d1 := (hbel.cell (p := ⟨b, o + i, none⟩) (World.block_lt_of_cell? _ _ hct)).trans hct
          have x1 : (i : Int) < (l.length : Int) := by omega
          have x0 : (0 : Int) ≤ (i : Int) := by omega
          have hmem := HSZ.out t (List.mem_of_getElem? hti)
          have HTI := Lib.hid hti
          have HBE := Lib.hid hbel
          clear hti hct hbel
          by_cases hts : 2000 < t.size
          · have hti2 : (2000 : Int) < t.size := by omega
            go_wp2_with (fail)
            refine (wakes_any _ (HTb.out.below HBE.out)).mono ?_
            rintro e w6 ⟨rfl, hb6⟩
            have B6 := Lib.hid (HBE.out.trans (hb6.mono HBE.out.size))
            clear hb6
            go_wp2_with (fail)
            go_ret
            exact ⟨rfl, B6.out⟩
          · have hti2 : ¬ (2000 : Int) < t.size := by omega
            go_wp2_with (fail)
            refine (sat_append F5.out HTI.out HAL.out (by omega) (by omega) (by omega)).mono ?_
            rintro e w6 ⟨rfl, hf⟩
            have F6 := Lib.hid hf
            clear hf F5
            go_wp2_with (fail)
            go_roundw
            case rel => exact ⟨i + 1, by go_num, by omega, by rw [Nat.min_eq_left (by omega)]; exact sat_mono F6.out (by omega) (fun h => by omega), by rw [Nat.min_eq_left (by omega)]; exact take_next HTI.out HAL.out (by omega)⟩
            case measure => simp [intOf]; omega
        · have x1 : ¬ (i : Int) < (l.length : Int) := by omega
          go_wp2_with (fail)
          go_roundw
          case rel => exact ⟨i + 1, by go_num, by omega, by rw [show min (i + 1) l.length = i by omega]; exact sat_mono F5.out (by omega) (fun h => by omega), by rw [show min (i + 1) l.length = i by omega]; exact HAL.out⟩
          case measure => simp [intOf]; omega
      · have hne : ((i : Int) == (k : Int)) = false := by rw [beq_eq_false_iff_ne]; omega
        have hne2 : ¬ (i : Int) = (k : Int) := by omega
        have F5 := Lib.hid (sat_mono (C := 2000 + i * 3000) (Q := k ≤ i) F4.out (by omega) (fun h => by omega))
        clear F4
        by_cases him : i < l.length
        · obtain ⟨t, hti⟩ : ∃ t, l[i]? = some t := ⟨_, List.getElem?_eq_getElem him⟩
          obtain ⟨b, o, rfl, hct⟩ := HL.out i t hti
          have hbel := sat_below F5.out
          have d1 := (hbel.cell (p := ⟨b, o + i, none⟩) (World.block_lt_of_cell? _ _ hct)).trans hct
          have x1 : (i : Int) < (l.length : Int) := by omega
          have x0 : (0 : Int) ≤ (i : Int) := by omega
          have hmem := HSZ.out t (List.mem_of_getElem? hti)
          have HTI := Lib.hid hti
          have HBE := Lib.hid hbel
          clear hti hct hbel
          by_cases hts : 2000 < t.size
          · have hti2 : (2000 : Int) < t.size := by omega
            go_wp2_with (fail)
            refine (wakes_any _ (HTb.out.below HBE.out)).mono ?_
            rintro e w6 ⟨rfl, hb6⟩
            have B6 := Lib.hid (HBE.out.trans (hb6.mono HBE.out.size))
            clear hb6
            go_wp2_with (fail)
            go_ret
            exact ⟨rfl, B6.out⟩
          · have hti2 : ¬ (2000 : Int) < t.size := by omega
            go_wp2_with (fail)
            refine (sat_append F5.out HTI.out HAL.out (by omega) (by omega) (by omega)).mono ?_
            rintro e w6 ⟨rfl, hf⟩
            have F6 := Lib.hid hf
            clear hf F5
            go_wp2_with (fail)
            go_roundw
            case rel => exact ⟨i + 1, by go_num, by omega, by rw [Nat.min_eq_left (by omega)]; exact sat_mono F6.out (by omega) (fun h => by omega), by rw [Nat.min_eq_left (by omega)]; exact take_next HTI.out HAL.out (by omega)⟩
            case measure => simp [intOf]; omega
        · have x1 : ¬ (i : Int) < (l.length : Int) := by omega
          go_wp2_with (fail)
          go_roundw
          case rel => exact ⟨i + 1, by go_num, by omega, by rw [show min (i + 1) l.length = i by omega]; exact sat_mono F5.out (by omega) (fun h => by omega), by rw [show min (i + 1) l.length = i by omega]; exact HAL.out⟩
          case measure => simp [intOf]; omega
    · obtain rfl : i = l.length + 1 := by omega
      have hx : ¬ ((l.length + 1 : Nat) : Int) ≤ (l.length : Int) := by omega
      rw [show min (l.length + 1) l.length = l.length by omega] at hf
      obtain ⟨x, j, hu, hj, hr, ha, hd, ho, hn, hcr⟩ := hf
      obtain ⟨_, hcr⟩ := hcr (by omega)
      obtain ⟨st, ⟨cc, hcc1, hcc2, hst⟩, hdk⟩ := hcr ks
      have hx2 : ¬ (l.length : Int) + 1 ≤ (l.length : Int) := by omega
      have HU := Lib.hid hu
      have HST := Lib.hid hst
      have HDK := Lib.hid hdk
      have HO := Lib.hid ho
      clear hall hu hr hdk hst hcr
      have hN2 : Nums (wr.alloc (.cells #[] 3)) B ks := (HK.out.below HU.out.below rfl).below ((Below.refl wr.heap.size wr).alloc (Nat.le_refl _) _) rfl
      have HN2 := Lib.hid hN2
      clear hN2
      go_wp2_with (at_builtin; refine wpList_append_nums rfl (.tmp 73) (.tmp 74) rfl wr.heap.size (.slice (some ⟨wr.heap.size, 0, none⟩) 0 0) rfl (own_void wr) B c2 ks rfl HN2.out HKM.out (by simp) ?_; intro A3 c3 w3 hn3 hg3 hb3; have H3 := Lib.hid hn3; have HG3 := Lib.hid hg3; have HB3 := Lib.hid hb3; clear hn3 hg3 hb3)
      refine (up_crash_ks HU.out (below_void HG3.out) (by have := HO.out; omega) A3 c3 ks H3.out HB3.out (by have := HKM.out; unfold maxLen; omega)).mono ?_
      rintro e w6 ⟨rfl, F6, hd6, hlo6, hb6⟩
      have D6 := Lib.hid hd6
      have B6 := Lib.hid hb6
      have L6 := Lib.hid hlo6
      clear hd6 hb6 hlo6 HU
      go_wp2_with (fail)
      have hop := open_disk w6 D6.out (HTb.out.below B6.out) (lo_far HTb.out L6.out) rfl (j := st) HDK.out HST.out.fit (by have := HO.out; rw [crash_ops]; omega) (free_flsh (x := x.crash ks) rfl rfl).1
      rw [HST.out.fr, HST.out.se] at hop
      refine hop.mono ?_
      rintro e w7 hm
      obtain ⟨q7, rfl, hu⟩ := up_made hm L6.out B6.out
      have U7 := Lib.hid hu
      clear hm hu D6 L6 B6 hop
      go_wp2_with (fail)
      refine (up_base U7.out (by rw [HST.out.base]; decide)).mono ?_
      rintro e w8 ⟨rfl, hu⟩
      have U8 := Lib.hid hu
      clear hu U7
      have hq : st.base.toList = [98, 97, 115, 101] := by rw [HST.out.base, ByteArray.toList_eq]; rfl
      go_wp2_with (fail)
      have hccl : (l.take cc).length = cc := by rw [List.length_take]; omega
      have hsl : st.recs.length = cc := by rw [HST.out.recs, hccl]
      refine (up_records U8.out (by omega) (fun s hs => (rest_long HST.out HDK.out s hs))).mono ?_
      rintro e w9 ⟨g, c9, rfl, hsn, hu, hg⟩
      have U9 := Lib.hid hu
      have S9 := Lib.hid hsn
      rw [hsl]
      have y1 : (k : Int) ≤ (cc : Int) := by omega
      have y2 : (cc : Int) ≤ (l.length : Int) := by omega
      have y3 : (cc : Int) ≤ (c : Int) := by have := HC.out; omega
      have y4 : (0 : Int) ≤ (cc : Int) := by omega
      clear hsn hu hg U8
      have NL := Lib.hid (show Seen w9 A (l.take cc) from seen_take (HL.out.below U9.out.below) cc)
      have HR := Lib.hid HST.out.recs
      have T := texts_any w9 (some ⟨g, 0, none⟩) A c9 c st.recs (l.take cc) S9.out NL.out (by omega)
      rw [hsl, hccl, HR.out, decide_eq_true (rfl : l.take cc = l.take cc)] at T
      have HT := Lib.hid T
      clear T
      rcases A with _ | a
      · obtain rfl : c = 0 := HA.out rfl
        obtain rfl : cc = 0 := by omega
        obtain rfl : k = 0 := by omega
        go_wp2_with (fail)
        refine HT.out.mono ?_
        rintro e w10 ⟨rfl, hb⟩
        have B10 := Lib.hid (U9.out.below.trans (hb.mono U9.out.below.size))
        clear hb
        go_wp2_with (fail)
        refine (wakes_any _ (HTb.out.below B10.out)).mono ?_
        rintro e w11 ⟨rfl, hb⟩
        have B11 := Lib.hid (B10.out.trans (hb.mono B10.out.size))
        clear hb
        go_wp2_with (fail)
        go_ret
        exact ⟨rfl, B11.out⟩
      · go_wp2_with (fail)
        refine HT.out.mono ?_
        rintro e w10 ⟨rfl, hb⟩
        have B10 := Lib.hid (U9.out.below.trans (hb.mono U9.out.below.size))
        clear hb
        go_wp2_with (fail)
        refine (wakes_any _ (HTb.out.below B10.out)).mono ?_
        rintro e w11 ⟨rfl, hb⟩
        have B11 := Lib.hid (B10.out.trans (hb.mono B10.out.size))
        clear hb
        go_wp2_with (fail)
        go_ret
        exact ⟨rfl, B11.out⟩
theorem safe_any (A B : Option Addr) (c c2 : Nat) (l : List ByteArray) (n : Int) (ks : List Int) (w : World) (ht : Tab w) (hl : Seen w A l) (hsz : ∀ s ∈ l, s.size ≤ 9223372036854775807) (hk : Nums w B ks) (hkm : ks.length * 8 ≤ 140737488355328) (hc : l.length ≤ c) (hA : A = none → c = 0) :
    Calls Tryz.prog 4 #[.slice A l.length c, .int .i64 n, .slice B ks.length c2] w fun e w' => e = .returned (.bool true) ∧ Below w.heap.size w w' := by
  by_cases h : 12 < l.length
  · exact safe_long A B c c2 l n ks w ht h
  · exact safe_in A B c c2 l n ks w ht h hl hsz hk hkm hc hA
end Go.Proofs.YtgdaihembmcamaaGreatDoor
