/- JournalSwitch: a checkpoint whose device goes down on the way leaves the old base with all its records, or the new one without any. -/
import Derived.Test.YtgdaihembmcamaaGreatDoorJnFull
import Derived.Test.YtgdaihembmcamaaGreatDoorJnSafe
namespace Go.Proofs.YtgdaihembmcamaaGreatDoor
open Go.RowKit
def oldS : ByteArray := ⟨#[111, 108, 100]⟩
/-- The journal with this base and these records. -/
structure SwJ (b : ByteArray) (l : List ByteArray) (j : Jn) : Prop where
  fr : j.fr = 2
  se : j.se = 198
  half : j.half ≤ 1
  base : j.base = b
  recs : j.recs = l
  used : j.used = usedS (b :: l)
  fit : j.unfit = false
theorem sw_used {b : ByteArray} {l : List ByteArray} (hb : b.size ≤ 1500) (h : ∀ s ∈ l, s.size ≤ 1500) : usedS (b :: l) ≤ 3 + l.length * 3 := by
  have key : ∀ ts : List ByteArray, (∀ s ∈ ts, s.size ≤ 1500) → usedS ts ≤ ts.length * 3 := by
    intro ts
    induction ts with
    | nil => intro _; exact Nat.le_refl _
    | cons t ts ih =>
      intro hh
      have h2 := hh t (List.mem_cons_self ..)
      have h3 := ih fun s hs => hh s (List.mem_cons_of_mem _ hs)
      have h4 : secF t.size ≤ 3 := by unfold secF; omega
      rw [usedS_cons, List.length_cons, Nat.add_mul]
      omega
  have h1 : secF b.size ≤ 3 := by unfold secF; omega
  rw [usedS_cons]
  have h5 := key _ h
  omega
theorem sw_size {b : ByteArray} {l : List ByteArray} {j : Jn} (h : SwJ b l j) : j.size = 97 := by
  have h3 : hsz 198 = 97 := rfl
  unfold Jn.size; rw [h.se, h3]
theorem sw_why {b : ByteArray} {l : List ByteArray} {j : Jn} {t : ByteArray} (h : SwJ b l j) (hb : b.size ≤ 1500) (hl : ∀ s ∈ l, s.size ≤ 1500) (hi : l.length ≤ 12) (ht : t.size ≤ 1500) : j.why t j.room = 0 ∧ j.used + secF t.size ≤ j.size := by
  have h1 := sw_used hb hl
  have h2 : secF t.size ≤ 3 := by unfold secF; omega
  have h4 := sw_size h
  have h5 := h.used
  refine ⟨?_, by omega⟩
  unfold Jn.why
  rw [if_neg (by simp [h.fit]), if_neg (by omega), if_neg]
  unfold Jn.room
  omega
theorem sw_whyc {b : ByteArray} {l : List ByteArray} {j : Jn} {t : ByteArray} (h : SwJ b l j) (ht : t.size ≤ 1500) : j.why t j.size = 0 ∧ secF t.size ≤ j.size := by
  have h2 : secF t.size ≤ 3 := by unfold secF; omega
  have h4 := sw_size h
  refine ⟨?_, by omega⟩
  unfold Jn.why
  rw [if_neg (by simp [h.fit]), if_neg (by omega), if_neg]
  omega
theorem sw_more {b : ByteArray} {l : List ByteArray} {j : Jn} {t : ByteArray} (h : SwJ b l j) : SwJ b (l ++ [t]) (j.more t) :=
  ⟨h.fr, h.se, h.half, h.base, by show j.recs ++ [t] = _; rw [h.recs], by show j.used + secF t.size = _; rw [h.used, ← List.cons_append, usedS_snoc], h.fit⟩
theorem sw_swap {b : ByteArray} {l : List ByteArray} {j : Jn} {t : ByteArray} (h : SwJ b l j) : SwJ t [] (j.swap t) :=
  ⟨h.fr, h.se, by show 1 - j.half ≤ 1; omega, rfl, rfl, by show secF t.size = _; rw [usedS_cons, usedS_nil]; rfl, rfl⟩
/-- On the way: no device went down. -/
def WAt (w0 : World) (p q : Nat) (b : ByteArray) (l : List ByteArray) (B : Nat) (wr : World) : Prop :=
  ∃ x j, Up w0 wr p q 200 x j ∧ SwJ b l j ∧ Rest x 200 j ∧ x.armed = false ∧ x.down = false ∧ x.ops ≤ B ∧ j.num ≤ B
theorem wat_mono {w0 wr : World} {p q B C : Nat} {b : ByteArray} {l : List ByteArray} (h : WAt w0 p q b l B wr) (hb : B ≤ C) : WAt w0 p q b l C wr := by
  obtain ⟨x, j, hu, hj, hr, ha, hd, ho, hn⟩ := h
  exact ⟨x, j, hu, hj, hr, ha, hd, Nat.le_trans ho hb, Nat.le_trans hn hb⟩
theorem wat_below {w0 wr : World} {p q B : Nat} {b : ByteArray} {l : List ByteArray} (h : WAt w0 p q b l B wr) : Below w0.heap.size w0 wr := by
  obtain ⟨x, j, hu, _⟩ := h
  exact hu.below
theorem wat_append {w0 wr : World} {p q B : Nat} {b : ByteArray} {l : List ByteArray} {t : ByteArray} (h : WAt w0 p q b l B wr) (hb : b.size ≤ 1500) (hl : ∀ s ∈ l, s.size ≤ 1500) (hi : l.length ≤ 12) (hts : t.size ≤ 1500) (hB : B ≤ 1000000000) :
    Calls Tryz.prog 17 #[.pointer (some ⟨q, 0, none⟩), .string t] wr fun e w' => e = .returned (.int .i64 0) ∧ WAt w0 p q b (l ++ [t]) (B + 1000) w' := by
  obtain ⟨x, j, hu, hj, hr, ha, hd, ho, hn⟩ := h
  obtain ⟨w1, w2⟩ := sw_why hj hb hl hi hts
  obtain ⟨e1, e2, e3⟩ := free_enter ha hd j t j.half j.used (j.recs.length + 1)
  have e4 := enter_ops j x t j.half j.used (j.recs.length + 1)
  have e5 : secF t.size ≤ 3 := by unfold secF; omega
  obtain ⟨m1, m2, _⟩ := (append_math hr (t := t) (by omega) w2 (by omega)).1 e1
  refine (up_append hu (rest_sound hr).fits t w1 (by omega) (by omega) e1).mono ?_
  rintro e w' ⟨h1, h2⟩
  exact ⟨h1, _, _, h2, sw_more hj, m1, e2, e3, by omega, by show j.num + 1 ≤ _; omega⟩
/-- Synced, perhaps armed. -/
def WS (w0 : World) (p q : Nat) (b : ByteArray) (l : List ByteArray) (B : Nat) (wr : World) : Prop :=
  ∃ x j, Up w0 wr p q 200 x j ∧ SwJ b l j ∧ x.held = [] ∧ Disk x.safe 200 j ∧ x.ops ≤ B ∧ j.num ≤ B
theorem wat_sync {w0 wr : World} {p q B : Nat} {b : ByteArray} {l : List ByteArray} (h : WAt w0 p q b l B wr) (hB : B ≤ 1000000000) :
    Calls Tryz.prog 21 #[.pointer (some ⟨q, 0, none⟩)] wr fun e w' => e = .returned (.int .i64 0) ∧ WS w0 p q b l (B + 1000) w' := by
  obtain ⟨x, j, hu, hj, hr, ha, hd, ho, hn⟩ := h
  obtain ⟨f1, f2, f3⟩ := free_flsh ha hd
  obtain ⟨s1, s2, _, _⟩ := (sync_math hr).1 f1
  have e4 := flsh_ops x
  refine (up_sync hu hj.fit (by omega) f1).mono ?_
  rintro e w' ⟨h1, h2⟩
  exact ⟨h1, _, _, h2, hj, s1, s2, by omega, by omega⟩
theorem ws_arm {w0 wr : World} {p q B : Nat} {b : ByteArray} {l : List ByteArray} (h : WS w0 p q b l B wr) (k : Int) (hk : k ≤ 9223372036854775807) :
    Calls Tryz.prog 30 #[.pointer (some ⟨p, 0, none⟩), .int .i64 k] wr fun e w' => e = .returned (.tuple #[]) ∧ WS w0 p q b l B w' := by
  obtain ⟨x, j, hu, hj, h0, hdk, ho, hn⟩ := h
  obtain ⟨S, hjd, hs⟩ := hu.jd
  obtain ⟨F, G, hF, hG, hd, hs1, hs2⟩ := hjd.both
  refine (arm_any wr hF k hk).mono ?_
  rintro e w' ⟨h1, h2⟩
  obtain ⟨S', hj', ho', hg⟩ := hjd.turn hG hd hs1 hs2 (DvOut.of h2)
  exact ⟨h1, _, _, ⟨⟨S', hj', grew_lo hg hs hu.below.size⟩, below_go hu.below ho' hs⟩, hj, h0, hdk, ho, hn⟩
/-- What a crash may leave. -/
def WC (w0 : World) (p q B : Nat) (P : Jn → Prop) (wr : World) : Prop := ∃ x j, Up w0 wr p q 200 x j ∧ Crashes x 200 P ∧ x.ops ≤ B
/-- The checkpoint went through. -/
def WK (w0 : World) (p q : Nat) (t : ByteArray) (B : Nat) (wr : World) : Prop := ∃ x j, Up w0 wr p q 200 x j ∧ SwJ t [] j ∧ x.held = [] ∧ Disk x.safe 200 j ∧ x.ops ≤ B
theorem not_under {x : St} {n : Nat} {j i : Jn} (h0 : x.held = []) : ¬ Under x n j i := fun h => by
  have := h.1
  rw [h0] at this
  cases this
theorem ws_check {w0 wr : World} {p q B : Nat} {b : ByteArray} {l : List ByteArray} {t : ByteArray} (h : WS w0 p q b l B wr) (hts : t.size ≤ 1500) (hB : B ≤ 1000000000) :
    Calls Tryz.prog 19 #[.pointer (some ⟨q, 0, none⟩), .string t] wr fun e w' => (e = .returned (.int .i64 0) ∧ WK w0 p q t (B + 1000) w') ∨ (e = .returned (.int .i64 41) ∧ WC w0 p q (B + 1000) (fun i => SwJ b l i ∨ SwJ t [] i) w') := by
  obtain ⟨x, j, hu, hj, h0, hdk, ho, hn⟩ := h
  have hr : Rest x 200 j := .inl ⟨h0, hdk⟩
  obtain ⟨w1, w2⟩ := sw_whyc hj hts
  obtain ⟨m1, m2⟩ := check_math hr (t := t) (by omega) w2 (by omega)
  have e4 := check_ops j x t
  have e5 : secF t.size ≤ 3 := by unfold secF; omega
  have hcr : (j.check x t).2 = false → Crashes (j.check x t).1 200 (fun i => SwJ b l i ∨ SwJ t [] i) := fun h => crashes_mono (m2 h).1 fun i hi => by
    rcases hi with rfl | hi | rfl
    · exact .inl hj
    · exact (not_under h0 hi).elim
    · exact .inr (sw_swap hj)
  cases e1 : (j.check x t).2 with
  | true =>
    obtain ⟨k1, k2, _, _⟩ := m1 e1
    refine (up_check hu (rest_sound hr).fits t w1 (by omega) (by omega) e1).mono ?_
    rintro e w' ⟨h1, h2⟩
    exact .inl ⟨h1, _, _, h2, sw_swap hj, k1, k2, by omega⟩
  | false =>
    obtain ⟨S, hjd, hs⟩ := hu.jd
    cases e2 : (j.enter x t (1 - j.half) 0 0).2 with
    | false =>
      refine (check_down wr hjd (rest_sound hr).fits t w1 (by omega) (by omega) e2).mono ?_
      rintro e w' ⟨h1, S', hj', ho', hg⟩
      have hcr' := hcr e1
      exact .inr ⟨h1, _, _, ⟨⟨S', hj', grew_lo hg hs hu.below.size⟩, below_go hu.below ho' hs⟩, hcr', by omega⟩
    | true =>
      have e3 : j.check x t = (j.enter x t (1 - j.half) 0 0).1.flsh := by unfold Jn.check; rw [if_pos e2]
      have hcr' := hcr e1
      refine (check_down2 wr hjd (rest_sound hr).fits t w1 (by omega) (by omega) e2 (e3 ▸ e1)).mono ?_
      rintro e w' ⟨h1, S', hj', ho', hg⟩
      exact .inr ⟨h1, _, _, ⟨⟨S', hj', grew_lo hg hs hu.below.size⟩, below_go hu.below ho' hs⟩, hcr', by omega⟩
theorem wk_sync {w0 wr : World} {p q B : Nat} {t : ByteArray} (h : WK w0 p q t B wr) (hB : B ≤ 1000000000) :
    Calls Tryz.prog 21 #[.pointer (some ⟨q, 0, none⟩)] wr fun e w' => ∃ r : Int, e = .returned (.int .i64 r) ∧ WC w0 p q (B + 1000) (fun i => SwJ t [] i) w' := by
  obtain ⟨x, j, hu, hj, h0, hdk, ho⟩ := h
  obtain ⟨S, hjd, hs⟩ := hu.jd
  have e4 := flsh_ops x
  obtain ⟨m1, m2⟩ := sync_math (.inl ⟨h0, hdk⟩ : Rest x 200 j)
  refine (sync_fit wr hjd hj.fit (by omega)).mono ?_
  rintro e w' ⟨h1, S', hj', ho', hg⟩
  refine ⟨_, h1, _, _, ⟨⟨S', hj', grew_lo hg hs hu.below.size⟩, below_go hu.below ho' hs⟩, ?_, by omega⟩
  cases e1 : x.flsh.2 with
  | true =>
    obtain ⟨k1, k2, _⟩ := m1 e1
    exact crashes_mono (still_crash k1 k2) fun i hi => by subst hi; exact hj
  | false =>
    exact crashes_mono (m2 e1).1 fun i hi => by
      rcases hi with rfl | hi
      · exact hj
      · obtain ⟨_, g2, _⟩ := flsh_no e1
        exact (not_under h0 hi).elim
theorem switch_long (A B : Option Addr) (c c2 : Nat) (l : List ByteArray) (n : Int) (ks : List Int) (w : World) (ht : Tab w) (h : 8 < l.length) :
    Calls Tryz.prog 6 #[.slice A l.length c, .int .i64 n, .slice B ks.length c2] w fun e w' => e = .returned (.bool true) ∧ Below w.heap.size w w' := by
  have hi : (8 : Int) < l.length := by omega
  have hi1 : ¬ (l.length : Int) < 1 := by omega
  have HW := Lib.hid (wakes_any w ht)
  clear h ht
  go_enter Tryz.func6, Tryz.ntmps6
  go_wp2_with (fail)
  refine HW.out.mono ?_; rintro e w1 ⟨rfl, hb1⟩
  have HB := Lib.hid hb1; clear hb1
  go_wp2_with (fail)
  go_ret
  exact ⟨rfl, HB.out⟩
theorem switch_none (A B : Option Addr) (c c2 : Nat) (n : Int) (ks : List Int) (w : World) (ht : Tab w) :
    Calls Tryz.prog 6 #[.slice A 0 c, .int .i64 n, .slice B ks.length c2] w fun e w' => e = .returned (.bool true) ∧ Below w.heap.size w w' := by
  have HW := Lib.hid (wakes_any w ht)
  clear ht
  go_enter Tryz.func6, Tryz.ntmps6
  go_wp2_with (fail)
  refine HW.out.mono ?_; rintro e w1 ⟨rfl, hb1⟩
  have HB := Lib.hid hb1; clear hb1
  go_wp2_with (fail)
  go_ret
  exact ⟨rfl, HB.out⟩
theorem wat_format {w0 w : World} {F : Nat → Prop} {p : Nat} (h : Dv w F p 200 (St.new 200)) (ht : Tab w) (h0 : Tab w0) (hlo : ∀ k, F k → w0.heap.size ≤ k) (hb : Below w0.heap.size w0 w) :
    Calls Tryz.prog 14 #[.pointer (some ⟨p, 0, none⟩), .int .i64 ((2 : Nat) : Int), .int .i64 ((198 : Nat) : Int), .string oldS] w fun e w' => ∃ q, e = .returned (.tuple #[.pointer (some ⟨q, 0, none⟩), .int .i64 0]) ∧ WAt w0 p q oldS [] 1000 w' := by
  have hg : (St.new 200).Good 200 := good_new (by decide) (by decide)
  obtain ⟨p1, a1, d1⟩ := free_put (x := St.new 200) rfl rfl 2 4 zero4
  obtain ⟨p2, a2, d2⟩ := free_check a1 d1 (Jn.blank 2 198) oldS
  obtain ⟨h2, k2, _, _⟩ := format_math (n := 200) (fr := 2) (se := 198) (t := oldS) hg (by decide) (by decide) (by decide) (by decide) p1 p2
  obtain ⟨c1, c2, c3⟩ := check_parts p2
  have q1 := put_ops (St.new 200) 2 4 zero4
  have q0 : (St.new 200).ops = 0 := rfl
  have q3 : secF oldS.size = 1 := rfl
  have q2 := check_ops (Jn.blank 2 198) ((St.new 200).put 2 zero4 4).1 oldS
  refine (format_ok w h ht (lo_far h0 hlo) 2 198 (by decide) (by decide) oldS (by rw [q0]; omega) (by decide) p1 c1 c2).mono ?_
  rintro e w2 hm
  obtain ⟨q, rfl, hu⟩ := up_made hm hlo hb
  exact ⟨q, rfl, _, _, hu, ⟨rfl, rfl, Nat.le_refl 1, rfl, by simp [Jn.swap], by show secF oldS.size = _; rw [usedS_cons, usedS_nil]; rfl, rfl⟩, .inl ⟨h2, k2⟩, a2, d2, by omega, by show 0 + 1 ≤ 1000; omega⟩
def SLAt (w0 : World) (p q : Nat) (ts : List ByteArray) (c : Value) (wr : World) : Prop :=
  ∃ i : Nat, c = .int .i64 ((i : Int) + 1) ∧ i ≤ ts.length ∧ WAt w0 p q oldS (ts.take i) (1000 + i * 3000) wr ∧ ∀ s ∈ ts.take i, s.size ≤ 1500
theorem take_next' {l : List ByteArray} {i : Nat} {t : ByteArray} (ht : l[i]? = some t) (h : ∀ s ∈ l.take i, s.size ≤ 1500) (hs : t.size ≤ 1500) : ∀ s ∈ l.take (i + 1), s.size ≤ 1500 := fun s hm => by
  rw [List.take_add_one, ht] at hm
  rcases List.mem_append.1 hm with hm | hm
  · exact h s hm
  · have : s = t := by simpa using hm
    rw [this]; exact hs
theorem snoc_take {l : List ByteArray} {i : Nat} {t : ByteArray} (ht : l[i]? = some t) : l.take i ++ [t] = l.take (i + 1) := by rw [List.take_add_one, ht]; rfl
theorem ws_below {w0 wr : World} {p q B : Nat} {b : ByteArray} {l : List ByteArray} (h : WS w0 p q b l B wr) : Below w0.heap.size w0 wr := by
  obtain ⟨x, j, hu, _⟩ := h
  exact hu.below
theorem texts_any' (w : World) (A B : Option Addr) (ca cb : Nat) (xs ys : List ByteArray) {bt : Bool} (hbt : decide (xs = ys) = bt) (ha : Seen w A xs) (hb : Seen w B ys) (hx : xs.length ≤ 140737488355328) :
    Calls Tryz.prog 36 #[.slice A xs.length ca, .slice B ys.length cb] w fun e w' => e = .returned (.bool bt) ∧ Below w.heap.size w w' := by
  subst hbt; exact texts_any w A B ca cb xs ys ha hb hx
theorem records_len {l : List ByteArray} {be : Bool} (h : decide (l = []) = be) : ((l.length : Int) == 0) = be := by
  subst h
  cases l with
  | nil => rfl
  | cons a l => rw [decide_eq_false (by simp), beq_eq_false_iff_ne, List.length_cons]; omega
theorem up_base' {w0 w : World} {p q n : Nat} {x : St} {j : Jn} {bs : ByteArray} (h : Up w0 w p q n x j) (hb : j.base = bs) (ht : bs.size ≤ 65536) :
    Calls Tryz.prog 34 #[.pointer (some ⟨q, 0, none⟩)] w fun e w' => e = .returned (.string bs) ∧ Up w0 w' p q n x j := by
  subst hb; exact up_base h ht
theorem up_records' {w0 w : World} {p q n : Nat} {x : St} {j : Jn} {rs : List ByteArray} (h : Up w0 w p q n x j) (hr : j.recs = rs) (hl : rs.length ≤ 8192) (ht : ∀ s ∈ rs, s.size ≤ 65536) :
    Calls Tryz.prog 35 #[.pointer (some ⟨q, 0, none⟩)] w fun e w' => ∃ g c, e = .returned (.slice (some ⟨g, 0, none⟩) rs.length c) ∧ Seen w' (some ⟨g, 0, none⟩) rs ∧ Up w0 w' p q n x j ∧ g < w'.heap.size := by
  subst hr; exact up_records h hl ht
theorem seen_tail {w : World} {b o : Nat} {t0 : ByteArray} {ts : List ByteArray} (h : Seen w (some ⟨b, o, none⟩) (t0 :: ts)) : Seen w (some ⟨b, o + 1, none⟩) ts := fun i s hi => by
  obtain ⟨b', o', e, hc⟩ := h (i + 1) s (by simpa using hi)
  cases e
  exact ⟨b, o + 1, rfl, by rw [show o + 1 + i = o + (i + 1) by omega]; exact hc⟩
set_option maxRecDepth 100000 in
set_option maxHeartbeats 3200000 in
theorem switch_in (b o : Nat) (B : Option Addr) (c c2 : Nat) (t0 : ByteArray) (ts : List ByteArray) (n : Int) (ks : List Int) (w : World) (ht : Tab w) (h : ts.length + 1 ≤ 8) (hl : Seen w (some ⟨b, o, none⟩) (t0 :: ts)) (hsz : ∀ s ∈ t0 :: ts, s.size ≤ 9223372036854775807) (hk : Nums w B ks) (hkm : ks.length * 8 ≤ 140737488355328) (hc : ts.length + 1 ≤ c) :
    Calls Tryz.prog 6 #[.slice (some ⟨b, o, none⟩) (ts.length + 1) c, .int .i64 n, .slice B ks.length c2] w fun e w' => e = .returned (.bool true) ∧ Below w.heap.size w w' := by
  have hi1 : ¬ ((ts.length : Int) + 1) < 1 := by omega
  have hi8 : ¬ (8 : Int) < (ts.length : Int) + 1 := by omega
  have HTb := Lib.hid ht
  have HM := Lib.hid (mod_any n 20 (by omega) (by omega))
  obtain ⟨v, hv⟩ : ∃ v : Int, n % ((20 : Nat) : Int) = v := ⟨_, rfl⟩
  have hv20 : v ≤ 9223372036854775807 := by have := Int.emod_lt_of_pos n (show (0 : Int) < ((20 : Nat) : Int) by omega); omega
  rw [hv] at HM
  have HL := Lib.hid hl
  have HSZ := Lib.hid hsz
  have HK := Lib.hid hk
  have HKM := Lib.hid hkm
  have HC := Lib.hid hc
  clear ht h hv hl hsz hk hkm hc
  go_enter Tryz.func6, Tryz.ntmps6
  go_wp2_with (fail)
  refine (new_ok w 200 (by decide) (by decide)).mono ?_
  rintro e w2 ⟨p, F, rfl, hd, hb2, hlo⟩
  have HD := Lib.hid hd
  have HB2 := Lib.hid hb2
  have HLo := Lib.hid hlo
  clear hd hb2 hlo
  go_wp2_with (fail)
  refine (wat_format HD.out (HTb.out.below HB2.out) HTb.out HLo.out HB2.out).mono ?_
  rintro e w3 ⟨q, rfl, hf⟩
  have F3 := Lib.hid hf
  clear hf HD HB2 HLo
  go_wp2_with (fail)
  go_loopw [11] (fun c wr => SLAt w p q ts c wr) (fun c _ => ts.length + 1 - (intOf c).toNat)
  case atStart => exact ⟨0, rfl, Nat.zero_le _, wat_mono F3.out (by omega), fun s hs => by rw [List.take_zero] at hs; cases hs⟩
  case round =>
    obtain ⟨i, rfl, hil, hf, hall⟩ := hrel
    by_cases hlt : i < ts.length
    · have hx : (i : Int) + 1 < (ts.length : Int) + 1 := by omega
      have F4 := Lib.hid hf
      have HAL := Lib.hid hall
      clear hf hall
      obtain ⟨t, hti⟩ : ∃ t, ts[i]? = some t := ⟨_, List.getElem?_eq_getElem hlt⟩
      obtain ⟨b', o', eqa, hct⟩ := HL.out (i + 1) t (by simpa using hti)
      cases eqa
      have hbel := wat_below F4.out
      have d1 := (hbel.cell (p := ⟨b, o + (i + 1), none⟩) (World.block_lt_of_cell? _ _ hct)).trans hct
      have x0 : (0 : Int) ≤ (i : Int) + 1 := by omega
      have x2 : ((i : Int) + 1).toNat = i + 1 := by omega
      have hmem := HSZ.out t (List.mem_cons_of_mem _ (List.mem_of_getElem? hti))
      have HTI := Lib.hid hti
      have HBE := Lib.hid hbel
      clear hti hct hbel
      by_cases hts : 1500 < t.size
      · have hti2 : (1500 : Int) < t.size := by omega
        go_wp2_with (fail)
        refine (wakes_any _ (HTb.out.below HBE.out)).mono ?_
        rintro e w6 ⟨rfl, hb6⟩
        have B6 := Lib.hid (HBE.out.trans (hb6.mono HBE.out.size))
        clear hb6
        go_wp2_with (fail)
        go_ret
        exact ⟨rfl, B6.out⟩
      · have hti2 : ¬ (1500 : Int) < t.size := by omega
        go_wp2_with (fail)
        refine (wat_append F4.out (by decide) HAL.out (by rw [List.length_take]; omega) (by omega) (by omega)).mono ?_
        rintro e w6 ⟨rfl, hf⟩
        rw [snoc_take HTI.out] at hf
        have F6 := Lib.hid hf
        clear hf F4
        go_wp2_with (fail)
        go_roundw
        case rel => exact ⟨i + 1, by go_num, by omega, wat_mono F6.out (by omega), take_next' HTI.out HAL.out (by omega)⟩
        case measure => simp [intOf]; omega
    · obtain rfl : i = ts.length := by omega
      have hx : ¬ (ts.length : Int) + 1 < (ts.length : Int) + 1 := by omega
      rw [List.take_length] at hf hall
      obtain ⟨b', o', eqa, hct⟩ := HL.out 0 t0 rfl
      cases eqa
      rw [Nat.add_zero] at hct
      have F4 := Lib.hid hf
      have HAL := Lib.hid hall
      have hbel := wat_below F4.out
      have d1 := (hbel.cell (p := ⟨b, o, none⟩) (World.block_lt_of_cell? _ _ hct)).trans hct
      have hmem := HSZ.out t0 (List.mem_cons_self ..)
      have HCT := Lib.hid hct
      have HBE := Lib.hid hbel
      clear hf hall hct hbel
      by_cases hts : 1500 < t0.size
      · have hti2 : (1500 : Int) < t0.size := by omega
        go_wp2_with (fail)
        refine (wakes_any _ (HTb.out.below HBE.out)).mono ?_
        rintro e w6 ⟨rfl, hb6⟩
        have B6 := Lib.hid (HBE.out.trans (hb6.mono HBE.out.size))
        clear hb6
        go_wp2_with (fail)
        go_ret
        exact ⟨rfl, B6.out⟩
      · have hti2 : ¬ (1500 : Int) < t0.size := by omega
        go_wp2_with (fail)
        refine (wat_sync F4.out (by omega)).mono ?_
        rintro e w5 ⟨rfl, hf⟩
        have F5 := Lib.hid hf
        clear hf F4 d1
        go_wp2_with (fail)
        refine (HM.out _).mono ?_; rintro e w5' ⟨rfl, rfl⟩
        go_wp2_with (fail)
        refine (ws_arm F5.out v hv20).mono ?_
        rintro e w6 ⟨rfl, hf⟩
        have F6 := Lib.hid hf
        have d1 := ((ws_below F6.out).cell (p := ⟨b, o, none⟩) (World.block_lt_of_cell? _ _ HCT.out)).trans HCT.out
        clear hf F5
        go_wp2_with (fail)
        refine (ws_check (t := t0) F6.out (by omega) (by omega)).mono ?_
        rintro e w7 (⟨rfl, hf⟩ | ⟨rfl, hf⟩)
        · have F7 := Lib.hid hf
          clear hf F6 d1
          go_wp2_with (fail)
          refine (wk_sync F7.out (by omega)).mono ?_
          rintro e w8 ⟨r, rfl, hf⟩
          have F8 := Lib.hid hf
          clear hf F7
          obtain ⟨x, j, hu, hcr, hox⟩ := F8.out
          obtain ⟨st, hst, hdk⟩ := hcr ks
          have HU := Lib.hid hu
          have HDK := Lib.hid hdk
          have HO := Lib.hid hox
          have HST := Lib.hid (show SwJ t0 [] st from hst)
          clear hu hdk hst hcr F8
          have hN2 : Nums (w8.alloc (.cells #[] 3)) B ks := (HK.out.below HU.out.below rfl).below ((Below.refl w8.heap.size w8).alloc (Nat.le_refl _) _) rfl
          have HN2 := Lib.hid hN2
          clear hN2
          go_wp2_with (at_builtin; refine wpList_append_nums rfl (.tmp 84) (.tmp 85) rfl w8.heap.size (.slice (some ⟨w8.heap.size, 0, none⟩) 0 0) rfl (own_void w8) B c2 ks rfl HN2.out HKM.out (by simp) ?_; intro A3 c3 w9 hn3 hg3 hb3; have H3 := Lib.hid hn3; have HG3 := Lib.hid hg3; have HB3 := Lib.hid hb3; clear hn3 hg3 hb3)
          refine (up_crash_ks HU.out (below_void HG3.out) (by have := HO.out; omega) A3 c3 ks H3.out HB3.out (by have := HKM.out; unfold maxLen; omega)).mono ?_
          rintro e w10 ⟨rfl, F10, hd6, hlo6, hb6⟩
          have D6 := Lib.hid hd6
          have B6 := Lib.hid hb6
          have L6 := Lib.hid hlo6
          clear hd6 hb6 hlo6 HU
          go_wp2_with (fail)

          have hop := open_disk w10 D6.out (HTb.out.below B6.out) (lo_far HTb.out L6.out) rfl (j := st) HDK.out HST.out.fit (by have := HO.out; rw [crash_ops]; omega) (free_flsh (x := x.crash ks) rfl rfl).1
          rw [HST.out.fr, HST.out.se] at hop
          refine hop.mono ?_
          rintro e w11 hm
          obtain ⟨q7, rfl, hu⟩ := up_made hm L6.out B6.out
          have U7 := Lib.hid hu
          have HLONG := Lib.hid (fun s hs => HDK.out.sound.long s (List.mem_cons_of_mem _ hs))
          rw [HST.out.recs] at HLONG
          have HBASE := Lib.hid HST.out.base
          have HRECS := Lib.hid HST.out.recs
          have c0 := (U7.out.below.cell (p := ⟨b, o, none⟩) (World.block_lt_of_cell? _ _ HCT.out)).trans HCT.out
          clear hm hu D6 L6 B6 hop HDK
          go_upto_region 26 with (fail)
          go_region_held3 (fun v => v.cell? ⟨b, o, none⟩ = some (.string t0)) (first | exact c0 | exact c1 | exact c2) (first
            | (go_at_call 34; refine (up_base' (U7.out.more (Below.refl _ _).drew) HBASE.out (by first | omega | decide)).mono ?_; rintro e w12 ⟨rfl, hu⟩
               have U8 := Lib.hid hu
               have c1 := (hu.below.cell (p := ⟨b, o, none⟩) (World.block_lt_of_cell? _ _ HCT.out)).trans HCT.out
               clear hu)
            | (go_at_call 35; refine (up_records' U8.out HRECS.out (by first | omega | decide) HLONG.out).mono ?_; rintro e w13 ⟨g, c9, rfl, _, hu, _⟩
               have U9 := Lib.hid hu
               have c2 := (hu.below.cell (p := ⟨b, o, none⟩) (World.block_lt_of_cell? _ _ HCT.out)).trans HCT.out
               clear hu)
            | fail)
          clear c0 c1 c2
          by_cases ht0 : t0 = oldS
          · have y1 : (1 : Int) ≤ (ts.length : Int) + 1 := by omega
            have y2 : (ts.length : Int) + 1 ≤ (c : Int) := by have := HC.out; omega
            have hq : (t0.toList == [111, 108, 100]) = true := by
              rw [show ([111, 108, 100] : List UInt8) = oldS.toList by rw [ByteArray.toList_eq]; rfl, beqS]; exact decide_eq_true ht0
            have HT0 := Lib.hid ht0
            clear ht0
            obtain ⟨bt, hbt⟩ : ∃ bt, decide (([] : List ByteArray) = ts) = bt := ⟨_, rfl⟩
            by_cases hc1 : c = 1
            · have HNIL := Lib.hid (show ts = [] from List.eq_nil_of_length_eq_zero (by have := HC.out; omega))
              subst hc1
              go_upto_region 27 with (fail)
              go_region_held3 (fun _ => True) (exact True.intro) (first
                | (go_at_call 34; refine (up_base' (U9.out.more (Below.refl _ _).drew) HBASE.out (by first | omega | decide)).mono ?_; rintro e w14 ⟨rfl, hu⟩
                   have U10 := Lib.hid hu
                   clear hu)
                | (go_at_call 35; refine (up_records' U10.out HRECS.out (by first | omega | decide) HLONG.out).mono ?_; rintro e w15 ⟨g2, c10, rfl, hsn, hu, _⟩
                   have U11 := Lib.hid hu
                   have S11 := Lib.hid hsn
                   have T11 := Lib.hid (show Seen w15 (some ⟨b, o, none⟩) ts from by rw [HNIL.out]; exact fun _ _ hi => by simp at hi) 
                   clear hu hsn)
                | (go_at_call 36; refine (texts_any' w15 (some ⟨g2, 0, none⟩) (some ⟨b, o, none⟩) c10 0 [] ts hbt S11.out T11.out (by first | omega | decide)).mono ?_; rintro e w16 ⟨rfl, hb⟩
                   have B16 := Lib.hid (U11.out.below.trans (hb.mono U11.out.below.size))
                   clear hb)
                | fail)

              go_wp2_with (fail)
              refine (wakes_any _ (HTb.out.below B16.out)).mono ?_
              rintro e w17 ⟨rfl, hb⟩
              have B17 := Lib.hid ((B16.out).trans (hb.mono (B16.out).size))
              clear hb
              go_wp2_with (fail)
              go_ret
              exact ⟨rfl, B17.out⟩
            · go_upto_region 27 with (fail)
              go_region_held3 (fun _ => True) (exact True.intro) (first
                | (go_at_call 34; refine (up_base' (U9.out.more (Below.refl _ _).drew) HBASE.out (by first | omega | decide)).mono ?_; rintro e w14 ⟨rfl, hu⟩
                   have U10 := Lib.hid hu
                   clear hu)
                | (go_at_call 35; refine (up_records' U10.out HRECS.out (by first | omega | decide) HLONG.out).mono ?_; rintro e w15 ⟨g2, c10, rfl, hsn, hu, _⟩
                   have U11 := Lib.hid hu
                   have S11 := Lib.hid hsn
                   have T11 := Lib.hid (seen_tail (HL.out.below U11.out.below))
                   clear hu hsn)
                | (go_at_call 36; refine (texts_any' w15 (some ⟨g2, 0, none⟩) (some ⟨b, o + 1, none⟩) c10 (c - 1) [] ts hbt S11.out T11.out (by first | omega | decide)).mono ?_; rintro e w16 ⟨rfl, hb⟩
                   have B16 := Lib.hid (U11.out.below.trans (hb.mono U11.out.below.size))
                   clear hb)
                | fail)

              go_wp2_with (fail)
              refine (wakes_any _ (HTb.out.below B16.out)).mono ?_
              rintro e w17 ⟨rfl, hb⟩
              have B17 := Lib.hid ((B16.out).trans (hb.mono (B16.out).size))
              clear hb
              go_wp2_with (fail)
              go_ret
              exact ⟨rfl, B17.out⟩
          · have hq : (t0.toList == [111, 108, 100]) = false := by
              rw [show ([111, 108, 100] : List UInt8) = oldS.toList by rw [ByteArray.toList_eq]; rfl, beqS]; exact decide_eq_false ht0
            have HT0 := Lib.hid ht0
            clear ht0
            obtain ⟨X, hX⟩ : ∃ X, X = (x.crash ks).flsh.1 := ⟨_, rfl⟩
            have UU := U9.out
            rw [← hX] at UU
            have HU0 := Lib.hid (UU.more (Below.refl _ _).drew)
            clear UU hX
            go_upto_region 27 with (fail)
            refine wp_region_class (fun v => Up w v p q7 200 X st) (by kernel_rfl) (by kernel_rfl) HU0.out ?_
            go_big_quiet_want
            go_big_quiet_op
            first | go_big_quiet_on | (refine ⟨_, fun _ _ => rfl, ?_⟩; go_big_quiet_on)
            go_big_quiet_want
            refine quiet_call (f := 34) (args := #[.pointer (some ⟨q7, 0, none⟩)]) (fun v _ => by go_simp) (fun v hv => (up_base' hv HBASE.out (by first | omega | decide)).mono (fun e w' h => h)) ?_
            simp only [Act.put, List.setIfInBounds_toArray, List.set_cons_zero, List.set_cons_succ]
            go_big_quiet_on
            go_big_quiet_want
            go_big_quiet_op
            first | go_big_quiet_on | (refine ⟨_, fun _ _ => rfl, ?_⟩; go_big_quiet_on)
            go_big_quiet_want
            go_big_quiet_op
            first | go_big_quiet_on | (refine ⟨_, fun _ _ => rfl, ?_⟩; go_big_quiet_on)
            go_big_quiet_skip
            go_big_quiet_skip
            go_big_quiet_skip
            go_big_quiet_skip
            go_big_quiet_skip
            go_big_quiet_want
            go_big_quiet_op
            first | go_big_quiet_on | (refine ⟨_, fun _ _ => rfl, ?_⟩; go_big_quiet_on)
            go_big_quiet_want
            go_big_quiet_op
            first | go_big_quiet_on | (refine ⟨_, fun _ _ => rfl, ?_⟩; go_big_quiet_on)
            intro w14 hu
            have U10 := Lib.hid hu
            clear hu HU0

            go_wp2_with (fail)
            refine (wakes_any _ (HTb.out.below U10.out.below)).mono ?_
            rintro e w17 ⟨rfl, hb⟩
            have B17 := Lib.hid ((U10.out.below).trans (hb.mono (U10.out.below).size))
            clear hb
            go_wp2_with (fail)
            go_ret
            exact ⟨rfl, B17.out⟩
        · have F8 := Lib.hid hf
          clear hf F6 d1
          obtain ⟨x, j, hu, hcr, hox⟩ := F8.out
          obtain ⟨st, hst, hdk⟩ := hcr ks
          rcases hst with hst | hst
          · have HU := Lib.hid hu
            have HDK := Lib.hid hdk
            have HO := Lib.hid hox
            have HST := Lib.hid (show SwJ oldS ts st from hst)
            clear hu hdk hst hcr F8
            have hN2 : Nums (w7.alloc (.cells #[] 3)) B ks := (HK.out.below HU.out.below rfl).below ((Below.refl w7.heap.size w7).alloc (Nat.le_refl _) _) rfl
            have HN2 := Lib.hid hN2
            clear hN2
            go_wp2_with (at_builtin; refine wpList_append_nums rfl (.tmp 84) (.tmp 85) rfl w7.heap.size (.slice (some ⟨w7.heap.size, 0, none⟩) 0 0) rfl (own_void w7) B c2 ks rfl HN2.out HKM.out (by simp) ?_; intro A3 c3 w9 hn3 hg3 hb3; have H3 := Lib.hid hn3; have HG3 := Lib.hid hg3; have HB3 := Lib.hid hb3; clear hn3 hg3 hb3)
            refine (up_crash_ks HU.out (below_void HG3.out) (by have := HO.out; omega) A3 c3 ks H3.out HB3.out (by have := HKM.out; unfold maxLen; omega)).mono ?_
            rintro e w10 ⟨rfl, F10, hd6, hlo6, hb6⟩
            have D6 := Lib.hid hd6
            have B6 := Lib.hid hb6
            have L6 := Lib.hid hlo6
            clear hd6 hb6 hlo6 HU
            go_wp2_with (fail)

            have hop := open_disk w10 D6.out (HTb.out.below B6.out) (lo_far HTb.out L6.out) rfl (j := st) HDK.out HST.out.fit (by have := HO.out; rw [crash_ops]; omega) (free_flsh (x := x.crash ks) rfl rfl).1
            rw [HST.out.fr, HST.out.se] at hop
            refine hop.mono ?_
            rintro e w11 hm
            obtain ⟨q7, rfl, hu⟩ := up_made hm L6.out B6.out
            have U7 := Lib.hid hu
            have HLONG := Lib.hid (fun s hs => HDK.out.sound.long s (List.mem_cons_of_mem _ hs))
            rw [HST.out.recs] at HLONG
            have HBASE := Lib.hid HST.out.base
            have HRECS := Lib.hid HST.out.recs
            have c0 := (U7.out.below.cell (p := ⟨b, o, none⟩) (World.block_lt_of_cell? _ _ HCT.out)).trans HCT.out
            clear hm hu D6 L6 B6 hop HDK
            go_upto_region 26 with (fail)
            by_cases ht0 : oldS = t0
            · have hqe : (oldS.toList == t0.toList) = true := by rw [beqS]; exact decide_eq_true ht0
              have HT0 := Lib.hid ht0
              clear ht0
              obtain ⟨be, hbe⟩ : ∃ be : Bool, decide (ts = []) = be := ⟨_, rfl⟩
              have hrb := records_len (l := ts) hbe
              clear hbe
              go_region_held3 (fun v => v.cell? ⟨b, o, none⟩ = some (.string t0)) (first | exact c0 | exact c1 | exact c2) (first
                | (go_at_call 34; refine (up_base' (U7.out.more (Below.refl _ _).drew) HBASE.out (by first | omega | decide)).mono ?_; rintro e w12 ⟨rfl, hu⟩
                   have U8 := Lib.hid hu
                   have c1 := (hu.below.cell (p := ⟨b, o, none⟩) (World.block_lt_of_cell? _ _ HCT.out)).trans HCT.out
                   clear hu)
                | (go_at_call 35; refine (up_records' U8.out HRECS.out (by first | omega | decide) HLONG.out).mono ?_; rintro e w13 ⟨g, c9, rfl, _, hu, _⟩
                   have U9 := Lib.hid hu
                   have c2 := (hu.below.cell (p := ⟨b, o, none⟩) (World.block_lt_of_cell? _ _ HCT.out)).trans HCT.out
                   clear hu)
                | fail)
              clear c0 c1 c2 hrb
              have y1 : (1 : Int) ≤ (ts.length : Int) + 1 := by omega
              have y2 : (ts.length : Int) + 1 ≤ (c : Int) := by have := HC.out; omega
              have hq : (oldS.toList == [111, 108, 100]) = true := by
                rw [show ([111, 108, 100] : List UInt8) = oldS.toList by rw [ByteArray.toList_eq]; rfl, beqS]; exact decide_eq_true rfl
              by_cases hc1 : c = 1
              · have HNIL := Lib.hid (show ts = [] from List.eq_nil_of_length_eq_zero (by have := HC.out; omega))
                subst hc1
                go_upto_region 27 with (fail)
                go_region_held3 (fun _ => True) (exact True.intro) (first
                  | (go_at_call 34; refine (up_base' (U9.out.more (Below.refl _ _).drew) HBASE.out (by first | omega | decide)).mono ?_; rintro e w14 ⟨rfl, hu⟩
                     have U10 := Lib.hid hu
                     clear hu)
                  | (go_at_call 35; refine (up_records' U10.out HRECS.out (by first | omega | decide) HLONG.out).mono ?_; rintro e w15 ⟨g2, c10, rfl, hsn, hu, _⟩
                     have U11 := Lib.hid hu
                     have S11 := Lib.hid hsn
                     have T11 := Lib.hid (show Seen w15 (some ⟨b, o, none⟩) ts from by rw [HNIL.out]; exact fun _ _ hi => by simp at hi) 
                     clear hu hsn)
                  | (go_at_call 36; refine (texts_any' w15 (some ⟨g2, 0, none⟩) (some ⟨b, o, none⟩) c10 0 ts ts (decide_eq_true rfl) S11.out T11.out (by first | omega | decide)).mono ?_; rintro e w16 ⟨rfl, hb⟩
                     have B16 := Lib.hid (U11.out.below.trans (hb.mono U11.out.below.size))
                     clear hb)
                  | fail)
                cases be
                · go_wp2_with (fail)
                  refine (wakes_any _ (HTb.out.below B16.out)).mono ?_
                  rintro e w17 ⟨rfl, hb⟩
                  have B17 := Lib.hid ((B16.out).trans (hb.mono (B16.out).size))
                  clear hb
                  go_wp2_with (fail)
                  go_ret
                  exact ⟨rfl, B17.out⟩
                · go_wp2_with (fail)
                  refine (wakes_any _ (HTb.out.below B16.out)).mono ?_
                  rintro e w17 ⟨rfl, hb⟩
                  have B17 := Lib.hid ((B16.out).trans (hb.mono (B16.out).size))
                  clear hb
                  go_wp2_with (fail)
                  go_ret
                  exact ⟨rfl, B17.out⟩
              · go_upto_region 27 with (fail)
                go_region_held3 (fun _ => True) (exact True.intro) (first
                  | (go_at_call 34; refine (up_base' (U9.out.more (Below.refl _ _).drew) HBASE.out (by first | omega | decide)).mono ?_; rintro e w14 ⟨rfl, hu⟩
                     have U10 := Lib.hid hu
                     clear hu)
                  | (go_at_call 35; refine (up_records' U10.out HRECS.out (by first | omega | decide) HLONG.out).mono ?_; rintro e w15 ⟨g2, c10, rfl, hsn, hu, _⟩
                     have U11 := Lib.hid hu
                     have S11 := Lib.hid hsn
                     have T11 := Lib.hid (seen_tail (HL.out.below U11.out.below))
                     clear hu hsn)
                  | (go_at_call 36; refine (texts_any' w15 (some ⟨g2, 0, none⟩) (some ⟨b, o + 1, none⟩) c10 (c - 1) ts ts (decide_eq_true rfl) S11.out T11.out (by first | omega | decide)).mono ?_; rintro e w16 ⟨rfl, hb⟩
                     have B16 := Lib.hid (U11.out.below.trans (hb.mono U11.out.below.size))
                     clear hb)
                  | fail)
                cases be
                · go_wp2_with (fail)
                  refine (wakes_any _ (HTb.out.below B16.out)).mono ?_
                  rintro e w17 ⟨rfl, hb⟩
                  have B17 := Lib.hid ((B16.out).trans (hb.mono (B16.out).size))
                  clear hb
                  go_wp2_with (fail)
                  go_ret
                  exact ⟨rfl, B17.out⟩
                · go_wp2_with (fail)
                  refine (wakes_any _ (HTb.out.below B16.out)).mono ?_
                  rintro e w17 ⟨rfl, hb⟩
                  have B17 := Lib.hid ((B16.out).trans (hb.mono (B16.out).size))
                  clear hb
                  go_wp2_with (fail)
                  go_ret
                  exact ⟨rfl, B17.out⟩
            · have hqe : (oldS.toList == t0.toList) = false := by rw [beqS]; exact decide_eq_false ht0
              have HT0 := Lib.hid ht0
              clear ht0
              obtain ⟨X, hX⟩ : ∃ X, X = (x.crash ks).flsh.1 := ⟨_, rfl⟩
              have UU := U7.out
              rw [← hX] at UU
              have HU0 := Lib.hid (UU.more (Below.refl _ _).drew)
              clear UU hX
              go_upto_region 26 with (fail)
              refine wp_region_class (fun v => Up w v p q7 200 X st) (by kernel_rfl) (by kernel_rfl) HU0.out ?_
              go_big_quiet_want
              go_big_quiet_op
              first | go_big_quiet_on | (refine ⟨_, fun _ _ => rfl, ?_⟩; go_big_quiet_on)
              go_big_quiet_want
              refine quiet_call (f := 34) (args := #[.pointer (some ⟨q7, 0, none⟩)]) (fun v _ => by go_simp) (fun v hv => (up_base' hv HBASE.out (by first | omega | decide)).mono (fun e w' h => h)) ?_
              simp only [Act.put, List.setIfInBounds_toArray, List.set_cons_zero, List.set_cons_succ]
              go_big_quiet_on
              go_big_quiet_want
              go_big_quiet_op
              first | go_big_quiet_on | (refine ⟨_, fun _ _ => rfl, ?_⟩; go_big_quiet_on)
              go_big_quiet_want
              go_big_quiet_op
              first | go_big_quiet_on | (refine ⟨_, fun _ _ => rfl, ?_⟩; go_big_quiet_on)
              go_big_quiet_want
              refine quiet_run (v := .string t0) (fun v hv => by have c0 := (hv.below.cell (p := ⟨b, o, none⟩) (World.block_lt_of_cell? _ _ HCT.out)).trans HCT.out; go_simp) ?_
              simp only [Act.put, List.setIfInBounds_toArray, List.set_cons_zero, List.set_cons_succ]
              go_big_quiet_on
              go_big_quiet_want
              go_big_quiet_op
              first | go_big_quiet_on | (refine ⟨_, fun _ _ => rfl, ?_⟩; go_big_quiet_on)
              go_big_quiet_want
              go_big_quiet_op
              first | go_big_quiet_on | (refine ⟨_, fun _ _ => rfl, ?_⟩; go_big_quiet_on)
              go_big_quiet_skip
              go_big_quiet_skip
              go_big_quiet_skip
              go_big_quiet_skip
              go_big_quiet_want
              go_big_quiet_op
              first | go_big_quiet_on | (refine ⟨_, fun _ _ => rfl, ?_⟩; go_big_quiet_on)
              go_big_quiet_want
              go_big_quiet_op
              first | go_big_quiet_on | (refine ⟨_, fun _ _ => rfl, ?_⟩; go_big_quiet_on)
              intro w14 hu
              have U10 := Lib.hid hu
              clear hu HU0
              have y1 : (1 : Int) ≤ (ts.length : Int) + 1 := by omega
              have y2 : (ts.length : Int) + 1 ≤ (c : Int) := by have := HC.out; omega
              have hq : (oldS.toList == [111, 108, 100]) = true := by
                rw [show ([111, 108, 100] : List UInt8) = oldS.toList by rw [ByteArray.toList_eq]; rfl, beqS]; exact decide_eq_true rfl
              by_cases hc1 : c = 1
              · have HNIL := Lib.hid (show ts = [] from List.eq_nil_of_length_eq_zero (by have := HC.out; omega))
                subst hc1
                go_upto_region 27 with (fail)
                go_region_held3 (fun _ => True) (exact True.intro) (first
                  | (go_at_call 34; refine (up_base' (U10.out.more (Below.refl _ _).drew) HBASE.out (by first | omega | decide)).mono ?_; rintro e w14 ⟨rfl, hu⟩
                     have UA := Lib.hid hu
                     clear hu)
                  | (go_at_call 35; refine (up_records' UA.out HRECS.out (by first | omega | decide) HLONG.out).mono ?_; rintro e w15 ⟨g2, c10, rfl, hsn, hu, _⟩
                     have U11 := Lib.hid hu
                     have S11 := Lib.hid hsn
                     have T11 := Lib.hid (show Seen w15 (some ⟨b, o, none⟩) ts from by rw [HNIL.out]; exact fun _ _ hi => by simp at hi) 
                     clear hu hsn)
                  | (go_at_call 36; refine (texts_any' w15 (some ⟨g2, 0, none⟩) (some ⟨b, o, none⟩) c10 0 ts ts (decide_eq_true rfl) S11.out T11.out (by first | omega | decide)).mono ?_; rintro e w16 ⟨rfl, hb⟩
                     have B16 := Lib.hid (U11.out.below.trans (hb.mono U11.out.below.size))
                     clear hb)
                  | fail)

                go_wp2_with (fail)
                refine (wakes_any _ (HTb.out.below B16.out)).mono ?_
                rintro e w17 ⟨rfl, hb⟩
                have B17 := Lib.hid ((B16.out).trans (hb.mono (B16.out).size))
                clear hb
                go_wp2_with (fail)
                go_ret
                exact ⟨rfl, B17.out⟩
              · go_upto_region 27 with (fail)
                go_region_held3 (fun _ => True) (exact True.intro) (first
                  | (go_at_call 34; refine (up_base' (U10.out.more (Below.refl _ _).drew) HBASE.out (by first | omega | decide)).mono ?_; rintro e w14 ⟨rfl, hu⟩
                     have UA := Lib.hid hu
                     clear hu)
                  | (go_at_call 35; refine (up_records' UA.out HRECS.out (by first | omega | decide) HLONG.out).mono ?_; rintro e w15 ⟨g2, c10, rfl, hsn, hu, _⟩
                     have U11 := Lib.hid hu
                     have S11 := Lib.hid hsn
                     have T11 := Lib.hid (seen_tail (HL.out.below U11.out.below))
                     clear hu hsn)
                  | (go_at_call 36; refine (texts_any' w15 (some ⟨g2, 0, none⟩) (some ⟨b, o + 1, none⟩) c10 (c - 1) ts ts (decide_eq_true rfl) S11.out T11.out (by first | omega | decide)).mono ?_; rintro e w16 ⟨rfl, hb⟩
                     have B16 := Lib.hid (U11.out.below.trans (hb.mono U11.out.below.size))
                     clear hb)
                  | fail)

                go_wp2_with (fail)
                refine (wakes_any _ (HTb.out.below B16.out)).mono ?_
                rintro e w17 ⟨rfl, hb⟩
                have B17 := Lib.hid ((B16.out).trans (hb.mono (B16.out).size))
                clear hb
                go_wp2_with (fail)
                go_ret
                exact ⟨rfl, B17.out⟩
          · have HU := Lib.hid hu
            have HDK := Lib.hid hdk
            have HO := Lib.hid hox
            have HST := Lib.hid (show SwJ t0 [] st from hst)
            clear hu hdk hst hcr F8
            have hN2 : Nums (w7.alloc (.cells #[] 3)) B ks := (HK.out.below HU.out.below rfl).below ((Below.refl w7.heap.size w7).alloc (Nat.le_refl _) _) rfl
            have HN2 := Lib.hid hN2
            clear hN2
            go_wp2_with (at_builtin; refine wpList_append_nums rfl (.tmp 84) (.tmp 85) rfl w7.heap.size (.slice (some ⟨w7.heap.size, 0, none⟩) 0 0) rfl (own_void w7) B c2 ks rfl HN2.out HKM.out (by simp) ?_; intro A3 c3 w9 hn3 hg3 hb3; have H3 := Lib.hid hn3; have HG3 := Lib.hid hg3; have HB3 := Lib.hid hb3; clear hn3 hg3 hb3)
            refine (up_crash_ks HU.out (below_void HG3.out) (by have := HO.out; omega) A3 c3 ks H3.out HB3.out (by have := HKM.out; unfold maxLen; omega)).mono ?_
            rintro e w10 ⟨rfl, F10, hd6, hlo6, hb6⟩
            have D6 := Lib.hid hd6
            have B6 := Lib.hid hb6
            have L6 := Lib.hid hlo6
            clear hd6 hb6 hlo6 HU
            go_wp2_with (fail)

            have hop := open_disk w10 D6.out (HTb.out.below B6.out) (lo_far HTb.out L6.out) rfl (j := st) HDK.out HST.out.fit (by have := HO.out; rw [crash_ops]; omega) (free_flsh (x := x.crash ks) rfl rfl).1
            rw [HST.out.fr, HST.out.se] at hop
            refine hop.mono ?_
            rintro e w11 hm
            obtain ⟨q7, rfl, hu⟩ := up_made hm L6.out B6.out
            have U7 := Lib.hid hu
            have HLONG := Lib.hid (fun s hs => HDK.out.sound.long s (List.mem_cons_of_mem _ hs))
            rw [HST.out.recs] at HLONG
            have HBASE := Lib.hid HST.out.base
            have HRECS := Lib.hid HST.out.recs
            have c0 := (U7.out.below.cell (p := ⟨b, o, none⟩) (World.block_lt_of_cell? _ _ HCT.out)).trans HCT.out
            clear hm hu D6 L6 B6 hop HDK
            go_upto_region 26 with (fail)
            go_region_held3 (fun v => v.cell? ⟨b, o, none⟩ = some (.string t0)) (first | exact c0 | exact c1 | exact c2) (first
              | (go_at_call 34; refine (up_base' (U7.out.more (Below.refl _ _).drew) HBASE.out (by first | omega | decide)).mono ?_; rintro e w12 ⟨rfl, hu⟩
                 have U8 := Lib.hid hu
                 have c1 := (hu.below.cell (p := ⟨b, o, none⟩) (World.block_lt_of_cell? _ _ HCT.out)).trans HCT.out
                 clear hu)
              | (go_at_call 35; refine (up_records' U8.out HRECS.out (by first | omega | decide) HLONG.out).mono ?_; rintro e w13 ⟨g, c9, rfl, _, hu, _⟩
                 have U9 := Lib.hid hu
                 have c2 := (hu.below.cell (p := ⟨b, o, none⟩) (World.block_lt_of_cell? _ _ HCT.out)).trans HCT.out
                 clear hu)
              | fail)
            clear c0 c1 c2
            by_cases ht0 : t0 = oldS
            · have y1 : (1 : Int) ≤ (ts.length : Int) + 1 := by omega
              have y2 : (ts.length : Int) + 1 ≤ (c : Int) := by have := HC.out; omega
              have hq : (t0.toList == [111, 108, 100]) = true := by
                rw [show ([111, 108, 100] : List UInt8) = oldS.toList by rw [ByteArray.toList_eq]; rfl, beqS]; exact decide_eq_true ht0
              have HT0 := Lib.hid ht0
              clear ht0
              obtain ⟨bt, hbt⟩ : ∃ bt, decide (([] : List ByteArray) = ts) = bt := ⟨_, rfl⟩
              by_cases hc1 : c = 1
              · have HNIL := Lib.hid (show ts = [] from List.eq_nil_of_length_eq_zero (by have := HC.out; omega))
                subst hc1
                go_upto_region 27 with (fail)
                go_region_held3 (fun _ => True) (exact True.intro) (first
                  | (go_at_call 34; refine (up_base' (U9.out.more (Below.refl _ _).drew) HBASE.out (by first | omega | decide)).mono ?_; rintro e w14 ⟨rfl, hu⟩
                     have U10 := Lib.hid hu
                     clear hu)
                  | (go_at_call 35; refine (up_records' U10.out HRECS.out (by first | omega | decide) HLONG.out).mono ?_; rintro e w15 ⟨g2, c10, rfl, hsn, hu, _⟩
                     have U11 := Lib.hid hu
                     have S11 := Lib.hid hsn
                     have T11 := Lib.hid (show Seen w15 (some ⟨b, o, none⟩) ts from by rw [HNIL.out]; exact fun _ _ hi => by simp at hi) 
                     clear hu hsn)
                  | (go_at_call 36; refine (texts_any' w15 (some ⟨g2, 0, none⟩) (some ⟨b, o, none⟩) c10 0 [] ts hbt S11.out T11.out (by first | omega | decide)).mono ?_; rintro e w16 ⟨rfl, hb⟩
                     have B16 := Lib.hid (U11.out.below.trans (hb.mono U11.out.below.size))
                     clear hb)
                  | fail)

                go_wp2_with (fail)
                refine (wakes_any _ (HTb.out.below B16.out)).mono ?_
                rintro e w17 ⟨rfl, hb⟩
                have B17 := Lib.hid ((B16.out).trans (hb.mono (B16.out).size))
                clear hb
                go_wp2_with (fail)
                go_ret
                exact ⟨rfl, B17.out⟩
              · go_upto_region 27 with (fail)
                go_region_held3 (fun _ => True) (exact True.intro) (first
                  | (go_at_call 34; refine (up_base' (U9.out.more (Below.refl _ _).drew) HBASE.out (by first | omega | decide)).mono ?_; rintro e w14 ⟨rfl, hu⟩
                     have U10 := Lib.hid hu
                     clear hu)
                  | (go_at_call 35; refine (up_records' U10.out HRECS.out (by first | omega | decide) HLONG.out).mono ?_; rintro e w15 ⟨g2, c10, rfl, hsn, hu, _⟩
                     have U11 := Lib.hid hu
                     have S11 := Lib.hid hsn
                     have T11 := Lib.hid (seen_tail (HL.out.below U11.out.below))
                     clear hu hsn)
                  | (go_at_call 36; refine (texts_any' w15 (some ⟨g2, 0, none⟩) (some ⟨b, o + 1, none⟩) c10 (c - 1) [] ts hbt S11.out T11.out (by first | omega | decide)).mono ?_; rintro e w16 ⟨rfl, hb⟩
                     have B16 := Lib.hid (U11.out.below.trans (hb.mono U11.out.below.size))
                     clear hb)
                  | fail)

                go_wp2_with (fail)
                refine (wakes_any _ (HTb.out.below B16.out)).mono ?_
                rintro e w17 ⟨rfl, hb⟩
                have B17 := Lib.hid ((B16.out).trans (hb.mono (B16.out).size))
                clear hb
                go_wp2_with (fail)
                go_ret
                exact ⟨rfl, B17.out⟩
            · have hq : (t0.toList == [111, 108, 100]) = false := by
                rw [show ([111, 108, 100] : List UInt8) = oldS.toList by rw [ByteArray.toList_eq]; rfl, beqS]; exact decide_eq_false ht0
              have HT0 := Lib.hid ht0
              clear ht0
              obtain ⟨X, hX⟩ : ∃ X, X = (x.crash ks).flsh.1 := ⟨_, rfl⟩
              have UU := U9.out
              rw [← hX] at UU
              have HU0 := Lib.hid (UU.more (Below.refl _ _).drew)
              clear UU hX
              go_upto_region 27 with (fail)
              refine wp_region_class (fun v => Up w v p q7 200 X st) (by kernel_rfl) (by kernel_rfl) HU0.out ?_
              go_big_quiet_want
              go_big_quiet_op
              first | go_big_quiet_on | (refine ⟨_, fun _ _ => rfl, ?_⟩; go_big_quiet_on)
              go_big_quiet_want
              refine quiet_call (f := 34) (args := #[.pointer (some ⟨q7, 0, none⟩)]) (fun v _ => by go_simp) (fun v hv => (up_base' hv HBASE.out (by first | omega | decide)).mono (fun e w' h => h)) ?_
              simp only [Act.put, List.setIfInBounds_toArray, List.set_cons_zero, List.set_cons_succ]
              go_big_quiet_on
              go_big_quiet_want
              go_big_quiet_op
              first | go_big_quiet_on | (refine ⟨_, fun _ _ => rfl, ?_⟩; go_big_quiet_on)
              go_big_quiet_want
              go_big_quiet_op
              first | go_big_quiet_on | (refine ⟨_, fun _ _ => rfl, ?_⟩; go_big_quiet_on)
              go_big_quiet_skip
              go_big_quiet_skip
              go_big_quiet_skip
              go_big_quiet_skip
              go_big_quiet_skip
              go_big_quiet_want
              go_big_quiet_op
              first | go_big_quiet_on | (refine ⟨_, fun _ _ => rfl, ?_⟩; go_big_quiet_on)
              go_big_quiet_want
              go_big_quiet_op
              first | go_big_quiet_on | (refine ⟨_, fun _ _ => rfl, ?_⟩; go_big_quiet_on)
              intro w14 hu
              have U10 := Lib.hid hu
              clear hu HU0

              go_wp2_with (fail)
              refine (wakes_any _ (HTb.out.below U10.out.below)).mono ?_
              rintro e w17 ⟨rfl, hb⟩
              have B17 := Lib.hid ((U10.out.below).trans (hb.mono (U10.out.below).size))
              clear hb
              go_wp2_with (fail)
              go_ret
              exact ⟨rfl, B17.out⟩
theorem switch_any (A B : Option Addr) (c c2 : Nat) (l : List ByteArray) (n : Int) (ks : List Int) (w : World) (ht : Tab w) (hl : Seen w A l) (hsz : ∀ s ∈ l, s.size ≤ 9223372036854775807) (hk : Nums w B ks) (hkm : ks.length * 8 ≤ 140737488355328) (hc : l.length ≤ c) :
    Calls Tryz.prog 6 #[.slice A l.length c, .int .i64 n, .slice B ks.length c2] w fun e w' => e = .returned (.bool true) ∧ Below w.heap.size w w' := by
  cases l with
  | nil => exact switch_none A B c c2 n ks w ht
  | cons t0 ts =>
    by_cases h : 8 < (t0 :: ts).length
    · exact switch_long A B c c2 _ n ks w ht h
    · obtain ⟨b, o, rfl, _⟩ := hl 0 t0 rfl
      exact switch_in b o B c c2 t0 ts n ks w ht (by rw [List.length_cons] at h; omega) hl hsz hk hkm hc
end Go.Proofs.YtgdaihembmcamaaGreatDoor
