/- store: a store at rest, its changes, its crashes. store: what a change holds in memory on its way. -/
import Derived.Test.YtglfjlbhjaemgaaGreatDoorPk41
namespace Go.Proofs.YtglfjlbhjaemgaaGreatDoor
open Go.RowKit
open Ext (Ex Exts exV ExtsF textX)
open Ext (whereX AscTo goodB setX dropX)
theorem put_far {x : St} {a m : Nat} {s : ByteArray} {i : Nat} (h : i < a ∨ a + m ≤ i) : (x.put a s m).1.seen[i]? = x.seen[i]? := by
  obtain ⟨c, hc, h1, h2, _⟩ := put_form x a m s
  unfold St.seen
  rw [h1, h2, putAll_app]
  refine putAll_past _ _ _ fun w hw he => ?_
  obtain ⟨k, hk, rfl⟩ := secL_mem hw
  have he : a + k = i := he
  omega
/-- What the journal writes lies in its own sectors. -/
theorem enter_far {x : St} {j : Jn} {n : Nat} {t : ByteArray} {half behind recs i : Nat} (hs : Sound j n) (hp : Spot j half behind (secF t.size)) (hi : j.fr + j.se ≤ i) : (j.enter x t half behind recs).1.seen[i]? = x.seen[i]? := by
  obtain ⟨h1, h2, _⟩ := spot_at hs hp
  have hse := hs.fits.se
  have hb : (j.body x t half behind).1.seen[i]? = x.seen[i]? := put_far (.inr (by omega))
  have hh : ∀ y : St, (j.head y half recs).1.seen[i]? = y.seen[i]? := fun y => put_far (.inr (by have := slot_lt j.fr (j.num + 1); omega))
  unfold Jn.enter
  split
  · split
    · rw [hh, flsh_seen, hb]
    · rw [flsh_seen, hb]
  · exact hb
theorem check_far {x : St} {j : Jn} {n : Nat} {t : ByteArray} {i : Nat} (hs : Sound j n) (hr : secF t.size ≤ j.size) (hi : j.fr + j.se ≤ i) : (j.check x t).1.seen[i]? = x.seen[i]? := by
  have hh := hs.fits.half
  have he := enter_far (x := x) (t := t) (recs := 0) hs (half := 1 - j.half) (behind := 0) ⟨by omega, by omega, .inl (by omega)⟩ hi
  unfold Jn.check
  split
  · rw [flsh_seen, he]
  · exact he
/-- What a journal tells of a store. -/
structure Tells (n : Nat) (j : Jn) (l : List Tb) : Prop where
  rep : ∃ l0 xs, Rep j l0 xs ∧ playL l0 xs = l
  fr : j.fr = 0
  se : j.se = 576
  fit : j.unfit = false
  oks : ∀ t ∈ l, t.Ok
  one : 1 ≤ l.length
  few : l.length ≤ 8
  need : needT l ≤ n
  most : n ≤ 8192
  apart : Apart (n - 576) l
theorem Tells.use {n : Nat} {j : Jn} {l : List Tb} (h : Tells n j l) : UseTs (n - 576) zeroF l := useTs_of (fun t ht => (h.oks t ht).good) h.apart (fun _ _ _ _ _ => rfl)
theorem base_small {n : Nat} {l : List Tb} (ho : ∀ t ∈ l, t.Ok) (hf : l.length ≤ 8) (hn : needT l ≤ n) (hm : n ≤ 8192) : (baseB l).size ≤ 65536 := by
  have key : ∀ l : List Tb, (∀ t ∈ l, t.Ok) → ((catB l).size : Int) ≤ (l.length : Int) * 2084 + 12 * sumN l := by
    intro l
    induction l with
    | nil => intro _; show ((⟨#[]⟩ : ByteArray).size : Int) ≤ _; decide
    | cons t l ih =>
      intro ho
      have ih := ih (fun u hu => ho u (List.mem_cons_of_mem _ hu))
      have ht := ho t (List.mem_cons_self ..)
      have h1 := pcB_size (unitB t) t.rc (textX t.ex) 3
      have h2 := unitB_size ht
      have h3 := ht.rc
      have h4 := Ext.textX_size t.ex
      have h5 : (t.ex.length : Int) ≤ t.n := by have := Ext.asc_length ht.asc; omega
      show ((tbB t ++ catB l).size : Int) ≤ _
      rw [ByteArray.size_append]
      show (((pcB (unitB t) t.rc (textX t.ex) 3).size + (catB l).size : Nat) : Int) ≤ (((l.length + 1 : Nat)) : Int) * 2084 + 12 * (t.n + sumN l)
      omega
  have hk := key l ho
  unfold needT at hn
  unfold baseB
  rw [ByteArray.size_append]
  have : hgstS.size = 4 := rfl
  omega
theorem disk_past {L : List ByteArray} {n : Nat} {j : Jn} (h : Disk L n j) {i : Nat} {s : ByteArray} (hi : j.fr + j.se ≤ i) (hs : s.size = 512) : Disk (L.set i s) n j := by
  have hse := h.sound.fits.se
  have he := half_end h.sound
  refine ⟨h.sound, by rw [List.length_set]; exact h.len, fun t ht => ?_, ?_, fun k h1 h3 => ?_, body_set h.body h.sound.used (by omega)⟩
  · rcases mem_set ht with ht | rfl
    · exact h.secs t ht
    · exact hs
  · rw [List.getElem?_set_ne (by have := slot_lt j.fr j.num; omega)]
    exact h.head
  · obtain ⟨t, k1, k2⟩ := h.old k h1 h3
    exact ⟨t, by rw [List.getElem?_set_ne (by have := slot_lt j.fr (j.num + k); omega)]; exact k1, k2⟩
theorem disk_beyond {n : Nat} {j : Jn} : ∀ (hs : List (Nat × ByteArray)) {L : List ByteArray}, Disk L n j → (∀ w ∈ hs, j.fr + j.se ≤ w.1 ∧ w.2.size = 512) → Disk (putAll L hs) n j
  | [], _, h, _ => h
  | w :: hs, L, h, hw => by
    obtain ⟨h1, h2⟩ := hw w (List.mem_cons_self ..)
    exact disk_beyond hs (disk_past h h1 h2) (fun v hv => hw v (List.mem_cons_of_mem _ hv))
theorem play_at : ∀ {xs : List (Nat × Chg)} {l : List Tb} {j : Nat} {t : Tb}, l[j]? = some t → ∃ u, (playL l xs)[j]? = some u ∧ u.n = t.n
  | [], _, _, t, h => ⟨t, h, rfl⟩
  | x :: xs, l, j, t, h => by
    obtain ⟨u, hu, hn, _⟩ := apply_at (x := x) h
    obtain ⟨v, hv, hm⟩ := play_at (xs := xs) hu
    exact ⟨v, hv, hm.trans hn⟩
theorem play_len : ∀ (xs : List (Nat × Chg)) (l : List Tb), (playL l xs).length = l.length
  | [], _ => rfl
  | x :: xs, l => by
    show (playL (applyL l x) xs).length = _
    rw [play_len xs, apply_length]
theorem play_n {l0 : List Tb} {xs : List (Nat × Chg)} {k : Nat} {t : Tb} (h : (playL l0 xs)[k]? = some t) : ∃ t0, l0[k]? = some t0 ∧ t0.n = t.n := by
  have hk := (List.getElem?_eq_some_iff.1 h).1
  rw [play_len] at hk
  refine ⟨_, List.getElem?_eq_getElem hk, ?_⟩
  obtain ⟨u, hu, hn⟩ := play_at (xs := xs) (List.getElem?_eq_getElem hk)
  rw [hu] at h
  rw [← Option.some.inj h, hn]
/-- A store at rest on a device that does not fall; V: what is seen; Vp: what may be seen behind a crash besides. -/
structure Inv (n : Nat) (x : St) (j : Jn) (st : Sto) (V Vp : List Un) : Prop where
  tells : Tells n j st.l
  rest : (x.held = [] ∧ Disk x.safe n j ∧ Vp = V) ∨ ∃ a la, Under x n j a ∧ Tells n a la ∧ Vp = la.map (unOf x.safe)
  down : x.down = false
  armed : x.armed = false
  bad : st.bad = false
  flag : ∀ i, i < n - 576 → (st.f i).1 = st.l.any (fun t => covL t.ex i) ∧ (st.f i).2 ≤ st.ch
  sf : st.sf ≤ st.ch
  view : V = st.l.map (unOf x.seen)
theorem Inv.rest' {n : Nat} {x : St} {j : Jn} {st : Sto} {V Vp : List Un} (h : Inv n x j st V Vp) : Rest x n j := by
  rcases h.rest with ⟨h0, h1, _⟩ | ⟨a, la, h1, _⟩
  · exact .inl ⟨h0, h1⟩
  · exact .inr ⟨a, h1⟩
theorem Inv.disk {n : Nat} {x : St} {j : Jn} {st : Sto} {V Vp : List Un} (h : Inv n x j st V Vp) : Disk x.seen n j := rest_seen h.rest'
/-- What is held back at rest lies ahead of the blocks. -/
theorem Inv.seen_safe {n : Nat} {x : St} {j : Jn} {st : Sto} {V Vp : List Un} (h : Inv n x j st V Vp) : ∀ i, 576 ≤ i → x.seen[i]? = x.safe[i]? := by
  intro i hi
  unfold St.seen
  refine putAll_past _ _ _ fun w hw => ?_
  rcases h.rest with ⟨h0, _⟩ | ⟨a, la, h1, _⟩
  · rw [h0] at hw; cases hw
  · rw [h1.1] at hw
    rw [List.mem_singleton.1 hw]
    have := slot_lt j.fr j.num
    have := h.tells.fr
    show slotAt j.fr j.num ≠ i
    omega
/-- Behind a crash: the state, or the one before. -/
theorem Inv.crash {n : Nat} {x : St} {j : Jn} {st : Sto} {V Vp : List Un} (h : Inv n x j st V Vp) (keep : List Int) :
    ∃ a la, a.num ≤ j.num ∧ Disk (x.crash keep).safe n a ∧ Tells n a la ∧ (la.map (unOf (x.crash keep).safe) = V ∨ la.map (unOf (x.crash keep).safe) = Vp) := by
  have hfar : ∀ i, 576 ≤ i → (x.crash keep).safe[i]? = x.safe[i]? := fun i hi => by
    refine tear_far _ _ _ _ (fun w hw => ?_) _
    rcases h.rest with ⟨h0, _⟩ | ⟨a, la, h1, _⟩
    · rw [h0] at hw; cases hw
    · rw [h1.1] at hw
      rw [List.mem_singleton.1 hw]
      have := slot_lt j.fr j.num
      have := h.tells.fr
      show slotAt j.fr j.num ≠ i
      omega
  have hV : st.l.map (unOf (x.crash keep).safe) = V := by
    rw [h.view]
    exact units_same h.tells.apart fun i hi => by rw [hfar i hi, h.seen_safe i hi]
  rcases h.rest with ⟨h0, h1, _⟩ | ⟨a, la, hu, ht, hp⟩
  · exact ⟨j, st.l, Nat.le_refl _, by unfold St.crash; rw [h0]; exact h1, h.tells, .inl hV⟩
  · obtain ⟨h0, h1, h2, hpr, hr⟩ := hu
    have := two_tear hpr (.inl ⟨h1, h2⟩) (hs := x.held) (fun w hw => by rw [h0] at hw; exact .inr (List.mem_singleton.1 hw)) keep x.held.length
    rcases this with ⟨h3, _⟩ | h3
    · refine ⟨a, la, by have := hpr.next.num; omega, h3, ht, .inr ?_⟩
      rw [hp]
      exact units_same ht.apart hfar
    · exact ⟨j, st.l, Nat.le_refl _, h3, h.tells, .inl hV⟩
/-- A flush. -/
theorem Inv.flush {n : Nat} {x : St} {j : Jn} {st : Sto} {V Vp : List Un} (h : Inv n x j st V Vp) : x.flsh.2 = true ∧ Inv n x.flsh.1 j ⟨st.l, st.f, st.ch, st.ch, st.bad⟩ V V := by
  obtain ⟨h1, h2, h3⟩ := free_flsh h.armed h.down
  obtain ⟨k1, k2, _⟩ := flsh_yes h1
  exact ⟨h1, ⟨h.tells, .inl ⟨k2, by rw [k1]; exact h.disk, rfl⟩, h3, h2, h.bad, h.flag, Nat.le_refl _, by rw [flsh_seen]; exact h.view⟩⟩
/-- Blocks are laid at places that no table has. -/
theorem Inv.lay {n : Nat} {x : St} {j : Jn} {st : Sto} {V Vp : List Un} (h : Inv n x j st V Vp) (hg : x.safe.length = n) {q : List Ex} {lba : Nat} {t : ByteArray} (ha : AscTo 0 4096 q) (hi : InjP q) (hr : ∀ b a, whereX q b = some a → (lba : Int) ≤ b ∧ 576 ≤ a ∧ a < n ∧ (st.f (a - 576).toNat).1 = false) (ht : ∀ k, lba ≤ k → whereX q k ≠ none → (sec t (k - lba)).size = 512) :
    (layX x lba t q).2 = true ∧ Inv n (layX x lba t q).1 j st V V ∧ ∀ b a, whereX q b = some a → (layX x lba t q).1.seen[a.toNat]? = some (sec t (b.toNat - lba)) := by
  obtain ⟨k1, k2, k3, k4, k5, _⟩ := lay_free q x lba t h.armed h.down (fun e he => by
    have := (asc_mem ha e he).2.1
    unfold Ex.Fits at this
    omega)
  have hsn : (layX x lba t q).1.seen = (layX x lba t q).1.safe := by unfold St.seen; rw [k2]; rfl
  obtain ⟨l1, l2⟩ := lay_at (t := t) (L := x.seen) ha hi (fun b a hb => by
    obtain ⟨h1, h2, h3, _⟩ := hr b a hb
    refine ⟨by omega, ?_, h1⟩
    rw [seen_length, hg]; exact h3)
  rw [← k3] at l1 l2
  have hV : V = st.l.map (unOf (layX x lba t q).1.seen) := by
    rw [h.view]
    refine List.map_congr_left fun u hu => unOf_same fun b a hb => ?_
    obtain ⟨k, hk⟩ := List.mem_iff_getElem?.1 hu
    obtain ⟨r1, r2⟩ := h.tells.apart.range k u hk b a hb
    rw [hsn]
    refine (l2 a.toNat fun b' hb' => ?_).symm
    rw [show ((a.toNat : Nat) : Int) = a by omega] at hb'
    obtain ⟨_, _, _, hf⟩ := hr b' a hb'
    rw [(h.flag (a - 576).toNat (by omega)).1] at hf
    have hc : covL u.ex (a - 576).toNat = true := (cov_iff (h.tells.oks u hu).asc _).2 ⟨b, by rw [hb]; congr 1; omega⟩
    rw [List.any_eq_false] at hf
    exact hf u hu hc
  refine ⟨k1, ⟨h.tells, .inl ⟨k2, ?_, rfl⟩, k5, k4, h.bad, h.flag, h.sf, hV⟩, fun b a hb => by rw [hsn]; exact l1 b a hb⟩
  rw [k3]
  have hsd := h.disk
  have hes := hsd.sound.fits.se
  refine disk_beyond _ hsd fun w hw => ?_
  obtain ⟨e, he, k, hk, rfl⟩ := layW_mem hw
  obtain ⟨h1, h2, h3, h4⟩ := asc_mem ha e he
  unfold Ex.Fits at h2
  have hh := h4 (e.l + k) (by omega) (by omega)
  have := hr _ _ hh
  have h0 := hr _ _ (h4 e.l (by omega) (by omega))
  have hfr := h.tells.fr
  have hse := h.tells.se
  refine ⟨by show j.fr + j.se ≤ e.a.toNat + k; omega, ?_⟩
  have := ht (e.l.toNat + k) (by omega) (by rw [show ((e.l.toNat + k : Nat) : Int) = e.l + k by omega, hh]; exact fun h => by cases h)
  rwa [show e.l.toNat + k - lba = e.l.toNat - lba + k by omega] at this
/-- The state that a change makes of the tables. -/
structure Turns (n : Nat) (st : Sto) (lun : Nat) (t u : Tb) : Prop where
  at_ : st.l[lun]? = some t
  ok : u.Ok
  same : u.n = t.n
  from_ : ∀ b a, whereX u.ex b = some a → whereX t.ex b = some a ∨ (576 ≤ a ∧ a < n ∧ (st.f (a - 576).toNat).1 = false)
  inj : InjP u.ex
theorem sumN_set : ∀ {l : List Tb} {k : Nat} {t u : Tb}, l[k]? = some t → u.n = t.n → sumN (l.set k u) = sumN l
  | y :: l, 0, t, u, h, e => by
    obtain rfl : y = t := by simpa using h
    show u.n + sumN l = y.n + sumN l
    rw [e]
  | y :: l, k + 1, t, u, h, e => by
    show y.n + sumN (l.set k u) = y.n + sumN l
    rw [sumN_set (by simpa using h) e]
theorem Turns.tells {n : Nat} {x : St} {j j' : Jn} {st : Sto} {V Vp : List Un} {lun : Nat} {t u : Tb} (h : Inv n x j st V Vp) (k : Turns n st lun t u) (hr : ∃ l0 xs, Rep j' l0 xs ∧ playL l0 xs = st.l.set lun u) (hfr : j'.fr = 0) (hse : j'.se = 576) (hfit : j'.unfit = false) : Tells n j' (st.l.set lun u) := by
  refine ⟨hr, hfr, hse, hfit, fun v hv => ?_, by rw [List.length_set]; exact h.tells.one, by rw [List.length_set]; exact h.tells.few, ?_, h.tells.most, ?_⟩
  · rcases List.mem_or_eq_of_mem_set hv with hv | rfl
    · exact h.tells.oks v hv
    · exact k.ok
  · have := h.tells.need
    unfold needT at this ⊢
    rwa [sumN_set k.at_ k.same]
  · have h576 : 576 ≤ n := by
      have := h.tells.need
      have h2 := (sumN_small (l := st.l) (fun t ht => ⟨(h.tells.oks t ht).n1, (h.tells.oks t ht).n2⟩)).1
      unfold needT at this
      omega
    refine h.tells.apart.set k.at_ (fun b a hb => (k.from_ b a hb).imp id fun h1 => ⟨h1.1, by omega, fun i v hv c hc => ?_⟩) k.inj
    have hf := h1.2.2
    rw [(h.flag (a - 576).toNat (by omega)).1, List.any_eq_false] at hf
    have hvm := List.mem_of_getElem? hv
    exact hf v hvm ((cov_iff (h.tells.oks v hvm).asc _).2 ⟨c, by rw [hc]; congr 1; omega⟩)
/-- The places behind a change. -/
theorem Turns.flag {n : Nat} {x : St} {j : Jn} {st : Sto} {V Vp : List Un} {lun : Nat} {t u : Tb} (h : Inv n x j st V Vp) (k : Turns n st lun t u) (m : Nat) (hm : st.ch ≤ m) : ∀ i, i < n - 576 → (useF (freeF st.f t.ex m) u.ex i).1 = (st.l.set lun u).any (fun t => covL t.ex i) ∧ (useF (freeF st.f t.ex m) u.ex i).2 ≤ m := by
  intro i hi
  obtain ⟨f1, f2⟩ := h.flag i hi
  have htm := List.mem_of_getElem? k.at_
  have hl := (List.getElem?_eq_some_iff.1 k.at_).1
  have e : (st.l.set lun u).any (fun t => covL t.ex i) = (covL u.ex i || (!covL t.ex i && st.l.any (fun t => covL t.ex i))) := by
    rw [Bool.eq_iff_iff, List.any_eq_true]
    simp only [Bool.or_eq_true, Bool.and_eq_true, Bool.not_eq_true', List.any_eq_true]
    constructor
    · rintro ⟨v, hv, hc⟩
      rcases List.mem_iff_getElem?.1 hv with ⟨d, hd⟩
      by_cases hdl : d = lun
      · subst hdl
        rw [List.getElem?_set_self hl] at hd
        obtain rfl := Option.some.inj hd
        exact .inl hc
      · rw [List.getElem?_set_ne (Ne.symm hdl)] at hd
        have hvm := List.mem_of_getElem? hd
        refine .inr ⟨?_, v, hvm, hc⟩
        cases hct : covL t.ex i with
        | false => rfl
        | true =>
          obtain ⟨b, hb⟩ := (cov_iff (h.tells.oks v hvm).asc _).1 hc
          obtain ⟨b', hb'⟩ := (cov_iff (h.tells.oks t htm).asc _).1 hct
          exact absurd (h.tells.apart.one d lun v t hd k.at_ b b' _ hb hb').1 hdl
    · rintro (hc | ⟨hct, v, hv, hc⟩)
      · exact ⟨u, List.mem_iff_getElem?.2 ⟨lun, List.getElem?_set_self hl⟩, hc⟩
      · rcases List.mem_iff_getElem?.1 hv with ⟨d, hd⟩
        by_cases hdl : d = lun
        · subst hdl
          rw [k.at_] at hd
          obtain rfl := Option.some.inj hd
          rw [hct] at hc; cases hc
        · exact ⟨v, List.mem_iff_getElem?.2 ⟨d, by rw [List.getElem?_set_ne (Ne.symm hdl)]; exact hd⟩, hc⟩
  rw [e, ← f1]
  unfold useF freeF
  cases covL u.ex i <;> cases covL t.ex i <;> simp <;> omega
theorem Turns.useOk {n : Nat} {x : St} {j : Jn} {st : Sto} {V Vp : List Un} {lun : Nat} {t u : Tb} (h : Inv n x j st V Vp) (k : Turns n st lun t u) (m : Nat) : UseOk (n - 576) (freeF st.f t.ex m) u.ex := by
  have htm := List.mem_of_getElem? k.at_
  refine use_of (Ext.good_asc k.ok.good) (fun b a hb => ?_) k.inj
  rcases k.from_ b a hb with h1 | h1
  · have hr := h.tells.apart.range lun t k.at_ b a h1
    refine ⟨hr.1, hr.2, ?_⟩
    unfold freeF
    rw [(cov_iff (h.tells.oks t htm).asc _).2 ⟨b, by rw [h1]; congr 1; omega⟩]
    rfl
  · refine ⟨h1.1, by omega, ?_⟩
    unfold freeF
    cases covL t.ex (a - 576).toNat with
    | true => rfl
    | false => exact h1.2.2
theorem Turns.freeOk {n : Nat} {x : St} {j : Jn} {st : Sto} {V Vp : List Un} {lun : Nat} {t u : Tb} (h : Inv n x j st V Vp) (k : Turns n st lun t u) : ∀ e ∈ t.ex, e.Fits ∧ 576 ≤ e.a ∧ e.a + e.b ≤ 576 + ((n - 576 : Nat) : Int) := by
  have htm := List.mem_of_getElem? k.at_
  intro e he
  obtain ⟨h1, h2, h3, h4⟩ := asc_mem (h.tells.oks t htm).asc e he
  have h5 := h2
  unfold Ex.Fits at h5
  have r1 := h.tells.apart.range lun t k.at_ _ _ (h4 e.l (by omega) (by omega))
  have r2 := h.tells.apart.range lun t k.at_ _ _ (h4 (e.l + e.b - 1) (by omega) (by omega))
  exact ⟨h2, by omega, by omega⟩
/-- What is seen behind a change. -/
theorem set_view {l : List Tb} {L : List ByteArray} {lun : Nat} {u : Tb} : (l.set lun u).map (unOf L) = (l.map (unOf L)).set lun (unOf L u) := by rw [List.map_set]
/-- A change goes into the journal. -/
theorem Inv.append {n : Nat} {x : St} {j : Jn} {st : Sto} {V Vp : List Un} {lun : Nat} {t : Tb} {c : Chg} (h : Inv n x j st V Vp) (k : Turns n st lun t (c.ap t)) (hc : c.Ok t.n) (hw : j.why (chB lun c) j.room = 0) (hnum : j.num + 1 < 100000000000) :
    (j.enter x (chB lun c) j.half j.used (j.recs.length + 1)).2 = true ∧ Inv n (j.enter x (chB lun c) j.half j.used (j.recs.length + 1)).1 (j.more (chB lun c)) ⟨st.l.set lun (c.ap t), useF (freeF st.f t.ex (st.ch + 1)) (c.ap t).ex, st.ch + 1, st.sf, false⟩ (V.set lun (unOf x.seen (c.ap t))) V := by
  obtain ⟨w1, w2, w3⟩ := why_zero' hw
  have hroom : j.used + secF (chB lun c).size ≤ j.size := by unfold Jn.room at w3; omega
  have hm := append_math h.rest' w2 hroom hnum
  obtain ⟨f1, f2, f3⟩ := free_enter h.armed h.down j (chB lun c) j.half j.used (j.recs.length + 1)
  obtain ⟨m1, m2, m3, m4, m5⟩ := hm.1 f1
  have hsd := rest_sound h.rest'
  have hfar : ∀ i, 576 ≤ i → (j.enter x (chB lun c) j.half j.used (j.recs.length + 1)).1.seen[i]? = x.seen[i]? := fun i hi => enter_far hsd ⟨hsd.fits.half, hroom, .inr (Nat.le_refl _)⟩ (by have := h.tells.fr; have := h.tells.se; omega)
  obtain ⟨l0, xs, hrep, hplay⟩ := h.tells.rep
  have hlun := (List.getElem?_eq_some_iff.1 k.at_).1
  have hrep' : ∃ l0 xs, Rep (j.more (chB lun c)) l0 xs ∧ playL l0 xs = st.l.set lun (c.ap t) := by
    have hpl := play_all hrep.ok hrep.chs
    obtain ⟨t0, ht0, hn0⟩ := play_n (l0 := l0) (xs := xs) (by rw [hplay]; exact k.at_)
    refine ⟨l0, xs ++ [(lun, c)], ⟨hrep.base, ?_, hrep.ok, hrep.one, hrep.few, fun y hy => ?_, ?_, hrep.size, fun y hy => ?_⟩, ?_⟩
    · show j.recs ++ [chB lun c] = _
      rw [List.map_append, hrep.recs]
      rfl
    · rcases List.mem_append.1 hy with hy | hy
      · exact hrep.chs y hy
      · rw [List.mem_singleton.1 hy]
        exact ⟨t0, ht0, by rw [hn0]; exact hc⟩
    · have := (more_sound hsd w2 hroom hnum).fits.recs
      have h2 : (j.more (chB lun c)).used ≤ (j.more (chB lun c)).size := hroom
      have h3 : (j.more (chB lun c)).recs.length = (xs ++ [(lun, c)]).length := by
        show (j.recs ++ [chB lun c]).length = _
        rw [hrep.recs]; simp
      have h4 : (j.more (chB lun c)).size = hsz 576 := by show hsz j.se = _; rw [h.tells.se]
      have h5 : hsz 576 = 286 := rfl
      omega
    · rcases List.mem_append.1 hy with hy | hy
      · exact hrep.each y hy
      · rw [List.mem_singleton.1 hy]; exact w2
    · rw [play_snoc, hplay]
      exact apply_some k.at_
  have htl := k.tells h hrep' (j' := j.more (chB lun c)) h.tells.fr h.tells.se h.tells.fit
  have hold : st.l.map (unOf (j.enter x (chB lun c) j.half j.used (j.recs.length + 1)).1.safe) = V := by
    rw [h.view]
    refine units_same h.tells.apart fun i hi => ?_
    rw [← hfar i hi]
    unfold St.seen
    refine (putAll_past _ _ _ fun w hw => ?_).symm
    rw [m2.1] at hw
    rw [List.mem_singleton.1 hw]
    have := slot_lt j.fr (j.num + 1)
    have := h.tells.fr
    show slotAt j.fr (j.num + 1) ≠ i
    omega
  refine ⟨f1, ⟨htl, .inr ⟨j, st.l, m2, h.tells, hold.symm⟩, f3, f2, rfl, k.flag h _ (Nat.le_succ _), Nat.le_trans h.sf (Nat.le_succ _), ?_⟩⟩
  show _ = (st.l.set lun (c.ap t)).map _
  rw [units_same htl.apart hfar, set_view, ← h.view]
/-- A base goes into the journal. -/
theorem Inv.check {n : Nat} {x : St} {j : Jn} {st : Sto} {V Vp : List Un} {lun : Nat} {t : Tb} {c : Chg} (h : Inv n x j st V Vp) (k : Turns n st lun t (c.ap t)) (hnum : j.num + 1 < 100000000000) :
    j.why (baseB (st.l.set lun (c.ap t))) j.size = 0 ∧ (j.enter x (baseB (st.l.set lun (c.ap t))) (1 - j.half) 0 0).2 = true ∧ (j.enter x (baseB (st.l.set lun (c.ap t))) (1 - j.half) 0 0).1.flsh.2 = true ∧ Inv n (j.check x (baseB (st.l.set lun (c.ap t)))).1 (j.swap (baseB (st.l.set lun (c.ap t)))) ⟨st.l.set lun (c.ap t), useF (freeF st.f t.ex (st.ch + 1)) (c.ap t).ex, st.ch + 1, st.sf, false⟩ (V.set lun (unOf x.seen (c.ap t))) (V.set lun (unOf x.seen (c.ap t))) := by
  have hoks : ∀ v ∈ st.l.set lun (c.ap t), v.Ok := fun v hv => by
    rcases List.mem_or_eq_of_mem_set hv with hv | rfl
    · exact h.tells.oks v hv
    · exact k.ok
  have hrep0 : ∀ j' : Jn, j'.base = baseB (st.l.set lun (c.ap t)) → j'.recs = [] → (baseB (st.l.set lun (c.ap t))).size ≤ 65536 → ∃ l0 xs, Rep j' l0 xs ∧ playL l0 xs = st.l.set lun (c.ap t) := fun j' h1 h2 h3 =>
    ⟨st.l.set lun (c.ap t), [], ⟨h1, h2, hoks, by rw [List.length_set]; exact h.tells.one, by rw [List.length_set]; exact h.tells.few, (fun x hx => by cases hx), Nat.zero_le _, h3, (fun x hx => by cases hx)⟩, rfl⟩
  have hbz : (baseB (st.l.set lun (c.ap t))).size ≤ 65536 := by
    refine base_small hoks (by rw [List.length_set]; exact h.tells.few) (n := n) ?_ h.tells.most
    have := h.tells.need
    unfold needT at this ⊢
    rwa [sumN_set k.at_ k.same]
  generalize hb : baseB (st.l.set lun (c.ap t)) = bt at *
  have hsd := rest_sound h.rest'
  have hroom : secF bt.size ≤ j.size := by
    have h4 : j.size = hsz 576 := by show hsz j.se = _; rw [h.tells.se]
    have h5 : hsz 576 = 286 := rfl
    unfold secF
    omega
  have hwhy : j.why bt j.size = 0 := by
    unfold Jn.why
    rw [if_neg (by rw [h.tells.fit]; simp), if_neg (by omega), if_neg (by omega)]
  obtain ⟨f1, f2, f3⟩ := free_enter h.armed h.down j bt (1 - j.half) 0 0
  obtain ⟨g1, g2, g3⟩ := free_flsh f2 f3
  have hck : (j.check x bt).2 = true := by unfold Jn.check; rw [if_pos f1]; exact g1
  obtain ⟨m1, m2, m3, m4⟩ := (check_math h.rest' hbz hroom hnum).1 hck
  have hfar : ∀ i, 576 ≤ i → (j.check x bt).1.seen[i]? = x.seen[i]? := fun i hi => check_far hsd hroom (by have := h.tells.fr; have := h.tells.se; omega)
  have htl := k.tells h (hrep0 (j.swap bt) rfl rfl hbz) (j' := j.swap bt) h.tells.fr h.tells.se rfl
  refine ⟨hwhy, f1, g1, ⟨htl, .inl ⟨m1, m2, rfl⟩, m4.trans h.down, m3.trans h.armed, rfl, k.flag h _ (Nat.le_succ _), Nat.le_trans h.sf (Nat.le_succ _), ?_⟩⟩
  show _ = (st.l.set lun (c.ap t)).map _
  rw [units_same htl.apart hfar, set_view, ← h.view]
open Go.RowKit
open Ext (Ex Exts exV ExtsF textX)
/-- A change on its way: the journal, the store's old tables, the new ones, the places. -/
structure ChW (w0 v : World) (S J G M : Nat → Prop) (s p q n : Nat) (x : St) (j : Jn) (st : Sto) (f : Nat → Bool × Nat) (b o cc g g2 : Nat) (next : List Tb) : Prop where
  jd : JD v J p q n x j
  sb : Blk v s 137 (stC p q 1 0 (.slice (some ⟨b, o, none⟩) st.l.length cc) (.slice (some ⟨g, 0, none⟩) (n - 576) (n - 576)) st.ch st.sf st.bad)
  pl : Blk v g 260 (plC (n - 576) f)
  old : Tbs v (fun k => G k ∧ k ≠ s ∧ k ≠ g) (some ⟨b, o, none⟩) st.l
  new : Tbs v M (some ⟨g2, 0, none⟩) next
  gs : G s
  gg : G g
  jg : ∀ k, J k → ¬ G k
  jm : ∀ k, J k → ¬ M k
  ms : ∀ k, M k → k ≠ s ∧ k ≠ g
  jS : ∀ k, J k → S k ∨ w0.heap.size ≤ k
  gS : ∀ k, G k → S k
  mS : ∀ k, M k → S k ∨ w0.heap.size ≤ k
  gl : ∀ k, G k → k < v.heap.size
  ml : ∀ k, M k → k < v.heap.size
  only : Only S w0 v
  tabw : gTab < w0.heap.size
  far : ¬ S gTab
theorem ChW.below {w0 v v' : World} {S J G M : Nat → Prop} {s p q n : Nat} {x : St} {j : Jn} {st : Sto} {f : Nat → Bool × Nat} {b o cc g g2 : Nat} {next : List Tb} (h : ChW w0 v S J G M s p q n x j st f b o cc g g2 next) (hb : Below v.heap.size v v') : ChW w0 v' S J G M s p q n x j st f b o cc g g2 next :=
  ⟨h.jd.below hb, h.sb.below hb h.sb.lt, h.pl.below hb h.pl.lt, h.old.below hb, h.new.below hb, h.gs, h.gg, h.jg, h.jm, h.ms, h.jS, h.gS, h.mS, fun k hk => Nat.lt_of_lt_of_le (h.gl k hk) hb.size, fun k hk => Nat.lt_of_lt_of_le (h.ml k hk) hb.size, h.only.below hb, h.tabw, h.far⟩
theorem ChW.turn {w0 v v' : World} {S J G M : Nat → Prop} {s p q n : Nat} {x y : St} {j i : Jn} {st : Sto} {f : Nat → Bool × Nat} {b o cc g g2 : Nat} {next : List Tb} (h : ChW w0 v S J G M s p q n x j st f b o cc g g2 next) (ho : JOut J v p q n y i v') : ∃ J', ChW w0 v' S J' G M s p q n y i st f b o cc g g2 next ∧ Only J v v' ∧ Grew J v J' := by
  obtain ⟨J', h1, h2, h3⟩ := ho
  have hG : ∀ k, G k → ¬ J k := fun k hk hj => h.jg k hj hk
  have hM : ∀ k, M k → ¬ J k := fun k hk hj => h.jm k hj hk
  refine ⟨J', ⟨h1, h.sb.only h2 (hG _ h.gs), h.pl.only h2 (hG _ h.gg), h.old.kept (fun k hk => h2.block k (h.gl k hk.1) (hG k hk.1)), h.new.kept (fun k hk => h2.block k (h.ml k hk) (hM k hk)), h.gs, h.gg, fun k hk hg => ?_, fun k hk hm => ?_, h.ms, fun k hk => ?_, h.gS, h.mS, fun k hk => Nat.lt_of_lt_of_le (h.gl k hk) h2.size, fun k hk => Nat.lt_of_lt_of_le (h.ml k hk) h2.size, h.only.trans h2 h.jS, h.tabw, h.far⟩, h2, h3⟩
  · rcases h3 k hk with hk | hk
    · exact h.jg k hk hg
    · have := h.gl k hg; omega
  · rcases h3 k hk with hk | hk
    · exact h.jm k hk hm
    · have := h.ml k hm; omega
  · rcases h3 k hk with hk | hk
    · exact h.jS k hk
    · have := h.only.size; exact .inr (by omega)
theorem ChW.place {w0 v v' : World} {S J G M : Nat → Prop} {s p q n : Nat} {x : St} {j : Jn} {st : Sto} {f f' : Nat → Bool × Nat} {b o cc g g2 : Nat} {next : List Tb} (h : ChW w0 v S J G M s p q n x j st f b o cc g g2 next) (hp : Blk v' g 260 (plC (n - 576) f')) (ho : Only (fun k => k = g) v v') : ChW w0 v' S J G M s p q n x j st f' b o cc g g2 next := by
  have hsg : s ≠ g := h.sb.apart h.pl (by decide)
  have hgt : ¬ gTab = g := fun e => h.far (by rw [e]; exact h.gS _ h.gg)
  exact ⟨h.jd.keep ho (fun k hk e => h.jg k hk (by have e : k = g := e; rw [e]; exact h.gg)) hgt, h.sb.only ho hsg, hp, h.old.kept (fun k hk => ho.block k (h.gl k hk.1) hk.2.2), h.new.kept (fun k hk => ho.block k (h.ml k hk) (h.ms k hk).2), h.gs, h.gg, h.jg, h.jm, h.ms, h.jS, h.gS, h.mS, fun k hk => Nat.lt_of_lt_of_le (h.gl k hk) ho.size, fun k hk => Nat.lt_of_lt_of_le (h.ml k hk) ho.size, h.only.trans ho (fun k e => .inl (by have e : k = g := e; rw [e]; exact h.gS _ h.gg)), h.tabw, h.far⟩
theorem ChW.done {w0 v : World} {S J G M : Nat → Prop} {s p q n : Nat} {x : St} {j : Jn} {st : Sto} {f : Nat → Bool × Nat} {b o cc g g2 c2 : Nat} {next : List Tb} (h : ChW w0 v S J G M s p q n x j st f b o cc g g2 next) : SOut S w0 s p q n x j ⟨next, f, st.ch, st.sf, st.bad⟩ (v.setCell ⟨s, 5, none⟩ (.slice (some ⟨g2, 0, none⟩) next.length c2)) := by
  have hsg : s ≠ g := h.sb.apart h.pl (by decide)
  have ho := (Only.refl (fun k => k = s) v).setCell (p := ⟨s, 5, none⟩) (.inl rfl) (.slice (some ⟨g2, 0, none⟩) next.length c2)
  have hb1 := h.sb.put 5 (.slice (some ⟨g2, 0, none⟩) next.length c2)
  rw [stC_list] at hb1
  have hst : ¬ gTab = s := fun e => h.far (by rw [e]; exact h.gS _ h.gs)
  have hjd := h.jd.keep ho (fun k hk e => h.jg k hk (by have e : k = s := e; rw [e]; exact h.gs)) hst
  refine ⟨fun k => J k ∨ G k ∨ M k, ⟨⟨J, fun k => G k ∨ M k, hjd, ⟨g2, 0, c2, g, hb1, h.pl.far (Ne.symm hsg) _, (h.new.kept (fun k hk => Below.heap_setCell _ _ _ _ (h.ms k hk).1)).mono (fun k hk => ⟨.inr hk, h.ms k hk⟩), .inl h.gs, .inl h.gg⟩, fun k hk hh => hh.elim (h.jg k hk) (h.jm k hk), fun k hk => .inl hk, fun k hk => .inr hk⟩, fun k hk => ?_, fun hk => ?_⟩, h.only.setCell (p := ⟨s, 5, none⟩) (.inl (h.gS _ h.gs)) _, fun k hk => ?_⟩
  · have hz : (v.setCell ⟨s, 5, none⟩ (.slice (some ⟨g2, 0, none⟩) next.length c2)).heap.size = v.heap.size := by simp
    rw [hz]
    rcases hk with hk | hk | hk
    · exact h.jd.lt k hk
    · exact h.gl k hk
    · exact h.ml k hk
  · have h1 := h.tabw
    rcases hk with hk | hk | hk
    · exact h.jd.far hk
    · exact h.far (h.gS _ hk)
    · rcases h.mS _ hk with hk | hk
      · exact h.far hk
      · omega
  · rcases hk with hk | hk | hk
    · exact h.jS k hk
    · exact .inl (h.gS k hk)
    · exact h.mS k hk
/-- The extents of a unit, in its old table and in its new one. -/
theorem ChW.olds {w0 v : World} {S J G M : Nat → Prop} {s p q n : Nat} {x : St} {j : Jn} {st : Sto} {f : Nat → Bool × Nat} {b o cc g g2 lun : Nat} {next : List Tb} {t : Tb} (h : ChW w0 v S J G M s p q n x j st f b o cc g g2 next) (ht : st.l[lun]? = some t) : ∃ E ce, v.cell? ⟨b, o + lun * 4 + 3, none⟩ = some (.slice E t.ex.length ce) ∧ Exts v E t.ex ∧ (∀ a, E = some a → 0 < t.ex.length → a.block ≠ g) ∧ ¬ b = g := by
  obtain ⟨b', o', t', E, ce, e0, hat, c0, c1, c2, c3, he, hb, hel⟩ := h.old.at_ (List.getElem?_eq_some_iff.1 ht).1
  have := Option.some.inj e0
  injection this with x1 x2 _
  subst x1 x2
  rw [ht] at hat
  obtain rfl := Option.some.inj hat
  exact ⟨E, ce, c3, he, fun a ha hn => (hel a ha hn).2.2, hb.2.2⟩
theorem ChW.news {w0 v : World} {S J G M : Nat → Prop} {s p q n : Nat} {x : St} {j : Jn} {st : Sto} {f : Nat → Bool × Nat} {b o cc g g2 lun : Nat} {next : List Tb} {u : Tb} (h : ChW w0 v S J G M s p q n x j st f b o cc g g2 next) (ht : next[lun]? = some u) : ∃ E ce, v.cell? ⟨g2, lun * 4 + 3, none⟩ = some (.slice E u.ex.length ce) ∧ Exts v E u.ex ∧ (∀ a, E = some a → 0 < u.ex.length → a.block ≠ g) ∧ ¬ g2 = g := by
  obtain ⟨b', o', t', E, ce, e0, hat, c0, c1, c2, c3, he, hb, hel⟩ := h.new.at_ (List.getElem?_eq_some_iff.1 ht).1
  have := Option.some.inj e0
  injection this with x1 x2 _
  subst x1 x2
  rw [ht] at hat
  obtain rfl := Option.some.inj hat
  exact ⟨E, ce, by rw [Nat.zero_add] at c3; exact c3, he, fun a ha hn => (h.ms _ (hel a ha hn)).2, (h.ms _ hb).2⟩
/-- The beginning: the store's own memory, and the new tables. -/
theorem ChW.of {w0 w1 w2 : World} {S J G : Nat → Prop} {s p q n : Nat} {x : St} {j : Jn} {st : Sto} {b o cc g g2 : Nat} {next : List Tb} (hjd : JD w1 J p q n x j) (hb : Blk w1 s 137 (stC p q 1 0 (.slice (some ⟨b, o, none⟩) st.l.length cc) (.slice (some ⟨g, 0, none⟩) (n - 576) (n - 576)) st.ch st.sf st.bad)) (hg : Blk w1 g 260 (plC (n - 576) st.f)) (ht : Tbs w1 (fun k => G k ∧ k ≠ s ∧ k ≠ g) (some ⟨b, o, none⟩) st.l) (hGs : G s) (hGg : G g) (hjg : ∀ k, J k → ¬ G k) (hjS : ∀ k, J k → S k) (hgS : ∀ k, G k → S k) (hlt : ∀ k, S k → k < w0.heap.size) (hfar : ¬ S gTab) (htw : gTab < w0.heap.size) (ho : Only S w0 w1) (hb2 : Below w1.heap.size w1 w2) (hn : Tbs w2 (fun k => (G k ∧ k ≠ s ∧ k ≠ g) ∨ w1.heap.size ≤ k) (some ⟨g2, 0, none⟩) next) :
    ChW w0 w2 S J G (fun k => ((G k ∧ k ≠ s ∧ k ≠ g) ∨ w1.heap.size ≤ k) ∧ k < w2.heap.size) s p q n x j st st.f b o cc g g2 next := by
  have hz := ho.size
  refine ⟨hjd.below hb2, hb.below hb2 hb.lt, hg.below hb2 hg.lt, ht.below hb2, hn.lt, hGs, hGg, hjg, fun k hk hm => ?_, fun k hk => ?_, fun k hk => .inl (hjS k hk), hgS, fun k hk => ?_, fun k hk => ?_, fun k hk => hk.2, ho.below hb2, htw, hfar⟩
  · rcases hm.1 with hm | hm
    · exact hjg k hk hm.1
    · have := hlt k (hjS k hk); omega
  · rcases hk.1 with hk | hk
    · exact hk.2
    · have h1 := hlt s (hgS s hGs)
      have h2 := hlt g (hgS g hGg)
      exact ⟨by omega, by omega⟩
  · rcases hk.1 with hk | hk
    · exact .inl (hgS k hk.1)
    · exact .inr (by omega)
  · exact Nat.lt_of_lt_of_le (hlt k (hgS k hk)) (Nat.le_trans hz hb2.size)
end Go.Proofs.YtglfjlbhjaemgaaGreatDoor
