/- store: what each change makes of what is seen. store: room, laying and a change, at rest. store: Write, Clear and Record, at rest. store: Record and Clear, at rest. store: Flush of a store whose tables nobody has asked for yet. -/
import Derived.Test.YtglfjlbhjaemgaaGreatDoorPl37
import Derived.Test.YtglfjlbhjaemgaaGreatDoorPl38
import Derived.Test.YtglfjlbhjaemgaaGreatDoorPl36
namespace Go.Proofs.YtglfjlbhjaemgaaGreatDoor
open Go.RowKit
open Ext (Ex Exts exV ExtsF textX)
open Ext (whereX AscTo goodB setX dropX)
theorem secF_le {k : Nat} (h : k ≤ 65536) : secF k ≤ 130 := by unfold secF; omega
theorem check_ops (j : Jn) (x : St) (t : ByteArray) : (j.check x t).1.ops ≤ x.ops + secF t.size + 3 := by
  have h1 := enter_ops j x t (1 - j.half) 0 0
  have h2 := flsh_ops (j.enter x t (1 - j.half) 0 0).1
  unfold Jn.check
  split <;> omega
theorem chB_size {lun : Nat} {c : Chg} {n : Int} (h : c.Ok n) : (chB lun c).size ≤ 65536 := by
  have := Chg.body_size h
  unfold chB
  rw [ByteArray.size_append]
  have : (hdB lun c).size = 2 := rfl
  omega
theorem Inv.why {n : Nat} {x : St} {j : Jn} {st : Sto} {V Vp : List Un} (h : Inv n x j st V Vp) {lun : Nat} {c : Chg} {m : Int} (hc : c.Ok m) : j.why (chB lun c) j.room = 0 ∨ j.why (chB lun c) j.room = 60 := by
  have h1 := chB_size (lun := lun) hc
  unfold Jn.why
  rw [if_neg (by rw [h.tells.fit]; simp), if_neg (by omega)]
  split
  · exact .inr rfl
  · exact .inl rfl
def Un.wr (u : Un) (lba k : Nat) (s : ByteArray) : Un := { u with bl := fun b => if (lba : Int) ≤ b ∧ b < (lba : Int) + k then some (sec s (b.toNat - lba)) else u.bl b }
def Un.cl (u : Un) (rs : List (Nat × Nat)) : Un := { u with bl := fun b => if inR rs b then none else u.bl b }
def Un.re (u : Un) (s : ByteArray) : Un := { u with rc := s }
/-- Blocks at places that were found. -/
theorem Inv.turnW {n : Nat} {x : St} {j : Jn} {st : Sto} {V Vp : List Un} (h : Inv n x j st V Vp) {lun : Nat} {t : Tb} {q : List Ex} {safe lba k i : Nat} (ht : st.l[lun]? = some t) (hf : Found st.f safe lba k i q) (hi : 576 + i ≤ n) (hg : goodB q = true) (hk : (lba : Int) + k ≤ t.n) : Turns n st lun t ((Chg.wrote q).ap t) ∧ (Chg.wrote q).Ok t.n := by
  have htm := List.mem_of_getElem? ht
  have htk := h.tells.oks t htm
  have hasc := Ext.good_asc hg
  have hok : (Chg.wrote q).Ok t.n := ⟨hg, fun y hy => by
    obtain ⟨_, h2, _, h4⟩ := asc_mem hasc y hy
    unfold Ex.Fits at h2
    have := (hf.dom (y.l + y.b - 1)).1 (by rw [h4 _ (by omega) (by omega)]; exact fun h => by cases h)
    omega⟩
  have hw : ∀ b, whereX (setsX t.ex q) b = (whereX q b).or (whereX t.ex b) := (sets_is htk.good hasc).2
  have hcov : ∀ b a, whereX t.ex b = some a → 576 ≤ a ∧ (st.f (a - 576).toNat).1 = true := fun b a hb => by
    have hr := h.tells.apart.range lun t ht b a hb
    refine ⟨hr.1, ?_⟩
    rw [(h.flag (a - 576).toNat (by omega)).1, List.any_eq_true]
    exact ⟨t, htm, (cov_iff htk.asc _).2 ⟨b, by rw [hb]; congr 1; omega⟩⟩
  refine ⟨⟨ht, Chg.ok htk hok, rfl, fun b a hb => ?_, fun b c a hb hc => ?_⟩, hok⟩
  · have hb : whereX (setsX t.ex q) b = some a := hb
    rw [hw] at hb
    cases hq : whereX q b with
    | none => rw [hq] at hb; exact .inl hb
    | some a' =>
      rw [hq] at hb
      obtain rfl : a' = a := by simpa using hb
      have := hf.at_ b a' hq
      exact .inr ⟨this.1, by omega, this.2.2.1⟩
  · have hb : whereX (setsX t.ex q) b = some a := hb
    have hc : whereX (setsX t.ex q) c = some a := hc
    rw [hw] at hb hc
    cases hqb : whereX q b with
    | none =>
      rw [hqb] at hb
      have hb : whereX t.ex b = some a := hb
      cases hqc : whereX q c with
      | none =>
        rw [hqc] at hc
        exact (h.tells.apart.one lun lun t t ht ht b c a hb hc).2
      | some a' =>
        rw [hqc] at hc
        obtain rfl : a' = a := by simpa using hc
        have h1 := hf.at_ c a' hqc
        have h2 := hcov b a' hb
        rw [h1.2.2.1] at h2
        exact absurd h2.2 (by decide)
    | some a1 =>
      rw [hqb] at hb
      obtain rfl : a1 = a := by simpa using hb
      cases hqc : whereX q c with
      | none =>
        rw [hqc] at hc
        have hc : whereX t.ex c = some a1 := hc
        have h1 := hf.at_ b a1 hqb
        have h2 := hcov c a1 hc
        rw [h1.2.2.1] at h2
        exact absurd h2.2 (by decide)
      | some a' =>
        rw [hqc] at hc
        obtain rfl : a' = a1 := by simpa using hc
        exact hf.inj b c a' hqb hqc
theorem viewW {L : List ByteArray} {t : Tb} {f : Nat → Bool × Nat} {q : List Ex} {safe lba k i : Nat} {s : ByteArray} (htg : goodB t.ex = true) (hg : goodB q = true) (hf : Found f safe lba k i q) (hl : ∀ b a, whereX q b = some a → L[a.toNat]? = some (sec s (b.toNat - lba))) : unOf L ((Chg.wrote q).ap t) = (unOf L t).wr lba k s := by
  have hw : ∀ b, whereX (setsX t.ex q) b = (whereX q b).or (whereX t.ex b) := (sets_is htg (Ext.good_asc hg)).2
  have key : valE L (setsX t.ex q) = fun b => if (lba : Int) ≤ b ∧ b < (lba : Int) + k then some (sec s (b.toNat - lba)) else valE L t.ex b := by
    funext b
    unfold valE
    rw [hw]
    have hd := hf.dom b
    cases hq : whereX q b with
    | none =>
      rw [if_neg (fun hh => hd.2 hh hq)]
      rfl
    | some a =>
      rw [if_pos (hd.1 (by rw [hq]; exact fun h => by cases h))]
      show some (L.getD a.toNat ⟨#[]⟩) = _
      rw [List.getD_eq_getElem?_getD, hl b a hq]
      rfl
  show Un.mk t.n t.id t.rc (valE L (setsX t.ex q)) = _
  rw [key]
  rfl
theorem Inv.turnC {n : Nat} {x : St} {j : Jn} {st : Sto} {V Vp : List Un} (h : Inv n x j st V Vp) {lun : Nat} {t : Tb} (ht : st.l[lun]? = some t) {rs : List (Nat × Nat)} (hc : (Chg.cleared rs).Ok t.n) : Turns n st lun t ((Chg.cleared rs).ap t) := by
  have htm := List.mem_of_getElem? ht
  have htk := h.tells.oks t htm
  have hw : ∀ b, whereX (dropsX t.ex rs) b = if inR rs b then none else whereX t.ex b := (drops_is htk.good (fun r hr => by have := hc.2 r hr; have := htk.n2; omega)).2
  have key : ∀ b a, whereX (dropsX t.ex rs) b = some a → whereX t.ex b = some a := fun b a hb => by
    rw [hw] at hb
    split at hb
    · cases hb
    · exact hb
  exact ⟨ht, Chg.ok htk hc, rfl, fun b a hb => .inl (key b a hb), fun b c a hb hc => (h.tells.apart.one lun lun t t ht ht b c a (key b a hb) (key c a hc)).2⟩
theorem viewC {L : List ByteArray} {t : Tb} (htk : t.Ok) {rs : List (Nat × Nat)} (hc : (Chg.cleared rs).Ok t.n) : unOf L ((Chg.cleared rs).ap t) = (unOf L t).cl rs := by
  have hw : ∀ b, whereX (dropsX t.ex rs) b = if inR rs b then none else whereX t.ex b := (drops_is htk.good (fun r hr => by have := hc.2 r hr; have := htk.n2; omega)).2
  have key : valE L (dropsX t.ex rs) = fun b => if inR rs b then none else valE L t.ex b := by
    funext b
    unfold valE
    rw [hw]
    split <;> rfl
  show Un.mk t.n t.id t.rc (valE L (dropsX t.ex rs)) = _
  rw [key]
  rfl
theorem Inv.turnR {n : Nat} {x : St} {j : Jn} {st : Sto} {V Vp : List Un} (h : Inv n x j st V Vp) {lun : Nat} {t : Tb} (ht : st.l[lun]? = some t) {s : ByteArray} (hc : (Chg.record s).Ok t.n) : Turns n st lun t ((Chg.record s).ap t) := by
  have htk := h.tells.oks t (List.mem_of_getElem? ht)
  exact ⟨ht, Chg.ok htk hc, rfl, fun b a hb => .inl hb, fun b c a hb hc => (h.tells.apart.one lun lun t t ht ht b c a hb hc).2⟩
theorem viewR {L : List ByteArray} {t : Tb} {s : ByteArray} : unOf L ((Chg.record s).ap t) = (unOf L t).re s := rfl
/-- Behind a flush there is room for any of a unit's blocks. -/
theorem Inv.room {n : Nat} {x : St} {j : Jn} {st : Sto} {V Vp : List Un} (h : Inv n x j st V Vp) {lun : Nat} {t : Tb} (ht : st.l[lun]? = some t) {lba k : Nat} (hk : (lba : Int) + k ≤ t.n) : (fnd st.f st.ch lba k (n - 576)).2 = 0 := by
  have hsum : ∀ {l : List Tb}, (∀ t ∈ l, t.Ok) → t ∈ l → t.n ≤ sumN l := by
    intro l
    induction l with
    | nil => intro _ h; cases h
    | cons y l ih =>
      intro ho hm
      show t.n ≤ y.n + sumN l
      have h0 := (sumN_small (l := l) (fun t ht => ⟨(ho t (List.mem_cons_of_mem _ ht)).n1, (ho t (List.mem_cons_of_mem _ ht)).n2⟩)).1
      have hy := (ho y (List.mem_cons_self ..)).n1
      rcases List.mem_cons.1 hm with rfl | hm
      · omega
      · have := ih (fun u hu => ho u (List.mem_cons_of_mem _ hu)) hm
        omega
  have h1 := hsum h.tells.oks (List.mem_of_getElem? ht)
  have h2 := h.tells.need
  unfold needT at h2
  have h3 := room_free (k := k) h.tells.oks h2 h.flag (by omega)
  rw [fnd_count]
  omega
theorem Inv.found {n : Nat} {x : St} {j : Jn} {st : Sto} {V Vp : List Un} (h : Inv n x j st V Vp) {lun : Nat} {t : Tb} (ht : st.l[lun]? = some t) {safe lba k : Nat} (hk : (lba : Int) + k ≤ t.n) (hz : (fnd st.f safe lba k (n - 576)).2 = 0) : Found st.f safe lba k (n - 576) (fnd st.f safe lba k (n - 576)).1 ∧ goodB (fnd st.f safe lba k (n - 576)).1 = true := by
  have h2 := (h.tells.oks t (List.mem_of_getElem? ht)).n2
  have hm := h.tells.most
  have hf := fnd_found (f := st.f) (safe := safe) (lba := (lba : Int)) (blocks := k) (by omega) (by omega) (n - 576) (by omega)
  rw [hz] at hf
  exact ⟨hf, fnd_good (by omega) (by omega) _ (by omega)⟩
theorem Inv.big {n : Nat} {x : St} {j : Jn} {st : Sto} {V Vp : List Un} (h : Inv n x j st V Vp) : 576 ≤ n := by
  have h2 := h.tells.need
  have h3 := (sumN_small (l := st.l) (fun t ht => ⟨(h.tells.oks t ht).n1, (h.tells.oks t ht).n2⟩)).1
  unfold needT at h2
  omega
theorem good_long : ∀ {l : List Ex} {s e : Int}, AscTo s e l → (l.length : Int) ≤ e - s
  | [], s, e, h => by have h : s ≤ e := h; show (0 : Int) ≤ _; omega
  | y :: t, s, e, h => by
    obtain ⟨h1, h2, h3⟩ := h
    unfold Ex.Fits at h2
    have := good_long h3
    rw [List.length_cons]
    omega
theorem fnd_short {f : Nat → Bool × Nat} {safe lba k i : Nat} (h1 : (lba : Int) + k ≤ 4096) (hi : i ≤ 7616) : ∀ y ∈ (fnd f safe lba k i).1, y.Fits ∧ (lba : Int) ≤ y.l ∧ y.l + y.b ≤ (lba : Int) + k ∧ 576 ≤ y.a ∧ y.a + y.b ≤ 576 + (i : Int) := by
  intro y hy
  have hg := fnd_good (f := f) (safe := safe) (lba := (lba : Int)) (blocks := k) (by omega) h1 i hi
  have hf := fnd_found (f := f) (safe := safe) (lba := (lba : Int)) (blocks := k) (by omega) h1 i hi
  have hl := fnd_left f safe lba k i
  obtain ⟨_, h2, _, h4⟩ := asc_mem (Ext.good_asc hg) y hy
  have h5 := h2
  unfold Ex.Fits at h5
  have e1 := h4 y.l (by omega) (by omega)
  have e2 := h4 (y.l + y.b - 1) (by omega) (by omega)
  have d1 := (hf.dom _).1 (by rw [e1]; exact fun h => by cases h)
  have d2 := (hf.dom _).1 (by rw [e2]; exact fun h => by cases h)
  have a1 := hf.at_ _ _ e1
  have a2 := hf.at_ _ _ e2
  exact ⟨h2, d1.1, by omega, by omega, by omega⟩
theorem fnd_len {f : Nat → Bool × Nat} {safe lba k i : Nat} (h1 : (lba : Int) + k ≤ 4096) (hi : i ≤ 7616) : (fnd f safe lba k i).1.length ≤ 4096 := by
  have := good_long (Ext.good_asc (fnd_good (f := f) (safe := safe) (lba := (lba : Int)) (blocks := k) (by omega) h1 i hi))
  omega
open Go.RowKit
open Ext (Ex Exts exV ExtsF textX)
open Ext (whereX AscTo goodB setX dropX)
theorem change_inv (w : World) {S : Nat → Prop} {s p q n : Nat} {x : St} {j : Jn} {st : Sto} {V Vp : List Un} {lun : Nat} {t : Tb} {c : Chg} (h : SD w S s p q n x j st) (hi : Inv n x j st V Vp) (k : Turns n st lun t (c.ap t)) (hc : c.Ok t.n) (hx : x.ops ≤ 10000000000) (hn : j.num ≤ 10000000000) (hch : st.ch ≤ 1000000000000) :
    Calls Tryz.prog 70 #[.pointer (some ⟨s, 0, none⟩), chV lun c] w fun e w' => e = .returned (.int .i64 0) ∧ ∃ x' j' st' Vp', SOut S w s p q n x' j' st' w' ∧ Inv n x' j' st' (V.set lun (unOf x.seen (c.ap t))) Vp' ∧ (Vp' = V ∨ Vp' = V.set lun (unOf x.seen (c.ap t))) ∧ x'.ops ≤ x.ops + 200 ∧ j'.num = j.num + 1 ∧ st'.ch = st.ch + 1 := by
  have hfit := (rest_sound hi.rest').fits
  rcases hi.why (lun := lun) hc with hw | hw
  · obtain ⟨f1, f2⟩ := hi.append k hc hw (by omega)
    refine (change_ok w h hi.bad hi.down lun t k.at_ c hc hi.tells.oks hi.tells.few hch hfit hx hn hi.tells.most (Turns.freeOk hi k) (Turns.useOk hi k _) hw f1).mono ?_
    rintro e w' ⟨rfl, ho⟩
    rw [hi.bad] at ho
    refine ⟨rfl, _, _, _, _, ho, f2, .inl rfl, ?_, rfl, rfl⟩
    have h1 := enter_ops j x (chB lun c) j.half j.used (j.recs.length + 1)
    have h2 := secF_le (chB_size (lun := lun) hc)
    omega
  · obtain ⟨g1, g2, g3, g4⟩ := hi.check k (by omega)
    refine (change_chk w h hi.bad hi.down lun t k.at_ c hc hi.tells.oks hi.tells.few hch hfit hx hn hi.tells.most (Turns.freeOk hi k) (Turns.useOk hi k _) hw g1 g2 g3).mono ?_
    rintro e w' ⟨rfl, ho⟩
    rw [hi.bad] at ho
    refine ⟨rfl, _, _, _, _, ho, g4, .inr rfl, ?_, rfl, rfl⟩
    have h1 := check_ops j x (baseB (st.l.set lun (c.ap t)))
    have h2 := secF_le (why_zero' g1).2.1
    omega
theorem room_inv (w : World) {S : Nat → Prop} {s p q n : Nat} {x : St} {j : Jn} {st : Sto} {V Vp : List Un} {lun lba k : Nat} {t : Tb} (h : SD w S s p q n x j st) (hi : Inv n x j st V Vp) (ht : st.l[lun]? = some t) (hk : (lba : Int) + k ≤ t.n) (hx : x.ops ≤ 1000000000000) :
    Calls Tryz.prog 68 #[.pointer (some ⟨s, 0, none⟩), .int .i64 (lba : Int), .int .i64 (k : Int)] w fun e w' => ∃ A c sf x' Vp' S', e = .returned (.tuple #[.slice A (fnd st.f sf lba k (n - 576)).1.length c, .int .i64 0]) ∧ ExtsF w.heap.size w' A (fnd st.f sf lba k (n - 576)).1 ∧ SD w' S' s p q n x' j ⟨st.l, st.f, st.ch, sf, st.bad⟩ ∧ Only S w w' ∧ Grew S w S' ∧ (0 < (fnd st.f sf lba k (n - 576)).1.length → ∀ a, A = some a → ¬ S' a.block) ∧ Inv n x' j ⟨st.l, st.f, st.ch, sf, st.bad⟩ V Vp' ∧ x'.ops ≤ x.ops + 1 ∧ (fnd st.f sf lba k (n - 576)).2 = 0 := by
  have htk := hi.tells.oks t (List.mem_of_getElem? ht)
  have hl : lba + k ≤ 4096 := by have := htk.n2; omega
  by_cases hz : (fnd st.f st.sf lba k (n - 576)).2 = 0
  · refine (room_at_once w h hi.bad hi.down lba k hl hi.tells.most hz).mono ?_
    rintro e w' ⟨A, c, rfl, he, hsd, hb⟩
    exact ⟨A, c, st.sf, x, Vp, S, rfl, he, hsd, Only.of_below hb, Grew.refl _ _, (fun hn a ha hh => absurd (h.lt _ hh) (by have := he.2 hn a ha; omega)), hi, Nat.le_succ _, hz⟩
  · have hz2 := hi.room ht hk
    obtain ⟨f1, f2⟩ := hi.flush
    refine (room_late w h hi.bad hi.down hi.tells.fit hx f1 lba k hl hi.tells.most hz hz2).mono ?_
    rintro e w' ⟨A, c, rfl, he, S1, hsd, ho, hg, hno⟩
    exact ⟨A, c, st.ch, x.flsh.1, V, S1, rfl, he, hsd, ho, hg, hno, f2, flsh_ops x, hz2⟩
set_option maxRecDepth 100000 in
/-- Blocks are laid where room was found. -/
theorem lay_inv (w : World) {S : Nat → Prop} {s p q n : Nat} {x : St} {j : Jn} {st : Sto} {V Vp : List Un} {lun lba k safe : Nat} {t : Tb} (h : SD w S s p q n x j st) (hi : Inv n x j st V Vp) (ht : st.l[lun]? = some t) (hk : (lba : Int) + k ≤ t.n) (hz : (fnd st.f safe lba k (n - 576)).2 = 0) (A : Option Addr) (c : Nat) (d : ByteArray) (hd : d.size = k * 512) (he : Exts w A (fnd st.f safe lba k (n - 576)).1) (hA : 0 < (fnd st.f safe lba k (n - 576)).1.length → ∀ a, A = some a → ¬ S a.block) (hx : x.ops ≤ 100000000000) :
    Calls Tryz.prog 69 #[.pointer (some ⟨s, 0, none⟩), .slice A (fnd st.f safe lba k (n - 576)).1.length c, .int .i64 (lba : Int), .string d] w fun e w' => e = .returned (.int .i64 0) ∧ ∃ x', SOut S w s p q n x' j st w' ∧ Inv n x' j st V V ∧ (∀ b a, whereX (fnd st.f safe lba k (n - 576)).1 b = some a → x'.seen[a.toNat]? = some (sec d (b.toNat - lba))) ∧ x'.ops ≤ x.ops + (fnd st.f safe lba k (n - 576)).1.length * 4096 + 1 := by
  have htk := hi.tells.oks t (List.mem_of_getElem? ht)
  have hl : (lba : Int) + k ≤ 4096 := by have := htk.n2; omega
  have hb := hi.big
  have hm := hi.tells.most
  have hn3 : n - 576 ≤ 7616 := by omega
  obtain ⟨hf, hg⟩ := hi.found ht hk hz
  have hin := fnd_short (f := st.f) (safe := safe) hl hn3
  have hlen := fnd_len (f := st.f) (safe := safe) hl hn3
  have hgood : x.safe.length = n := by obtain ⟨F, hdv⟩ := h.dv; exact hdv.good.size
  obtain ⟨k1, k2, k3⟩ := hi.lay hgood (lba := lba) (t := d) (Ext.good_asc hg) hf.inj (fun b a hb2 => by
    have h1 := (hf.dom b).1 (by rw [hb2]; exact fun h => by cases h)
    have h2 := hf.at_ b a hb2
    exact ⟨h1.1, h2.1, by omega, h2.2.2.1⟩) (fun i h1 h2 => by
    have h3 := (hf.dom (i : Int)).1 h2
    unfold sec
    rw [ByteArray.size_extract, hd]
    omega)
  have hall := lay_any w h hi.bad A c _ lba d he hA (fun y hy => by
    obtain ⟨y1, y2, y3, y4, y5⟩ := hin y hy
    refine ⟨y1, y2, ?_, by omega⟩
    rw [hd]
    have : (y.l - lba + y.b) ≤ k := by omega
    omega) (by rw [hd]; omega) (by omega) (by omega)
  have hops := (lay_free (fnd st.f safe lba k (n - 576)).1 x lba d hi.armed hi.down (fun y hy => by
    obtain ⟨y1, _⟩ := hin y hy
    unfold Ex.Fits at y1
    omega)).2.2.2.2.2
  refine hall.mono ?_
  rintro e w' ⟨rfl, ho⟩
  rw [k1] at ho
  have hst : (⟨st.l, st.f, st.ch, st.sf, !true⟩ : Sto) = st := by
    have := hi.bad
    cases st
    simp only at this
    subst this
    rfl
  rw [hst] at ho
  exact ⟨by rw [k1]; rfl, _, ho, k2, k3, hops⟩
open Go.RowKit
open Ext (Ex Exts exV ExtsF textX)
open Ext (whereX AscTo goodB setX dropX)
theorem Inv.at_ {n : Nat} {x : St} {j : Jn} {st : Sto} {V Vp : List Un} (h : Inv n x j st V Vp) {lun : Nat} {t : Tb} (ht : st.l[lun]? = some t) : V[lun]? = some (unOf x.seen t) := by
  rw [h.view, List.getElem?_map, ht]
  rfl
theorem Inv.un {n : Nat} {x : St} {j : Jn} {st : Sto} {V Vp : List Un} (h : Inv n x j st V Vp) {lun : Nat} {u : Un} (hu : V[lun]? = some u) : ∃ t, st.l[lun]? = some t ∧ u = unOf x.seen t := by
  rw [h.view, List.getElem?_map] at hu
  cases ht : st.l[lun]? with
  | none => rw [ht] at hu; cases hu
  | some t => rw [ht] at hu; exact ⟨t, rfl, (Option.some.inj hu).symm⟩
set_option maxRecDepth 100000 in
set_option maxHeartbeats 2000000 in
theorem swrite_inv (w : World) {S : Nat → Prop} {s p q n : Nat} {x : St} {j : Jn} {st : Sto} {V Vp : List Un} {lun lba k : Nat} {t : Tb} (h : Has w S s p q n x j st) (hi : Inv n x j st V Vp) (ht : st.l[lun]? = some t) (hk : (lba : Int) + k ≤ t.n) (hk64 : k ≤ 64) (d : ByteArray) (hd : d.size = k * 512) (hx : x.ops ≤ 9000000000) (hjn : j.num ≤ 1000000000) (hch : st.ch ≤ 1000000000) :
    Calls Tryz.prog 18 #[.pointer (some ⟨s, 0, none⟩), .int .i64 (lun : Int), .int .i64 (lba : Int), .string d] w fun e w' => e = .returned (.int .i64 0) ∧ ∃ x' j' st' Vp', SOut S w s p q n x' j' st' w' ∧ Inv n x' j' st' (V.set lun ((unOf x.seen t).wr lba k d)) Vp' ∧ (Vp' = V ∨ Vp' = V.set lun ((unOf x.seen t).wr lba k d)) ∧ x'.ops ≤ x.ops + 17000000 ∧ j'.num = j.num + 1 ∧ st'.ch = st.ch + 1 := by
  have htk := hi.tells.oks t (List.mem_of_getElem? ht)
  have hl : (lba : Int) + k ≤ 4096 := by have := htk.n2; omega
  have hb0 : hasB t.n lba k = true := by unfold hasB; exact decide_eq_true (by omega)
  have HH := Lib.hid (fun A c v => (hb0 ▸ has_any t A c lba k v (by have := htk.n1; omega) (by have := htk.n2; omega) (by omega) : Calls Tryz.prog 67 #[tbV t A c, .int .i64 (lba : Int), .int .i64 (k : Int)] v fun e w' => e = .returned (.bool true) ∧ Below v.heap.size v w'))
  unfold tbV at HH
  have HT := Lib.hid (table_ok w h lun t ht)
  unfold tbV at HT
  have hu := hi.at_ ht
  have HSD0 := Lib.hid (fun v T (hh : SD v T s p q n x j st) v' (hv : Below v.heap.size v v') => hh.below hv)
  have HRM := Lib.hid (fun v T (hh : SD v T s p q n x j st) => room_inv v hh hi ht hk (by omega))
  have HM : Hid (∀ (w3 : World) (S3 : Nat → Prop) (x3 : St) (sf : Nat) (Vp3 : List Un) (A : Option Addr) (c : Nat), SD w3 S3 s p q n x3 j ⟨st.l, st.f, st.ch, sf, st.bad⟩ → Inv n x3 j ⟨st.l, st.f, st.ch, sf, st.bad⟩ V Vp3 → x3.ops ≤ x.ops + 1 → (fnd st.f sf lba k (n - 576)).2 = 0 → Exts w3 A (fnd st.f sf lba k (n - 576)).1 → (0 < (fnd st.f sf lba k (n - 576)).1.length → ∀ a, A = some a → ¬ S3 a.block) →
      Calls Tryz.prog 69 #[.pointer (some ⟨s, 0, none⟩), .slice A (fnd st.f sf lba k (n - 576)).1.length c, .int .i64 (lba : Int), .string d] w3 fun e w4 => e = .returned (.int .i64 0) ∧
        Calls Tryz.prog 71 #[.int .i64 (lun : Int), .slice A (fnd st.f sf lba k (n - 576)).1.length c] w4 fun e w5 => e = .returned (chV lun (.wrote (fnd st.f sf lba k (n - 576)).1)) ∧
          Calls Tryz.prog 70 #[.pointer (some ⟨s, 0, none⟩), chV lun (.wrote (fnd st.f sf lba k (n - 576)).1)] w5 fun e w6 => e = .returned (.int .i64 0) ∧ ∃ x' j' st' Vp', SOut S3 w3 s p q n x' j' st' w6 ∧ Inv n x' j' st' (V.set lun ((unOf x.seen t).wr lba k d)) Vp' ∧ (Vp' = V ∨ Vp' = V.set lun ((unOf x.seen t).wr lba k d)) ∧ x'.ops ≤ x.ops + 17000000 ∧ j'.num = j.num + 1 ∧ st'.ch = st.ch + 1) := Lib.hid (by
    intro w3 S3 x3 sf Vp3 A c hsd hi3 hops hz hex hno
    have hm := hi3.tells.most
    have hb576 := hi3.big
    have hlen := fnd_len (f := st.f) (safe := sf) hl (i := n - 576) (by omega)
    obtain ⟨hf, hg⟩ := hi3.found (safe := sf) ht hk hz
    refine (lay_inv w3 hsd hi3 ht hk hz A c d hd hex hno (by omega)).mono ?_
    rintro e w4 ⟨rfl, x4, ⟨S4, hsd4, ho4, hg4⟩, hi4, hat, hops4⟩
    dsimp only at hops4 hat
    refine ⟨rfl, ?_⟩
    have hex4 : Exts w4 A (fnd st.f sf lba k (n - 576)).1 := hex.kept fun hn a ha => ho4.block a.block (hex.lt hn a ha) (hno hn a ha)
    refine (made_wrote lun A c _ w4 hex4 (by omega) hg).mono ?_
    rintro e w5 ⟨rfl, hb5⟩
    refine ⟨rfl, ?_⟩
    obtain ⟨htu, hco⟩ := hi4.turnW ht hf (by omega) hg hk
    have hlen2 : (fnd st.f sf lba k (n - 576)).1.length * 4096 ≤ 16777216 := by omega
    refine (change_inv w5 (hsd4.below hb5) hi4 htu hco (by omega) (by omega) (by show st.ch ≤ _; omega)).mono ?_
    rintro e w6 ⟨rfl, x', j', st', Vp', ho6, hi6, hvp, hop6, hn6, hc6⟩
    have hu4 : unOf x4.seen t = unOf x.seen t := by
      have := hi4.at_ ht
      rw [hu] at this
      exact (Option.some.inj this).symm
    have hv : unOf x4.seen ((Chg.wrote (fnd st.f sf lba k (n - 576)).1).ap t) = (unOf x.seen t).wr lba k d := by
      rw [viewW htk.good hg hf hat, hu4]
    rw [hv] at hi6 hvp
    exact ⟨rfl, x', j', st', Vp', SOut.trans ho4 hg4 (SOut.trans (Only.of_below hb5) (fun k hk => by exact .inl hk) ho6), hi6, hvp, by omega, hn6, hc6⟩)
  have hz0 : ((d.size % 512 : Nat) : Int) = 0 := by omega
  have ht1 : (d.size : Int) / 512 = (k : Int) := by omega
  have ht2 : (d.size : Int) % 512 = 0 := by omega
  have hw1 : IntKind.i64.wrap (k : Int) = (k : Int) := i64w _ (by omega)
  have hw2 : IntKind.i64.wrap (0 : Int) = (0 : Int) := rfl
  have hm1 : ¬ (64 : Int) < (k : Int) := by omega
  obtain ⟨cv, hcv⟩ : ∃ cv : List Ex → Value, cv = fun q => chV lun (.wrote q) := ⟨_, rfl⟩
  have HCV := Lib.hid hcv
  clear h hi ht hk hk64 htk hl hb0 hu hx hjn hch hz0 hcv hd
  go_enter Tryz.func18, Tryz.ntmps18
  go_wp2_with (fail)
  refine HT.out.mono ?_; rintro e w1 ⟨E, c, S1, rfl, hsd, _, _, ho, hg⟩
  obtain ⟨hnb, hb1⟩ := one_alloc w1 #[.int .i64 t.n, .string t.id, .string t.rc, .slice E t.ex.length c] 140 _ rfl
  have HB := Lib.hid hb1; have HNB := Lib.hid hnb
  have HSD := Lib.hid hsd; have HO := Lib.hid ho; have HG := Lib.hid hg
  have hnt := hnot_true (w1.alloc (.cells #[.int .i64 t.n, .string t.id, .string t.rc, .slice E t.ex.length c] 140))
  clear hsd ho hg hb1 hnb HT
  go_wp2_with (fail)
  generalize (w1.alloc (.cells #[.int .i64 t.n, .string t.id, .string t.rc, .slice E t.ex.length c] 140)) = w0 at *
  refine (HH.out E c _).mono ?_; rintro e w2 ⟨rfl, hb2⟩
  have HB2 := Lib.hid (HB.out.trans (hb2.mono HB.out.size))
  have hn2 := hnot_true w2
  clear hb2 hnt HB HNB
  go_wp2_with (fail)
  refine (HRM.out w2 S1 (HSD0.out _ _ HSD.out _ HB2.out)).mono ?_; rintro e w3 ⟨A3, c3, sf, x3, Vp3, S3, rfl, hex3, hsd3, ho3, hg3, hno3, hi3, hop3, hz3⟩
  have HMM := Lib.hid (HM.out w3 S3 x3 sf Vp3 A3 c3 hsd3 hi3 hop3 hz3 hex3.1 hno3)
  have HO3 := Lib.hid ((HO.out.below HB2.out).go HG.out ho3)
  have HG3 := Lib.hid (HG.out.trans hg3 (HO.out.below HB2.out).size)
  obtain ⟨fq, hfq⟩ : ∃ fq, (fnd st.f sf lba k (n - 576)).1 = fq := ⟨_, rfl⟩
  rw [hfq] at HMM ⊢
  clear hex3 hsd3 ho3 hg3 hno3 hi3 hop3 hz3 hfq HM HRM HH HSD0 hn2
  go_wp2_with (fail)
  refine HMM.out.mono ?_; rintro e w4 ⟨rfl, h4⟩
  have H4 := Lib.hid h4
  clear h4 HMM
  go_wp2_with (fail)
  refine H4.out.mono ?_; rintro e w5 ⟨rfl, h5⟩
  have H5 := Lib.hid h5
  clear h5 H4
  go_wp2_with (fail)
  refine H5.out.mono ?_; rintro e w6 ⟨rfl, x', j', st', Vp', ho6, hi6, hvp, hop6, hn6, hc6⟩
  have R := Lib.hid (SOut.trans HO3.out HG3.out ho6)
  have R2 := Lib.hid (And.intro hi6 (And.intro hvp (And.intro hop6 (And.intro hn6 hc6))))
  clear ho6 hi6 hvp hop6 hn6 hc6 H5
  go_wp2_with (fail)
  go_ret
  exact ⟨rfl, x', j', st', Vp', R.out, R2.out⟩
open Go.RowKit
open Ext (Ex Exts exV ExtsF textX)
open Ext (whereX AscTo goodB setX dropX)
set_option maxRecDepth 100000 in
set_option maxHeartbeats 1000000 in
theorem srecord_inv (w : World) {S : Nat → Prop} {s p q n : Nat} {x : St} {j : Jn} {st : Sto} {V Vp : List Un} {lun : Nat} {t : Tb} (h : Has w S s p q n x j st) (hi : Inv n x j st V Vp) (ht : st.l[lun]? = some t) (d : ByteArray) (hd : d.size ≤ 2048) (hx : x.ops ≤ 9000000000) (hjn : j.num ≤ 1000000000) (hch : st.ch ≤ 1000000000) :
    Calls Tryz.prog 26 #[.pointer (some ⟨s, 0, none⟩), .int .i64 (lun : Int), .string d] w fun e w' => e = .returned (.int .i64 0) ∧ ∃ x' j' st' Vp', SOut S w s p q n x' j' st' w' ∧ Inv n x' j' st' (V.set lun ((unOf x.seen t).re d)) Vp' ∧ (Vp' = V ∨ Vp' = V.set lun ((unOf x.seen t).re d)) ∧ x'.ops ≤ x.ops + 17000000 ∧ j'.num = j.num + 1 ∧ st'.ch = st.ch + 1 := by
  have HT := Lib.hid (table_ok w h lun t ht)
  unfold tbV at HT
  have HMR := Lib.hid (fun v => made_recorded lun d v)
  have HC := Lib.hid (fun v T (hh : SD v T s p q n x j st) => change_inv v hh hi (hi.turnR ht (s := d) hd) hd (by omega) (by omega) (by omega))
  have HSD0 := Lib.hid (fun v T (hh : SD v T s p q n x j st) v' (hv : Below v.heap.size v v') => hh.below hv)
  rw [viewR] at HC
  have hzz : ¬ (2048 : Int) < (d.size : Int) := by omega
  clear h hi ht hd hx hjn hch
  go_enter Tryz.func26, Tryz.ntmps26
  go_wp2_with (fail)
  refine HT.out.mono ?_; rintro e w1 ⟨E, c, S1, rfl, hsd, _, _, ho, hg⟩
  obtain ⟨hnb, hb1⟩ := one_alloc w1 #[.int .i64 t.n, .string t.id, .string t.rc, .slice E t.ex.length c] 140 _ rfl
  have HB := Lib.hid hb1
  have HSD := Lib.hid hsd; have HO := Lib.hid ho; have HG := Lib.hid hg
  have hnt := hnot_true (w1.alloc (.cells #[.int .i64 t.n, .string t.id, .string t.rc, .slice E t.ex.length c] 140))
  clear hsd ho hg hb1 hnb HT
  go_wp2_with (fail)
  generalize (w1.alloc (.cells #[.int .i64 t.n, .string t.id, .string t.rc, .slice E t.ex.length c] 140)) = w0 at *
  refine (HMR.out _).mono ?_; rintro e w2 ⟨rfl, hb2⟩
  have HB2 := Lib.hid (HB.out.trans (hb2.mono HB.out.size))
  clear hb2 hnt HMR HB
  go_wp2_with (fail)
  refine (HC.out w2 S1 (HSD0.out _ _ HSD.out _ HB2.out)).mono ?_; rintro e w6 ⟨rfl, x', j', st', Vp', ho6, hi6, hvp, hop6, hn6, hc6⟩
  have R := Lib.hid (SOut.trans (HO.out.below HB2.out) HG.out ho6)
  have R2 := Lib.hid (And.intro hi6 (And.intro hvp (And.intro (Nat.le_trans hop6 (Nat.add_le_add_left (by decide : 200 ≤ 17000000) x.ops)) (And.intro hn6 hc6))))
  clear ho6 hi6 hvp hop6 hn6 hc6 HC
  go_wp2_with (fail)
  go_ret
  exact ⟨rfl, x', j', st', Vp', R.out, R2.out⟩
/-- Ranges in memory. -/
def RngI (w : World) (A : Option Addr) (l : List (Int × Int)) : Prop := 0 < l.length → ∃ b o, A = some ⟨b, o, none⟩ ∧ ∀ (j : Nat) (r : Int × Int), l[j]? = some r → w.cell? ⟨b, o + j * 2, none⟩ = some (.int .i64 r.1) ∧ w.cell? ⟨b, o + j * 2 + 1, none⟩ = some (.int .i64 r.2)
theorem RngI.at_ {w : World} {A : Option Addr} {l : List (Int × Int)} (h : RngI w A l) {j : Nat} (hj : j < l.length) : ∃ b o r, A = some ⟨b, o, none⟩ ∧ l[j]? = some r ∧ w.cell? ⟨b, o + j * 2, none⟩ = some (.int .i64 r.1) ∧ w.cell? ⟨b, o + j * 2 + 1, none⟩ = some (.int .i64 r.2) := by
  obtain ⟨b, o, e, k⟩ := h (by omega)
  obtain ⟨k1, k2⟩ := k j l[j] (List.getElem?_eq_getElem hj)
  exact ⟨b, o, l[j], e, List.getElem?_eq_getElem hj, k1, k2⟩
theorem RngI.below {w w' : World} {A : Option Addr} {l : List (Int × Int)} (h : RngI w A l) (hb : Below w.heap.size w w') : RngI w' A l := fun hn => by
  obtain ⟨b, o, e, h⟩ := h hn
  refine ⟨b, o, e, fun j r hr => ?_⟩
  obtain ⟨c0, c1⟩ := h j r hr
  exact ⟨(hb.cell (World.block_lt_of_cell? _ _ c0)).trans c0, (hb.cell (World.block_lt_of_cell? _ _ c1)).trans c1⟩
theorem RngI.only {S : Nat → Prop} {w w' : World} {A : Option Addr} {l : List (Int × Int)} (h : RngI w A l) (ho : Only S w w') (hs : 0 < l.length → ∀ a, A = some a → ¬ S a.block) : RngI w' A l := fun hn => by
  obtain ⟨b, o, e, h⟩ := h hn
  have hsb := hs hn _ e
  exact ⟨b, o, e, fun j r hr => ⟨ho.cell (h j r hr).1 hsb, ho.cell (h j r hr).2 hsb⟩⟩
def natR (l : List (Int × Int)) : List (Nat × Nat) := l.map fun r => (r.1.toNat, r.2.toNat)
theorem natR_rngs {w : World} {A : Option Addr} {l : List (Int × Int)} (h : RngI w A l) (hp : ∀ r ∈ l, 0 ≤ r.1 ∧ 0 ≤ r.2) : Rngs w A (natR l) := fun hn => by
  obtain ⟨b, o, e, h⟩ := h (by simpa [natR] using hn)
  refine ⟨b, o, e, fun j r hr => ?_⟩
  unfold natR at hr
  rw [List.getElem?_map] at hr
  cases hl : l[j]? with
  | none => rw [hl] at hr; cases hr
  | some y =>
    rw [hl] at hr
    obtain rfl := Option.some.inj hr
    obtain ⟨c0, c1⟩ := h j y hl
    obtain ⟨p0, p1⟩ := hp y (List.mem_of_getElem? hl)
    refine ⟨?_, ?_⟩
    · rw [c0]; show _ = some (Value.int .i64 ((y.1.toNat : Nat) : Int)); rw [Int.toNat_of_nonneg p0]
    · rw [c1]; show _ = some (Value.int .i64 ((y.2.toNat : Nat) : Int)); rw [Int.toNat_of_nonneg p1]
def allB (n : Int) (l : List (Int × Int)) : Bool := l.all fun r => hasB n r.1 r.2
set_option maxRecDepth 100000 in
set_option maxHeartbeats 2000000 in
/-- The ranges are gone through: to the end, or to the first that the unit does not have. -/
theorem sclear_inv (w : World) {S : Nat → Prop} {s p q n : Nat} {x : St} {j : Jn} {st : Sto} {V Vp : List Un} {lun : Nat} {t : Tb} (h : Has w S s p q n x j st) (hi : Inv n x j st V Vp) (ht : st.l[lun]? = some t) (A : Option Addr) (c0 : Nat) (l : List (Int × Int)) (hl : RngI w A l) (hA : 0 < l.length → ∀ a, A = some a → ¬ S a.block) (hlen : l.length ≤ 16) (hal : allB t.n l = true) (hr : ∀ r ∈ l, -9223372036854775808 ≤ r.1 ∧ r.1 ≤ 9223372036854775807) (hx : x.ops ≤ 9000000000) (hjn : j.num ≤ 1000000000) (hch : st.ch ≤ 1000000000) :
    Calls Tryz.prog 27 #[.pointer (some ⟨s, 0, none⟩), .int .i64 (lun : Int), .slice A l.length c0] w fun e w' => e = .returned (.int .i64 0) ∧ ∃ x' j' st' Vp', SOut S w s p q n x' j' st' w' ∧ Inv n x' j' st' (V.set lun ((unOf x.seen t).cl (natR l))) Vp' ∧ (Vp' = V ∨ Vp' = V.set lun ((unOf x.seen t).cl (natR l))) ∧ x'.ops ≤ x.ops + 17000000 ∧ j'.num = j.num + 1 ∧ st'.ch = st.ch + 1 := by
  have htk := hi.tells.oks t (List.mem_of_getElem? ht)
  have hall : ∀ r ∈ l, 0 ≤ r.1 ∧ 0 ≤ r.2 ∧ r.2 ≤ t.n - r.1 := fun r hr => by
    unfold allB at hal
    rw [List.all_eq_true] at hal
    have := hal r hr
    unfold hasB at this
    exact of_decide_eq_true this
  have hco : (Chg.cleared (natR l)).Ok t.n := by
    refine ⟨by simpa [natR] using hlen, fun r hr => ?_⟩
    obtain ⟨y, hy, rfl⟩ := List.mem_map.1 hr
    have := hall y hy
    show ((y.1.toNat : Nat) : Int) + ((y.2.toNat : Nat) : Int) ≤ t.n
    omega
  have HT := Lib.hid (table_ok w h lun t ht)
  unfold tbV at HT
  have HH : Hid (∀ (E : Option Addr) (ce : Nat) (r : Int × Int), r ∈ l → ∀ v, Calls Tryz.prog 67 #[tbV t E ce, .int .i64 r.1, .int .i64 r.2] v fun e w' => e = .returned (.bool true) ∧ Below v.heap.size v w') := Lib.hid (fun E ce r hrm v => by
    have := has_any t E ce r.1 r.2 v (by have := htk.n1; omega) (by have := htk.n2; omega) (hr r hrm)
    have hb : hasB t.n r.1 r.2 = true := by unfold hasB; exact decide_eq_true (hall r hrm)
    rw [hb] at this
    exact this)
  unfold tbV at HH
  have HMC : Hid (∀ v, RngI v A l → Calls Tryz.prog 82 #[.int .i64 (lun : Int), .slice A l.length c0] v fun e w' => e = .returned (chV lun (.cleared (natR l))) ∧ Below v.heap.size v w') := Lib.hid (fun v hv => by
    have := made_cleared lun A c0 (natR l) v (natR_rngs hv (fun r hr => ⟨(hall r hr).1, (hall r hr).2.1⟩)) (by simp [natR]; omega) (fun r hr => by
      have := hco.2 r hr
      have := htk.n2
      omega)
    rw [show (natR l).length = l.length from by simp [natR]] at this
    exact this)
  have HC := Lib.hid (fun v T (hh : SD v T s p q n x j st) => change_inv v hh hi (hi.turnC ht hco) hco (by omega) (by omega) (by omega))
  rw [viewC htk hco] at HC
  have HSD0 := Lib.hid (fun v T (hh : SD v T s p q n x j st) v' (hv : Below v.heap.size v v') => hh.below hv)
  have HL := Lib.hid hl; have HA := Lib.hid hA
  have hzz : ¬ (16 : Int) < (l.length : Int) := by omega
  clear h hi ht hl hA hal hr hx hjn hch hco hall htk
  go_enter Tryz.func27, Tryz.ntmps27
  go_wp2_with (fail)
  refine HT.out.mono ?_; rintro e w1 ⟨E, c, S1, rfl, hsd, _, _, ho, hg⟩
  obtain ⟨hnb, hb1⟩ := one_alloc w1 #[.int .i64 t.n, .string t.id, .string t.rc, .slice E t.ex.length c] 140 _ rfl
  have HB := Lib.hid hb1; have HNB := Lib.hid hnb
  have HSD := Lib.hid hsd; have HO := Lib.hid ho; have HG := Lib.hid hg
  have HLW := Lib.hid ((HL.out.only ho HA.out).below hb1)
  have hnt := hnot_true (w1.alloc (.cells #[.int .i64 t.n, .string t.id, .string t.rc, .slice E t.ex.length c] 140))
  clear hsd ho hg hb1 hnb HT HL HA
  go_wp2_with (fail)
  generalize (w1.alloc (.cells #[.int .i64 t.n, .string t.id, .string t.rc, .slice E t.ex.length c] 140)) = w0 at *
  go_loopw [24] (fun i v => ∃ m : Nat, i = .int .i64 m ∧ m ≤ l.length ∧ Below w0.heap.size w0 v) (fun i _ => l.length - (intOf i).toNat)
  case atStart => exact ⟨0, rfl, Nat.zero_le _, Below.refl _ _⟩
  case round =>
    obtain ⟨m, rfl, hm, hbl⟩ := hrel
    have HBL := Lib.hid hbl
    have HLV := Lib.hid (HLW.out.below hbl)
    have HNV := Lib.hid (HNB.out.below hbl HNB.out.lt)
    clear hbl
    generalize wr = v at *
    by_cases hlt : m < l.length
    · have hki : (m : Int) < l.length := by omega
      obtain ⟨b, o, r, rfl, hat, c0', c1'⟩ := HLV.out.at_ hlt
      have HHr := Lib.hid (HH.out E c r (List.mem_of_getElem? hat))
      obtain ⟨r1, r2⟩ := r
      simp only at c0' c1' HHr
      have k0 := (HNV.out.cell 0).trans rfl
      have k1 := (HNV.out.cell 1).trans rfl
      have k2 := (HNV.out.cell 2).trans rfl
      have k3 := (HNV.out.cell 3).trans rfl
      have hwk : IntKind.i64.wrap ((m : Int) + 1) = ((m + 1 : Nat) : Int) := by rw [i64w _ (by omega)]; omega
      obtain ⟨hn2, hb2⟩ := one_alloc v #[.int .i64 r1, .int .i64 r2] 51 _ rfl
      have HN2 := Lib.hid hn2; have HB2 := Lib.hid hb2
      have HNV2 := Lib.hid (HNV.out.below hb2 HNV.out.lt)
      clear hat hn2 hb2
      go_upto_region 9 with (fail)
      have g0 := (HNV2.out.cell 0).trans rfl
      have g1 := (HNV2.out.cell 1).trans rfl
      have g2 := (HNV2.out.cell 2).trans rfl
      have g3 := (HNV2.out.cell 3).trans rfl
      have e0 := (HN2.out.cell 0).trans rfl
      have e1 := (HN2.out.cell 1).trans rfl
      clear k0 k1 k2 k3 c0' c1'
      generalize (v.alloc (.cells #[.int .i64 r1, .int .i64 r2] 51)) = v2 at *
      go_wp2_with (fail)
      refine (HHr.out _).mono ?_; rintro e v3 ⟨rfl, hb3⟩
      have HB3 := Lib.hid (HBL.out.trans ((HB2.out.trans (hb3.mono HB2.out.size)).mono HBL.out.size))
      have hnt3 := hnot_true v3
      clear hb3
      go_wp2_with (fail)
      exact ⟨⟨m + 1, rfl, hlt, HB3.out⟩, by simp only [intOf]; omega⟩
    · obtain rfl : m = l.length := by omega
      have hkk : ¬ (l.length : Int) < (l.length : Int) := by omega
      go_wp2_with (fail)
      refine (HMC.out _ HLV.out).mono ?_; rintro e w2 ⟨rfl, hb2⟩
      have HB2 := Lib.hid ((HB.out.trans (HBL.out.mono HB.out.size)).trans (hb2.mono (HB.out.trans (HBL.out.mono HB.out.size)).size))
      clear hb2 HMC
      go_wp2_with (fail)
      refine (HC.out w2 S1 (HSD0.out _ _ HSD.out _ HB2.out)).mono ?_; rintro e w6 ⟨rfl, x', j', st', Vp', ho6, hi6, hvp, hop6, hn6, hc6⟩
      have R := Lib.hid (SOut.trans (HO.out.below HB2.out) HG.out ho6)
      have R2 := Lib.hid (And.intro hi6 (And.intro hvp (And.intro (Nat.le_trans hop6 (Nat.add_le_add_left (by decide : 200 ≤ 17000000) x.ops)) (And.intro hn6 hc6))))
      clear ho6 hi6 hvp hop6 hn6 hc6 HC
      go_wp2_with (fail)
      go_ret
      exact ⟨rfl, x', j', st', Vp', R.out, R2.out⟩
open Go.RowKit
open Ext (Ex Exts exV ExtsF)
theorem SU.cells {w : World} {S : Nat → Prop} {s p q n : Nat} {x : St} {j : Jn} (h : SU w S s p q n x j) : Blk w s 137 (stC p q 0 0 (.slice none 0 0) (.slice none 0 0) 0 0 false) ∧ S s := by
  obtain ⟨J, hj, hb, h1, h2, h3⟩ := h.both
  exact ⟨hb, h3⟩
theorem SU.dv {w : World} {S : Nat → Prop} {s p q n : Nat} {x : St} {j : Jn} (h : SU w S s p q n x j) : ∃ F, Dv w F p n x := by
  obtain ⟨J, hj, _⟩ := h.both
  obtain ⟨F, _, hF, _⟩ := hj.both
  exact ⟨F, hF⟩
/-- A cell of it is set to what it is. -/
theorem SU.same {w : World} {S : Nat → Prop} {s p q n : Nat} {x : St} {j : Jn} (h : SU w S s p q n x j) (i : Nat) (u : Value) (hc : (stC p q 0 0 (.slice none 0 0) (.slice none 0 0) 0 0 false).setIfInBounds i u = stC p q 0 0 (.slice none 0 0) (.slice none 0 0) 0 0 false) : SU (w.setCell ⟨s, i, none⟩ u) S s p q n x j := by
  obtain ⟨J, hj, hb, h1, h2, h3⟩ := h.both
  have ho := (Only.refl (fun k => k = s) w).setCell (p := ⟨s, i, none⟩) (.inl rfl) u
  have hb1 := hb.put i u
  rw [hc] at hb1
  exact ⟨⟨J, hj.keep ho (fun k hk e => h1 (by have e : k = s := e; rw [← e]; exact hk)) (fun e => h.far (by have e : gTab = s := e; rw [e]; exact h3)), hb1, h1, h2, h3⟩, fun k hk => by simpa using h.lt k hk, h.far⟩
theorem ready_su (w : World) {S : Nat → Prop} {s p q n : Nat} {x : St} {j : Jn} (h : SU w S s p q n x j) (hd : x.down = false) :
    Calls Tryz.prog 72 #[.pointer (some ⟨s, 0, none⟩)] w fun e w' => e = .returned (.int .i64 0) ∧ w = w' := by
  obtain ⟨hk, _⟩ := h.cells
  obtain ⟨F, hF⟩ := h.dv
  have k9 : w.cell? ⟨s, 9, none⟩ = some (.bool false) := (hk.cell 9).trans rfl
  have k0 : w.cell? ⟨s, 0, none⟩ = some (.pointer (some ⟨p, 0, none⟩)) := (hk.cell 0).trans rfl
  have HD := Lib.hid (hd ▸ down_any w hF)
  clear h hd hk hF
  go_enter Tryz.func72, Tryz.ntmps72
  go_wp2_with (fail)
  refine HD.out.mono ?_; rintro e w' ⟨rfl, rfl⟩
  go_wp2_with (fail)
  go_ret
  exact ⟨rfl, rfl⟩
theorem note_su (w : World) {S : Nat → Prop} {s p q n : Nat} {x : St} {j : Jn} (h : SU w S s p q n x j) :
    Calls Tryz.prog 73 #[.pointer (some ⟨s, 0, none⟩), .int .i64 0] w fun e w' => e = .returned (.int .i64 0) ∧ SU w' S s p q n x j ∧ Only S w w' := by
  obtain ⟨hk, hs⟩ := h.cells
  have hset := h.same 9 (.bool false) rfl
  have k9 : w.cell? ⟨s, 9, none⟩ = some (.bool false) := (hk.cell 9).trans rfl
  have f9 := hk.free 9
  have H := Lib.hid hset
  have HO := Lib.hid ((Only.refl S w).setCell (p := ⟨s, 9, none⟩) (.inl hs) (.bool false))
  clear h hk hset hs
  go_enter Tryz.func73, Tryz.ntmps73
  go_wp2_with (fail)
  go_ret
  exact ⟨rfl, H.out, HO.out⟩
set_option maxRecDepth 100000 in
set_option maxHeartbeats 1000000 in
theorem sflush_su (w : World) {S : Nat → Prop} {s p q n : Nat} {x : St} {j : Jn} (h : SU w S s p q n x j) (hd : x.down = false) (hu : j.unfit = false) (hx : x.ops ≤ 1000000000000) (hf : x.flsh.2 = true) :
    Calls Tryz.prog 19 #[.pointer (some ⟨s, 0, none⟩)] w fun e w' => e = .returned (.int .i64 0) ∧ ∃ S', SU w' S' s p q n x.flsh.1 j ∧ Only S w w' ∧ Grew S w S' := by
  obtain ⟨hk, hs⟩ := h.cells
  obtain ⟨J, h1, hb, h2, h3, h4⟩ := h.both
  have k1 : w.cell? ⟨s, 1, none⟩ = some (.pointer (some ⟨q, 0, none⟩)) := (hk.cell 1).trans rfl
  have HR := Lib.hid (ready_su w h hd)
  have hsy := sync_fit w h1 hu hx
  rw [hf, fit_same hu] at hsy
  have HSY := Lib.hid hsy
  have HTN : Hid (∀ w', JOut J w p q n x.flsh.1 j w' → ∃ S', SU w' S' s p q n x.flsh.1 j ∧ Only S w w' ∧ Grew S w S') := Lib.hid (fun w' ⟨J', hj', ho, hg⟩ => by
    have hlt := h.lt s hs
    have htw : gTab < w.heap.size := h1.tab.pos
    refine ⟨fun k => J' k ∨ k = s ∨ S k ∧ k < w.heap.size, ⟨⟨J', hj', hb.only ho h2, fun hh => ?_, fun k hk => .inl hk, .inr (.inl rfl)⟩, fun k hk => ?_, fun hk => ?_⟩, ho.mono h3, fun k hk => ?_⟩
    · rcases hg s hh with hh | hh
      · exact h2 hh
      · omega
    · rcases hk with hk | rfl | hk
      · exact hj'.lt k hk
      · exact Nat.lt_of_lt_of_le hlt ho.size
      · exact Nat.lt_of_lt_of_le hk.2 ho.size
    · rcases hk with hk | hk | hk
      · exact hj'.far hk
      · exact h.far (by rw [hk]; exact hs)
      · exact h.far hk.1
    · rcases hk with hk | rfl | hk
      · rcases hg k hk with hh | hh
        · exact .inl (h3 k hh)
        · exact .inr hh
      · exact .inl hs
      · exact .inl hk.1)
  clear h h1 h2 h3 h4 hk hs hd hu hx hf hsy hb
  go_enter Tryz.func19, Tryz.ntmps19
  go_wp2_with (fail)
  refine HR.out.mono ?_; rintro e w' ⟨rfl, rfl⟩
  go_wp2_with (fail)
  refine HSY.out.mono ?_; rintro e w1 ⟨rfl, ho⟩
  obtain ⟨S1, hs1, ho1, hg1⟩ := HTN.out w1 ho
  have HO1 := Lib.hid ho1; have HG1 := Lib.hid hg1
  have HN := Lib.hid (note_su w1 hs1)
  clear ho hs1 ho1 hg1 HSY HTN
  rw [show wrCode true = 0 from rfl]
  go_wp2_with (fail)
  refine HN.out.mono ?_; rintro e w2 ⟨rfl, hs2, ho2⟩
  obtain ⟨hk2, hS2⟩ := hs2.cells
  have k7 : w2.cell? ⟨s, 7, none⟩ = some (.int .u64 0) := (hk2.cell 7).trans rfl
  have k8 : w2.cell? ⟨s, 8, none⟩ = some (.int .u64 0) := (hk2.cell 8).trans rfl
  have f8 := hk2.free 8
  have hl := run_call_load (P := Tryz.prog) Tryz.func132 (by kernel_rfl) (by kernel_rfl) (by kernel_rfl) .u64 (by kernel_rfl) k7
  have HSF := Lib.hid (hs2.same 8 (.int .u64 0) rfl)
  have HOF := Lib.hid (Only.trans HO1.out (ho2.setCell (p := ⟨s, 8, none⟩) (.inl hS2) (.int .u64 0)) (fun k hk => (HG1.out k hk)))
  clear hs2 ho2 hk2 hS2 HN
  go_wp2_with (go_at_call 75; go_in)
  go_ret
  exact ⟨rfl, S1, HSF.out, HOF.out, HG1.out⟩
end Go.Proofs.YtglfjlbhjaemgaaGreatDoor
